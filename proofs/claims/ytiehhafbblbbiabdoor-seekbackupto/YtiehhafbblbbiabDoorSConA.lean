/-
  Package seek's all, item and first: which of three counts is meant, and what a cluster adds to it. No conditions but that the numbers are of 64 bits.
-/
import Derived.Test.YtiehhafbblbbiabDoorPkK
import Derived.Test.YtiehhafbblbbiabDoorPkF
namespace Go.Proofs.YtiehhafbblbbiabDoor
open Go.RowKit Go.Shelf Bod Wid

/-- a count as a value -/
def ckt : Ck → TypeId
  | .C => 46
  | .L => 59
  | .N => 60
def ckv (k : Ck) : Value := .iface (ckt k) (.agg #[])
def isC : Ck → Bool
  | .C => true
  | _ => false
def isL : Ck → Bool
  | .L => true
  | _ => false
def isN : Ck → Bool
  | .N => true
  | _ => false
theorem as_C (k : Ck) (W : World) : (Instr.typeAssert (ckv k) 74 46 true).run Tryd.prog W = .ok (.tuple #[.agg #[], .bool (isC k)]) W := by cases k <;> kernel_rfl
theorem as_L (k : Ck) (W : World) : (Instr.typeAssert (ckv k) 74 59 true).run Tryd.prog W = .ok (.tuple #[.agg #[], .bool (isL k)]) W := by cases k <;> kernel_rfl
theorem as_N (k : Ck) (W : World) : (Instr.typeAssert (ckv k) 74 60 true).run Tryd.prog W = .ok (.tuple #[.agg #[], .bool (isN k)]) W := by cases k <;> kernel_rfl
/-- the count of a summary -/
def kc : Ck → Sum → Int
  | .C, m => m.cl
  | .L, m => m.nl
  | .N, m => m.ce
theorem kc_smr (k : Ck) (s : ByteArray) : kc k (smr s) = tot k s := by cases k <;> rfl
set_option maxRecDepth 100000 in
set_option maxHeartbeats 1000000 in
theorem sall_any (k : Ck) (m : Sum) (w : World) : Calls Tryd.prog 33 #[ckv k, sv m] w fun e W' => e = .returned (.int .i64 (kc k m)) ∧ Below w.heap.size w W' := by
  have hb := (Below.refl _ w).alloc (Nat.le_refl _) (.cells (scs m) 42)
  have a1 := as_C k
  have a2 := as_L k
  have a3 := as_N k
  cases k
  all_goals
    simp only [isC, isL, isN] at a1 a2 a3
    go_enter Tryd.func33, Tryd.ntmps33
    go_wp2
    go_ret
    exact ⟨rfl, hb⟩
/-- a cluster as a value -/
abbrev cvv (c : Clu) : Value := .agg #[.int .i64 (c.fr : Int), .int .i64 (c.to : Int), .int .i64 c.k, .int .i64 c.n]
set_option maxRecDepth 100000 in
set_option maxHeartbeats 1000000 in
theorem sitem_any (k : Ck) (c : Clu) (hc : c.fr < c.to) (hz : c.to ≤ 9223372036854775807) (w : World) : Calls Tryd.prog 54 #[ckv k, cvv c] w fun e W' => e = .returned (.tuple #[.int .i64 ((itm k c).1 : Int), .int .i64 (itm k c).2]) ∧ Below w.heap.size w W' := by
  have hb := (Below.refl _ w).alloc (Nat.le_refl _) (.cells #[.int .i64 (c.fr : Int), .int .i64 (c.to : Int), .int .i64 c.k, .int .i64 c.n] 63)
  have a1 := as_C k
  have a2 := as_L k
  have a3 := as_N k
  cases k
  · simp only [isC, isL, isN] at a1 a2 a3
    go_enter Tryd.func54, Tryd.ntmps54
    go_wp2
    exact bodyPost_ret (v := .tuple #[.int .i64 (c.fr : Int), .int .i64 1]) (by simp [results, Tryd.results54, go_sem]) rfl ⟨rfl, hb⟩
  · simp only [isC, isL, isN] at a1 a2 a3
    by_cases e : c.k = 1
    · have e1 : (c.k == 1) = true := by simp [e]
      have i1 : itm .L c = (c.to - 1, 1) := if_pos e
      have e2 : (c.to : Int) - 1 = ((c.to - 1 : Nat) : Int) := by omega
      rw [i1]
      go_enter Tryd.func54, Tryd.ntmps54
      go_wp2
      exact bodyPost_ret (v := .tuple #[.int .i64 ((c.to - 1 : Nat) : Int), .int .i64 1]) (by simp [results, Tryd.results54, go_sem]; try omega) rfl ⟨rfl, (Below.refl _ w).alloc (Nat.le_refl _) _⟩
    · have i1 : itm .L c = (c.fr, 0) := if_neg e
      rw [i1]
      go_enter Tryd.func54, Tryd.ntmps54
      go_wp2
      exact bodyPost_ret (v := .tuple #[.int .i64 (c.fr : Int), .int .i64 0]) (by simp [results, Tryd.results54, go_sem]) rfl ⟨rfl, hb⟩
  · simp only [isC, isL, isN] at a1 a2 a3
    go_enter Tryd.func54, Tryd.ntmps54
    go_wp2
    go_region
    go_wp2
    exact bodyPost_ret (v := .tuple #[.int .i64 (c.fr : Int), .int .i64 c.n]) (by simp [results, Tryd.results54, go_sem]) rfl ⟨rfl, hb.drew⟩
set_option maxRecDepth 100000 in
set_option maxHeartbeats 1000000 in
theorem sfirst_any (s : ByteArray) (hs : s.size ≤ 9223372036854775807) (w : World) : Calls Tryd.prog 43 #[.string s] w fun e W' => e = .returned (.string (hd s)) ∧ w = W' := by
  by_cases c : 16 < s.size
  · have e1 : min (s.size : Int) 16 = 16 := by omega
    have e2 : hd s = s.extract 0 16 := if_pos c
    rw [e2]
    go_enter Tryd.func43, Tryd.ntmps43
    go_wp2
    go_ret
    exact ⟨rfl, rfl⟩
  · have e1 : min (s.size : Int) 16 = s.size := by omega
    rw [hd_short (by omega)]
    go_enter Tryd.func43, Tryd.ntmps43
    go_wp2
    go_ret
    exact ⟨rfl, rfl⟩
end Go.Proofs.YtiehhafbblbbiabDoor
