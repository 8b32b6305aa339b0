/-
  A store in memory: its numbers and what keeps its text; package store's orEmpty, Kind, Thresholds, Limit, Counts, body, backend and Backend. Conditions: none.
-/
import Derived.Test.YtplieccalmkloaaGreatDoorPkRR
import Derived.Deep.Cut
import Derived.Deep.QuietTactic
namespace Go.Proofs.YtplieccalmkloaaGreatDoor.Sto
open Go.RowKit Go.Shelf Bod Wid

/-- a store's numbers, as they lie -/
structure Sk where
  kind : Int
  lo : Int
  hi : Int
  limit : Int
  mv : Int
  fo : Int
  ed : Int
def k0 : Sk := ⟨0, 0, 0, 0, 0, 0, 0⟩
/-- a store's cells -/
def scl (x : Value) (k : Sk) : Array Value := #[x, .int .i64 k.kind, .int .i64 k.lo, .int .i64 k.hi, .int .i64 k.limit, .int .i64 k.mv, .int .i64 k.fo, .int .i64 k.ed]
def kdK (k : Sk) : Int := if k.kind = 1 ∨ k.kind = 2 then k.kind else 3
def loK (k : Sk) : Int := min (max k.lo 0) 1073741824
def hiK (k : Sk) : Int := max k.hi (loK k + 1)
/-- what keeps the text: x is the value at the store's first place -/
inductive Tx where
  | gap (v : Value)
  | rope (v : Value)
def Tx.val : Tx → Value
  | .gap v => .iface 77 v
  | .rope v => .iface 148 v
def Tx.bk : Tx → Int
  | .gap _ => 1
  | .rope _ => 2
/-- what lies in a store's first place -/
def Tx.at : Option Tx → Value
  | none => .nilIface
  | some t => t.val
def Tx.or : Option Tx → Tx
  | none => .gap (.pointer none)
  | some t => t
/-- v points to a store (or is nil, which is an empty one) -/
def Spt (W : World) (v : Value) (x : Option Tx) (k : Sk) : Prop :=
  (v = .pointer none ∧ x = none ∧ k = k0) ∨ ∃ b, v = .pointer (some ⟨b, 0, none⟩) ∧ W.heap[b]? = some (.cells (scl (Tx.at x) k) 90 (0, 0))
theorem Spt.below {W W' : World} {v : Value} {x : Option Tx} {k : Sk} (h : Spt W v x k) (hb : Below W.heap.size W W') : Spt W' v x k :=
  h.imp id (fun ⟨b, h1, h2⟩ => ⟨b, h1, (hb.block _ (Array.getElem?_eq_some_iff.1 h2).1).trans h2⟩)
theorem scells {W : World} {b : Nat} {x : Value} {k : Sk} (h : W.heap[b]? = some (.cells (scl x k) 90 (0, 0))) :
    W.cell? ⟨b, 0, none⟩ = some x ∧ W.cell? ⟨b, 1, none⟩ = some (.int .i64 k.kind) ∧ W.cell? ⟨b, 2, none⟩ = some (.int .i64 k.lo) ∧ W.cell? ⟨b, 3, none⟩ = some (.int .i64 k.hi) ∧ W.cell? ⟨b, 4, none⟩ = some (.int .i64 k.limit) ∧ W.cell? ⟨b, 5, none⟩ = some (.int .i64 k.mv) ∧ W.cell? ⟨b, 6, none⟩ = some (.int .i64 k.fo) ∧ W.cell? ⟨b, 7, none⟩ = some (.int .i64 k.ed) ∧ b < W.heap.size := by
  refine ⟨?_, ?_, ?_, ?_, ?_, ?_, ?_, ?_, (Array.getElem?_eq_some_iff.1 h).1⟩ <;> (unfold World.cell?; rw [h]; rfl)
set_option maxRecDepth 100000 in
theorem ore_any {w : World} {v : Value} {x : Option Tx} {k : Sk} (h : Spt w v x k) :
    Calls Tryz.prog 104 #[v] w fun e W' => ∃ b, e = .returned (.pointer (some ⟨b, 0, none⟩)) ∧ W'.heap[b]? = some (.cells (scl (Tx.at x) k) 90 (0, 0)) ∧ Below w.heap.size w W' := by
  rcases h with ⟨rfl, rfl, rfl⟩ | ⟨b, rfl, hb⟩
  · go_enter Tryz.func104, Tryz.ntmps104
    go_wp2
    go_ret
    exact ⟨_, rfl, World.alloc_heap_new w _, (Below.refl _ w).alloc (Nat.le_refl _) _⟩
  · have HB : Hid (w.heap[b]? = some (.cells (scl (Tx.at x) k) 90 (0, 0))) := hb
    clear hb
    go_enter Tryz.func104, Tryz.ntmps104
    go_wp2
    go_ret
    exact ⟨_, rfl, HB.out, Below.refl _ w⟩
/-- .. with the cells told -/
abbrev OrC (w : World) (k : Sk) (e : Ending) (W' : World) : Prop := ∃ b, e = .returned (.pointer (some ⟨b, 0, none⟩)) ∧ (W'.cell? ⟨b, 1, none⟩ = some (.int .i64 k.kind) ∧ W'.cell? ⟨b, 2, none⟩ = some (.int .i64 k.lo) ∧ W'.cell? ⟨b, 3, none⟩ = some (.int .i64 k.hi) ∧ W'.cell? ⟨b, 4, none⟩ = some (.int .i64 k.limit) ∧ W'.cell? ⟨b, 5, none⟩ = some (.int .i64 k.mv) ∧ W'.cell? ⟨b, 6, none⟩ = some (.int .i64 k.fo) ∧ W'.cell? ⟨b, 7, none⟩ = some (.int .i64 k.ed)) ∧ b < W'.heap.size ∧ Below w.heap.size w W'
theorem ore_cells {w : World} {v : Value} {x : Option Tx} {k : Sk} (h : Spt w v x k) : Calls Tryz.prog 104 #[v] w (OrC w k) :=
  (ore_any h).mono fun e W' ⟨b, h1, h2, h3⟩ => ⟨b, h1, by obtain ⟨_, y1, y2, y3, y4, y5, y6, y7, y8⟩ := scells h2; exact ⟨⟨y1, y2, y3, y4, y5, y6, y7⟩, y8, h3⟩⟩
set_option maxRecDepth 100000 in
theorem kind_any {w : World} {v : Value} {x : Option Tx} {k : Sk} (h : Spt w v x k) : Calls Tryz.prog 73 #[v] w fun e W' => e = .returned (.int .i64 (kdK k)) ∧ Below w.heap.size w W' := by
  have CO : Hid (Calls Tryz.prog 104 #[v] w (OrC w k)) := ore_cells h
  clear h
  unfold kdK
  by_cases c1 : k.kind = 1
  · go_enter Tryz.func73, Tryz.ntmps73
    go_wp2_with (go_at_call 104; refine CO.out.mono ?_; clear CO; rintro e w1 ⟨b, rfl, ⟨y1, y2, y3, y4, y5, y6, y7⟩, hlt, hb⟩; have HB : Hid (Below w.heap.size w w1) := hb; clear hb)
    go_ret
    exact ⟨by simp, HB.out⟩
  · by_cases c2 : k.kind = 2
    · go_enter Tryz.func73, Tryz.ntmps73
      go_wp2_with (go_at_call 104; refine CO.out.mono ?_; clear CO; rintro e w1 ⟨b, rfl, ⟨y1, y2, y3, y4, y5, y6, y7⟩, hlt, hb⟩; have HB : Hid (Below w.heap.size w w1) := hb; clear hb)
      go_ret
      exact ⟨by simp, HB.out⟩
    · go_enter Tryz.func73, Tryz.ntmps73
      go_wp2_with (go_at_call 104; refine CO.out.mono ?_; clear CO; rintro e w1 ⟨b, rfl, ⟨y1, y2, y3, y4, y5, y6, y7⟩, hlt, hb⟩; have HB : Hid (Below w.heap.size w w1) := hb; clear hb)
      go_ret
      exact ⟨by rfl, HB.out⟩
theorem box3 {W : World} {b : Nat} {x y z : Value} {t : TypeId} (h : W.heap[b]? = some (.cells #[x, y, z] t (0, 0))) : (W.cell? ⟨b, 0, none⟩ = some x ∧ W.cell? ⟨b, 1, none⟩ = some y ∧ W.cell? ⟨b, 2, none⟩ = some z) ∧ W.frozen? ⟨b, 0, none⟩ = false ∧ W.frozen? ⟨b, 1, none⟩ = false ∧ W.frozen? ⟨b, 2, none⟩ = false := by
  refine ⟨⟨?_, ?_, ?_⟩, ?_, ?_, ?_⟩ <;> first | (unfold World.cell?; rw [h]; rfl) | (unfold World.frozen?; rw [h]; rfl)
set_option maxRecDepth 100000 in
theorem thr_any {w : World} {v : Value} {x : Option Tx} {k : Sk} (h : Spt w v x k) (hk : k.hi ≤ 9223372036854775807 ∧ -9223372036854775808 ≤ k.hi ∧ k.lo ≤ 9223372036854775807 ∧ -9223372036854775808 ≤ k.lo) : Calls Tryz.prog 74 #[v] w fun e W' => e = .returned (.tuple #[.int .i64 (loK k), .int .i64 (hiK k)]) ∧ Below w.heap.size w W' := by
  have CO : Hid (Calls Tryz.prog 104 #[v] w (OrC w k)) := ore_cells h
  clear h
  obtain ⟨L, hL⟩ : ∃ L, loK k = L := ⟨_, rfl⟩
  have hL2 : 0 ≤ L ∧ L ≤ 1073741824 := by rw [← hL]; unfold loK; omega
  go_enter Tryz.func74, Tryz.ntmps74
  go_upto_region 3 with (go_at_call 104; refine CO.out.mono ?_; clear CO; rintro e w1 ⟨b, rfl, ⟨y1, y2, y3, y4, y5, y6, y7⟩, hlt, hb⟩; have HB : Hid (Below w.heap.size w w1) := hb; clear hb)
  rw [show min (max k.lo 0) 1073741824 = L from hL]
  have HH : Hid (loK k = L ∧ hiK k = max k.hi (L + 1)) := ⟨hL, by unfold hiK; rw [hL]⟩
  clear hL
  go_region
  go_wp2
  exact bodyPost_ret (v := .tuple #[.int .i64 L, .int .i64 (max k.hi (L + 1))]) (by simp [results, Tryz.results74, go_sem]) rfl ⟨by rw [HH.out.1, HH.out.2], HB.out.drew⟩
set_option maxRecDepth 100000 in
theorem body_any {w : World} {v : Value} {x : Option Tx} {k : Sk} (h : Spt w v x k) : Calls Tryz.prog 77 #[v] w fun e W' => e = .returned (Tx.or x).val ∧ W' = w := by
  rcases h with ⟨rfl, rfl, rfl⟩ | ⟨b, rfl, hb⟩
  · go_enter Tryz.func77, Tryz.ntmps77
    go_wp2
    go_ret
    exact ⟨rfl, rfl⟩
  · obtain ⟨c0, _, _, _, _, _, _, _, hlt⟩ := scells hb
    clear hb
    rcases x with _ | v | v
    · simp only [Tx.at] at c0
      go_enter Tryz.func77, Tryz.ntmps77
      go_wp2
      go_ret
      exact ⟨rfl, rfl⟩
    · simp only [Tx.at, Tx.val] at c0
      have he : ∀ W, (binOp .eql 41 (.iface 77 v) .nilIface).run Tryz.prog W = .ok (.bool false) W := fun W => by kernel_rfl
      go_enter Tryz.func77, Tryz.ntmps77
      go_wp2
      go_ret
      exact ⟨rfl, rfl⟩
    · simp only [Tx.at, Tx.val] at c0
      have he : ∀ W, (binOp .eql 41 (.iface 148 v) .nilIface).run Tryz.prog W = .ok (.bool false) W := fun W => by kernel_rfl
      go_enter Tryz.func77, Tryz.ntmps77
      go_wp2
      go_ret
      exact ⟨rfl, rfl⟩
theorem as_gap (W : World) (v : Value) : (Instr.typeAssert (.iface 77 v) 41 148 true).run Tryz.prog W = .ok (.tuple #[.pointer none, .bool false]) W := by kernel_rfl
theorem as_rope (W : World) (v : Value) : (Instr.typeAssert (.iface 148 v) 41 148 true).run Tryz.prog W = .ok (.tuple #[v, .bool true]) W := by kernel_rfl
set_option maxRecDepth 100000 in
theorem bk_any (w : World) (t : Tx) : Calls Tryz.prog 105 #[t.val] w fun e W' => e = .returned (.int .i64 t.bk) ∧ W' = w := by
  rcases t with v | v
  · simp only [Tx.val]
    have ha := as_gap w v
    go_enter Tryz.func105, Tryz.ntmps105
    go_wp2
    go_ret
    exact ⟨rfl, rfl⟩
  · simp only [Tx.val]
    have ha := as_rope w v
    go_enter Tryz.func105, Tryz.ntmps105
    go_wp2
    go_ret
    exact ⟨rfl, rfl⟩
set_option maxRecDepth 100000 in
theorem Backend_any {w : World} {v : Value} {x : Option Tx} {k : Sk} (h : Spt w v x k) : Calls Tryz.prog 75 #[v] w fun e W' => e = .returned (.int .i64 (Tx.or x).bk) ∧ W' = w := by
  have C1 : Hid (Calls Tryz.prog 77 #[v] w fun e W' => e = .returned (Tx.or x).val ∧ W' = w) := body_any h
  have C2 : Hid (Calls Tryz.prog 105 #[(Tx.or x).val] w fun e W' => e = .returned (.int .i64 (Tx.or x).bk) ∧ W' = w) := bk_any w (Tx.or x)
  generalize (Tx.or x).val = y at C1 C2
  clear h
  go_enter Tryz.func75, Tryz.ntmps75
  go_wp2_with (first | (go_at_call 77; refine C1.out.mono ?_; clear C1; rintro e w1 ⟨rfl, rfl⟩) | (go_at_call 105; refine C2.out.mono ?_; clear C2; rintro e w2 ⟨rfl, rfl⟩))
  go_ret
  exact ⟨rfl, rfl⟩
end Go.Proofs.YtplieccalmkloaaGreatDoor.Sto
