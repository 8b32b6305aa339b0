/-
  Package layout's counted, below and step; the document's own Counted. Conditions: the numbers are such that no sum wraps.
-/
import Derived.Test.YtoopbccpclgciaaDoorOMath
import Derived.Deep.DeepCutAuto
namespace Go.Proofs.YtoopbccpclgciaaDoor
open Go.RowKit

def couW (x : Int) : Int := min (max x 1) 65535
theorem couW_in (x : Int) : 1 ≤ couW x ∧ couW x ≤ 65535 := by unfold couW; omega
/-- a place -/
def plv (r c : Int) : Value := .agg #[.int .i64 r, .int .i64 c]
/-- where a cluster is laid, and the pen behind it -/
def fitI (W r c m : Int) : Int × Int := if W < c + m then (r + 1, 0) else (r, c)
def fulI (W r c : Int) : Int × Int := if c = W then (r + 1, 0) else (r, c)
def stpI (W r c n : Int) : (Int × Int) × (Int × Int) :=
  if n = 0 then ((r, c), (r + 1, 0)) else (fitI W r c (min n W), fulI W (fitI W r c (min n W)).1 ((fitI W r c (min n W)).2 + min n W))
theorem obox2 {W : World} {b : Nat} {v0 v1 : Value} {t : TypeId} (h : W.heap[b]? = some (.cells #[v0, v1] t (0, 0))) : (W.cell? ⟨b, 0, none⟩ = some v0 ∧ W.cell? ⟨b, 1, none⟩ = some v1) ∧ W.frozen? ⟨b, 0, none⟩ = false ∧ W.frozen? ⟨b, 1, none⟩ = false :=
  ⟨⟨by simp [World.cell?, h], by simp [World.cell?, h]⟩, by simp [World.frozen?, h], by simp [World.frozen?, h]⟩
theorem oset_ne {W : World} {b i c : Nat} {u : Value} (h : b ≠ c) : (W.setCell ⟨b, i, none⟩ u).heap[c]? = W.heap[c]? := by
  unfold World.setCell; simp only; rw [Array.getElem?_modify, if_neg h]
/-- while step works: the pen's box and those of both answers -/
structure Ox (w : World) (p q s : Array Value) (W : World) : Prop where
  bel : Below w.heap.size w W
  h0 : W.heap[w.heap.size]? = some (.cells p 28 (0, 0))
  h1 : W.heap[w.heap.size + 1]? = some (.cells q 28 (0, 0))
  h2 : W.heap[w.heap.size + 1 + 1]? = some (.cells s 28 (0, 0))
section
variable {w W X : World} {p q s : Array Value}
theorem Ox.below (h : Ox w p q s W) (hb : Below W.heap.size W X) : Ox w p q s X :=
  have kp : ∀ {i : Nat} {o : Obj}, W.heap[i]? = some o → X.heap[i]? = some o := fun e => (hb.block _ (Array.getElem?_eq_some_iff.1 e).1).trans e
  ⟨h.bel.trans (hb.mono h.bel.size), kp h.h0, kp h.h1, kp h.h2⟩
theorem Ox.set0 (h : Ox w p q s W) (i : Nat) (u : Value) : Ox w (p.setIfInBounds i u) q s (W.setCell ⟨w.heap.size, i, none⟩ u) :=
  ⟨h.bel.setCell (p := ⟨w.heap.size, i, none⟩) (Nat.le_refl _) u, set1 u h.h0, (oset_ne (by omega)).trans h.h1, (oset_ne (by omega)).trans h.h2⟩
theorem Ox.set1' (h : Ox w p q s W) (i : Nat) (u : Value) : Ox w p (q.setIfInBounds i u) s (W.setCell ⟨w.heap.size + 1, i, none⟩ u) :=
  ⟨h.bel.setCell (p := ⟨w.heap.size + 1, i, none⟩) (Nat.le_succ _) u, (oset_ne (by omega)).trans h.h0, set1 u h.h1, (oset_ne (by omega)).trans h.h2⟩
theorem Ox.set2 (h : Ox w p q s W) (i : Nat) (u : Value) : Ox w p q (s.setIfInBounds i u) (W.setCell ⟨w.heap.size + 1 + 1, i, none⟩ u) :=
  ⟨h.bel.setCell (p := ⟨w.heap.size + 1 + 1, i, none⟩) (by show _ ≤ w.heap.size + 1 + 1; omega) u, (oset_ne (by omega)).trans h.h0, (oset_ne (by omega)).trans h.h1, set1 u h.h2⟩
end
theorem ox0 (w : World) (p q s : Array Value) : Ox w p q s (((w.alloc (.cells p 28)).alloc (.cells q 28)).alloc (.cells s 28)) := by
  have e1 : (w.alloc (.cells p 28)).heap.size = w.heap.size + 1 := by simp
  have e2 : ((w.alloc (.cells p 28)).alloc (.cells q 28)).heap.size = w.heap.size + 1 + 1 := by simp
  have b1 := (Below.refl _ w).alloc (Nat.le_refl _) (.cells p 28)
  have n1 := World.alloc_heap_new (w.alloc (.cells p 28)) (.cells q 28)
  have n2 := World.alloc_heap_new ((w.alloc (.cells p 28)).alloc (.cells q 28)) (.cells s 28)
  rw [e1] at n1
  rw [e2] at n2
  exact ⟨(b1.alloc b1.size _).alloc (by simp; omega) _, (Below.heap_alloc _ _ _ (by simp; omega)).trans ((Below.heap_alloc _ _ _ (by simp)).trans (World.alloc_heap_new _ _)), (Below.heap_alloc _ _ _ (by simp)).trans n1, n2⟩
section
set_option maxRecDepth 100000
set_option maxHeartbeats 2000000
theorem cou_any (x : Int) (w : World) : Calls Tryd.prog 33 #[.int .i64 x] w fun e w' => e = .returned (.int .i64 (couW x)) ∧ w' = w := by
  unfold couW
  go_enter Tryd.func33, Tryd.ntmps33
  go_wp2
  go_ret
  exact ⟨rfl, rfl⟩
theorem blw_any (r c : Int) (h0 : 0 ≤ r) (h1 : r ≤ 1099511627776) (w : World) : Calls Tryd.prog 56 #[plv r c] w fun e w' => e = .returned (plv (r + 1) 0) ∧ Below w.heap.size w w' := by
  have HB : Hid (∀ o o', Below w.heap.size w ((w.alloc o).alloc o')) := fun o o' => ((Below.refl _ w).alloc (Nat.le_refl _) o).alloc (by simp) o'
  unfold plv
  go_enter Tryd.func56, Tryd.ntmps56
  go_wp2
  exact bodyPost_ret (v := .agg #[.int .i64 (r + 1), .int .i64 0]) (by simp [results, Tryd.results56, go_sem]) rfl ⟨rfl, HB.out _ _⟩
end
end Go.Proofs.YtoopbccpclgciaaDoor
