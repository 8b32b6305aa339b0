/-
  A region that draws its order and whose last operation waits for all others: what stands while the others run, and what stands behind the last. No program is named here; no conditions beyond.
-/
import Derived.Test.YtmaolbibbjngcaaDoorURegInv
namespace Bod
open Go

def updL (y : Nat → Value) (i : Nat) (z : Value) : Nat → Value := fun j => if j = i then z else y j
theorem nameL {c : Code} {P : Program} {Q : Exit → Act → World → Prop} {a : Act} {w : World} (h : ∀ A, A = a → c.wp P Q A w) : c.wp P Q a w := h a rfl
theorem dgl {v : List Bool} {i j : Nat} (h : i ≠ j) : (v.set i true).getD j false = v.getD j false := by
  rw [List.getD_eq_getElem?_getD, List.getD_eq_getElem?_getD, List.getElem?_set, if_neg h]
theorem dgl_self {v : List Bool} {i : Nat} (hi : i < v.length) : (v.set i true).getD i false = true := by simp [List.getD_eq_getElem?_getD, hi]
theorem dgl_no {v : List Bool} {i : Nat} (h : v.getD i true = false) : v.getD i false = false := by
  rw [List.getD_eq_getElem?_getD] at h ⊢
  cases q : v[i]? with
  | none => rfl
  | some z => rw [q] at h; exact h
/-- n: the last operation; F: what stands ahead of it; P: what each other one's slot has; L: what stands behind the last -/
structure Dlt (n : Nat) (F : World → Prop) (P : Nat → Value → World → Prop) (L : (Nat → Value) → World → Prop) (v : List Bool) (y : Nat → Value) (W : World) : Prop where
  a : v.getD n false = false → F W ∧ ∀ i, v.getD i false = true → P i (y i) W
  z : v.getD n false = true → L y W ∧ ∀ j, j < n → v.getD j false = true
section
variable {n : Nat} {F : World → Prop} {P : Nat → Value → World → Prop} {L : (Nat → Value) → World → Prop} {v : List Bool} {y : Nat → Value} {W W' : World}
theorem Dlt.no (h : Dlt n F P L v y W) {i : Nat} (hi : i < n) (hn : v.getD i true = false) : v.getD n false = false := by
  cases e : v.getD n false with
  | false => rfl
  | true =>
    have := (h.z e).2 i hi
    rw [dgl_no hn] at this
    cases this
theorem dlt0 {m : Nat} (hF : F W) : Dlt n F P L (List.replicate m false) y W := by
  have hno : ∀ i, (List.replicate m false).getD i false = false := fun i => by
    rw [List.getD_eq_getElem?_getD, List.getElem?_replicate]
    split <;> rfl
  exact ⟨fun _ => ⟨hF, fun i e => by rw [hno] at e; cases e⟩, fun e => by rw [hno] at e; cases e⟩
theorem Dlt.set (h : Dlt n F P L v y W) {i : Nat} (hi : i < n) (hn : v.getD i true = false) {z : Value} (hF : F W') (hP : ∀ j u, P j u W → P j u W') (hy : P i z W') : Dlt n F P L (v.set i true) (updL y i z) W' := by
  have h0 := h.no hi hn
  have hne : i ≠ n := by omega
  refine ⟨fun _ => ⟨hF, fun j e => ?_⟩, fun e => by rw [dgl hne, h0] at e; cases e⟩
  by_cases k : j = i
  · subst k
    unfold updL
    rw [if_pos rfl]
    exact hy
  · rw [dgl (fun e => k e.symm)] at e
    unfold updL
    rw [if_neg k]
    exact hP _ _ ((h.a h0).2 j e)
theorem Dlt.lst (h : Dlt n F P L v y W) (hv : v.length = n + 1) (hn : v.getD n true = false) (hall : ∀ j, j < n → v.getD j false = true) (hL : F W → (∀ i, i < n → P i (y i) W) → L y W') : Dlt n F P L (v.set n true) y W' := by
  have h0 := dgl_no hn
  have hs : (v.set n true).getD n false = true := dgl_self (by omega)
  obtain ⟨hF, hP⟩ := h.a h0
  refine ⟨fun e => (by rw [hs] at e; cases e), fun _ => ⟨hL hF (fun i hi => hP i (hall i hi)), fun j hj => by rw [dgl (by omega)]; exact hall j hj⟩⟩
theorem Dlt.fin (h : Dlt n F P L v y W) (hv : v.length = n + 1) (hall : v.all id = true) : L y W := by
  refine (h.z ?_).1
  have hn : n < v.length := by omega
  rw [List.getD_eq_getElem?_getD, List.getElem?_eq_getElem hn]
  exact List.all_eq_true.1 hall _ (List.getElem_mem hn)
end
end Bod
