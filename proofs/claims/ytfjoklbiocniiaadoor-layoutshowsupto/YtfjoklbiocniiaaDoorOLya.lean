/-
  The first line of package layout's (*grid).lay: where the cluster is laid and where the pen goes, in two boxes. Made by wip/gens/gen_olay1.py. Conditions: step answers the two places.
-/
import Derived.Deep.CutRange
import Derived.Test.YtfjoklbiocniiaaDoorOLay
import Derived.Test.YtfjoklbiocniiaaDoorURegInv
namespace Go.Proofs.YtfjoklbiocniiaaDoor
open Go.RowKit Go.Shelf Bod Wid
theorem nameO {c : Code} {P : Program} {Q : Exit → Act → World → Prop} {a : Act} {w : World} (h : ∀ A, A = a → c.wp P Q A w) : c.wp P Q a w := h a rfl
def updO (y : Nat → Value) (i : Nat) (z : Value) : Nat → Value := fun j => if j = i then z else y j
theorem ogd {v : List Bool} {i j : Nat} (h : i ≠ j) : (v.set i true).getD j false = v.getD j false := by
  rw [List.getD_eq_getElem?_getD, List.getD_eq_getElem?_getD, List.getElem?_set, if_neg h]
theorem o_true {v : List Bool} {i : Nat} (h : v.getD i true = false) : v.getD i false = false := by
  rw [List.getD_eq_getElem?_getD] at h ⊢
  cases e : v[i]? with
  | none => rfl
  | some b => rw [e] at h; exact h
theorem o_rep {n i : Nat} (e : (List.replicate n false).getD i false = true) : False := by
  rw [List.getD_eq_getElem?_getD, List.getElem?_replicate] at e
  split at e <;> simp at e
def frO (ts : Array Value) (y : Nat → Value) : Array Value :=
  ((((((((((((((((ts.setIfInBounds 9 (y 0)).setIfInBounds 10 (y 1)).setIfInBounds 11 (y 2)).setIfInBounds 12 (y 3)).setIfInBounds 13 (y 4)).setIfInBounds 14 (y 5)).setIfInBounds 15 (y 6)).setIfInBounds 16 (y 7)).setIfInBounds 17 (y 8)).setIfInBounds 18 (y 9)).setIfInBounds 19 (y 10)).setIfInBounds 8 (y 11)).setIfInBounds 20 (y 12)).setIfInBounds 21 (y 13)).setIfInBounds 6 (y 14)).setIfInBounds 7 (y 15))
/-- what the reading operations yield -/
def valO (gb cb : Nat) (r c n W ar ac nr nc : Int) : Nat → Value
  | 0 => .pointer (some ⟨gb, 0, none⟩)
  | 1 => .pointer (some ⟨gb, 0, none⟩)
  | 2 => .pointer (some ⟨gb, 1, none⟩)
  | 3 => .agg #[.int .i64 r, .int .i64 c]
  | 4 => .pointer (some ⟨cb, 3, none⟩)
  | 5 => .int .i64 n
  | 6 => .pointer (some ⟨gb, 0, none⟩)
  | 7 => .pointer (some ⟨gb, 0, none⟩)
  | 8 => .pointer (some ⟨gb, 0, none⟩)
  | 9 => .int .i64 W
  | 10 => .tuple #[.agg #[.int .i64 ar, .int .i64 ac], .agg #[.int .i64 nr, .int .i64 nc]]
  | 11 => .tuple #[.agg #[.int .i64 ar, .int .i64 ac], .agg #[.int .i64 nr, .int .i64 nc]]
  | 12 => .agg #[.int .i64 ar, .int .i64 ac]
  | 13 => .agg #[.int .i64 nr, .int .i64 nc]
  | _ => undef
/-- the line, as far as its operations have run -/
structure L1 (m : Nat) (T : World → Prop) (val : Nat → Value) (ar ac nr nc : Int) (v : List Bool) (y : Nat → Value) (Y : World) : Prop where
  t : T Y
  p : ∀ i, i < 14 → v.getD i false = true → y i = val i
  a : v.getD 14 false = true → ∃ A, y 14 = .pointer (some ⟨A, 0, none⟩) ∧ m ≤ A ∧ (v.getD 16 false = false → Pb A 0 0 Y) ∧ (v.getD 16 false = true → Pb A ar ac Y)
  b : v.getD 15 false = true → ∃ B, y 15 = .pointer (some ⟨B, 0, none⟩) ∧ m ≤ B ∧ (v.getD 17 false = false → Pb B 0 0 Y) ∧ (v.getD 17 false = true → Pb B nr nc Y)
  n : v.getD 14 false = true → v.getD 15 false = true → y 14 ≠ y 15
  r16 : v.getD 16 false = true → v.getD 14 false = true
  r17 : v.getD 17 false = true → v.getD 15 false = true
section
variable {m : Nat} {T : World → Prop} {val : Nat → Value} {ar ac nr nc : Int} {v : List Bool} {y : Nat → Value} {Y Z : World}
theorem L1.read (h : L1 m T val ar ac nr nc v y Y) (hb : Below Y.heap.size Y Z) (hT : T Z) {i : Nat} {z : Value} (hi : i < 14) (hz : z = val i) : L1 m T val ar ac nr nc (v.set i true) (updO y i z) Z := by
  have u14 : updO y i z 14 = y 14 := by unfold updO; rw [if_neg (by omega)]
  have u15 : updO y i z 15 = y 15 := by unfold updO; rw [if_neg (by omega)]
  refine ⟨hT, fun j hj e => ?_, fun e => ?_, fun e => ?_, fun e e' => ?_, fun e => ?_, fun e => ?_⟩
  · by_cases hji : j = i
    · subst hji; unfold updO; rw [if_pos rfl, hz]
    · rw [ogd (Ne.symm hji)] at e; unfold updO; rw [if_neg hji]; exact h.p j hj e
  · rw [ogd (by omega)] at e; rw [u14, ogd (by omega)]; obtain ⟨A, h1, hm, h2, h3⟩ := h.a e; exact ⟨A, h1, hm, fun e => (h2 e).below hb, fun e => (h3 e).below hb⟩
  · rw [ogd (by omega)] at e; rw [u15, ogd (by omega)]; obtain ⟨A, h1, hm, h2, h3⟩ := h.b e; exact ⟨A, h1, hm, fun e => (h2 e).below hb, fun e => (h3 e).below hb⟩
  · rw [ogd (by omega)] at e e'; rw [u14, u15]; exact h.n e e'
  · rw [ogd (by omega)] at e ⊢; exact h.r16 e
  · rw [ogd (by omega)] at e ⊢; exact h.r17 e
theorem L1.all14 (h : L1 m T val ar ac nr nc v y Y) (hT : T (Y.alloc (.cells #[.int .i64 0, .int .i64 0] 28))) (h16 : v.getD 16 false = false) (hm0 : m ≤ Y.heap.size) : L1 m T val ar ac nr nc (v.set 14 true) (updO y 14 (.pointer (some ⟨Y.heap.size, 0, none⟩))) (Y.alloc (.cells #[.int .i64 0, .int .i64 0] 28)) := by
  have hb : Below Y.heap.size Y (Y.alloc (.cells #[.int .i64 0, .int .i64 0] 28)) := (Below.refl _ Y).alloc (Nat.le_refl _) _
  refine ⟨hT, fun j hj e => ?_, fun e => ⟨_, by unfold updO; rw [if_pos rfl], hm0, fun _ => World.alloc_heap_new _ _, fun e => ?_⟩, fun e => ?_, fun e e' => ?_, fun e => ?_, fun e => ?_⟩
  · rw [ogd (by omega)] at e; unfold updO; rw [if_neg (by omega)]; exact h.p j hj e
  · rw [ogd (by omega), h16] at e; cases e
  · rw [ogd (by omega)] at e; unfold updO; rw [if_neg (by omega), ogd (by omega)]; obtain ⟨A, h1, hm, h2, h3⟩ := h.b e; exact ⟨A, h1, hm, fun e => (h2 e).below hb, fun e => (h3 e).below hb⟩
  · rw [ogd (by omega)] at e'
    obtain ⟨B, h1, -, h2, h3⟩ := h.b e'
    unfold updO
    rw [if_pos rfl, if_neg (by omega), h1]
    intro q
    have q : Y.heap.size = B := by injection q with q; injection q with q; injection q
    have : B < Y.heap.size := by
      cases h17 : v.getD 17 false with
      | false => exact (Array.getElem?_eq_some_iff.1 (h2 h17)).1
      | true => exact (Array.getElem?_eq_some_iff.1 (h3 h17)).1
    omega
  · rw [ogd (by omega), h16] at e; cases e
  · rw [ogd (by omega)] at e ⊢; exact h.r17 e
theorem L1.all15 (h : L1 m T val ar ac nr nc v y Y) (hT : T (Y.alloc (.cells #[.int .i64 0, .int .i64 0] 28))) (h17 : v.getD 17 false = false) (hm0 : m ≤ Y.heap.size) : L1 m T val ar ac nr nc (v.set 15 true) (updO y 15 (.pointer (some ⟨Y.heap.size, 0, none⟩))) (Y.alloc (.cells #[.int .i64 0, .int .i64 0] 28)) := by
  have hb : Below Y.heap.size Y (Y.alloc (.cells #[.int .i64 0, .int .i64 0] 28)) := (Below.refl _ Y).alloc (Nat.le_refl _) _
  refine ⟨hT, fun j hj e => ?_, fun e => ?_, fun e => ⟨_, by unfold updO; rw [if_pos rfl], hm0, fun _ => World.alloc_heap_new _ _, fun e => ?_⟩, fun e e' => ?_, fun e => ?_, fun e => ?_⟩
  · rw [ogd (by omega)] at e; unfold updO; rw [if_neg (by omega)]; exact h.p j hj e
  · rw [ogd (by omega)] at e; unfold updO; rw [if_neg (by omega), ogd (by omega)]; obtain ⟨A, h1, hm, h2, h3⟩ := h.a e; exact ⟨A, h1, hm, fun e => (h2 e).below hb, fun e => (h3 e).below hb⟩
  · rw [ogd (by omega), h17] at e; cases e
  · rw [ogd (by omega)] at e
    obtain ⟨B, h1, -, h2, h3⟩ := h.a e
    unfold updO
    rw [if_pos rfl, if_neg (by omega), h1]
    intro q
    have q : B = Y.heap.size := by injection q with q; injection q with q; injection q
    have : B < Y.heap.size := by
      cases h16 : v.getD 16 false with
      | false => exact (Array.getElem?_eq_some_iff.1 (h2 h16)).1
      | true => exact (Array.getElem?_eq_some_iff.1 (h3 h16)).1
    omega
  · rw [ogd (by omega)] at e ⊢; exact h.r16 e
  · rw [ogd (by omega), h17] at e; cases e
theorem pb_other {A B : Nat} {r c : Int} {u u' : Value} (h : Pb A r c Y) (hne : B ≠ A) : Pb A r c ((Y.setCell ⟨B, 0, none⟩ u).setCell ⟨B, 1, none⟩ u') := (oset_ne (b := B) hne).trans ((oset_ne (b := B) hne).trans h)
theorem L1.st16 (h : L1 m T val ar ac nr nc v y Y) {A : Nat} (hA : y 14 = .pointer (some ⟨A, 0, none⟩)) (h14 : v.getD 14 false = true) (hp : Pb A 0 0 Y) (hmA : m ≤ A) (hT : T ((Y.setCell ⟨A, 0, none⟩ (.int .i64 ar)).setCell ⟨A, 1, none⟩ (.int .i64 ac))) (hl : v.length = 18) : L1 m T val ar ac nr nc (v.set 16 true) y ((Y.setCell ⟨A, 0, none⟩ (.int .i64 ar)).setCell ⟨A, 1, none⟩ (.int .i64 ac)) := by
  refine ⟨hT, fun j hj e => ?_, fun e => ⟨A, hA, hmA, fun e => ?_, fun _ => pb_set hp⟩, fun e => ?_, fun e e' => ?_, fun e => ?_, fun e => ?_⟩
  · rw [ogd (by omega)] at e; exact h.p j hj e
  · rw [List.getD_eq_getElem?_getD, List.getElem?_set, if_pos rfl, if_pos (by omega)] at e; cases e
  · rw [ogd (by omega)] at e
    obtain ⟨B, h1, hm, h2, h3⟩ := h.b e
    have hne : A ≠ B := fun q => h.n h14 e (by rw [hA, h1, q])
    exact ⟨B, h1, hm, fun e => pb_other (h2 (by rwa [ogd (by omega)] at e)) hne, fun e => pb_other (h3 (by rwa [ogd (by omega)] at e)) hne⟩
  · rw [ogd (by omega)] at e e'; exact h.n e e'
  · rw [ogd (by omega)]; exact h14
  · rw [ogd (by omega)] at e ⊢; exact h.r17 e
theorem L1.st17 (h : L1 m T val ar ac nr nc v y Y) {B : Nat} (hB : y 15 = .pointer (some ⟨B, 0, none⟩)) (h15 : v.getD 15 false = true) (hp : Pb B 0 0 Y) (hmB : m ≤ B) (hT : T ((Y.setCell ⟨B, 0, none⟩ (.int .i64 nr)).setCell ⟨B, 1, none⟩ (.int .i64 nc))) (hl : v.length = 18) : L1 m T val ar ac nr nc (v.set 17 true) y ((Y.setCell ⟨B, 0, none⟩ (.int .i64 nr)).setCell ⟨B, 1, none⟩ (.int .i64 nc)) := by
  refine ⟨hT, fun j hj e => ?_, fun e => ?_, fun e => ⟨B, hB, hmB, fun e => ?_, fun _ => pb_set hp⟩, fun e e' => ?_, fun e => ?_, fun e => ?_⟩
  · rw [ogd (by omega)] at e; exact h.p j hj e
  · rw [ogd (by omega)] at e
    obtain ⟨A, h1, hm, h2, h3⟩ := h.a e
    have hne : B ≠ A := fun q => h.n e h15 (by rw [hB, h1, q])
    exact ⟨A, h1, hm, fun e => pb_other (h2 (by rwa [ogd (by omega)] at e)) hne, fun e => pb_other (h3 (by rwa [ogd (by omega)] at e)) hne⟩
  · rw [List.getD_eq_getElem?_getD, List.getElem?_set, if_pos rfl, if_pos (by omega)] at e; cases e
  · rw [ogd (by omega)] at e e'; exact h.n e e'
  · rw [ogd (by omega)] at e ⊢; exact h.r16 e
  · rw [ogd (by omega)]; exact h15
theorem Ly.put2 {w X : World} {lo hi gb cb b : Nat} {W r c : Int} {ov : Value} {vs : List (List Cel × Value)} {cc : Clu} {p q : Value} (h : Ly w X lo hi W r c gb ov vs cb cc Y) (hb : Y.heap[b]? = some (.cells #[p, q] 28 (0, 0))) (hw : X.heap.size ≤ b) (hwb : w.heap.size ≤ b) (u u' : Value) : Ly w X lo hi W r c gb ov vs cb cc ((Y.setCell ⟨b, 0, none⟩ u).setCell ⟨b, 1, none⟩ u') := by
  have g : Y.grownBy ((Y.setCell ⟨b, 0, none⟩ u).setCell ⟨b, 1, none⟩ u') (some b) := o_grown2 (gcell Y b 0 u) (gcell _ b 1 u')
  have other : ∀ k, k ≠ b → k < Y.heap.size → ((Y.setCell ⟨b, 0, none⟩ u).setCell ⟨b, 1, none⟩ u').heap[k]? = Y.heap[k]? := fun k hk hlt => g.block k hlt (fun e => hk (by injection e))
  have hB : Below w.heap.size w ((Y.setCell ⟨b, 0, none⟩ u).setCell ⟨b, 1, none⟩ u') := (h.gd.bel.setCell (p := ⟨b, 0, none⟩) hwb _).setCell (p := ⟨b, 1, none⟩) hwb _
  have ng : ∀ {k : Nat} {vs : Array Value} {t : TypeId} {fz : Nat × Nat}, Y.heap[k]? = some (.cells vs t fz) → t ≠ 28 → ((Y.setCell ⟨b, 0, none⟩ u).setCell ⟨b, 1, none⟩ u').heap[k]? = Y.heap[k]? := fun {k vs t fz} hk ht => other k (fun e => by rw [e, hb] at hk; injection hk with hk; injection hk with _ hk; exact ht hk.symm) (Array.getElem?_eq_some_iff.1 hk).1
  refine ⟨⟨hB, h.gd.gbl, (ng h.gd.box (by decide)).trans h.gd.box, h.gd.gout, o_keep h.gd.orow (fun g e => by obtain ⟨⟨cur, hc⟩, -, -⟩ := o_blk h.gd.orow e; exact ng hc (by decide)), h.gd.oout, fun o ho => ⟨o_keep (h.gd.each o ho).1 (fun g e => by obtain ⟨⟨cur, hc⟩, -, -⟩ := o_blk (h.gd.each o ho).1 e; exact ng hc (by decide)), (h.gd.each o ho).2⟩, h.gd.sep⟩,
    ⟨g.os.trans h.fg.os, g.tape.trans h.fg.tape, g.output.trans h.fg.output, Nat.le_trans h.fg.size g.size, fun k o hk hc => (other k (fun e => by have := (Array.getElem?_eq_some_iff.1 hk).1; omega) (by have := (Array.getElem?_eq_some_iff.1 hk).1; have := h.fg.size; omega)).trans (h.fg.block k o hk hc)⟩, (ng h.cbx (by decide)).trans h.cbx, Nat.le_trans h.hi g.size⟩
end
section
set_option maxRecDepth 100000
set_option maxHeartbeats 2000000
/-- what is read of the line that puts, throughout -/
def T3 (gb og n1 ok a p cb : Nat) (cc : Clu) (Y : World) : Prop := Y.cell? ⟨gb, 3, none⟩ = some (.slice (some ⟨og, 0, none⟩) n1 ok) ∧ Y.cell? ⟨a, 0, none⟩ = some (.int .i64 (p : Int)) ∧ Y.cell? ⟨cb, 0, none⟩ = some (.int .i64 cc.fr) ∧ Y.cell? ⟨cb, 1, none⟩ = some (.int .i64 cc.to) ∧ Y.cell? ⟨cb, 2, none⟩ = some (.int .i64 cc.k) ∧ Y.cell? ⟨cb, 3, none⟩ = some (.int .i64 cc.n)
/-- the row is put, the row of rows isn't told yet -/
def B3 (w w1 : World) (lo hi : Nat) (W r c : Int) (gb og p n1 ok : Nat) (vs0 : List (List Cel × Value)) (l new : List Cel) (v' : Value) (Y : World) : Prop :=
  (∃ a n k, v' = .slice a n k) ∧ Y.frozen? ⟨og, p, none⟩ = false ∧ ∀ Z, Z = Y.setCell ⟨og, p, none⟩ v' → Gd w lo hi W r c gb (.slice (some ⟨og, 0, none⟩) n1 ok) (vs0 ++ [(l ++ new, v')]) Z ∧ Fg lo hi w1 Z
/-- the row of rows is told -/
def C3 (w w1 : World) (lo hi : Nat) (W r c : Int) (gb og n1 ok : Nat) (vs0 : List (List Cel × Value)) (l new : List Cel) (Y : World) : Prop := ∃ v', Gd w lo hi W r c gb (.slice (some ⟨og, 0, none⟩) n1 ok) (vs0 ++ [(l ++ new, v')]) Y ∧ Fg lo hi w1 Y
/-- the line, as far as its operations have run -/
structure L3 (T O A : World → Prop) (Bp : Value → World → Prop) (Cp : World → Prop) (val : Nat → Value) (v : List Bool) (y : Nat → Value) (Y : World) : Prop where
  t : v.getD 25 false = false → T Y
  o : v.getD 25 false = false → O Y
  a : v.getD 23 false = false → A Y
  b : v.getD 23 false = true → v.getD 25 false = false → Bp (y 23) Y
  c : v.getD 25 false = true → Cp Y
  p : ∀ i, i < 25 → i ≠ 23 → v.getD i false = true → y i = val i
  r25 : v.getD 25 false = true → ∀ j, j < 25 → v.getD j false = true
  r23 : v.getD 23 false = true → v.getD 22 false = true
section
variable {T O A Cp : World → Prop} {Bp : Value → World → Prop} {val : Nat → Value} {v : List Bool} {y : Nat → Value} {Y Z : World}
theorem ogt {v : List Bool} {i : Nat} (h : i < v.length) : (v.set i true).getD i false = true := by
  rw [List.getD_eq_getElem?_getD, List.getElem?_set, if_pos rfl, if_pos h]; rfl
theorem ogm {v : List Bool} {i j : Nat} (h : v.getD j false = true) (hl : i < v.length) : (v.set i true).getD j false = true := by
  by_cases e : i = j
  · subst e; exact ogt hl
  · rw [ogd e]; exact h
theorem L3.read (h : L3 T O A Bp Cp val v y Y) (hl : v.length = 26) (h25 : v.getD 25 false = false) {i : Nat} {z : Value} (hi : i < 25) (h3 : i ≠ 23) (hz : z = val i) : L3 T O A Bp Cp val (v.set i true) (updO y i z) Y := by
  have u : updO y i z 23 = y 23 := by unfold updO; rw [if_neg (fun e => h3 e.symm)]
  refine ⟨fun _ => h.t h25, fun _ => h.o h25, fun e => h.a (by rwa [ogd h3] at e), fun e e' => ?_, fun e => ?_, fun j hj hj3 e => ?_, fun e => ?_, fun e => ogm (h.r23 (by rwa [ogd h3] at e)) (by omega)⟩
  · rw [u]; exact h.b (by rwa [ogd h3] at e) h25
  · rw [ogd (by omega), h25] at e; cases e
  · by_cases hji : j = i
    · subst hji; unfold updO; rw [if_pos rfl, hz]
    · rw [ogd (Ne.symm hji)] at e; unfold updO; rw [if_neg hji]; exact h.p j hj hj3 e
  · rw [ogd (by omega), h25] at e; cases e
theorem L3.dr (h : L3 T O A Bp Cp val v y Y) (hl : v.length = 26) (h25 : v.getD 25 false = false) (h23 : v.getD 23 false = false) {z : Value} (hz : z = val 22) (hT : T Z) (hO : O Z) (hA : A Z) : L3 T O A Bp Cp val (v.set 22 true) (updO y 22 z) Z := by
  refine ⟨fun _ => hT, fun _ => hO, fun _ => hA, fun e => ?_, fun e => ?_, fun j hj hj3 e => ?_, fun e => ?_, fun e => ogt (by omega)⟩
  · rw [ogd (by omega), h23] at e; cases e
  · rw [ogd (by omega), h25] at e; cases e
  · by_cases hji : j = 22
    · subst hji; unfold updO; rw [if_pos rfl, hz]
    · rw [ogd (Ne.symm hji)] at e; unfold updO; rw [if_neg hji]; exact h.p j hj hj3 e
  · rw [ogd (by omega), h25] at e; cases e
theorem L3.pu (h : L3 T O A Bp Cp val v y Y) (hl : v.length = 26) (h25 : v.getD 25 false = false) (h22 : v.getD 22 false = true) {z : Value} (hT : T Z) (hO : O Z) (hB : Bp z Z) : L3 T O A Bp Cp val (v.set 23 true) (updO y 23 z) Z := by
  refine ⟨fun _ => hT, fun _ => hO, fun e => ?_, fun _ _ => ?_, fun e => ?_, fun j hj hj3 e => ?_, fun e => ?_, fun e => ogm h22 (by omega)⟩
  · rw [ogt (by omega)] at e; cases e
  · unfold updO; rw [if_pos rfl]; exact hB
  · rw [ogd (by omega), h25] at e; cases e
  · rw [ogd (Ne.symm hj3)] at e; unfold updO; rw [if_neg hj3]; exact h.p j hj hj3 e
  · rw [ogd (by omega), h25] at e; cases e
theorem L3.st (h : L3 T O A Bp Cp val v y Y) (hl : v.length = 26) (hall : ∀ j, j < 25 → v.getD j false = true) (hC : Cp Z) : L3 T O A Bp Cp val (v.set 25 true) y Z := by
  refine ⟨fun e => ?_, fun e => ?_, fun e => ?_, fun _ e => ?_, fun _ => hC, fun j hj hj3 e => h.p j hj hj3 (hall j hj), fun _ j hj => ogm (hall j hj) (by omega), fun _ => ogm (hall 22 (by omega)) (by omega)⟩
  · rw [ogt (by omega)] at e; cases e
  · rw [ogt (by omega)] at e; cases e
  · rw [ogd (by omega), hall 23 (by omega)] at e; cases e
  · rw [ogt (by omega)] at e; cases e
end
def frP (ts : Array Value) (y : Nat → Value) : Array Value :=
  (((((((((((((((((((((((((ts.setIfInBounds 26 (y 0)).setIfInBounds 27 (y 1)).setIfInBounds 28 (y 2)).setIfInBounds 29 (y 3)).setIfInBounds 30 (y 4)).setIfInBounds 31 (y 5)).setIfInBounds 32 (y 6)).setIfInBounds 33 (y 7)).setIfInBounds 34 (y 8)).setIfInBounds 35 (y 9)).setIfInBounds 36 (y 10)).setIfInBounds 37 (y 11)).setIfInBounds 38 (y 12)).setIfInBounds 39 (y 13)).setIfInBounds 40 (y 14)).setIfInBounds 41 (y 15)).setIfInBounds 42 (y 16)).setIfInBounds 43 (y 17)).setIfInBounds 44 (y 18)).setIfInBounds 45 (y 19)).setIfInBounds 46 (y 20)).setIfInBounds 47 (y 21)).setIfInBounds 48 (y 22)).setIfInBounds 49 (y 23)).setIfInBounds 50 (y 24))
/-- what the reading operations yield -/
def valP (gb cb a og p n1 ok : Nat) (va : Option Addr) (m vk : Nat) (cc : Clu) (s dr : ByteArray) : Nat → Value
  | 0 => .pointer (some ⟨gb, 0, none⟩)
  | 1 => .pointer (some ⟨gb, 0, none⟩)
  | 2 => .pointer (some ⟨gb, 3, none⟩)
  | 3 => .slice (some ⟨og, 0, none⟩) n1 ok
  | 4 => .pointer (some ⟨a, 0, none⟩)
  | 5 => .int .i64 (p : Int)
  | 6 => .pointer (some ⟨gb, 0, none⟩)
  | 7 => .pointer (some ⟨gb, 0, none⟩)
  | 8 => .pointer (some ⟨gb, 0, none⟩)
  | 9 => .pointer (some ⟨gb, 3, none⟩)
  | 10 => .slice (some ⟨og, 0, none⟩) n1 ok
  | 11 => .pointer (some ⟨a, 0, none⟩)
  | 12 => .int .i64 (p : Int)
  | 13 => .pointer (some ⟨og, p, none⟩)
  | 14 => .slice va m vk
  | 15 => .agg #[.int .i64 cc.fr, .int .i64 cc.to, .int .i64 cc.k, .int .i64 cc.n]
  | 16 => .string s
  | 17 => .pointer (some ⟨cb, 0, none⟩)
  | 18 => .int .i64 cc.fr
  | 19 => .pointer (some ⟨cb, 1, none⟩)
  | 20 => .int .i64 cc.to
  | 21 => .string (s.extract cc.fr cc.to)
  | 22 => .string dr
  | 24 => .pointer (some ⟨og, p, none⟩)
  | _ => undef
/-- what lay makes of the rows -/
def RowsTo (R : List (List Cel)) (p q : Nat) (new : List Cel) (R' : List (List Cel)) : Prop :=
  ∃ R0 l, ((p < R.length ∧ R = R0 ++ [l]) ∨ (p = R.length ∧ R = R0 ∧ l = [])) ∧ R0.length = p ∧ ((q < p + 1 ∧ R' = R0 ++ [l ++ new]) ∨ (q = p + 1 ∧ R' = R0 ++ [l ++ new] ++ [[]]))
/-- the rows, once reach has given the row p -/
theorem rows_last {vs vs1 : List (List Cel × Value)} {p : Nat} (hp1 : vs.length ≤ p + 1) (h : (p < vs.length ∧ vs1 = vs) ∨ (p = vs.length ∧ vs1 = vs ++ [([], .slice none 0 0)])) (hrl : ∀ o ∈ vs, o.1.length ≤ 2147483648) : ∃ vs0 l v, vs1 = vs0 ++ [(l, v)] ∧ vs0.length = p ∧ l.length ≤ 2147483648 ∧ ((p < (vs.map Prod.fst).length ∧ vs.map Prod.fst = vs0.map Prod.fst ++ [l]) ∨ (p = (vs.map Prod.fst).length ∧ vs.map Prod.fst = vs0.map Prod.fst ∧ l = [])) := by
  rcases h with ⟨h1, rfl⟩ | ⟨h1, rfl⟩
  · have hne : vs1 ≠ [] := by rintro rfl; simp at h1
    obtain ⟨o, hx⟩ : ∃ o, vs1.getLast hne = o := ⟨_, rfl⟩
    obtain ⟨l, v⟩ := o
    have e : vs1 = vs1.dropLast ++ [(l, v)] := by rw [← hx]; exact (List.dropLast_concat_getLast hne).symm
    refine ⟨vs1.dropLast, l, v, e, by simp; omega, hrl (l, v) (by rw [e]; simp), .inl ⟨by simpa using h1, by rw [← List.map_singleton (f := Prod.fst) (a := (l, v)), ← List.map_append, ← e]⟩⟩
  · exact ⟨vs, [], _, rfl, h1.symm, by simp, .inr ⟨by simpa using h1, rfl, rfl⟩⟩
theorem lay_head (hM : Tryd.prog.follows .mixedOrders = true) {w X : World} {lo hi gb p q : Nat} {W r c n ar ac nr nc : Int} {ov : Value} {vs : List (List Cel × Value)} {s : ByteArray} {cc : Clu} {new : List Cel} {dr : ByteArray} (hn : cc.n = n) (h : Gd w lo hi W r c gb ov vs X) (hX : hi ≤ X.heap.size) (har : ar = p) (hnr : nr = q)
    (hp : p ≤ vs.length) (hp1 : vs.length ≤ p + 1) (hq : q ≤ p + 1) (hvl : vs.length ≤ 2147483646) (hrl : ∀ o ∈ vs, o.1.length ≤ 2147483648) (hsp : cc.fr ≤ cc.to ∧ cc.to ≤ s.size) (hsz : s.size ≤ 4398046511104)
    (hs : ∀ Y : World, Calls Tryd.prog 31 #[plv r c, .int .i64 n, .int .i64 W] Y fun e Y' => e = .returned (.tuple #[plv ar ac, plv nr nc]) ∧ Below Y.heap.size Y Y')
    (hdr : ∀ Y : World, Below w.heap.size w Y → Calls Tryd.prog 19 #[.string (s.extract cc.fr cc.to)] Y fun e Y' => e = .returned (.string dr) ∧ Below Y.heap.size Y Y')
    (hput : ∀ (Y : World) (a : Option Addr) (m k : Nat) (l : List Cel), Y.cell? ⟨gb, 0, none⟩ = some (.int .i64 W) → w.heap.size ≤ Y.heap.size → Y.ownsRow w.heap.size 42 2 (.slice a m k) m (ccs l) → l.length = m → m ≤ 2147483648 → Calls Tryd.prog 49 #[.pointer (some ⟨gb, 0, none⟩), .slice a m k, .agg #[.int .i64 cc.fr, .int .i64 cc.to, .int .i64 cc.k, .int .i64 cc.n], .string dr] Y fun e Z => Pw w.heap.size (.slice a m k) l new Y e Z) :
    Calls Tryd.prog 27 #[.pointer (some ⟨gb, 0, none⟩), .string s, cv cc] X fun e Y => (∃ u, e = .returned u) ∧ ∃ ov' vs', Hid (Gd w lo hi W nr nc gb ov' vs' Y ∧ Fg lo hi X Y ∧ hi ≤ Y.heap.size ∧ RowsTo (vs.map Prod.fst) p q new (vs'.map Prod.fst)) := by
  have HS : Hid (∀ Y : World, Calls Tryd.prog 31 #[.agg #[.int .i64 r, .int .i64 c], .int .i64 n, .int .i64 W] Y fun e Y' => e = .returned (.tuple #[.agg #[.int .i64 ar, .int .i64 ac], .agg #[.int .i64 nr, .int .i64 nc]]) ∧ Hid (Below Y.heap.size Y Y')) := hs
  have HM : Hid (Tryd.prog.follows .mixedOrders = true) := hM
  clear hs hM
  have H0 : Hid (Ly w X lo hi W r c gb ov vs X.heap.size cc (X.alloc (.cells (cvs cc) 56)) ∧ X.heap.size ≤ (X.alloc (.cells (cvs cc) 56)).heap.size ∧ w.heap.size ≤ X.heap.size) := by
    have hb : Below X.heap.size X (X.alloc (.cells (cvs cc) 56)) := (Below.refl _ X).alloc (Nat.le_refl _) _
    exact ⟨⟨h.below hb, Fg.of_below hb, World.alloc_heap_new _ _, Nat.le_trans hX hb.size⟩, hb.size, h.bel.size⟩
  have HN : Hid (cc.n = n) := hn
  have HP : Hid (ar = p ∧ nr = q) := ⟨har, hnr⟩
  have HV : Hid (p ≤ vs.length ∧ vs.length ≤ p + 1 ∧ q ≤ p + 1 ∧ vs.length ≤ 2147483646 ∧ ∀ o ∈ vs, o.1.length ≤ 2147483648) := ⟨hp, hp1, hq, hvl, hrl⟩
  have HSP : Hid ((cc.fr ≤ cc.to ∧ cc.to ≤ s.size) ∧ s.size ≤ 4398046511104) := ⟨hsp, hsz⟩
  have HDR : Hid (∀ Y : World, Below w.heap.size w Y → Calls Tryd.prog 19 #[.string (s.extract cc.fr cc.to)] Y fun e Y' => e = .returned (.string dr) ∧ Hid (Below Y.heap.size Y Y')) := hdr
  have HPU := hput
  replace HPU : Hid (∀ (Y : World) (a : Option Addr) (m k : Nat) (l : List Cel), Y.cell? ⟨gb, 0, none⟩ = some (.int .i64 W) → w.heap.size ≤ Y.heap.size → Y.ownsRow w.heap.size 42 2 (.slice a m k) m (ccs l) → l.length = m → m ≤ 2147483648 → Calls Tryd.prog 49 #[.pointer (some ⟨gb, 0, none⟩), .slice a m k, .agg #[.int .i64 cc.fr, .int .i64 cc.to, .int .i64 cc.k, .int .i64 cc.n], .string dr] Y fun e Z => Pw w.heap.size (.slice a m k) l new Y e Z) := hput
  clear hn h hX har hnr hp hp1 hq hvl hrl hsp hsz hdr hput
  go_enter Tryd.func27, Tryd.ntmps27
  go_wp2_with (fail)
  generalize X.alloc (.cells (cvs cc) 56) = Y0 at H0 ⊢
  obtain ⟨cb, hcb⟩ : ∃ cb, X.heap.size = cb := ⟨_, rfl⟩
  rw [hcb] at H0 ⊢
  have HC : Hid (X.heap.size = cb) := hcb
  clear hcb
  go_cut [6, 7] from 8 to 21 (fun v6 v7 wx => ∃ a b, v6 = .pointer (some ⟨a, 0, none⟩) ∧ v7 = .pointer (some ⟨b, 0, none⟩) ∧ Hid (Ly w X lo hi W r c gb ov vs cb cc wx ∧ Pb a ar ac wx ∧ Pb b nr nc wx))
  case first =>
    refine nameO fun A hA => ?_
    refine region_inv HM.out (by kernel_rfl) (fun v a' w' => ∃ y : Nat → Value, a' = ⟨frO A.tmps y, []⟩ ∧ Hid (L1 cb (fun Y => Ly w X lo hi W r c gb ov vs cb cc Y ∧ cb ≤ Y.heap.size ∧ w.heap.size ≤ cb) (valO gb cb r c n W ar ac nr nc) ar ac nr nc v y w')) ?start ?step ?fin
    case start =>
      refine ⟨fun i => A.tmps.getD (([9, 10, 11, 12, 13, 14, 15, 16, 17, 18, 19, 8, 20, 21, 6, 7] : List Nat).getD i 0) undef, ?_, ⟨⟨H0.out.1.drew, H0.out.2.1, H0.out.2.2⟩, fun i _ e => (o_rep e).elim, fun e => (o_rep e).elim, fun e => (o_rep e).elim, fun e => (o_rep e).elim, fun e => (o_rep e).elim, fun e => (o_rep e).elim⟩⟩
      subst hA
      simp [frO]
    case step =>
      intro i o v a' w' ho hv hni hop hI
      obtain ⟨y, rfl, HI⟩ := hI
      have hv : v.length = 18 := hv
      have HT : Hid (∀ Z, Below w'.heap.size w' Z → Ly w X lo hi W r c gb ov vs cb cc Z ∧ cb ≤ Z.heap.size ∧ w.heap.size ≤ cb) := fun Z hZ => ⟨HI.out.t.1.below hZ, Nat.le_trans HI.out.t.2.1 hZ.size, HI.out.t.2.2⟩
      rcases i with _ | _ | _ | _ | _ | _ | _ | _ | _ | _ | _ | _ | _ | _ | _ | _ | _ | _ | i
      · obtain rfl := Option.some.inj ho
        subst hA
        simp only [frO, List.setIfInBounds_toArray, List.set_cons_succ, List.set_cons_zero]
        go_wp2
        exact ⟨updO y 0 (.pointer (some ⟨gb, 0, none⟩)), by simp [updO], HI.out.read (Below.refl _ _) (HT.out _ (Below.refl _ _)) (by decide) rfl⟩
      · obtain rfl := Option.some.inj ho
        have e0 : y 0 = .pointer (some ⟨gb, 0, none⟩) := HI.out.p 0 (by decide) (open_waits hop (by kernel_rfl))
        subst hA
        simp only [frO, List.setIfInBounds_toArray, List.set_cons_succ, List.set_cons_zero]
        simp only [e0]
        go_wp2
        exact ⟨updO y 1 (.pointer (some ⟨gb, 0, none⟩)), by simp [updO, e0], HI.out.read (Below.refl _ _) (HT.out _ (Below.refl _ _)) (by decide) rfl⟩
      · obtain rfl := Option.some.inj ho
        have e1 : y 1 = .pointer (some ⟨gb, 0, none⟩) := HI.out.p 1 (by decide) (open_waits hop (by kernel_rfl))
        subst hA
        simp only [frO, List.setIfInBounds_toArray, List.set_cons_succ, List.set_cons_zero]
        simp only [e1]
        go_wp2
        exact ⟨updO y 2 (.pointer (some ⟨gb, 1, none⟩)), by simp [updO, e1], HI.out.read (Below.refl _ _) (HT.out _ (Below.refl _ _)) (by decide) rfl⟩
      · obtain rfl := Option.some.inj ho
        have e2 : y 2 = .pointer (some ⟨gb, 1, none⟩) := HI.out.p 2 (by decide) (open_waits hop (by kernel_rfl))
        obtain ⟨⟨c0, c1, c2, c3⟩, -⟩ := HI.out.t.1.gd.cells
        subst hA
        simp only [frO, List.setIfInBounds_toArray, List.set_cons_succ, List.set_cons_zero]
        simp only [e2]
        go_wp2
        exact ⟨updO y 3 (.agg #[.int .i64 r, .int .i64 c]), by simp [updO, e2], HI.out.read (Below.refl _ _) (HT.out _ (Below.refl _ _)) (by decide) rfl⟩
      · obtain rfl := Option.some.inj ho
        subst hA
        simp only [frO, List.setIfInBounds_toArray, List.set_cons_succ, List.set_cons_zero]
        go_wp2
        exact ⟨updO y 4 (.pointer (some ⟨cb, 3, none⟩)), by simp [updO], HI.out.read (Below.refl _ _) (HT.out _ (Below.refl _ _)) (by decide) rfl⟩
      · obtain rfl := Option.some.inj ho
        have e4 : y 4 = .pointer (some ⟨cb, 3, none⟩) := HI.out.p 4 (by decide) (open_waits hop (by kernel_rfl))
        obtain ⟨⟨d0, d1, d2, d3⟩, -⟩ := box4 HI.out.t.1.cbx
        rw [HN.out] at d3
        subst hA
        simp only [frO, List.setIfInBounds_toArray, List.set_cons_succ, List.set_cons_zero]
        simp only [e4]
        go_wp2
        exact ⟨updO y 5 (.int .i64 n), by simp [updO, e4], HI.out.read (Below.refl _ _) (HT.out _ (Below.refl _ _)) (by decide) rfl⟩
      · obtain rfl := Option.some.inj ho
        subst hA
        simp only [frO, List.setIfInBounds_toArray, List.set_cons_succ, List.set_cons_zero]
        go_wp2
        exact ⟨updO y 6 (.pointer (some ⟨gb, 0, none⟩)), by simp [updO], HI.out.read (Below.refl _ _) (HT.out _ (Below.refl _ _)) (by decide) rfl⟩
      · obtain rfl := Option.some.inj ho
        have e6 : y 6 = .pointer (some ⟨gb, 0, none⟩) := HI.out.p 6 (by decide) (open_waits hop (by kernel_rfl))
        subst hA
        simp only [frO, List.setIfInBounds_toArray, List.set_cons_succ, List.set_cons_zero]
        simp only [e6]
        go_wp2
        exact ⟨updO y 7 (.pointer (some ⟨gb, 0, none⟩)), by simp [updO, e6], HI.out.read (Below.refl _ _) (HT.out _ (Below.refl _ _)) (by decide) rfl⟩
      · obtain rfl := Option.some.inj ho
        have e7 : y 7 = .pointer (some ⟨gb, 0, none⟩) := HI.out.p 7 (by decide) (open_waits hop (by kernel_rfl))
        subst hA
        simp only [frO, List.setIfInBounds_toArray, List.set_cons_succ, List.set_cons_zero]
        simp only [e7]
        go_wp2
        exact ⟨updO y 8 (.pointer (some ⟨gb, 0, none⟩)), by simp [updO, e7], HI.out.read (Below.refl _ _) (HT.out _ (Below.refl _ _)) (by decide) rfl⟩
      · obtain rfl := Option.some.inj ho
        have e8 : y 8 = .pointer (some ⟨gb, 0, none⟩) := HI.out.p 8 (by decide) (open_waits hop (by kernel_rfl))
        obtain ⟨⟨c0, c1, c2, c3⟩, -⟩ := HI.out.t.1.gd.cells
        subst hA
        simp only [frO, List.setIfInBounds_toArray, List.set_cons_succ, List.set_cons_zero]
        simp only [e8]
        go_wp2
        exact ⟨updO y 9 (.int .i64 W), by simp [updO, e8], HI.out.read (Below.refl _ _) (HT.out _ (Below.refl _ _)) (by decide) rfl⟩
      · obtain rfl := Option.some.inj ho
        have e3 : y 3 = .agg #[.int .i64 r, .int .i64 c] := HI.out.p 3 (by decide) (open_waits hop (by kernel_rfl))
        have e5 : y 5 = .int .i64 n := HI.out.p 5 (by decide) (open_waits hop (by kernel_rfl))
        have e9 : y 9 = .int .i64 W := HI.out.p 9 (by decide) (open_waits hop (by kernel_rfl))
        subst hA
        simp only [frO, List.setIfInBounds_toArray, List.set_cons_succ, List.set_cons_zero]
        simp only [e3, e5, e9]
        go_wp2_with (go_at_call 31; refine (HS.out _).mono ?_; rintro e w3 ⟨rfl, HB3⟩)
        exact ⟨updO y 10 (.tuple #[.agg #[.int .i64 ar, .int .i64 ac], .agg #[.int .i64 nr, .int .i64 nc]]), by simp [updO, e3, e5, e9], HI.out.read HB3.out (HT.out _ HB3.out) (by decide) rfl⟩
      · obtain rfl := Option.some.inj ho
        have e10 : y 10 = .tuple #[.agg #[.int .i64 ar, .int .i64 ac], .agg #[.int .i64 nr, .int .i64 nc]] := HI.out.p 10 (by decide) (open_waits hop (by kernel_rfl))
        subst hA
        simp only [frO, List.setIfInBounds_toArray, List.set_cons_succ, List.set_cons_zero]
        simp only [e10]
        go_wp2
        exact ⟨updO y 11 (.tuple #[.agg #[.int .i64 ar, .int .i64 ac], .agg #[.int .i64 nr, .int .i64 nc]]), by simp [updO, e10], HI.out.read (Below.refl _ _) (HT.out _ (Below.refl _ _)) (by decide) rfl⟩
      · obtain rfl := Option.some.inj ho
        have e11 : y 11 = .tuple #[.agg #[.int .i64 ar, .int .i64 ac], .agg #[.int .i64 nr, .int .i64 nc]] := HI.out.p 11 (by decide) (open_waits hop (by kernel_rfl))
        subst hA
        simp only [frO, List.setIfInBounds_toArray, List.set_cons_succ, List.set_cons_zero]
        simp only [e11]
        go_wp2
        exact ⟨updO y 12 (.agg #[.int .i64 ar, .int .i64 ac]), by simp [updO, e11], HI.out.read (Below.refl _ _) (HT.out _ (Below.refl _ _)) (by decide) rfl⟩
      · obtain rfl := Option.some.inj ho
        have e11 : y 11 = .tuple #[.agg #[.int .i64 ar, .int .i64 ac], .agg #[.int .i64 nr, .int .i64 nc]] := HI.out.p 11 (by decide) (open_waits hop (by kernel_rfl))
        subst hA
        simp only [frO, List.setIfInBounds_toArray, List.set_cons_succ, List.set_cons_zero]
        simp only [e11]
        go_wp2
        exact ⟨updO y 13 (.agg #[.int .i64 nr, .int .i64 nc]), by simp [updO, e11], HI.out.read (Below.refl _ _) (HT.out _ (Below.refl _ _)) (by decide) rfl⟩
      · obtain rfl := Option.some.inj ho
        have h16 : v.getD 16 false = false := by
          cases hq : v.getD 16 false with
          | false => rfl
          | true => exact absurd (HI.out.r16 hq) (by rw [o_true hni]; decide)
        subst hA
        simp only [frO, List.setIfInBounds_toArray, List.set_cons_succ, List.set_cons_zero]
        go_wp2
        exact ⟨updO y 14 (.pointer (some ⟨w'.heap.size, 0, none⟩)), by simp [updO], HI.out.all14 (HT.out _ ((Below.refl _ _).alloc (Nat.le_refl _) _)) h16 HI.out.t.2.1⟩
      · obtain rfl := Option.some.inj ho
        have h17 : v.getD 17 false = false := by
          cases hq : v.getD 17 false with
          | false => rfl
          | true => exact absurd (HI.out.r17 hq) (by rw [o_true hni]; decide)
        subst hA
        simp only [frO, List.setIfInBounds_toArray, List.set_cons_succ, List.set_cons_zero]
        go_wp2
        exact ⟨updO y 15 (.pointer (some ⟨w'.heap.size, 0, none⟩)), by simp [updO], HI.out.all15 (HT.out _ ((Below.refl _ _).alloc (Nat.le_refl _) _)) h17 HI.out.t.2.1⟩
      · obtain rfl := Option.some.inj ho
        have e12 : y 12 = .agg #[.int .i64 ar, .int .i64 ac] := HI.out.p 12 (by decide) (open_waits hop (by kernel_rfl))
        have k14 : v.getD 14 false = true := open_waits hop (by kernel_rfl)
        obtain ⟨B, hB, hmB, hz, -⟩ := HI.out.a k14
        have HMB : Hid (cb ≤ B) := hmB
        clear hmB
        have hz := hz (o_true hni)
        obtain ⟨⟨b0, b1⟩, g0, g1⟩ := hz.cells
        have HZ : Hid (Pb B 0 0 w') := hz
        clear hz
        subst hA
        simp only [frO, List.setIfInBounds_toArray, List.set_cons_succ, List.set_cons_zero]
        simp only [e12, hB]
        go_wp2
        exact ⟨y, by simp [e12, hB], HI.out.st16 hB k14 HZ.out HMB.out ⟨HI.out.t.1.put2 HZ.out (by have := HMB.out; have := HC.out; omega) (by have := HMB.out; have := HI.out.t.2.2; omega) _ _, by simpa using HI.out.t.2.1, HI.out.t.2.2⟩ hv⟩
      · obtain rfl := Option.some.inj ho
        have e13 : y 13 = .agg #[.int .i64 nr, .int .i64 nc] := HI.out.p 13 (by decide) (open_waits hop (by kernel_rfl))
        have k15 : v.getD 15 false = true := open_waits hop (by kernel_rfl)
        obtain ⟨B, hB, hmB, hz, -⟩ := HI.out.b k15
        have HMB : Hid (cb ≤ B) := hmB
        clear hmB
        have hz := hz (o_true hni)
        obtain ⟨⟨b0, b1⟩, g0, g1⟩ := hz.cells
        have HZ : Hid (Pb B 0 0 w') := hz
        clear hz
        subst hA
        simp only [frO, List.setIfInBounds_toArray, List.set_cons_succ, List.set_cons_zero]
        simp only [e13, hB]
        go_wp2
        exact ⟨y, by simp [e13, hB], HI.out.st17 hB k15 HZ.out HMB.out ⟨HI.out.t.1.put2 HZ.out (by have := HMB.out; have := HC.out; omega) (by have := HMB.out; have := HI.out.t.2.2; omega) _ _, by simpa using HI.out.t.2.1, HI.out.t.2.2⟩ hv⟩
      · exact absurd ho (by simp)
    case fin =>
      intro v a' w' hv hall hI
      obtain ⟨y, rfl, HI⟩ := hI
      have hv : v.length = 18 := hv
      obtain ⟨a, ha, -, -, ha2⟩ := HI.out.a (of_all hall (by omega))
      obtain ⟨b, hb, -, -, hb2⟩ := HI.out.b (of_all hall (by omega))
      have HZ : Hid (Ly w X lo hi W r c gb ov vs cb cc w' ∧ Pb a ar ac w' ∧ Pb b nr nc w') := ⟨HI.out.t.1, ha2 (of_all hall (by omega)), hb2 (of_all hall (by omega))⟩
      clear HI hall ha2 hb2
      subst hA
      simp only [frO, List.setIfInBounds_toArray, List.set_cons_succ, List.set_cons_zero]
      simp only [ha, hb]
      go_wp2_with fail
      go_meet
      exact ⟨a, b, rfl, rfl, HZ⟩
  case rest =>
    obtain ⟨a, b, rfl, rfl, HL⟩ := hcut
    clear HS H0
    obtain ⟨har, hnr⟩ := HP.out
    subst har
    subst hnr
    clear HP
    have CR : Hid (Calls Tryd.prog 48 #[.pointer (some ⟨gb, 0, none⟩), .int .i64 (p : Int)] wc fun e Y => (∃ u, e = .returned u) ∧ ∃ ov' vs', Hid (Gd w lo hi W r c gb ov' vs' Y ∧ Fg lo hi wc Y ∧ ((p < vs.length ∧ vs' = vs) ∨ (p = vs.length ∧ vs' = vs ++ [([], .slice none 0 0)])))) := rch_any p HL.out.1.gd HL.out.1.hi HV.out.1 (by have := HV.out; omega)
    obtain ⟨⟨a0, a1⟩, -⟩ := HL.out.2.1.cells
    go_upto_region 3 with (go_at_call 48; refine CR.out.mono ?_; clear CR a0 a1; rintro e w1 ⟨⟨u, rfl⟩, ov1, vs1, HR1⟩)
    obtain ⟨vs0, l, v, e1, hv0, hll, hR⟩ := rows_last HV.out.2.1 HR1.out.2.2 HV.out.2.2.2.2
    subst e1
    have H1 : Hid (Ly w X lo hi W r c gb ov1 (vs0 ++ [(l, v)]) cb cc w1 ∧ Pb a (p : Int) ac w1 ∧ Pb b (q : Int) nc w1) := ⟨HL.out.1.to HR1.out.1 HR1.out.2.1, HL.out.2.1.fg HR1.out.2.1, HL.out.2.2.fg HR1.out.2.1⟩
    have HRR : Hid (vs0.length = p ∧ l.length ≤ 2147483648 ∧ ((p < (vs.map Prod.fst).length ∧ vs.map Prod.fst = vs0.map Prod.fst ++ [l]) ∨ (p = (vs.map Prod.fst).length ∧ vs.map Prod.fst = vs0.map Prod.fst ∧ l = []))) := ⟨hv0, hll, hR⟩
    clear hv0 hll hR HL HR1
    -- the row of rows is a slice of p + 1
    obtain ⟨og, ok, hov, -, -⟩ := H1.out.1.gd.orow.form (by simp)
    have hlen : (vs0 ++ [(l, v)]).length = p + 1 := by rw [List.length_append, HRR.out.1]; rfl
    rw [hlen] at hov
    subst hov
    obtain ⟨va, vk, hv1⟩ := o_slice (H1.out.1.gd.each (l, v) (by simp)).1
    obtain ⟨m, hm⟩ : ∃ m, l.length = m := ⟨_, rfl⟩
    have hv2 : v = .slice va m vk := by rw [← hm]; exact hv1
    clear hv1
    subst hv2
    -- in any world that only grew
    have HS3 : Hid (∀ Z, Below w1.heap.size w1 Z → (Z.cell? ⟨gb, 3, none⟩ = some (.slice (some ⟨og, 0, none⟩) (p + 1) ok) ∧ Z.cell? ⟨a, 0, none⟩ = some (.int .i64 (p : Int)) ∧ Z.cell? ⟨og, p, none⟩ = some (.slice va m vk) ∧ Z.cell? ⟨cb, 0, none⟩ = some (.int .i64 cc.fr) ∧ Z.cell? ⟨cb, 1, none⟩ = some (.int .i64 cc.to) ∧ Z.cell? ⟨cb, 2, none⟩ = some (.int .i64 cc.k) ∧ Z.cell? ⟨cb, 3, none⟩ = some (.int .i64 cc.n))) := fun Z hZ => by
      have hl := H1.out.1.below hZ
      refine ⟨hl.gd.cells.1.2.2.2, (H1.out.2.1.below hZ).cells.1.1, ?_, (box4 hl.cbx).1⟩
      have h0 := hl.gd.orow
      rw [hlen] at h0
      rw [h0.cellAt p (by omega), List.map_append, List.getElem?_append_right (by simp [HRR.out.1])]
      simp [HRR.out.1]
    have HDR1 : Hid (∀ Z, Below w1.heap.size w1 Z → Calls Tryd.prog 19 #[.string (s.extract cc.fr cc.to)] Z fun e Y' => e = .returned (.string dr) ∧ Hid (Below w1.heap.size w1 Y')) := fun Z hZ => (HDR.out Z (H1.out.1.below hZ).gd.bel).mono fun e Y' h => ⟨h.1, hZ.trans (h.2.mono hZ.size)⟩
    have HM3 : Hid (l.length = m) := hm
    obtain ⟨n1, hn1⟩ : ∃ n1, p + 1 = n1 := ⟨_, rfl⟩
    rw [hn1] at HS3
    have HN1 : Hid (p + 1 = n1) := hn1
    have HPU3 : Hid (∀ Z, Below w1.heap.size w1 Z → Calls Tryd.prog 49 #[.pointer (some ⟨gb, 0, none⟩), .slice va m vk, .agg #[.int .i64 cc.fr, .int .i64 cc.to, .int .i64 cc.k, .int .i64 cc.n], .string dr] Z fun e Y => ∃ v', e = .returned v' ∧ Hid (B3 w w1 lo hi W r c gb og p n1 ok vs0 l new v' Y ∧ Y.cell? ⟨og, p, none⟩ = some (.slice va m vk) ∧ T3 gb og n1 ok a p cb cc Y)) := fun Z hZ => by
      have hl := H1.out.1.below hZ
      have hr := (hl.gd.each (l, _) (List.mem_append_right _ (List.mem_singleton.2 rfl)))
      refine (HPU.out Z va m vk l hl.gd.cells.1.1 hl.gd.bel.size (by have := hr.1; rw [HM3.out] at this; exact this) HM3.out (by have := HRR.out.2.1; have := HM3.out; omega)).mono ?_
      rintro e Y ⟨v', rfl, HP⟩
      obtain ⟨h1, h2, h3⟩ := HP.out
      obtain ⟨g1, g2, g3, g4, g5⟩ := hl.gd.setAt (vs0 := vs0) (vs1 := []) (l' := l ++ new) hl.hi h2 (by rw [List.length_append]; exact h1) h3
      rw [HRR.out.1] at g1 g2 g3 g4
      have hf : Fg lo hi Z Y := Fg.of_row h2 (fun b e => by
        obtain ⟨⟨cur, hc⟩, -, -⟩ := o_blk hr.1 e
        exact ⟨⟨_, _, _, hc, .inr (.inr rfl)⟩, hr.2 b e⟩)
      obtain ⟨va', vk', e'⟩ := o_slice h1
      have hY := (box4 (hf.other hl.cbx gty_C)).1
      rw [HN1.out] at g1 g5
      exact ⟨v', rfl, ⟨⟨va', _, vk', e'⟩, g3, fun Z' hZ' => by subst hZ'; exact ⟨g1, (Fg.of_below hZ).trans g2⟩⟩, g4, by simp [World.cell?, g5], ((H1.out.2.1.below hZ).fg hf).cells.1.1, hY⟩
    have hp0 : (p : Int) < (n1 : Int) := by omega
    have HSP' : Hid ((cc.fr : Int) ≤ cc.to ∧ (cc.to : Int) ≤ s.size) := ⟨by have := HSP.out; omega, by have := HSP.out; omega⟩
    have HA0 : Hid (Below w1.heap.size w1 w1.drew) := ⟨rfl, rfl, rfl, Nat.le_refl _, fun _ _ => rfl⟩
    clear HPU HDR hm hn1 HSP
    have HS4 : Hid (∀ Z, Below w1.heap.size w1 Z → T3 gb og n1 ok a p cb cc Z ∧ Z.cell? ⟨og, p, none⟩ = some (.slice va m vk)) := fun Z hZ => by
      obtain ⟨k0, k1, k2, k3, k4, k5, k6⟩ := HS3.out Z hZ
      exact ⟨⟨k0, k1, k3, k4, k5, k6⟩, k2⟩
    have HH1 : Hid (hi ≤ w1.heap.size) := H1.out.1.hi
    clear HS3
    go_cut [] from 26 to 50 (fun wx => Hid (∃ v', Ly w X lo hi W r c gb (.slice (some ⟨og, 0, none⟩) n1 ok) (vs0 ++ [(l ++ new, v')]) cb cc wx ∧ Pb a (p : Int) ac wx ∧ Pb b (q : Int) nc wx))
    case first =>
      refine nameO fun A hA => ?_
      refine region_inv HM.out (by kernel_rfl) (fun v a' w' => ∃ y : Nat → Value, a' = ⟨frP A.tmps y, []⟩ ∧ Hid (L3 (T3 gb og n1 ok a p cb cc) (fun Y => Y.cell? ⟨og, p, none⟩ = some (.slice va m vk)) (Below w1.heap.size w1) (B3 w w1 lo hi W r c gb og p n1 ok vs0 l new) (C3 w w1 lo hi W r c gb og n1 ok vs0 l new) (valP gb cb a og p n1 ok va m vk cc s dr) v y w')) ?start ?step ?fin
      case start =>
        refine ⟨fun i => A.tmps.getD (([26, 27, 28, 29, 30, 31, 32, 33, 34, 35, 36, 37, 38, 39, 40, 41, 42, 43, 44, 45, 46, 47, 48, 49, 50] : List Nat).getD i 0) undef, ?_, ⟨fun _ => (HS4.out _ HA0.out).1, fun _ => (HS4.out _ HA0.out).2, fun _ => HA0.out, fun e => (o_rep e).elim, fun e => (o_rep e).elim, fun i _ _ e => (o_rep e).elim, fun e => (o_rep e).elim, fun e => (o_rep e).elim⟩⟩
        subst hA
        simp [frP]
      case step =>
        intro i o v a' w' ho hv hni hop hI
        obtain ⟨y, rfl, HI⟩ := hI
        have hv : v.length = 26 := hv
        rcases i with _ | _ | _ | _ | _ | _ | _ | _ | _ | _ | _ | _ | _ | _ | _ | _ | _ | _ | _ | _ | _ | _ | _ | _ | _ | _ | i
        · obtain rfl := Option.some.inj ho
          have h25 : v.getD 25 false = false := by
            cases hq : v.getD 25 false with
            | false => rfl
            | true => exact absurd (HI.out.r25 hq 0 (by decide)) (by rw [o_true hni]; decide)
          subst hA
          simp only [frP, List.setIfInBounds_toArray, List.set_cons_succ, List.set_cons_zero]
          go_wp2
          exact ⟨updO y 0 (.pointer (some ⟨gb, 0, none⟩)), by simp [updO], HI.out.read hv h25 (by decide) (by decide) rfl⟩
        · obtain rfl := Option.some.inj ho
          have h25 : v.getD 25 false = false := by
            cases hq : v.getD 25 false with
            | false => rfl
            | true => exact absurd (HI.out.r25 hq 1 (by decide)) (by rw [o_true hni]; decide)
          have e0 : y 0 = .pointer (some ⟨gb, 0, none⟩) := HI.out.p 0 (by decide) (by decide) (open_waits hop (by kernel_rfl))
          subst hA
          simp only [frP, List.setIfInBounds_toArray, List.set_cons_succ, List.set_cons_zero]
          simp only [e0]
          go_wp2
          exact ⟨updO y 1 (.pointer (some ⟨gb, 0, none⟩)), by simp [updO, e0], HI.out.read hv h25 (by decide) (by decide) rfl⟩
        · obtain rfl := Option.some.inj ho
          have h25 : v.getD 25 false = false := by
            cases hq : v.getD 25 false with
            | false => rfl
            | true => exact absurd (HI.out.r25 hq 2 (by decide)) (by rw [o_true hni]; decide)
          have e1 : y 1 = .pointer (some ⟨gb, 0, none⟩) := HI.out.p 1 (by decide) (by decide) (open_waits hop (by kernel_rfl))
          subst hA
          simp only [frP, List.setIfInBounds_toArray, List.set_cons_succ, List.set_cons_zero]
          simp only [e1]
          go_wp2
          exact ⟨updO y 2 (.pointer (some ⟨gb, 3, none⟩)), by simp [updO, e1], HI.out.read hv h25 (by decide) (by decide) rfl⟩
        · obtain rfl := Option.some.inj ho
          have h25 : v.getD 25 false = false := by
            cases hq : v.getD 25 false with
            | false => rfl
            | true => exact absurd (HI.out.r25 hq 3 (by decide)) (by rw [o_true hni]; decide)
          have e2 : y 2 = .pointer (some ⟨gb, 3, none⟩) := HI.out.p 2 (by decide) (by decide) (open_waits hop (by kernel_rfl))
          obtain ⟨t0, t1, t2, t3, t4, t5⟩ := HI.out.t h25
          subst hA
          simp only [frP, List.setIfInBounds_toArray, List.set_cons_succ, List.set_cons_zero]
          simp only [e2]
          go_wp2
          exact ⟨updO y 3 (.slice (some ⟨og, 0, none⟩) n1 ok), by simp [updO, e2], HI.out.read hv h25 (by decide) (by decide) rfl⟩
        · obtain rfl := Option.some.inj ho
          have h25 : v.getD 25 false = false := by
            cases hq : v.getD 25 false with
            | false => rfl
            | true => exact absurd (HI.out.r25 hq 4 (by decide)) (by rw [o_true hni]; decide)
          subst hA
          simp only [frP, List.setIfInBounds_toArray, List.set_cons_succ, List.set_cons_zero]
          go_wp2
          exact ⟨updO y 4 (.pointer (some ⟨a, 0, none⟩)), by simp [updO], HI.out.read hv h25 (by decide) (by decide) rfl⟩
        · obtain rfl := Option.some.inj ho
          have h25 : v.getD 25 false = false := by
            cases hq : v.getD 25 false with
            | false => rfl
            | true => exact absurd (HI.out.r25 hq 5 (by decide)) (by rw [o_true hni]; decide)
          have e4 : y 4 = .pointer (some ⟨a, 0, none⟩) := HI.out.p 4 (by decide) (by decide) (open_waits hop (by kernel_rfl))
          obtain ⟨t0, t1, t2, t3, t4, t5⟩ := HI.out.t h25
          subst hA
          simp only [frP, List.setIfInBounds_toArray, List.set_cons_succ, List.set_cons_zero]
          simp only [e4]
          go_wp2
          exact ⟨updO y 5 (.int .i64 (p : Int)), by simp [updO, e4], HI.out.read hv h25 (by decide) (by decide) rfl⟩
        · obtain rfl := Option.some.inj ho
          have h25 : v.getD 25 false = false := by
            cases hq : v.getD 25 false with
            | false => rfl
            | true => exact absurd (HI.out.r25 hq 6 (by decide)) (by rw [o_true hni]; decide)
          subst hA
          simp only [frP, List.setIfInBounds_toArray, List.set_cons_succ, List.set_cons_zero]
          go_wp2
          exact ⟨updO y 6 (.pointer (some ⟨gb, 0, none⟩)), by simp [updO], HI.out.read hv h25 (by decide) (by decide) rfl⟩
        · obtain rfl := Option.some.inj ho
          have h25 : v.getD 25 false = false := by
            cases hq : v.getD 25 false with
            | false => rfl
            | true => exact absurd (HI.out.r25 hq 7 (by decide)) (by rw [o_true hni]; decide)
          subst hA
          simp only [frP, List.setIfInBounds_toArray, List.set_cons_succ, List.set_cons_zero]
          go_wp2
          exact ⟨updO y 7 (.pointer (some ⟨gb, 0, none⟩)), by simp [updO], HI.out.read hv h25 (by decide) (by decide) rfl⟩
        · obtain rfl := Option.some.inj ho
          have h25 : v.getD 25 false = false := by
            cases hq : v.getD 25 false with
            | false => rfl
            | true => exact absurd (HI.out.r25 hq 8 (by decide)) (by rw [o_true hni]; decide)
          have e7 : y 7 = .pointer (some ⟨gb, 0, none⟩) := HI.out.p 7 (by decide) (by decide) (open_waits hop (by kernel_rfl))
          subst hA
          simp only [frP, List.setIfInBounds_toArray, List.set_cons_succ, List.set_cons_zero]
          simp only [e7]
          go_wp2
          exact ⟨updO y 8 (.pointer (some ⟨gb, 0, none⟩)), by simp [updO, e7], HI.out.read hv h25 (by decide) (by decide) rfl⟩
        · obtain rfl := Option.some.inj ho
          have h25 : v.getD 25 false = false := by
            cases hq : v.getD 25 false with
            | false => rfl
            | true => exact absurd (HI.out.r25 hq 9 (by decide)) (by rw [o_true hni]; decide)
          have e8 : y 8 = .pointer (some ⟨gb, 0, none⟩) := HI.out.p 8 (by decide) (by decide) (open_waits hop (by kernel_rfl))
          subst hA
          simp only [frP, List.setIfInBounds_toArray, List.set_cons_succ, List.set_cons_zero]
          simp only [e8]
          go_wp2
          exact ⟨updO y 9 (.pointer (some ⟨gb, 3, none⟩)), by simp [updO, e8], HI.out.read hv h25 (by decide) (by decide) rfl⟩
        · obtain rfl := Option.some.inj ho
          have h25 : v.getD 25 false = false := by
            cases hq : v.getD 25 false with
            | false => rfl
            | true => exact absurd (HI.out.r25 hq 10 (by decide)) (by rw [o_true hni]; decide)
          have e9 : y 9 = .pointer (some ⟨gb, 3, none⟩) := HI.out.p 9 (by decide) (by decide) (open_waits hop (by kernel_rfl))
          obtain ⟨t0, t1, t2, t3, t4, t5⟩ := HI.out.t h25
          subst hA
          simp only [frP, List.setIfInBounds_toArray, List.set_cons_succ, List.set_cons_zero]
          simp only [e9]
          go_wp2
          exact ⟨updO y 10 (.slice (some ⟨og, 0, none⟩) n1 ok), by simp [updO, e9], HI.out.read hv h25 (by decide) (by decide) rfl⟩
        · obtain rfl := Option.some.inj ho
          have h25 : v.getD 25 false = false := by
            cases hq : v.getD 25 false with
            | false => rfl
            | true => exact absurd (HI.out.r25 hq 11 (by decide)) (by rw [o_true hni]; decide)
          subst hA
          simp only [frP, List.setIfInBounds_toArray, List.set_cons_succ, List.set_cons_zero]
          go_wp2
          exact ⟨updO y 11 (.pointer (some ⟨a, 0, none⟩)), by simp [updO], HI.out.read hv h25 (by decide) (by decide) rfl⟩
        · obtain rfl := Option.some.inj ho
          have h25 : v.getD 25 false = false := by
            cases hq : v.getD 25 false with
            | false => rfl
            | true => exact absurd (HI.out.r25 hq 12 (by decide)) (by rw [o_true hni]; decide)
          have e11 : y 11 = .pointer (some ⟨a, 0, none⟩) := HI.out.p 11 (by decide) (by decide) (open_waits hop (by kernel_rfl))
          obtain ⟨t0, t1, t2, t3, t4, t5⟩ := HI.out.t h25
          subst hA
          simp only [frP, List.setIfInBounds_toArray, List.set_cons_succ, List.set_cons_zero]
          simp only [e11]
          go_wp2
          exact ⟨updO y 12 (.int .i64 (p : Int)), by simp [updO, e11], HI.out.read hv h25 (by decide) (by decide) rfl⟩
        · obtain rfl := Option.some.inj ho
          have h25 : v.getD 25 false = false := by
            cases hq : v.getD 25 false with
            | false => rfl
            | true => exact absurd (HI.out.r25 hq 13 (by decide)) (by rw [o_true hni]; decide)
          have e10 : y 10 = .slice (some ⟨og, 0, none⟩) n1 ok := HI.out.p 10 (by decide) (by decide) (open_waits hop (by kernel_rfl))
          have e12 : y 12 = .int .i64 (p : Int) := HI.out.p 12 (by decide) (by decide) (open_waits hop (by kernel_rfl))
          subst hA
          simp only [frP, List.setIfInBounds_toArray, List.set_cons_succ, List.set_cons_zero]
          simp only [e10, e12]
          go_wp2
          exact ⟨updO y 13 (.pointer (some ⟨og, p, none⟩)), by simp [updO, e10, e12], HI.out.read hv h25 (by decide) (by decide) rfl⟩
        · obtain rfl := Option.some.inj ho
          have h25 : v.getD 25 false = false := by
            cases hq : v.getD 25 false with
            | false => rfl
            | true => exact absurd (HI.out.r25 hq 14 (by decide)) (by rw [o_true hni]; decide)
          have e13 : y 13 = .pointer (some ⟨og, p, none⟩) := HI.out.p 13 (by decide) (by decide) (open_waits hop (by kernel_rfl))
          have t0 := HI.out.o h25
          subst hA
          simp only [frP, List.setIfInBounds_toArray, List.set_cons_succ, List.set_cons_zero]
          simp only [e13]
          go_wp2
          exact ⟨updO y 14 (.slice va m vk), by simp [updO, e13], HI.out.read hv h25 (by decide) (by decide) rfl⟩
        · obtain rfl := Option.some.inj ho
          have h25 : v.getD 25 false = false := by
            cases hq : v.getD 25 false with
            | false => rfl
            | true => exact absurd (HI.out.r25 hq 15 (by decide)) (by rw [o_true hni]; decide)
          obtain ⟨t0, t1, t2, t3, t4, t5⟩ := HI.out.t h25
          subst hA
          simp only [frP, List.setIfInBounds_toArray, List.set_cons_succ, List.set_cons_zero]
          go_wp2
          exact ⟨updO y 15 (.agg #[.int .i64 cc.fr, .int .i64 cc.to, .int .i64 cc.k, .int .i64 cc.n]), by simp [updO], HI.out.read hv h25 (by decide) (by decide) rfl⟩
        · obtain rfl := Option.some.inj ho
          have h25 : v.getD 25 false = false := by
            cases hq : v.getD 25 false with
            | false => rfl
            | true => exact absurd (HI.out.r25 hq 16 (by decide)) (by rw [o_true hni]; decide)
          subst hA
          simp only [frP, List.setIfInBounds_toArray, List.set_cons_succ, List.set_cons_zero]
          go_wp2
          exact ⟨updO y 16 (.string s), by simp [updO], HI.out.read hv h25 (by decide) (by decide) rfl⟩
        · obtain rfl := Option.some.inj ho
          have h25 : v.getD 25 false = false := by
            cases hq : v.getD 25 false with
            | false => rfl
            | true => exact absurd (HI.out.r25 hq 17 (by decide)) (by rw [o_true hni]; decide)
          subst hA
          simp only [frP, List.setIfInBounds_toArray, List.set_cons_succ, List.set_cons_zero]
          go_wp2
          exact ⟨updO y 17 (.pointer (some ⟨cb, 0, none⟩)), by simp [updO], HI.out.read hv h25 (by decide) (by decide) rfl⟩
        · obtain rfl := Option.some.inj ho
          have h25 : v.getD 25 false = false := by
            cases hq : v.getD 25 false with
            | false => rfl
            | true => exact absurd (HI.out.r25 hq 18 (by decide)) (by rw [o_true hni]; decide)
          have e17 : y 17 = .pointer (some ⟨cb, 0, none⟩) := HI.out.p 17 (by decide) (by decide) (open_waits hop (by kernel_rfl))
          obtain ⟨t0, t1, t2, t3, t4, t5⟩ := HI.out.t h25
          subst hA
          simp only [frP, List.setIfInBounds_toArray, List.set_cons_succ, List.set_cons_zero]
          simp only [e17]
          go_wp2
          exact ⟨updO y 18 (.int .i64 cc.fr), by simp [updO, e17], HI.out.read hv h25 (by decide) (by decide) rfl⟩
        · obtain rfl := Option.some.inj ho
          have h25 : v.getD 25 false = false := by
            cases hq : v.getD 25 false with
            | false => rfl
            | true => exact absurd (HI.out.r25 hq 19 (by decide)) (by rw [o_true hni]; decide)
          subst hA
          simp only [frP, List.setIfInBounds_toArray, List.set_cons_succ, List.set_cons_zero]
          go_wp2
          exact ⟨updO y 19 (.pointer (some ⟨cb, 1, none⟩)), by simp [updO], HI.out.read hv h25 (by decide) (by decide) rfl⟩
        · obtain rfl := Option.some.inj ho
          have h25 : v.getD 25 false = false := by
            cases hq : v.getD 25 false with
            | false => rfl
            | true => exact absurd (HI.out.r25 hq 20 (by decide)) (by rw [o_true hni]; decide)
          have e19 : y 19 = .pointer (some ⟨cb, 1, none⟩) := HI.out.p 19 (by decide) (by decide) (open_waits hop (by kernel_rfl))
          obtain ⟨t0, t1, t2, t3, t4, t5⟩ := HI.out.t h25
          subst hA
          simp only [frP, List.setIfInBounds_toArray, List.set_cons_succ, List.set_cons_zero]
          simp only [e19]
          go_wp2
          exact ⟨updO y 20 (.int .i64 cc.to), by simp [updO, e19], HI.out.read hv h25 (by decide) (by decide) rfl⟩
        · obtain rfl := Option.some.inj ho
          have h25 : v.getD 25 false = false := by
            cases hq : v.getD 25 false with
            | false => rfl
            | true => exact absurd (HI.out.r25 hq 21 (by decide)) (by rw [o_true hni]; decide)
          have e16 : y 16 = .string s := HI.out.p 16 (by decide) (by decide) (open_waits hop (by kernel_rfl))
          have e18 : y 18 = .int .i64 cc.fr := HI.out.p 18 (by decide) (by decide) (open_waits hop (by kernel_rfl))
          have e20 : y 20 = .int .i64 cc.to := HI.out.p 20 (by decide) (by decide) (open_waits hop (by kernel_rfl))
          obtain ⟨x1, x2⟩ := HSP'.out
          subst hA
          simp only [frP, List.setIfInBounds_toArray, List.set_cons_succ, List.set_cons_zero]
          simp only [e16, e18, e20]
          go_wp2
          exact ⟨updO y 21 (.string (s.extract cc.fr cc.to)), by simp [updO, e16, e18, e20], HI.out.read hv h25 (by decide) (by decide) rfl⟩
        · obtain rfl := Option.some.inj ho
          have h25 : v.getD 25 false = false := by
            cases hq : v.getD 25 false with
            | false => rfl
            | true => exact absurd (HI.out.r25 hq 22 (by decide)) (by rw [o_true hni]; decide)
          have e21 : y 21 = .string (s.extract cc.fr cc.to) := HI.out.p 21 (by decide) (by decide) (open_waits hop (by kernel_rfl))
          have h23 : v.getD 23 false = false := by
            cases hq : v.getD 23 false with
            | false => rfl
            | true => exact absurd (HI.out.r23 hq) (by rw [o_true hni]; decide)
          have HAA : Hid (Below w1.heap.size w1 w') := HI.out.a h23
          subst hA
          simp only [frP, List.setIfInBounds_toArray, List.set_cons_succ, List.set_cons_zero]
          simp only [e21]
          go_wp2_with (go_at_call 19; refine (HDR1.out _ HAA.out).mono ?_; rintro e w3 ⟨rfl, HB3⟩)
          exact ⟨updO y 22 (.string dr), by simp [updO, e21], HI.out.dr hv h25 h23 rfl (HS4.out _ HB3.out).1 (HS4.out _ HB3.out).2 HB3.out⟩
        · obtain rfl := Option.some.inj ho
          have h25 : v.getD 25 false = false := by
            cases hq : v.getD 25 false with
            | false => rfl
            | true => exact absurd (HI.out.r25 hq 23 (by decide)) (by rw [o_true hni]; decide)
          have e6 : y 6 = .pointer (some ⟨gb, 0, none⟩) := HI.out.p 6 (by decide) (by decide) (open_waits hop (by kernel_rfl))
          have e14 : y 14 = .slice va m vk := HI.out.p 14 (by decide) (by decide) (open_waits hop (by kernel_rfl))
          have e15 : y 15 = .agg #[.int .i64 cc.fr, .int .i64 cc.to, .int .i64 cc.k, .int .i64 cc.n] := HI.out.p 15 (by decide) (by decide) (open_waits hop (by kernel_rfl))
          have e22 : y 22 = .string dr := HI.out.p 22 (by decide) (by decide) (open_waits hop (by kernel_rfl))
          have h23 : v.getD 23 false = false := o_true hni
          have HAA : Hid (Below w1.heap.size w1 w') := HI.out.a h23
          have h22 : v.getD 22 false = true := open_waits hop (by kernel_rfl)
          subst hA
          simp only [frP, List.setIfInBounds_toArray, List.set_cons_succ, List.set_cons_zero]
          simp only [e6, e14, e15, e22]
          go_wp2_with (go_at_call 49; refine (HPU3.out _ HAA.out).mono ?_; rintro e w3 ⟨v', rfl, HB3⟩)
          exact ⟨updO y 23 v', by simp [updO, e6, e14, e15, e22], HI.out.pu hv h25 h22 HB3.out.2.2 HB3.out.2.1 HB3.out.1⟩
        · obtain rfl := Option.some.inj ho
          have h25 : v.getD 25 false = false := by
            cases hq : v.getD 25 false with
            | false => rfl
            | true => exact absurd (HI.out.r25 hq 24 (by decide)) (by rw [o_true hni]; decide)
          have e3 : y 3 = .slice (some ⟨og, 0, none⟩) n1 ok := HI.out.p 3 (by decide) (by decide) (open_waits hop (by kernel_rfl))
          have e5 : y 5 = .int .i64 (p : Int) := HI.out.p 5 (by decide) (by decide) (open_waits hop (by kernel_rfl))
          subst hA
          simp only [frP, List.setIfInBounds_toArray, List.set_cons_succ, List.set_cons_zero]
          simp only [e3, e5]
          go_wp2
          exact ⟨updO y 24 (.pointer (some ⟨og, p, none⟩)), by simp [updO, e3, e5], HI.out.read hv h25 (by decide) (by decide) rfl⟩
        · obtain rfl := Option.some.inj ho
          have e24 : y 24 = .pointer (some ⟨og, p, none⟩) := HI.out.p 24 (by decide) (by decide) (open_waits hop (by kernel_rfl))
          have k23 : v.getD 23 false = true := open_waits hop (by kernel_rfl)
          have HB : Hid (B3 w w1 lo hi W r c gb og p n1 ok vs0 l new (y 23) w') := HI.out.b k23 (o_true hni)
          have ht := HI.out.o (o_true hni)
          obtain ⟨⟨a3, n3, k3, hy⟩, hfz, -⟩ := HB.out
          have HALL : Hid (∀ j, j < 25 → v.getD j false = true) := fun j hj => by
            have : j = 0 ∨ j = 1 ∨ j = 2 ∨ j = 3 ∨ j = 4 ∨ j = 5 ∨ j = 6 ∨ j = 7 ∨ j = 8 ∨ j = 9 ∨ j = 10 ∨ j = 11 ∨ j = 12 ∨ j = 13 ∨ j = 14 ∨ j = 15 ∨ j = 16 ∨ j = 17 ∨ j = 18 ∨ j = 19 ∨ j = 20 ∨ j = 21 ∨ j = 22 ∨ j = 23 ∨ j = 24 := by omega
            rcases this with rfl | rfl | rfl | rfl | rfl | rfl | rfl | rfl | rfl | rfl | rfl | rfl | rfl | rfl | rfl | rfl | rfl | rfl | rfl | rfl | rfl | rfl | rfl | rfl | rfl <;> exact open_waits hop (by kernel_rfl)
          subst hA
          simp only [frP, List.setIfInBounds_toArray, List.set_cons_succ, List.set_cons_zero]
          simp only [e24, hy]
          go_wp2
          exact ⟨y, by simp [e24, hy], HI.out.st hv HALL.out ⟨y 23, HB.out.2.2 _ (by rw [hy])⟩⟩
        · exact absurd ho (by simp)
      case fin =>
        intro v a' w' hv hall hI
        obtain ⟨y, rfl, HI⟩ := hI
        have hv : v.length = 26 := hv
        obtain ⟨v', hg, hf⟩ := HI.out.c (of_all hall (by omega))
        have HZ : Hid (∃ v', Ly w X lo hi W r c gb (.slice (some ⟨og, 0, none⟩) n1 ok) (vs0 ++ [(l ++ new, v')]) cb cc w' ∧ Pb a (p : Int) ac w' ∧ Pb b (q : Int) nc w') := ⟨v', H1.out.1.to hg hf, H1.out.2.1.fg hf, H1.out.2.2.fg hf⟩
        clear HI hall hg hf
        subst hA
        simp only [frP, List.setIfInBounds_toArray, List.set_cons_succ, List.set_cons_zero]
        go_wp2_with fail
        go_meet
        exact HZ
    case rest =>
      obtain ⟨v', HL⟩ := hcut.out
      have HL : Hid (Ly w X lo hi W r c gb (.slice (some ⟨og, 0, none⟩) n1 ok) (vs0 ++ [(l ++ new, v')]) cb cc wc ∧ Pb a (p : Int) ac wc ∧ Pb b (q : Int) nc wc) := HL
      clear hcut
      have CR2 : Hid (Calls Tryd.prog 48 #[.pointer (some ⟨gb, 0, none⟩), .int .i64 (q : Int)] wc fun e Y => (∃ u, e = .returned u) ∧ ∃ ov' vs', Hid (Gd w lo hi W r c gb ov' vs' Y ∧ Fg lo hi wc Y ∧ ((q < (vs0 ++ [(l ++ new, v')]).length ∧ vs' = vs0 ++ [(l ++ new, v')]) ∨ (q = (vs0 ++ [(l ++ new, v')]).length ∧ vs' = vs0 ++ [(l ++ new, v')] ++ [([], .slice none 0 0)])))) := rch_any q HL.out.1.gd HL.out.1.hi (by have := HV.out; have := HRR.out.1; simp; omega) (by have := HV.out; have := HRR.out.1; simp; omega)
      obtain ⟨⟨b0, b1⟩, -⟩ := HL.out.2.2.cells
      go_upto_region 5 with (go_at_call 48; refine CR2.out.mono ?_; clear CR2 b0 b1; rintro e w6 ⟨⟨u, rfl⟩, ov6, vs6, HR6⟩)
      have H6 : Hid (Ly w X lo hi W r c gb ov6 vs6 cb cc w6 ∧ Pb b (q : Int) nc w6) := ⟨HL.out.1.to HR6.out.1 HR6.out.2.1, HL.out.2.2.fg HR6.out.2.1⟩
      obtain ⟨⟨b0, b1⟩, -⟩ := H6.out.2.cells
      obtain ⟨⟨x0, x1, x2, x3⟩, y0, y1, y2, y3⟩ := H6.out.1.gd.cells
      go_wp2
      go_end0
      obtain ⟨g1, f1⟩ := H6.out.1.gd.penR (q : Int)
      obtain ⟨g2, f2⟩ := g1.penC nc
      refine ⟨⟨_, rfl⟩, ov6, vs6, g2, H6.out.1.fg.trans (f1.trans f2), Nat.le_trans H6.out.1.hi (f1.trans f2).size, ?_⟩
      refine ⟨vs0.map Prod.fst, l, HRR.out.2.2, by simpa using HRR.out.1, ?_⟩
      rcases HR6.out.2.2 with ⟨t1, rfl⟩ | ⟨t1, rfl⟩
      · exact .inl ⟨by simp at t1; have := HRR.out.1; omega, by simp⟩
      · exact .inr ⟨by simp at t1; have := HRR.out.1; omega, by simp⟩
end
end Go.Proofs.YtfjoklbiocniiaaDoor
