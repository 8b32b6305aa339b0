/-
  Rows of numbers that change places within a range: plain facts. No program is walked in this text; no conditions.
-/
import Derived.Test.YtolafffpgkgadaaRows
namespace Go.Proofs.Ytolafffpgkgadaa

def nth (xs : List Nat) (k : Nat) : Nat := xs.getD k 0
theorem nth_get {xs : List Nat} {k : Nat} (h : k < xs.length) : xs[k]? = some (nth xs k) := by
  unfold nth
  rw [List.getD_eq_getElem?_getD, List.getElem?_eq_getElem h]
  rfl
theorem nth_ext {xs ys : List Nat} (hl : xs.length = ys.length) (h : ∀ k, k < xs.length → nth xs k = nth ys k) : xs = ys := by
  apply List.ext_getElem? 
  intro k
  by_cases hk : k < xs.length
  · rw [nth_get hk, nth_get (by omega), h k hk]
  · rw [List.getElem?_eq_none (by omega), List.getElem?_eq_none (by omega)]
theorem nth_mem {xs : List Nat} {k : Nat} (h : k < xs.length) : nth xs k ∈ xs := List.mem_of_getElem? (nth_get h)
theorem nth_set {xs : List Nat} {i k v : Nat} (h : i < xs.length) : nth (xs.set i v) k = if k = i then v else nth xs k := by
  unfold nth
  rw [List.getD_eq_getElem?_getD, List.getD_eq_getElem?_getD, List.getElem?_set]
  by_cases e : i = k
  · subst e; simp [h]
  · rw [if_neg e, if_neg (fun x => e x.symm)]
/-- two change places -/
def swp (xs : List Nat) (i j : Nat) : List Nat := (xs.set i (nth xs j)).set j (nth xs i)
theorem swp_len (xs : List Nat) (i j : Nat) : (swp xs i j).length = xs.length := by simp [swp]
theorem nth_swp {xs : List Nat} {i j k : Nat} (hi : i < xs.length) (hj : j < xs.length) : nth (swp xs i j) k = if k = j then nth xs i else if k = i then nth xs j else nth xs k := by
  unfold swp
  rw [nth_set (by simpa using hj), nth_set hi]
theorem swp_perm {xs : List Nat} {i j : Nat} (hi : i < xs.length) (hj : j < xs.length) : (swp xs i j).Perm xs := by
  have h := @List.set_set_perm _ xs i j hi hj
  unfold swp nth
  rw [List.getD_eq_getElem?_getD, List.getD_eq_getElem?_getD, List.getElem?_eq_getElem hi, List.getElem?_eq_getElem hj]
  exact h
/-- the same but within a range, where they may have changed places -/
structure Sm (a b : Nat) (xs ys : List Nat) : Prop where
  len : ys.length = xs.length
  perm : ys.Perm xs
  out : ∀ k, k < a ∨ b ≤ k → nth ys k = nth xs k
theorem Sm.refl (a b : Nat) (xs : List Nat) : Sm a b xs xs := ⟨rfl, List.Perm.refl _, fun _ _ => rfl⟩
theorem Sm.trans {a b : Nat} {xs ys zs : List Nat} (h : Sm a b xs ys) (g : Sm a b ys zs) : Sm a b xs zs := ⟨g.len.trans h.len, g.perm.trans h.perm, fun k hk => (g.out k hk).trans (h.out k hk)⟩
theorem Sm.mono {a b a' b' : Nat} {xs ys : List Nat} (h : Sm a' b' xs ys) (ha : a ≤ a') (hb : b' ≤ b) : Sm a b xs ys := ⟨h.len, h.perm, fun k hk => h.out k (by omega)⟩
theorem Sm.swap {a b : Nat} {xs : List Nat} {i j : Nat} (hb : b ≤ xs.length) (h1 : a ≤ i) (h2 : i < b) (h3 : a ≤ j) (h4 : j < b) : Sm a b xs (swp xs i j) :=
  ⟨swp_len _ _ _, swp_perm (by omega) (by omega), fun k hk => by rw [nth_swp (by omega) (by omega), if_neg (by omega), if_neg (by omega)]⟩
theorem split3 (xs : List Nat) {a b : Nat} (h : a ≤ b) : xs = xs.take a ++ (xs.drop a).take (b - a) ++ xs.drop b := by
  rw [List.append_assoc]
  conv => lhs; rw [← List.take_append_drop a xs]
  congr 1
  conv => lhs; rw [← List.take_append_drop (b - a) (xs.drop a)]
  rw [List.drop_drop]
  congr 2
  omega
theorem nth_take {xs : List Nat} {a k : Nat} (h : k < a) : nth (xs.take a) k = nth xs k := by
  unfold nth
  rw [List.getD_eq_getElem?_getD, List.getD_eq_getElem?_getD, List.getElem?_take_of_lt h]
theorem nth_drop (xs : List Nat) (a k : Nat) : nth (xs.drop a) k = nth xs (a + k) := by
  unfold nth
  rw [List.getD_eq_getElem?_getD, List.getD_eq_getElem?_getD, List.getElem?_drop]
/-- what lies within, apart -/
theorem Sm.inner {a b : Nat} {xs ys : List Nat} (h : Sm a b xs ys) (hab : a ≤ b) (_hb : b ≤ xs.length) : ((ys.drop a).take (b - a)).Perm ((xs.drop a).take (b - a)) := by
  have e1 : ys.take a = xs.take a := nth_ext (by rw [List.length_take, List.length_take, h.len]) (fun k hk => by
    have hka : k < a := by rw [List.length_take] at hk; omega
    rw [nth_take hka, nth_take hka, h.out k (.inl hka)])
  have e2 : ys.drop b = xs.drop b := nth_ext (by rw [List.length_drop, List.length_drop, h.len]) (fun k hk => by
    rw [nth_drop, nth_drop, h.out _ (.inr (by omega))])
  have p := h.perm
  rw [split3 xs hab, split3 ys hab, e1, e2] at p
  exact (List.perm_append_left_iff _).1 ((List.perm_append_right_iff _).1 p)
theorem Sm.mem {a b : Nat} {xs ys : List Nat} (h : Sm a b xs ys) (hb : b ≤ xs.length) {k : Nat} (h1 : a ≤ k) (h2 : k < b) : ∃ j, a ≤ j ∧ j < b ∧ nth ys k = nth xs j := by
  have p := h.inner (by omega) hb
  have hm : nth ys k ∈ (ys.drop a).take (b - a) := by
    have := nth_mem (xs := (ys.drop a).take (b - a)) (k := k - a) (by rw [List.length_take, List.length_drop, h.len]; omega)
    rw [nth_take (by omega), nth_drop, show a + (k - a) = k by omega] at this
    exact this
  rw [p.mem_iff] at hm
  obtain ⟨j, hj⟩ := List.mem_iff_getElem?.1 hm
  have hjl := (List.getElem?_eq_some_iff.1 hj).1
  rw [List.length_take, List.length_drop] at hjl
  refine ⟨a + j, by omega, by omega, ?_⟩
  have := nth_get (xs := (xs.drop a).take (b - a)) (k := j) (by rw [List.length_take, List.length_drop]; omega)
  rw [hj] at this
  rw [Option.some.inj this, nth_take (by omega), nth_drop]
/-- sorted within a range -/
def SrtOn (a b : Nat) (xs : List Nat) : Prop := ∀ i j, a ≤ i → i < j → j < b → nth xs i ≤ nth xs j
theorem nodup_ne {xs : List Nat} (h : xs.Nodup) {i j : Nat} (hi : i < xs.length) (hj : j < xs.length) (hne : i ≠ j) : nth xs i ≠ nth xs j := fun e => by
  have e1 := nth_get hi
  have e2 := nth_get hj
  rw [e] at e1
  exact hne ((List.getElem?_inj hi h).1 (e1.trans e2.symm))
theorem Sm.nodup {a b : Nat} {xs ys : List Nat} (h : Sm a b xs ys) (hn : xs.Nodup) : ys.Nodup := (List.Perm.nodup_iff h.perm).2 hn
end Go.Proofs.Ytolafffpgkgadaa
