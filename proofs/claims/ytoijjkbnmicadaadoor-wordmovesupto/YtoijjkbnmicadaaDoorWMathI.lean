/-
  The words met cluster by cluster, counted; the words' ends one behind the other. No program in this text; no conditions.
-/
import Derived.Test.YtoijjkbnmicadaaDoorWMathG
import Derived.Test.YtoijjkbnmicadaaDoorWMathH
namespace Go.Proofs.YtoijjkbnmicadaaDoor
open Bod Wid

/-- at the boundary a, k words are over -/
structure Ti (s : ByteArray) (k a : Nat) (pre post : List Clu) (o : Option (Nat × Nat)) : Prop where
  fr : Fr s a pre post
  ws : (words s).drop k = wrun (wcl s) o post
  st : o = none ∨ ∃ x c r, o = some (x, a) ∧ x < a ∧ post = c :: r ∧ wcl s c = true
theorem ti_zero (s : ByteArray) : ∃ pre post o, Ti s 0 0 pre post o := by
  obtain ⟨pre, post, h⟩ := fr_of (s := s) (a := 0) (cb_zero s)
  have hp : pre = [] := by
    cases pre with
    | nil => rfl
    | cons c r => obtain ⟨_, h2, h3⟩ := h.l; have := tiled_le h3; omega
  subst hp
  exact ⟨[], post, none, h, by rw [List.drop_zero, words_wcl, ← h.eq]; rfl, .inl rfl⟩
theorem Ti.done {s : ByteArray} {k a : Nat} {pre : List Clu} {o : Option (Nat × Nat)} (h : Ti s k a pre [] o) : a = s.size ∧ (words s).length ≤ k := by
  refine ⟨h.fr.done.1, ?_⟩
  rcases h.st with e | ⟨x, c, r, _, _, e, _⟩
  · have := h.ws
    rw [e] at this
    simpa [wrun] using this
  · cases e
theorem lastTo_ge (p : Clu → Bool) : ∀ (l : List Clu) (i j : Nat), tiled i l j → i ≤ lastTo p i l
  | [], i, j, _ => Nat.le_refl _
  | c :: r, i, j, h => by
    obtain ⟨h1, h2, h3⟩ := h
    unfold lastTo
    split
    · have := lastTo_ge p r c.to j h3; omega
    · exact Nat.le_refl _
/-- at a word cluster -/
theorem Ti.word {s : ByteArray} {k a : Nat} {pre r : List Clu} {c : Clu} {o : Option (Nat × Nat)} (h : Ti s k a pre (c :: r) o) (hc : wcl s c = true) :
    ∃ p, (words s)[k]? = some p ∧ p.1 ≤ a ∧ a < p.2 ∧ c.to ≤ p.2 ∧ (c.to = p.2 → wat s c.to = false ∧ ∃ o', Ti s (k + 1) c.to (pre ++ [c]) r o') ∧ (c.to ≠ p.2 → ∃ o', Ti s k c.to (pre ++ [c]) r o') := by
  obtain ⟨n1, n2, n3, n4, n5⟩ := h.fr.next
  have hfr := h.fr.r.1
  obtain ⟨x, hx, hw⟩ : ∃ x, x ≤ a ∧ (words s).drop k = (x, lastTo (wcl s) c.to r) :: wrun (wcl s) none (r.dropWhile (wcl s)) := by
    rcases h.st with e | ⟨x, c', r', e, hx, ep, hc'⟩
    · exact ⟨c.fr, by omega, by rw [h.ws, e]; simp only [wrun, if_pos hc]; exact wrun_some _ _ _⟩
    · exact ⟨x, by omega, by rw [h.ws, e]; simp only [wrun, if_pos hc]; exact wrun_some _ _ _⟩
  have hge := lastTo_ge (wcl s) r c.to s.size n2.r
  have hk : (words s)[k]? = some (x, lastTo (wcl s) c.to r) := by
    have : ((words s).drop k)[0]? = some (x, lastTo (wcl s) c.to r) := by rw [hw]; rfl
    rwa [List.getElem?_drop, Nat.add_zero] at this
  refine ⟨_, hk, hx, by simp only; omega, hge, fun e => ?_, fun e => ?_⟩
  · simp only at e
    have hd : (words s).drop (k + 1) = wrun (wcl s) none (r.dropWhile (wcl s)) := by
      rw [← List.drop_drop, hw]; rfl
    cases r with
    | nil => exact ⟨n2.done.2, none, n2, by rw [hd]; rfl, .inl rfl⟩
    | cons d r =>
      have hnd : wcl s d = false := by
        cases hq : wcl s d with
        | false => rfl
        | true =>
          obtain ⟨_, g2, g3⟩ := n2.r
          have := lastTo_ge (wcl s) r d.to s.size g3
          simp only [lastTo, if_pos hq] at e
          omega
      exact ⟨by rw [n2.next.2.2.2.2]; exact hnd, none, n2, by rw [hd, List.dropWhile_cons_of_neg (by rw [hnd]; decide)], .inl rfl⟩
  · simp only at e
    cases r with
    | nil => exact absurd rfl e
    | cons d r =>
      have hd : wcl s d = true := by
        cases hq : wcl s d with
        | true => rfl
        | false => exact absurd (by simp [lastTo, hq]) e
      exact ⟨some (x, c.to), n2, by rw [hw, wrun_some], .inr ⟨x, d, r, rfl, by omega, rfl, hd⟩⟩
/-- at another cluster -/
theorem Ti.other {s : ByteArray} {k a : Nat} {pre r : List Clu} {c : Clu} {o : Option (Nat × Nat)} (h : Ti s k a pre (c :: r) o) (hc : wcl s c = false) :
    (∀ p, (words s)[k]? = some p → a < p.1) ∧ Ti s k c.to (pre ++ [c]) r none := by
  obtain ⟨n1, n2, n3, n4, n5⟩ := h.fr.next
  have ho : o = none := by
    rcases h.st with e | ⟨x, c', r', e, hx, ep, hc'⟩
    · exact e
    · cases ep; rw [hc] at hc'; cases hc'
  have hw : (words s).drop k = wrun (wcl s) none r := by rw [h.ws, ho]; simp [wrun, hc]
  refine ⟨fun p hp => ?_, n2, hw, .inl rfl⟩
  have hm : p ∈ wrun (wcl s) none r := by
    rw [← hw, List.mem_iff_getElem?]
    exact ⟨0, by rw [List.getElem?_drop, Nat.add_zero]; exact hp⟩
  have := (wsp_mem (wcl s) n2.r p hm).1
  omega

/-- the words' ends one behind the other -/
theorem ahead_next {s : ByteArray} {k a : Nat} {p : Nat × Nat} (hp : (words s)[k]? = some p) (h1 : a < p.2) (h2 : ∀ j q, j < k → (words s)[j]? = some q → q.2 ≤ a) : aheadW (words s) s.size a = p.2 := by
  unfold aheadW
  have : (words s).find? (fun w => decide (a < w.2)) = some p := by
    rw [List.find?_eq_some_iff_getElem]
    obtain ⟨hk, ek⟩ := List.getElem?_eq_some_iff.1 hp
    refine ⟨by simpa using h1, k, hk, ek, fun j hj => ?_⟩
    have := h2 j _ hj (List.getElem?_eq_getElem (by omega))
    simp; omega
  rw [this]
  rfl
theorem ahead_none {s : ByteArray} {a : Nat} (h : ∀ q ∈ words s, q.2 ≤ a) : aheadW (words s) s.size a = s.size := by
  unfold aheadW
  have : (words s).find? (fun w => decide (a < w.2)) = none := by
    rw [List.find?_eq_none]
    intro q hq
    have := h q hq
    simp; omega
  rw [this]
  rfl
theorem filter_take (l : List Nat) (a k : Nat) (h1 : ∀ j x, j < k → l[j]? = some x → x < a) (h2 : ∀ j x, k ≤ j → l[j]? = some x → a ≤ x) : l.filter (fun x => decide (x < a)) = l.take k := by
  have e : l = l.take k ++ l.drop k := (List.take_append_drop k l).symm
  have f1 : (l.take k).filter (fun x => decide (x < a)) = l.take k := by
    rw [List.filter_eq_self]
    intro x hx
    obtain ⟨j, hj, hx⟩ := mem_take hx
    simpa using h1 j x hj hx
  have f2 : (l.drop k).filter (fun x => decide (x < a)) = [] := by
    rw [List.filter_eq_nil_iff]
    intro x hx
    obtain ⟨j, hj, hx⟩ := mem_drop hx
    have := h2 j x hj hx
    simp; omega
  conv => lhs; rw [e]
  rw [List.filter_append, f1, f2, List.append_nil]
theorem behind_prev {s : ByteArray} {k a : Nat} {p : Nat × Nat} (hp : (words s)[k]? = some p) (h1 : p.1 < a) (h2 : ∀ j q, k < j → (words s)[j]? = some q → a ≤ q.1) : behindW (words s) a = p.1 := by
  unfold behindW
  rw [filter_take _ a (k + 1) (fun j x hj hx => ?_) (fun j x hj hx => ?_)]
  · have hk : k < ((words s).map (·.1)).length := by rw [List.length_map]; exact (List.getElem?_eq_some_iff.1 hp).1
    rw [List.getLast?_eq_getElem?, List.length_take, List.getElem?_take_of_lt (by omega), show min (k + 1) ((words s).map (·.1)).length - 1 = k by omega, List.getElem?_map, hp]
    rfl
  · rw [List.getElem?_map] at hx
    obtain ⟨q, hq, rfl⟩ := Option.map_eq_some_iff.1 hx
    by_cases e : j = k
    · subst e; rw [hp] at hq; cases hq; exact h1
    · have := words_lt hq hp (by omega)
      have := words_mem (List.mem_of_getElem? hq)
      omega
  · rw [List.getElem?_map] at hx
    obtain ⟨q, hq, rfl⟩ := Option.map_eq_some_iff.1 hx
    exact h2 j q (by omega) hq
theorem behind_none {s : ByteArray} {a : Nat} (h : ∀ q ∈ words s, a ≤ q.1) : behindW (words s) a = 0 := by
  unfold behindW
  rw [List.filter_eq_nil_iff.2]
  · rfl
  · intro x hx
    obtain ⟨q, hq, rfl⟩ := List.mem_map.1 hx
    have := h q hq
    simp; omega
end Go.Proofs.YtoijjkbnmicadaaDoor
