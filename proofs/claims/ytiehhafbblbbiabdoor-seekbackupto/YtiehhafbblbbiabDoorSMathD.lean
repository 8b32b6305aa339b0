/-
  Places and numbers that lead to one another, in plain words: clusters by number and offset, line feeds, cells. No program is walked in this text; no conditions.
-/
import Derived.Test.YtiehhafbblbbiabDoorPkW
namespace Go.Proofs.YtiehhafbblbbiabDoor
open Bod Wid

theorem cnC_at : ∀ {l : List Clu} {i j n : Nat} {c : Clu}, tiled i l j → l[n]? = some c → cnL .C c.fr l = n
  | [], _, _, _, _, _, h => by simp at h
  | d :: r, i, j, 0, c, ht, h => by
    cases h
    obtain ⟨h1, h2, h3⟩ := ht
    have hz : cnL .C (d.fr : Int) r = 0 := cnL_zero .C _ fun e he => by have := tiled_mem h3 e he; omega
    have e1 : sb .C (d.fr : Int) d = 0 := if_neg (by simp only [itm]; omega)
    simp only [cnL]
    rw [hz, e1]
    rfl
  | d :: r, i, j, n + 1, c, ht, h => by
    obtain ⟨h1, h2, h3⟩ := ht
    have h : r[n]? = some c := h
    have hm := tiled_mem h3 c (List.mem_of_getElem? h)
    have e1 : sb .C (c.fr : Int) d = 1 := if_pos (by simp only [itm]; omega)
    simp only [cnL]
    rw [cnC_at h3 h, e1]
    omega
theorem tiled_nx : ∀ {l : List Clu} {i j n : Nat} {c : Clu}, tiled i l j → l[n]? = some c → (n + 1 = l.length → c.to = j) ∧ ∀ d, l[n + 1]? = some d → d.fr = c.to
  | [], _, _, _, _, _, h => by simp at h
  | d :: r, i, j, 0, c, ht, h => by
    cases h
    obtain ⟨h1, h2, h3⟩ := ht
    cases r with
    | nil => exact ⟨fun _ => h3, fun e he => by simp at he⟩
    | cons x r => exact ⟨fun e => by simp at e, fun e he => by simp at he; subst he; exact h3.1⟩
  | d :: r, i, j, n + 1, c, ht, h => by
    obtain ⟨h1, h2, h3⟩ := ht
    have := tiled_nx h3 (show r[n]? = some c from h)
    exact ⟨fun e => this.1 (by simp at e; omega), fun e he => this.2 e (by simpa using he)⟩
theorem tot_C (s : ByteArray) : tot .C s = ((cl s).length : Int) := by rw [← ful_tot, ful_C]
theorem fcl_at {s : ByteArray} {n : Nat} {c : Clu} (h : (cl s)[n]? = some c) : fcl s n = ((c.fr : Int), 0) := by
  have hn := (List.getElem?_eq_some_iff.1 h).1
  unfold fcl fnd pos
  rw [tot_C, if_neg (by omega), if_pos (by omega), srch_C _ _ _ _ h]
theorem fcl_end (s : ByteArray) : fcl s ((cl s).length : Int) = ((s.size : Int), 0) := by
  unfold fcl
  rw [tot_C, if_pos rfl]
theorem fcl_no (s : ByteArray) {n : Nat} (h : (cl s).length < n) : fcl s n = (0, 1) := by
  unfold fcl fnd
  rw [tot_C, if_neg (by omega), if_neg (by omega)]
/-- the cluster n begins at p, the next one at q -/
theorem bk (s : ByteArray) (n : Nat) (h : n ≤ (cl s).length) : ∃ p q : Nat, fcl s n = ((p : Int), 0) ∧ p ≤ s.size ∧ cn .C s (hld s p) = n ∧ cbZ s p = true ∧ IsNext s p q ∧ q ≤ s.size ∧ (n + 1 ≤ (cl s).length → fcl s ((n + 1 : Nat) : Int) = ((q : Int), 0)) := by
  have hh : ∀ p : Nat, p ≤ s.size → hld s p = p := fun p hp => by unfold hld; omega
  by_cases e : n = (cl s).length
  · subst e
    refine ⟨s.size, s.size, fcl_end s, Nat.le_refl _, ?_, cb_end s, ⟨cb_end s, .inr ⟨rfl, Int.le_refl _⟩, fun j h1 h2 => by omega⟩, Nat.le_refl _, fun h => by omega⟩
    rw [hh _ (Nat.le_refl _), cn_end, ful_C]
  · have hn : n < (cl s).length := by omega
    obtain ⟨c, hc⟩ : ∃ c, (cl s)[n]? = some c := ⟨_, List.getElem?_eq_getElem hn⟩
    have hm := List.mem_of_getElem? hc
    obtain ⟨s1, s2⟩ := cl_span hm
    obtain ⟨b1, b2⟩ := cl_cb s c hm
    refine ⟨c.fr, c.to, fcl_at hc, by omega, ?_, cl_fr s c hm, ⟨b1, .inl (by omega), b2⟩, s2, fun h2 => ?_⟩
    · rw [hh _ (by omega)]
      exact cnC_at (cl_tile s) hc
    · obtain ⟨t1, t2⟩ := tiled_nx (cl_tile s) hc
      by_cases e2 : n + 1 = (cl s).length
      · rw [e2, fcl_end, t1 e2]
      · obtain ⟨d, hd⟩ : ∃ d, (cl s)[n + 1]? = some d := ⟨_, List.getElem?_eq_getElem (by omega)⟩
        rw [fcl_at hd, t2 d hd]
theorem fcl_zero (s : ByteArray) : fcl s 0 = (0, 0) := by
  by_cases h : 0 < (cl s).length
  · obtain ⟨c, hc⟩ : ∃ c, (cl s)[0]? = some c := ⟨_, List.getElem?_eq_getElem h⟩
    have e := fcl_at hc
    have ht := cl_tile s
    cases hl : cl s with
    | nil => rw [hl] at h; simp at h
    | cons d r =>
      rw [hl] at hc ht
      have hdc : d = c := by simpa using hc
      rw [← hdc, show d.fr = 0 from ht.1] at e
      exact e
  · have h0 : (cl s).length = 0 := by omega
    have ht := cl_tile s
    rw [List.length_eq_zero_iff.1 h0] at ht
    have hs : 0 = s.size := ht
    have := fcl_end s
    rw [h0] at this
    rw [← hs] at this
    exact this
/-- a line's begin is not behind the offset that it was counted at -/
theorem fli_le (s : ByteArray) {i : Nat} (hi : i ≤ s.size) : ∃ p : Nat, fli s (nlt s i) = ((p : Int), 0) ∧ p ≤ i := by
  by_cases h0 : nlt s i = 0
  · refine ⟨0, ?_, Nat.zero_le _⟩
    unfold fli
    rw [h0, if_pos (by rfl)]
    rfl
  · have h1 : nlt s i ≤ nls s := by rw [← nlt_all (Nat.le_refl s.size)]; exact nlt_mono s hi
    have h2 : (0 : Int) ≤ (nlt s i : Int) - 1 ∧ (nlt s i : Int) - 1 < tot .L s := ⟨by omega, by show _ < ((nls s : Nat) : Int); omega⟩
    obtain ⟨p1, _, p3⟩ := pos_ok .L s h2.1 h2.2
    refine ⟨pos .L s ((nlt s i : Int) - 1) + 1, ?_, ?_⟩
    · unfold fli
      rw [if_neg (by omega), if_pos h2]
      rfl
    · generalize pos .L s ((nlt s i : Int) - 1) = p at *
      rw [cn_lf s (by omega)] at p1
      apply Decidable.byContradiction
      intro hn
      have := nlt_mono s (show i ≤ p by omega)
      omega
theorem ceL_le (a : Int) : ∀ {l : List Clu}, (∀ d ∈ l, 0 ≤ d.n ∧ d.n ≤ 2) → ceL a l ≤ ful .N l
  | [], _ => by simp [ceL, ful]
  | c :: l, h => by
    have h1 := h c List.mem_cons_self
    have h2 := ceL_le a (l := l) (fun d hd => h d (List.mem_cons_of_mem _ hd))
    show (if (c.to : Int) ≤ a then c.n else 0) + ceL a l ≤ c.n + ful .N l
    split <;> omega
/-- the cluster that the cells ahead of a lead to -/
theorem ce_srch (d0 : Nat) (a : Int) : ∀ {l : List Clu} {i j : Nat}, tiled i l j → (∀ d ∈ l, 0 ≤ d.n ∧ d.n ≤ 2) → ceL a l < ful .N l → ∃ e ∈ l, srch .N d0 (ceL a l) l = e.fr ∧ ceL e.fr l = ceL a l ∧ a < (e.to : Int)
  | [], _, _, _, _, h => by simp [ceL, ful] at h
  | d :: r, i, j, ht, hn, h => by
    obtain ⟨h1, h2, h3⟩ := ht
    have n1 := hn d List.mem_cons_self
    have hr : ∀ x ∈ r, 0 ≤ x.n ∧ x.n ≤ 2 := fun x hx => hn x (List.mem_cons_of_mem _ hx)
    have nb := (ceL_bd a hr).1
    have hS : ∀ m : Int, srch .N d0 m (d :: r) = if m < d.n then d.fr else srch .N d0 (m - d.n) r := fun m => rfl
    have hC : ∀ b : Int, ceL b (d :: r) = (if (d.to : Int) ≤ b then d.n else 0) + ceL b r := fun b => rfl
    have hF : ful .N (d :: r) = d.n + ful .N r := rfl
    by_cases c : (d.to : Int) ≤ a
    · have e0 : ceL a (d :: r) = d.n + ceL a r := by rw [hC, if_pos c]
      rw [e0, hF] at h
      obtain ⟨e, m1, m2, m3, m4⟩ := ce_srch d0 a h3 hr (by omega)
      have me := tiled_mem h3 e m1
      refine ⟨e, List.mem_cons_of_mem _ m1, ?_, ?_, m4⟩
      · rw [e0, hS, if_neg (by omega), show d.n + ceL a r - d.n = ceL a r by omega, m2]
      · rw [hC, if_pos (by omega), m3, e0]
    · have hz : ceL a r = 0 := ceL_zero a fun x hx => by have := tiled_mem h3 x hx; omega
      have e0 : ceL a (d :: r) = 0 := by rw [hC, if_neg c, hz]; rfl
      rw [e0, hF] at h
      by_cases c2 : 0 < d.n
      · refine ⟨d, List.mem_cons_self, ?_, ?_, by omega⟩
        · rw [e0, hS, if_pos c2]
        · rw [hC, if_neg (by omega), e0, ceL_zero (d.fr : Int) fun x hx => by have := tiled_mem h3 x hx; omega]
          rfl
      · have d0' : d.n = 0 := by omega
        obtain ⟨e, m1, m2, m3, m4⟩ := ce_srch d0 a h3 hr (by rw [hz]; omega)
        refine ⟨e, List.mem_cons_of_mem _ m1, ?_, ?_, m4⟩
        · rw [e0, hS, if_neg c2, d0', Int.sub_zero, ← hz]
          exact m2
        · rw [hC, m3, hz, e0, d0']
          split <;> rfl
/-- the cells ahead of i: the place that they lead to, or all -/
theorem ce_back (s : ByteArray) {i : Nat} (_hi : i ≤ s.size) : (∃ c q : Nat, fnd .N s (ceL i (cl s)) = ((c : Int), 0) ∧ c ≤ s.size ∧ ceL (hld s c) (cl s) = ceL i (cl s) ∧ IsNext s c q ∧ i < q) ∨ (fnd .N s (ceL i (cl s)) = (0, 1) ∧ ceL i (cl s) = sumN (cl s)) := by
  have hn := cl_n s
  have h0 := (ceL_bd (i : Int) hn).1
  have hl := ceL_le (i : Int) hn
  have ht : tot .N s = ful .N (cl s) := (ful_tot .N s).symm
  by_cases c : ceL i (cl s) < ful .N (cl s)
  · obtain ⟨e, m1, m2, m3, m4⟩ := ce_srch s.size (i : Int) (cl_tile s) hn c
    obtain ⟨s1, s2⟩ := cl_span m1
    obtain ⟨b1, b2⟩ := cl_cb s e m1
    refine .inl ⟨e.fr, e.to, ?_, by omega, ?_, ⟨b1, .inl (by omega), b2⟩, by omega⟩
    · unfold fnd pos
      rw [ht, if_pos ⟨h0, c⟩, m2]
    · rw [show hld s (e.fr : Int) = e.fr by unfold hld; omega]
      exact m3
  · refine .inr ⟨?_, ?_⟩
    · unfold fnd
      rw [ht, if_neg (by omega)]
    · rw [← ful_N]
      omega
end Go.Proofs.YtiehhafbblbbiabDoor
