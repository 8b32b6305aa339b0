/-
  What a change is like, in plain words: where it can be done, what is killed, at boundaries; counts. No program in this text; no conditions.
-/
import Derived.Test.YtdggbnkhbmffoaaGreatDoorPkFA
namespace Go.Proofs.YtdggbnkhbmffoaaGreatDoor
open Go.RowKit Go.Shelf Bod Wid Go.Lib

/-- a change that can be done to a text -/
structure GoodC (s : ByteArray) (k : Int) (c : Chg) : Prop where
  fit : c.at' + c.cut ≤ s.size
  psz : c.put.size ≤ c.cut
  cur : c.cur ≤ s.size - c.cut + c.put.size
  copy : k = 21 → c.at' = 0 ∧ c.cut = 0 ∧ c.put = ⟨#[]⟩ ∧ c.kill ≠ ⟨#[]⟩ ∧ c.ahead = false
  kill : k ≠ 21 → c.kill = ⟨#[]⟩ ∨ (c.kill = s.extract c.at' (c.at' + c.cut) ∧ c.put = ⟨#[]⟩)
  kills : k ≠ 21 → ((16 ≤ k ∧ k ≤ 20) ↔ c.kill ≠ ⟨#[]⟩)
  cbs : k ≠ 21 → cbZ s c.at' = true ∧ cbZ s (c.at' + c.cut : Nat) = true
theorem ext_ne {s : ByteArray} {a b : Nat} (h : a < b) (hb : b ≤ s.size) : s.extract a b ≠ ⟨#[]⟩ := fun e => by
  have := size_extract s a b hb
  rw [e] at this
  have h0 : (⟨#[]⟩ : ByteArray).size = 0 := rfl
  omega
theorem cb_min {s : ByteArray} {a b : Nat} (ha : cbZ s a = true) (hb : cbZ s b = true) : cbZ s (min a b : Nat) = true ∧ cbZ s (max a b : Nat) = true := by
  rcases Nat.le_total a b with h | h
  · rw [Nat.min_eq_left h, Nat.max_eq_right h]; exact ⟨ha, hb⟩
  · rw [Nat.min_eq_right h, Nat.max_eq_left h]; exact ⟨hb, ha⟩
/-- either an error with nothing, or what is good -/
def Fine' (s : ByteArray) (k : Int) (x : Chg × Int) : Prop := (x.1 = chz ∧ (x.2 = 7 ∨ x.2 = 8)) ∨ (x.2 = 0 ∧ GoodC s k x.1)
theorem cut_fine {s : ByteArray} {k : Int} {a t : Nat} (hk : k = 14 ∨ k = 15) (ha : cbZ s a = true) (ht : cbZ s t = true) : Fine' s k (cutP a t) := by
  have h1 := cb_le ha
  have h2 := cb_le ht
  have hc := cb_min ha ht
  unfold cutP
  by_cases h : t = a
  · rw [if_pos h]; exact .inl ⟨rfl, .inr rfl⟩
  · rw [if_neg h]
    have e : min a t + (max a t - min a t) = max a t := by omega
    refine .inr ⟨rfl, ⟨by simp only; omega, by simp only; have : (⟨#[]⟩ : ByteArray).size = 0 := rfl; omega, by simp only; have : (⟨#[]⟩ : ByteArray).size = 0 := rfl; omega, fun e => by omega, fun _ => .inl rfl, fun _ => ⟨fun e => by omega, fun e => absurd rfl e⟩, fun _ => ?_⟩⟩
    simp only
    rw [e]
    exact hc
theorem kill_fine {s : ByteArray} {k : Int} {a t : Nat} (hk : 16 ≤ k ∧ k ≤ 20) (ha : cbZ s a = true) (ht : cbZ s t = true) : Fine' s k (killP s a t) := by
  have h1 := cb_le ha
  have h2 := cb_le ht
  have hc := cb_min ha ht
  unfold killP
  by_cases h : t = a
  · rw [if_pos h]; exact .inl ⟨rfl, .inr rfl⟩
  · rw [if_neg h]
    have e : min a t + (max a t - min a t) = max a t := by omega
    have hne : s.extract (min a t) (max a t) ≠ ⟨#[]⟩ := ext_ne (by omega) (by omega)
    refine .inr ⟨rfl, ⟨by simp only; omega, by simp only; have : (⟨#[]⟩ : ByteArray).size = 0 := rfl; omega, by simp only; have : (⟨#[]⟩ : ByteArray).size = 0 := rfl; omega, fun e => by omega, fun _ => .inr ⟨by simp only; rw [e], rfl⟩, fun _ => ⟨fun _ => hne, fun _ => hk⟩, fun _ => ?_⟩⟩
    simp only
    rw [e]
    exact hc
theorem copy_fine {s : ByteArray} {a t : Nat} (ha : cbZ s a = true) (ht : cbZ s t = true) : Fine' s 21 (copyP s a t) := by
  have h1 := cb_le ha
  have h2 := cb_le ht
  unfold copyP
  by_cases h : t = a
  · rw [if_pos h]; exact .inl ⟨rfl, .inr rfl⟩
  · rw [if_neg h]
    have hne : s.extract (min a t) (max a t) ≠ ⟨#[]⟩ := ext_ne (by omega) (by omega)
    exact .inr ⟨rfl, ⟨by simp only; omega, by simp only; have : (⟨#[]⟩ : ByteArray).size = 0 := rfl; omega, by simp only; have : (⟨#[]⟩ : ByteArray).size = 0 := rfl; omega, fun _ => ⟨rfl, rfl, rfl, hne, rfl⟩, fun e => absurd rfl e, fun e => absurd rfl e, fun e => absurd rfl e⟩⟩
theorem swp_size {s : ByteArray} {v w : Nat × Nat} (h1 : v.1 ≤ v.2) (h2 : v.2 ≤ w.1) (h3 : w.1 ≤ w.2) (h4 : w.2 ≤ s.size) : (swp s v w).size = w.2 - v.1 := by
  unfold swp
  rw [size_app, size_app, size_extract s w.1 w.2 h4, size_extract s v.2 w.1 (by omega), size_extract s v.1 v.2 (by omega)]
  omega
theorem swap_good {s : ByteArray} {k : Int} {v w : Nat × Nat} (hk : k = 24 ∨ k = 25) (h1 : v.1 ≤ v.2) (h2 : v.2 ≤ w.1) (h3 : w.1 ≤ w.2) (h4 : w.2 ≤ s.size) (c1 : cbZ s v.1 = true) (c2 : cbZ s w.2 = true) : GoodC s k (swapP s v w) := by
  have hz := swp_size h1 h2 h3 h4
  have e : v.1 + (w.2 - v.1) = w.2 := by omega
  refine ⟨by simp only [swapP]; omega, by simp only [swapP]; omega, by simp only [swapP]; rw [hz]; omega, fun e => by omega, fun _ => .inl rfl, fun _ => ⟨fun e => by omega, fun e => absurd rfl e⟩, fun _ => ?_⟩
  simp only [swapP]
  rw [e]
  exact ⟨c1, c2⟩
theorem mid_cb {s : ByteArray} {a : Nat} (ha : cbZ s a = true) (h : ¬ midP s a ≤ (lnP s a).1) : cbZ s (midP s a) = true ∧ midP s a ≤ a ∧ pvC s (midP s a) < midP s a ∧ midP s a < nxt s (midP s a) ∧ nxt s (midP s a) ≤ (lnP s a).2 ∧ (lnP s a).2 ≤ s.size ∧ (lnP s a).1 ≤ pvC s (midP s a) := by
  have hp := lnP_pl ha
  have hle := hp.le
  have hcb := hp.cbs
  have hm : cbZ s (midP s a) = true ∧ midP s a ≤ a ∧ midP s a < (lnP s a).2 := by
    unfold midP at h ⊢
    split
    · rename_i e
      rw [if_pos e] at h
      have := pv_ok s a
      exact ⟨this.1, this.2.1, by have := this.2.2 (by omega); omega⟩
    · exact ⟨ha, Nat.le_refl _, by omega⟩
  have h1 := pv_ok s (midP s a)
  have h2 := nxt_ok s (midP s a)
  have h3 := nxt_is s (midP s a)
  have h4 := pvC_is s (midP s a)
  have h5 := h2.2.2.1 (by omega)
  refine ⟨hm.1, hm.2.1, h1.2.2 (by omega), h5, ?_, hle.2.2, ?_⟩
  · rcases Nat.lt_or_ge (lnP s a).2 (nxt s (midP s a)) with e | e
    · have := h3.no (lnP s a).2 (by omega) (by omega)
      rw [hcb.2] at this; cases this
    · exact e
  · rcases Nat.lt_or_ge (pvC s (midP s a)) (lnP s a).1 with e | e
    · have := h4.no (lnP s a).1 (by omega) (by omega)
      rw [hcb.1] at this; cases this
    · exact e
theorem chars_fine {s : ByteArray} {a : Nat} (ha : cbZ s a = true) : Fine' s 24 (charsP s a) := by
  unfold charsP
  by_cases h : midP s a ≤ (lnP s a).1
  · rw [if_pos h]; exact .inl ⟨rfl, .inr rfl⟩
  · rw [if_neg h]
    obtain ⟨m1, m2, m3, m4, m5, m6, m7⟩ := mid_cb ha h
    exact .inr ⟨rfl, swap_good (.inl rfl) (by simp only; omega) (by simp only; omega) (by simp only; omega) (by simp only; omega) (pv_ok _ _).1 (nxt_ok _ _).1⟩
theorem sel_two {s : ByteArray} (a : Nat) (h : ¬ (words s).length < 2) : ∃ v w, (words s)[selI (words s) a - 1]? = some v ∧ (words s)[selI (words s) a]? = some w ∧ (words s).getD (selI (words s) a - 1) (0, 0) = v ∧ (words s).getD (selI (words s) a) (0, 0) = w ∧ 1 ≤ selI (words s) a := by
  have hs : selI (words s) a < (words s).length ∧ 1 ≤ selI (words s) a := by unfold selI; omega
  obtain ⟨v, hv⟩ : ∃ v, (words s)[selI (words s) a - 1]? = some v := ⟨_, List.getElem?_eq_getElem (by omega)⟩
  obtain ⟨w, hw⟩ : ∃ w, (words s)[selI (words s) a]? = some w := ⟨_, List.getElem?_eq_getElem hs.1⟩
  exact ⟨v, w, hv, hw, by rw [List.getD_eq_getElem?_getD, hv]; rfl, by rw [List.getD_eq_getElem?_getD, hw]; rfl, hs.2⟩
theorem words_fine {s : ByteArray} {a : Nat} : Fine' s 25 (wordsP s a) := by
  unfold wordsP
  by_cases h : (words s).length < 2
  · rw [if_pos h]; exact .inl ⟨rfl, .inr rfl⟩
  · rw [if_neg h]
    obtain ⟨v, w, h1, h2, h3, h4, h5⟩ := sel_two a h
    rw [h3, h4]
    have b1 := words_mem (List.mem_of_getElem? h1)
    have b2 := words_mem (List.mem_of_getElem? h2)
    have b3 := words_lt h1 h2 (by omega)
    exact .inr ⟨rfl, swap_good (.inr rfl) (by omega) (by omega) (by omega) (by omega) (words_cb (List.mem_of_getElem? h1)).1 (words_cb (List.mem_of_getElem? h2)).2⟩
theorem frm_size (k : Int) (x : ByteArray) : (frm k x).size = x.size := by
  unfold frm
  split
  · exact fm_size gd_up x
  split
  · exact fm_size gd_low x
  · exact fm_size (gd_cap _) x
theorem case_fine {s : ByteArray} {k : Int} {a t : Nat} (hk : 26 ≤ k) (hat : a ≤ t) (ha : cbZ s a = true) (ht : cbZ s t = true) : Fine' s k (caseP k s a t) := by
  have h1 := cb_le ha
  have h2 := cb_le ht
  unfold caseP
  by_cases h : t = a
  · rw [if_pos h]; exact .inl ⟨rfl, .inr rfl⟩
  · rw [if_neg h]
    have hz := frm_size k (s.extract a t)
    rw [size_extract s a t h2] at hz
    have e : a + (t - a) = t := by omega
    refine .inr ⟨rfl, ⟨by simp only; omega, by simp only; omega, by simp only; rw [hz]; omega, fun e => by omega, fun _ => .inl rfl, fun _ => ⟨fun e => by omega, fun e => absurd rfl e⟩, fun _ => ?_⟩⟩
    simp only
    rw [e]
    exact ⟨ha, ht⟩
theorem mak_fine {s : ByteArray} {k : Int} {n a : Nat} {r : Option Nat} (hd : doesP k = true) (ha : cbZ s a = true) (hr : ∀ x, r = some x → cbZ s x = true) : Fine' s k (makP k s n a r) := by
  have hd' := of_decide_eq_true hd
  unfold makP
  split
  · rename_i h; exact cut_fine h ha (rst_cb n ha)
  split
  · rename_i h; exact kill_fine (by omega) ha (rst_cb n ha)
  split
  · rename_i h; exact kill_fine (by omega) ha (lnP_pl ha).cbs.1
  split
  · rename_i h
    cases r with
    | none => exact .inl ⟨rfl, .inl rfl⟩
    | some x => exact kill_fine (by omega) ha (hr x rfl)
  split
  · rename_i h
    subst h
    cases r with
    | none => exact .inl ⟨rfl, .inl rfl⟩
    | some x => exact copy_fine ha (hr x rfl)
  split
  · rename_i h; subst h; exact chars_fine ha
  split
  · rename_i h; subst h; exact words_fine
  · have hk : 26 ≤ k := by omega
    exact case_fine hk (rst_right (k := k) (s := s) (by unfold lefts; exact decide_eq_false (by omega)) n a ha).1 ha (rst_cb n ha)
theorem of_fine (s : ByteArray) (k c i r : Int) : (ofP s k c i r = (chz, 13) ∧ doesP k = false) ∨ (doesP k = true ∧ Fine' s k (ofP s k c i r)) := by
  unfold ofP
  cases hd : doesP k with
  | false => exact .inl ⟨by rw [if_neg (by simp)], rfl⟩
  | true =>
    rw [if_pos rfl]
    refine .inr ⟨rfl, mak_fine hd (snp_is s i).cb fun x e => ?_⟩
    unfold regP at e
    split at e
    · cases e
    · cases e; exact (snp_is s r).cb
end Go.Proofs.YtdggbnkhbmffoaaGreatDoor
