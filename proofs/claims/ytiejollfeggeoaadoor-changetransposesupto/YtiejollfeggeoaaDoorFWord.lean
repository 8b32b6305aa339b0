/-
  The words of a piece of a text between places that no word goes over, and the two words that a transposition changes about: in plain words. No program in this text; no conditions.
-/
import Derived.Test.YtiejollfeggeoaaDoorFLine
namespace Go.Proofs.YtiejollfeggeoaaDoor
open Go.RowKit Go.Shelf Bod Wid Go.Lib

/-- runs over a seam: cut there, or one goes over it -/
theorem wrun_seam (p : Clu → Bool) (b : List Clu) : ∀ (a : List Clu) (x : Option (Nat × Nat)) (i m n : Nat), tiled i a m → tiled m b n → (∀ y, x = some y → y.1 < y.2 ∧ y.2 = i) →
    wrun p x (a ++ b) = wrun p x a ++ wrun p none b ∨ ∃ w ∈ wrun p x (a ++ b), w.1 < m ∧ m < w.2
  | [], none, i, m, n, ha, hb, hx => .inl (by simp [wrun])
  | [], some y, i, m, n, ha, hb, hx => by
    have e : i = m := ha
    obtain ⟨h1, h2⟩ := hx y rfl
    cases b with
    | nil => exact .inl (by simp [wrun])
    | cons c r =>
      obtain ⟨k1, k2, k3⟩ := hb
      cases hc : p c with
      | false => exact .inl (by simp [wrun, hc])
      | true =>
        refine .inr ⟨(y.1, lastTo p c.to r), ?_, by simp only; omega, ?_⟩
        · rw [List.nil_append]
          simp only [wrun, if_pos hc]
          rw [wrun_some]
          simp
        · have := lastTo_ge p r c.to n k3
          simp only; omega
  | c :: a, x, i, m, n, ⟨h1, h2, h3⟩, hb, hx => by
    cases hc : p c with
    | true =>
      cases x with
      | none =>
        have := wrun_seam p b a (some (c.fr, c.to)) c.to m n h3 hb (fun y e => by cases e; exact ⟨by omega, rfl⟩)
        simpa [wrun, hc] using this
      | some y =>
        obtain ⟨k1, k2⟩ := hx y rfl
        have := wrun_seam p b a (some (y.1, c.to)) c.to m n h3 hb (fun z e => by cases e; exact ⟨by omega, rfl⟩)
        simpa [wrun, hc] using this
    | false =>
      have := wrun_seam p b a none c.to m n h3 hb (fun y e => by cases e)
      cases x with
      | none => simpa [wrun, hc] using this
      | some y =>
        rcases this with e | ⟨w, e1, e2⟩
        · exact .inl (by simp [wrun, hc, e])
        · exact .inr ⟨w, by simp [wrun, hc, e1], e2⟩
/-- no word goes over m -/
def Clear (s : ByteArray) (m : Nat) : Prop := ∀ w ∈ words s, ¬ (w.1 < m ∧ m < w.2)
theorem clear_zero (s : ByteArray) : Clear s 0 := fun w _ h => by omega
theorem clear_end (s : ByteArray) : Clear s s.size := fun w hw h => by have := (words_mem hw).2; omega
theorem words_idx {s : ByteArray} {w : Nat × Nat} (h : w ∈ words s) : ∃ i : Nat, (words s)[i]? = some w := List.mem_iff_getElem?.1 h
theorem words_two {s : ByteArray} {v w : Nat × Nat} (hv : v ∈ words s) (hw : w ∈ words s) : v = w ∨ v.2 < w.1 ∨ w.2 < v.1 := by
  obtain ⟨i, hi⟩ := words_idx hv
  obtain ⟨j, hj⟩ := words_idx hw
  rcases Nat.lt_trichotomy i j with h | h | h
  · exact .inr (.inl (words_lt hi hj h))
  · subst h; rw [hi] at hj; exact .inl (Option.some.inj hj)
  · exact .inr (.inr (words_lt hj hi h))
theorem clear_fst {s : ByteArray} {v : Nat × Nat} (hv : v ∈ words s) : Clear s v.1 := fun w hw h => by
  have h1 := (words_mem hv).1
  rcases words_two hv hw with e | e | e
  · subst e; omega
  · omega
  · omega
theorem clear_snd {s : ByteArray} {v : Nat × Nat} (hv : v ∈ words s) : Clear s v.2 := fun w hw h => by
  have h1 := (words_mem hv).1
  rcases words_two hv hw with e | e | e
  · subst e; omega
  · omega
  · omega
theorem wrun_sh (d : Nat) {p q : Clu → Bool} : ∀ (l : List Clu) (x : Option (Nat × Nat)), (∀ c ∈ l, p (sh d c) = q c) → wrun p (x.map fun y => (y.1 + d, y.2 + d)) (l.map (sh d)) = (wrun q x l).map fun y => (y.1 + d, y.2 + d)
  | [], none, _ => rfl
  | [], some _, _ => rfl
  | c :: r, none, h => by
    have h1 := h c (by simp)
    have h2 := fun x => wrun_sh d (p := p) (q := q) r x (fun e he => h e (by simp [he]))
    cases hc : q c with
    | true =>
      have := h2 (some (c.fr, c.to))
      simp only [Option.map_none, List.map_cons, wrun, h1, hc, if_true]
      exact this
    | false =>
      have := h2 none
      simp only [Option.map_none, List.map_cons, wrun, h1, hc]
      exact this
  | c :: r, some x, h => by
    have h1 := h c (by simp)
    have h2 := fun x => wrun_sh d (p := p) (q := q) r x (fun e he => h e (by simp [he]))
    cases hc : q c with
    | true =>
      have := h2 (some (x.1, c.to))
      simp only [Option.map_some, List.map_cons, wrun, h1, hc, if_true]
      exact this
    | false =>
      have := h2 none
      simp only [Option.map_some, List.map_cons, wrun, h1, hc]
      simp only [Option.map_none] at this
      simpa using this
/-- the words of a piece, as places of the text -/
def wsh (d : Nat) (l : List (Nat × Nat)) : List (Nat × Nat) := l.map fun y => (y.1 + d, y.2 + d)
theorem wsh_len (d : Nat) (l : List (Nat × Nat)) : (wsh d l).length = l.length := by simp [wsh]
/-- the words of a text by those of a piece that no word goes over at its ends -/
theorem words_piece {s : ByteArray} {a b : Nat} (ha : cbZ s a = true) (hb : cbZ s b = true) (h : a ≤ b) (ca : Clear s a) (cb : Clear s b) :
    ∃ u v, words s = u ++ (wsh a (words (s.extract a b)) ++ v) ∧ (∀ w ∈ u, w.2 ≤ a) ∧ (∀ w ∈ wsh a (words (s.extract a b)), a ≤ w.1 ∧ w.2 ≤ b) ∧ ∀ w ∈ v, b ≤ w.1 := by
  obtain ⟨pre, post, hm⟩ := mid_ex ha hb h
  have e0 := words_wcl s
  have tr : tiled a ((cl (s.extract a b)).map (sh a) ++ post) s.size := til_app _ _ _ _ _ hm.m hm.r
  have e1 : words s = wrun (wcl s) none pre ++ wrun (wcl s) none ((cl (s.extract a b)).map (sh a) ++ post) := by
    rcases wrun_seam (wcl s) ((cl (s.extract a b)).map (sh a) ++ post) pre none 0 a s.size hm.l tr (fun y e => by cases e) with e | ⟨w, w1, w2⟩
    · rw [e0, hm.eq, e]
    · rw [← hm.eq, ← e0] at w1
      exact absurd w2 (ca w w1)
  have e2 : wrun (wcl s) none ((cl (s.extract a b)).map (sh a) ++ post) = wrun (wcl s) none ((cl (s.extract a b)).map (sh a)) ++ wrun (wcl s) none post := by
    rcases wrun_seam (wcl s) post ((cl (s.extract a b)).map (sh a)) none a b s.size hm.m hm.r (fun y e => by cases e) with e | ⟨w, w1, w2⟩
    · exact e
    · exact absurd w2 (cb w (by rw [e1]; exact List.mem_append_right _ w1))
  have e3 : wrun (wcl s) none ((cl (s.extract a b)).map (sh a)) = wsh a (words (s.extract a b)) := by
    have := wrun_sh a (p := wcl s) (q := wcl (s.extract a b)) (cl (s.extract a b)) none (wcl_sub hb h)
    exact this
  rw [e2, e3] at e1
  refine ⟨_, _, e1, fun w hw => (wsp_mem _ hm.l w hw).2.2, fun w hw => ?_, fun w hw => (wsp_mem _ hm.r w hw).1⟩
  rw [← e3] at hw
  have := wsp_mem _ hm.m w hw
  exact ⟨this.1, this.2.2⟩
/-- how many of them begin below a -/
def belowN (l : List (Nat × Nat)) (a : Nat) : Nat := (l.filter fun w => decide (w.1 < a)).length
/-- lists whose members rise -/
def Ris (l : List (Nat × Nat)) : Prop := l.Pairwise fun v w => v.2 < w.1
theorem ris_below {l : List (Nat × Nat)} (h : Ris l) (hw : ∀ w ∈ l, w.1 < w.2) (a : Nat) : ∀ (i : Nat) (w : Nat × Nat), l[i]? = some w → (w.1 < a ↔ i < belowN l a) := by
  induction l with
  | nil => intro i w e; simp at e
  | cons v l ih =>
    have h1 : ∀ w ∈ l, v.2 < w.1 := (List.pairwise_cons.1 h).1
    have h2 := ih (List.pairwise_cons.1 h).2 (fun w m => hw w (by simp [m]))
    have h3 := hw v (by simp)
    intro i w e
    unfold belowN
    rw [List.filter_cons]
    by_cases c : v.1 < a
    · rw [if_pos (by simp [c])]
      cases i with
      | zero => simp at e; subst e; simp [c]
      | succ i =>
        have := h2 i w (by simpa using e)
        unfold belowN at this
        rw [this, List.length_cons]; omega
    · rw [if_neg (by simp [c])]
      have hz : l.filter (fun w => decide (w.1 < a)) = [] := by
        rw [List.filter_eq_nil_iff]
        intro w m
        have := h1 w m
        simp; omega
      rw [hz]
      cases i with
      | zero => simp at e; subst e; simp [c]
      | succ i =>
        have m := List.mem_of_getElem? (show l[i]? = some w by simpa using e)
        have := h1 w m
        simp; omega
theorem below_le (l : List (Nat × Nat)) (a : Nat) : belowN l a ≤ l.length := List.length_filter_le _ _
theorem words_ris (s : ByteArray) : Ris (words s) := words_sorted s
/-- the index of the second of the two words that are changed about at a -/
def selI (l : List (Nat × Nat)) (a : Nat) : Nat := max (min (belowN l a) (l.length - 1)) 1
theorem below_app (l m : List (Nat × Nat)) (a : Nat) : belowN (l ++ m) a = belowN l a + belowN m a := by simp [belowN]
theorem below_all {l : List (Nat × Nat)} {a : Nat} (h : ∀ w ∈ l, w.1 < a) : belowN l a = l.length := by
  unfold belowN
  rw [List.filter_eq_self.2 (fun w m => by simpa using h w m)]
theorem below_none {l : List (Nat × Nat)} {a : Nat} (h : ∀ w ∈ l, a ≤ w.1) : belowN l a = 0 := by
  unfold belowN
  rw [List.filter_eq_nil_iff.2 (fun w m => by have := h w m; simp; omega)]
  rfl
theorem two_mem {l : List (Nat × Nat)} {p : Nat × Nat → Bool} {v w : Nat × Nat} (hv : v ∈ l) (hw : w ∈ l) (hn : v ≠ w) (pv : p v = true) (pw : p w = true) : 2 ≤ (l.filter p).length := by
  have m1 : v ∈ l.filter p := List.mem_filter.2 ⟨hv, pv⟩
  have m2 : w ∈ l.filter p := List.mem_filter.2 ⟨hw, pw⟩
  generalize l.filter p = q at m1 m2
  match q, m1, m2 with
  | [x], m1, m2 => simp at m1 m2; exact absurd (m1.trans m2.symm) hn
  | x :: y :: r, _, _ => simp
/-- about a place, two words behind and two ahead, all that a transposition asks of the text is there -/
theorem sel_piece {s : ByteArray} {a : Nat} (ha : cbZ s a = true) :
    let f := behindW (words s) (behindW (words s) a)
    let t := aheadW (words s) s.size (aheadW (words s) s.size a)
    f ≤ a ∧ a ≤ t ∧ t ≤ s.size ∧ cbZ s f = true ∧ cbZ s t = true ∧
    ((words (s.extract f t)).length < 2 ↔ (words s).length < 2) ∧
    (2 ≤ (words s).length → selI (wsh f (words (s.extract f t))) a < (words (s.extract f t)).length ∧ (wsh f (words (s.extract f t)))[selI (wsh f (words (s.extract f t))) a]? = (words s)[selI (words s) a]? ∧ (wsh f (words (s.extract f t)))[selI (wsh f (words (s.extract f t))) a - 1]? = (words s)[selI (words s) a - 1]?) := by
  intro f t
  have hal := cb_le ha
  obtain ⟨g, hg⟩ : ∃ g, behindW (words s) a = g := ⟨_, rfl⟩
  obtain ⟨k, hk⟩ : ∃ k, aheadW (words s) s.size a = k := ⟨_, rfl⟩
  obtain ⟨f0, hf0⟩ : ∃ f0, behindW (words s) g = f0 := ⟨_, rfl⟩
  obtain ⟨t0, ht0⟩ : ∃ t0, aheadW (words s) s.size k = t0 := ⟨_, rfl⟩
  have ef : f = f0 := by show behindW (words s) (behindW (words s) a) = f0; rw [hg, hf0]
  have et : t = t0 := by show aheadW (words s) s.size (aheadW (words s) s.size a) = t0; rw [hk, ht0]
  clear_value f t
  subst ef et
  have g1 := behind_ok s a
  have g2 := behind_ok s g
  have k1 := ahead_ok s a
  have k2 := ahead_ok s k
  have wg := words_behind s a
  have wf := words_behind s g
  have wk := words_ahead s a
  have wt := words_ahead s k
  rw [hg] at g1 wg
  rw [hf0] at g2 wf
  rw [hk] at k1 wk
  rw [ht0] at k2 wt
  have hga : g ≤ a := by
    rcases wg with ⟨w, h1, h2, h3⟩ | h <;> omega
  have hfg : f ≤ g := by
    rcases wf with ⟨w, h1, h2, h3⟩ | h <;> omega
  have hak : a ≤ k := by
    rcases wk with ⟨w, h1, h2, h3⟩ | h <;> omega
  have hkt : k ≤ t := by
    rcases wt with ⟨w, h1, h2, h3⟩ | h <;> omega
  have cf : Clear s f := by
    rcases wf with ⟨w, h1, h2, h3⟩ | h
    · rw [h3]; exact clear_fst h1
    · rw [h]; exact clear_zero s
  have ct : Clear s t := by
    rcases wt with ⟨w, h1, h2, h3⟩ | h
    · rw [h3]; exact clear_snd h1
    · rw [h]; exact clear_end s
  obtain ⟨u, v, e, hu, hm, hv⟩ := words_piece g2.1 k2.1 (by omega) cf ct
  have hl : (wsh f (words (s.extract f t))).length = (words (s.extract f t)).length := wsh_len _ _
  obtain ⟨L, hL⟩ : ∃ L, wsh f (words (s.extract f t)) = L := ⟨_, rfl⟩
  rw [hL] at e hm hl ⊢
  rw [← hl]
  refine ⟨by omega, by omega, k2.2.1, g2.1, k2.1, ?_⟩
  have hmem : ∀ w ∈ words s, w.1 < w.2 := fun w hw => (words_mem hw).1
  -- two words ahead of a, or nothing ahead of the piece
  have A : u = [] ∨ 2 ≤ belowN L a := by
    rcases Nat.eq_zero_or_pos f with h0 | h0
    · refine .inl (List.eq_nil_iff_forall_not_mem.2 fun w hw => ?_)
      have := hu w hw
      have := hmem w (by rw [e]; simp [hw])
      omega
    · refine .inr ?_
      rcases wf with ⟨w, w1, w2, w3⟩ | h
      · rcases wg with ⟨x, x1, x2, x3⟩ | h'
        · have hw := hmem w w1
          have hx := hmem x x1
          have mw : w ∈ L := by
            have := w1; rw [e] at this
            rcases List.mem_append.1 this with q | q
            · have := hu w q; omega
            · rcases List.mem_append.1 q with q | q
              · exact q
              · have := hv w q; omega
          have mx : x ∈ L := by
            have := x1; rw [e] at this
            rcases List.mem_append.1 this with q | q
            · have := hu x q; omega
            · rcases List.mem_append.1 q with q | q
              · exact q
              · have := hv x q; omega
          exact two_mem mw mx (fun h => by subst h; omega) (by simp; omega) (by simp; omega)
        · omega
      · omega
  -- two words that end above a, or nothing behind the piece
  have Bb : v = [] ∨ ∃ x ∈ L, ∃ y ∈ L, a < x.2 ∧ x.2 < y.1 := by
    rcases Nat.lt_or_ge t s.size with h0 | h0
    · refine .inr ?_
      rcases wt with ⟨w, w1, w2, w3⟩ | h
      · rcases wk with ⟨x, x1, x2, x3⟩ | h'
        · have hw := hmem w w1
          have hx := hmem x x1
          have mw : w ∈ L := by
            have := w1; rw [e] at this
            rcases List.mem_append.1 this with q | q
            · have := hu w q; omega
            · rcases List.mem_append.1 q with q | q
              · exact q
              · have := hv w q; omega
          have mx : x ∈ L := by
            have := x1; rw [e] at this
            rcases List.mem_append.1 this with q | q
            · have := hu x q; omega
            · rcases List.mem_append.1 q with q | q
              · exact q
              · have := hv x q; omega
          refine ⟨x, mx, w, mw, x2, ?_⟩
          rcases words_two x1 w1 with q | q | q
          · subst q; omega
          · exact q
          · omega
        · omega
      · omega
    · refine .inl (List.eq_nil_iff_forall_not_mem.2 fun w hw => ?_)
      have := hv w hw
      have := (words_mem (show w ∈ words s by rw [e]; simp [hw])).2
      have := hmem w (by rw [e]; simp [hw])
      omega
  have bu : belowN u a = u.length := below_all fun w hw => by have := hu w hw; have := hmem w (by rw [e]; simp [hw]); omega
  have bv : belowN v a = 0 := below_none fun w hw => by have := hv w hw; omega
  have bs : belowN (words s) a = u.length + belowN L a := by rw [e, below_app, below_app, bu, bv]; omega
  have ls : (words s).length = u.length + L.length + v.length := by rw [e]; simp; omega
  have bl := below_le L a
  have hLr : Ris L := by
    have := words_ris s
    rw [e] at this
    exact (List.pairwise_append.1 (List.pairwise_append.1 this).2.1).1
  have hLw : ∀ w ∈ L, w.1 < w.2 := fun w hw => hmem w (by rw [e]; simp [hw])
  have C : v = [] ∨ belowN L a + 1 ≤ L.length ∧ 2 ≤ L.length := by
    rcases Bb with h | ⟨x, mx, y, my, h1, h2⟩
    · exact .inl h
    · refine .inr ?_
      obtain ⟨j, hj⟩ := List.mem_iff_getElem?.1 my
      have hx := hLw x mx
      have := (ris_below hLr hLw a j y hj)
      have hjl : j < L.length := (List.getElem?_eq_some_iff.1 hj).1
      have : ¬ j < belowN L a := fun q => by have := this.2 q; omega
      refine ⟨by omega, ?_⟩
      obtain ⟨i, hi⟩ := List.mem_iff_getElem?.1 mx
      have hil : i < L.length := (List.getElem?_eq_some_iff.1 hi).1
      rcases Nat.lt_or_ge 1 L.length with q | q
      · omega
      · have : i = j := by omega
        subst this
        rw [hi] at hj; have := Option.some.inj hj; subst this; omega
  have A' : u.length = 0 ∨ 2 ≤ belowN L a := A.imp (fun h => by rw [h]; rfl) id
  have C' : v.length = 0 ∨ belowN L a + 1 ≤ L.length ∧ 2 ≤ L.length := C.imp (fun h => by rw [h]; rfl) id
  have key : 2 ≤ L.length → selI (words s) a = u.length + selI L a ∧ 1 ≤ selI L a ∧ selI L a < L.length := fun h2 => by
    unfold selI
    rw [bs, ls]
    omega
  refine ⟨⟨fun h => by omega, fun h => by omega⟩, fun h => ?_⟩
  have h2 : 2 ≤ L.length := by omega
  obtain ⟨q1, q2, q3⟩ := key h2
  refine ⟨q3, ?_, ?_⟩
  · rw [q1, e, List.getElem?_append_right (by omega), Nat.add_sub_cancel_left, List.getElem?_append_left q3]
  · rw [q1, e, List.getElem?_append_right (by omega), show u.length + selI L a - 1 - u.length = selI L a - 1 by omega, List.getElem?_append_left (by omega)]
end Go.Proofs.YtiejollfeggeoaaDoor
