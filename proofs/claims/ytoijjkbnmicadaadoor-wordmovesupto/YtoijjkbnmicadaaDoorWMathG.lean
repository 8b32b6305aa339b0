/-
  The clusters on both sides of a boundary, and what lies ahead and behind in words. No program in this text; no conditions.
-/
import Derived.Test.YtoijjkbnmicadaaDoorWMathE
namespace Go.Proofs.YtoijjkbnmicadaaDoor
open Bod Wid

/-- a word cluster -/
def wcl (s : ByteArray) (c : Clu) : Bool := wch (ch s c.fr)
/-- does a word cluster begin at the boundary a? -/
def wat (s : ByteArray) (a : Nat) : Bool := decide (a < s.size) && wch (ch s a)
/-- the clusters ahead of a and behind it -/
structure Fr (s : ByteArray) (a : Nat) (pre post : List Clu) : Prop where
  eq : pre ++ post = cl s
  l : tiled 0 pre a
  r : tiled a post s.size
theorem tiled_cut {s : ByteArray} {a : Nat} (ha : cbZ s a = true) : ∀ (l : List Clu) (i j : Nat), tiled i l j → (∀ c ∈ l, Sp s c) → i ≤ a → a ≤ j → ∃ pre post, pre ++ post = l ∧ tiled i pre a ∧ tiled a post j
  | [], i, j, h, _, h1, h2 => by
    have e : i = j := h
    have : a = i := by omega
    exact ⟨[], [], rfl, this.symm, by show a = j; omega⟩
  | c :: r, i, j, h, hs, h1, h2 => by
    by_cases e : a = i
    · subst e; exact ⟨[], c :: r, rfl, rfl, h⟩
    · obtain ⟨g1, g2, g3⟩ := h
      have hc := (hs c (by simp)).2 a (by omega)
      have hto : c.to ≤ a := by
        by_cases q : c.to ≤ a
        · exact q
        · rw [hc (by omega)] at ha; cases ha
      obtain ⟨pre, post, q1, q2, q3⟩ := tiled_cut ha r c.to j g3 (fun d hd => hs d (by simp [hd])) hto h2
      exact ⟨c :: pre, post, by rw [← q1]; rfl, ⟨g1, g2, q2⟩, q3⟩
theorem fr_of {s : ByteArray} {a : Nat} (ha : cbZ s a = true) : ∃ pre post, Fr s a pre post := by
  obtain ⟨m, e, hB⟩ := cb_B ha
  have : a ≤ s.size := by have := hB.1; omega
  obtain ⟨pre, post, h1, h2, h3⟩ := tiled_cut ha (cl s) 0 s.size (cl_tile s) (cl_cb s) (Nat.zero_le _) this
  exact ⟨pre, post, h1, h2, h3⟩
theorem tiled_snoc {a : List Clu} {c : Clu} {i m : Nat} (h : tiled i a c.fr) (h1 : c.fr < c.to) (h2 : c.to = m) : tiled i (a ++ [c]) m := by
  induction a generalizing i with
  | nil => exact ⟨h.symm, by have : i = c.fr := h; omega, h2⟩
  | cons d r ih =>
    obtain ⟨g1, g2, g3⟩ := h
    exact ⟨g1, g2, ih g3⟩
theorem tiled_last {a : List Clu} {c : Clu} {i m : Nat} (h : tiled i (a ++ [c]) m) : tiled i a c.fr ∧ c.fr < c.to ∧ c.to = m := by
  obtain ⟨k, h1, h2, h3, h4⟩ := tiled_app h
  exact ⟨by rw [h2]; exact h1, by omega, h4⟩
theorem Fr.mem {s : ByteArray} {a : Nat} {pre post : List Clu} (h : Fr s a pre post) {c : Clu} (hc : c ∈ pre ++ post) : c ∈ cl s := h.eq ▸ hc
theorem Fr.next {s : ByteArray} {a : Nat} {pre r : List Clu} {c : Clu} (h : Fr s a pre (c :: r)) : IsNext s a c.to ∧ Fr s c.to (pre ++ [c]) r ∧ a < c.to ∧ c.to ≤ s.size ∧ wat s a = wcl s c := by
  obtain ⟨g1, g2, g3⟩ := h.r
  have hm := h.mem (c := c) (by simp)
  have hsp := cl_cb s c hm
  have hin := cl_span hm
  refine ⟨⟨hsp.1, .inl (by omega), fun j h1 h2 => hsp.2 j (by omega) h2⟩, ⟨by rw [← h.eq]; simp, tiled_snoc (by rw [g1]; exact h.l) (by omega) rfl, g3⟩, by omega, hin.2, ?_⟩
  unfold wat wcl
  rw [decide_eq_true (by omega), g1, Bool.true_and]
theorem Fr.done {s : ByteArray} {a : Nat} {pre : List Clu} (h : Fr s a pre []) : a = s.size ∧ wat s a = false := by
  have e : a = s.size := h.r
  refine ⟨e, ?_⟩
  unfold wat
  rw [decide_eq_false (by omega), Bool.false_and]
theorem Fr.cb {s : ByteArray} {a : Nat} {pre post : List Clu} (h : Fr s a pre post) : cbZ s a = true ∧ a ≤ s.size := by
  cases post with
  | nil => rw [h.done.1]; exact ⟨cb_end s, Nat.le_refl _⟩
  | cons c r =>
    have := cl_fr s c (h.mem (by simp))
    rw [h.r.1] at this
    have := h.next
    exact ⟨by assumption, by omega⟩

/-- the end of the first word of a list of clusters, or n -/
def firstW (s : ByteArray) (l : List Clu) : Nat := ((wrun (wcl s) none l).head?.map (·.2)).getD s.size
theorem first_not {s : ByteArray} {c : Clu} {r : List Clu} (h : wcl s c = false) : firstW s (c :: r) = firstW s r := by
  unfold firstW
  simp [wrun, h]
theorem first_in {s : ByteArray} {c : Clu} {r : List Clu} (a : Nat) (h : wcl s c = true) : firstW s (c :: r) = lastTo (wcl s) a (c :: r) := by
  unfold firstW
  simp [wrun, h, wrun_some, lastTo]
theorem first_nil (s : ByteArray) (a : Nat) (h : a = s.size) : firstW s [] = lastTo (wcl s) a [] := by
  unfold firstW
  simp [wrun, lastTo, h]
theorem words_wcl (s : ByteArray) : words s = wrun (wcl s) none (cl s) := rfl
theorem ahead_first {s : ByteArray} {a : Nat} {pre post : List Clu} (h : Fr s a pre post) : aheadW (words s) s.size a = firstW s post := by
  unfold aheadW firstW
  rw [words_wcl, ← h.eq, find_past (wcl s) pre post 0 a s.size none h.l h.r (fun y e => by cases e)]
theorem find_congr {α : Type} {p q : α → Bool} : ∀ {l : List α}, (∀ x ∈ l, p x = q x) → l.find? p = l.find? q
  | [], _ => rfl
  | x :: r, h => by
    simp only [List.find?_cons]
    rw [h x (by simp), find_congr (l := r) (fun y hy => h y (by simp [hy]))]
/-- within a cluster the same word lies ahead as at its beginning -/
theorem ahead_in {s : ByteArray} {m a : Nat} (hc : cbZ s a = false) (hp : IsPrev s a m) : aheadW (words s) s.size a = aheadW (words s) s.size m := by
  unfold aheadW
  rw [find_congr]
  intro w hw
  have h2 := (words_cb hw).2
  have hne : w.2 ≠ a := fun e => by rw [e, hc] at h2; cases h2
  have hno : ¬ (m < w.2 ∧ w.2 < a) := fun h => by rw [hp.no w.2 (by omega) (by omega)] at h2; cases h2
  have hd : m ≤ a := by rcases hp.dn with h | ⟨h, _⟩ <;> omega
  simp only [decide_eq_decide]
  omega

/-- the clusters that begin below a -/
structure Bh (s : ByteArray) (a : Nat) (pre : List Clu) : Prop where
  ex : ∃ m post, Fr s m pre post ∧ a ≤ m
  last : ∀ p c, pre = p ++ [c] → c.fr < a
  none : pre = [] → a = 0
theorem bh_fr {s : ByteArray} {a : Nat} {pre post : List Clu} (h : Fr s a pre post) : Bh s a pre :=
  ⟨⟨a, post, h, Nat.le_refl _⟩, fun p c e => by have := h.l; rw [e] at this; obtain ⟨_, h1, h2⟩ := tiled_last this; omega, fun e => by have := h.l; rw [e] at this; exact (show 0 = a from this).symm⟩
/-- there is such a list for every offset -/
theorem bh_of {s : ByteArray} {a : Nat} (ha : a ≤ s.size) : ∃ pre, Bh s a pre := by
  cases hc : cbZ s a with
  | true =>
    obtain ⟨pre, post, h⟩ := fr_of hc
    exact ⟨pre, bh_fr h⟩
  | false =>
    obtain ⟨m, hp⟩ : ∃ m, IsPrev s a m := by
      have : ∀ k : Nat, k ≤ a → (∀ j : Int, (k : Int) < j → j < a → cbZ s j = false) → k < a ∨ k = a → ∃ m, IsPrev s a m := by
        intro k
        induction k with
        | zero => intro _ h _; exact ⟨0, cb_zero s, by by_cases e : a = 0 <;> omega, h⟩
        | succ k ih =>
          intro hk h hlt
          by_cases e : k + 1 < a ∧ cbZ s ((k + 1 : Nat) : Int) = true
          · exact ⟨k + 1, e.2, .inl (by omega), h⟩
          · refine ih (by omega) (fun j h1 h2 => ?_) (.inl (by omega))
            by_cases ej : j = ((k + 1 : Nat) : Int)
            · rw [ej]
              cases hb : cbZ s ((k + 1 : Nat) : Int) with
              | false => rfl
              | true => exact absurd ⟨by omega, hb⟩ e
            · exact h j (by omega) h2
      exact this a (Nat.le_refl _) (fun j h1 h2 => by omega) (.inr rfl)
    obtain ⟨pre, post, h⟩ := fr_of hp.cb
    have hlt : m < a := by
      rcases hp.dn with h | ⟨h, h'⟩
      · omega
      · have : a = 0 := by omega
        rw [this, show ((0 : Nat) : Int) = 0 from rfl, cb_zero] at hc; cases hc
    cases post with
    | nil => have := h.done.1; omega
    | cons c r =>
      obtain ⟨n1, n2, n3, n4, _⟩ := h.next
      refine ⟨pre ++ [c], ⟨c.to, r, n2, ?_⟩, fun p d e => ?_, fun e => by simp at e⟩
      · by_cases q : a ≤ c.to
        · exact q
        · have := hp.no c.to (by omega) (by omega)
          rw [n1.cb] at this; cases this
      · have := List.append_inj_right' e (by rfl)
        have e2 : c = d := by simpa using this
        rw [← e2, h.r.1]; exact hlt
theorem Bh.prev {s : ByteArray} {a : Nat} {pre : List Clu} {c : Clu} (h : Bh s a (pre ++ [c])) : IsPrev s a c.fr ∧ (∃ post, Fr s c.fr pre post) ∧ c.fr < a ∧ c.fr < s.size ∧ wat s c.fr = wcl s c := by
  obtain ⟨⟨m, post, hf, hm⟩, hl, _⟩ := h
  have hc := hf.mem (c := c) (by simp)
  have hsp := cl_cb s c hc
  have hin := cl_span hc
  obtain ⟨t1, t2, t3⟩ := tiled_last hf.l
  have hlt := hl pre c rfl
  refine ⟨⟨cl_fr s c hc, .inl (by omega), fun j h1 h2 => hsp.2 j h1 (by omega)⟩, ⟨c :: post, by rw [← hf.eq]; simp, t1, rfl, t2, by rw [t3]; exact hf.r⟩, hlt, by omega, ?_⟩
  unfold wat wcl
  rw [decide_eq_true (by omega), Bool.true_and]
/-- the beginning of the last word of a list of clusters, or 0 -/
def lastW (s : ByteArray) (l : List Clu) : Nat := ((wrun (wcl s) none l).map (·.1)).getLast?.getD 0
theorem behind_last {s : ByteArray} {a : Nat} {pre : List Clu} (h : Bh s a pre) : behindW (words s) a = lastW s pre := by
  obtain ⟨⟨m, post, hf, hm⟩, hl, hn⟩ := h
  obtain ⟨t, h1, h2⟩ := starts_app (wcl s) pre post 0 m s.size none hf.l hf.r
  unfold behindW lastW
  rw [words_wcl, ← hf.eq, h1, List.filter_append]
  have e1 : t.filter (fun x => decide (x < a)) = [] := by
    rw [List.filter_eq_nil_iff]
    intro x hx
    have := h2 x hx
    simp; omega
  have e2 : ((wrun (wcl s) none pre).map (·.1)).filter (fun x => decide (x < a)) = (wrun (wcl s) none pre).map (·.1) := by
    rw [List.filter_eq_self]
    intro x hx
    obtain ⟨w, hw, rfl⟩ := List.mem_map.1 hx
    have hin : ∀ c ∈ pre, c.fr < a := by
      rcases List.eq_nil_or_concat pre with e | ⟨p, c, e⟩
      · subst e; intro c hc; cases hc
      · rw [List.concat_eq_append] at e
        subst e
        intro d hd
        have hlc := hl p c rfl
        obtain ⟨t1, t2, t3⟩ := tiled_last hf.l
        rcases List.mem_append.1 hd with hd | hd
        · have := tiled_mem t1 d hd; omega
        · simp at hd; subst hd; exact hlc
    have hst : ∀ w ∈ wrun (wcl s) none pre, ∃ c ∈ pre, w.1 = c.fr := by
      have : ∀ (l : List Clu) (x : Option (Nat × Nat)), (∀ y, x = some y → ∃ c ∈ pre, y.1 = c.fr) → (∀ c ∈ l, c ∈ pre) → ∀ w ∈ wrun (wcl s) x l, ∃ c ∈ pre, w.1 = c.fr := by
        intro l
        induction l with
        | nil =>
          intro x hx _ w hw
          cases x with
          | none => simp [wrun] at hw
          | some y => simp [wrun] at hw; subst hw; exact hx w rfl
        | cons c r ih =>
          intro x hx hl w hw
          cases x with
          | none =>
            simp only [wrun] at hw
            split at hw
            · exact ih _ (fun y e => by cases e; exact ⟨c, hl c (by simp), rfl⟩) (fun d hd => hl d (by simp [hd])) w hw
            · exact ih _ (fun y e => by cases e) (fun d hd => hl d (by simp [hd])) w hw
          | some y =>
            simp only [wrun] at hw
            split at hw
            · exact ih _ (fun z e => by cases e; exact hx y rfl) (fun d hd => hl d (by simp [hd])) w hw
            · rcases List.mem_cons.1 hw with rfl | hw
              · exact hx w rfl
              · exact ih _ (fun z e => by cases e) (fun d hd => hl d (by simp [hd])) w hw
      exact this pre none (fun y e => by cases e) (fun c hc => hc)
    obtain ⟨c, hc, e⟩ := hst w hw
    have := hin c hc
    rw [e]
    simpa using this
  rw [e1, e2, List.append_nil]
theorem wrun_wac (p : Clu → Bool) {l : List Clu} {i j : Nat} (h : tiled i l j) : wrun p none l = wac p l := (wac_eq p h).symm
theorem last_not {s : ByteArray} {c : Clu} {pre : List Clu} {i m : Nat} (ht : tiled i (pre ++ [c]) m) (h : wcl s c = false) : lastW s (pre ++ [c]) = lastW s pre := by
  unfold lastW
  rw [wrun_wac _ ht, wrun_wac _ (tiled_last ht).1, wac_snoc, wst_no h]
/-- the word that ends with a word cluster goes on ahead of it, if a word cluster lies there -/
theorem last_on {s : ByteArray} {c d : Clu} {pre : List Clu} {i m : Nat} (ht : tiled i (pre ++ [d] ++ [c]) m) (h : wcl s c = true) (hd : wcl s d = true) : lastW s (pre ++ [d] ++ [c]) = lastW s (pre ++ [d]) := by
  obtain ⟨t1, _, _⟩ := tiled_last ht
  obtain ⟨t2, t3, t4⟩ := tiled_last t1
  unfold lastW
  rw [wrun_wac _ ht, wrun_wac _ t1, wac_snoc (wcl s) (pre ++ [d]) c]
  obtain ⟨a, x, e⟩ : ∃ a x, wac (wcl s) (pre ++ [d]) = a ++ [(x, c.fr)] := by
    rw [wac_snoc]
    unfold wst
    rw [if_pos hd]
    cases hg : (wac (wcl s) pre).getLast? with
    | none => exact ⟨wac (wcl s) pre, d.fr, by simp only [t4]⟩
    | some y =>
      simp only
      split
      · exact ⟨_, _, by rw [t4]⟩
      · exact ⟨_, _, by rw [t4]⟩
  rw [e, wst_on h]
  simp
theorem last_new {s : ByteArray} {c : Clu} {pre : List Clu} {i m : Nat} (ht : tiled i (pre ++ [c]) m) (h : wcl s c = true) (hd : pre = [] ∨ ∃ p d, pre = p ++ [d] ∧ wcl s d = false) : lastW s (pre ++ [c]) = c.fr := by
  obtain ⟨t1, _, _⟩ := tiled_last ht
  unfold lastW
  rw [wrun_wac _ ht, wac_snoc, wst_new h]
  · simp
  · intro y hy
    rcases hd with e | ⟨p, d, e, hw⟩
    · subst e; simp [wac] at hy
    · subst e
      obtain ⟨t2, t3, t4⟩ := tiled_last t1
      rw [wac_snoc, wst_no hw, wac_eq _ t2] at hy
      have := (wsp_mem _ t2 y (List.mem_of_getLast? hy)).2.2
      omega
theorem last_nil (s : ByteArray) : lastW s [] = 0 := rfl
end Go.Proofs.YtoijjkbnmicadaaDoor
