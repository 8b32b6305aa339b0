/-
  What changing commands make of a text, in plain words: steps, lines, cuts, kills, transpositions, forms. No program in this text; no conditions.
-/
import Derived.Test.YtiejollfeggeoaaDoorFWord
namespace Go.Proofs.YtiejollfeggeoaaDoor
open Go.RowKit Go.Shelf Bod Wid Go.Lib

/-- f taken n times -/
def rpt (f : Nat → Nat) : Nat → Nat → Nat
  | 0, a => a
  | n + 1, a => rpt f n (f a)
theorem rpt_fix {f : Nat → Nat} {a : Nat} (h : f a = a) : ∀ n, rpt f n a = a
  | 0 => rfl
  | n + 1 => by rw [rpt, h]; exact rpt_fix h n
theorem rpt_inv {f : Nat → Nat} {P : Nat → Prop} (h : ∀ a, P a → P (f a)) : ∀ (n a : Nat), P a → P (rpt f n a)
  | 0, _, ha => ha
  | n + 1, a, ha => rpt_inv h n (f a) (h a ha)
theorem rpt_snoc (f : Nat → Nat) : ∀ (n a : Nat), rpt f (n + 1) a = f (rpt f n a)
  | 0, _ => rfl
  | n + 1, a => rpt_snoc f n (f a)
theorem rpt_add (f : Nat → Nat) : ∀ (n m a : Nat), rpt f (n + m) a = rpt f m (rpt f n a)
  | 0, m, a => by rw [Nat.zero_add]; rfl
  | n + 1, m, a => by rw [show n + 1 + m = (n + m) + 1 by omega]; exact rpt_add f n m (f a)

theorem lnp_ex (s : ByteArray) (a : Nat) : ∃ x : Nat × Nat, cbZ s a = true → Pl s a x.1 x.2 := by
  cases h : cbZ s a with
  | true => obtain ⟨p, b, hp⟩ := pl_ex h; exact ⟨(p, b), fun _ => hp⟩
  | false => exact ⟨(0, 0), fun e => by cases e⟩
/-- a boundary's line -/
noncomputable def lnP (s : ByteArray) (a : Nat) : Nat × Nat := Classical.choose (lnp_ex s a)
theorem lnP_pl {s : ByteArray} {a : Nat} (h : cbZ s a = true) : Pl s a (lnP s a).1 (lnP s a).2 := Classical.choose_spec (lnp_ex s a) h
theorem Pl.uniq {s : ByteArray} {a p b p' b' : Nat} (h : Pl s a p b) (k : Pl s a p' b') : p = p' ∧ b = b' := by
  have := h.sp.uniq k.sp
  cases this
  exact ⟨rfl, rfl⟩
theorem lnP_eq {s : ByteArray} {a p b : Nat} (h : Pl s a p b) : lnP s a = (p, b) := by
  obtain ⟨h1, h2⟩ := (lnP_pl h.cb).uniq h
  rw [← h1, ← h2]
/-- a place up to which no line ends, and a place behind a line's end -/
theorem Pl.le {s : ByteArray} {a p b : Nat} (h : Pl s a p b) : p ≤ a ∧ a ≤ b ∧ b ≤ s.size := ⟨h.lo, h.hi, h.sp.le.2⟩
theorem Pl.cbs {s : ByteArray} {a p b : Nat} (h : Pl s a p b) : cbZ s p = true ∧ cbZ s b = true := h.sp.cb
/-- where a line ends: the text's end, or right ahead of the newline -/
theorem Pl.fin {s : ByteArray} {a p b : Nat} (h : Pl s a p b) : (cn s a s.size = 0 ∧ b = s.size) ∨ ∃ q, a < q ∧ q ≤ s.size ∧ cn s a (q - 1) = 0 ∧ byt s (q - 1) = 10 ∧ IsPrev s q b ∧ IsNext s b q := by
  obtain ⟨k1, k2, k3⟩ := h.le
  obtain ⟨-, r, hr, hl⟩ := h.sp
  have hcn : cn s p a = 0 := h.l.2.2
  simp only at hr hl
  cases r with
  | none =>
    have hr' : cn s p s.size < 1 := hr
    refine .inl ⟨?_, hl⟩
    have := cn_add (s := s) (a := p) (b := a) (c := s.size) k1 (by omega)
    omega
  | some q =>
    obtain ⟨n1, n2, n3, n4, n5, n6, n7⟩ := h.sp.nl hr
    have hr' := hr
    have ha : a < q := by omega
    refine .inr ⟨q, ha, n2, ?_, n5, ⟨(Pl.cbs h).2, .inl (by omega), fun j j1 j2 => n3.no j j1 j2⟩, n3⟩
    have e1 : cn s p q = 1 := hr'.2.2.2
    have e2 := cn_add (s := s) (a := p) (b := q - 1) (c := q) (by omega) (by omega)
    have e3 := cn_one (s := s) (i := q - 1) (by omega)
    rw [if_pos n5, show q - 1 + 1 = q by omega] at e3
    have e4 := cn_add (s := s) (a := p) (b := a) (c := q - 1) k1 (by omega)
    omega
/-- where DoKillLineEnd leads, once -/
noncomputable def lnA (s : ByteArray) (a : Nat) : Nat := if (lnP s a).2 = a then nxt s a else (lnP s a).2
theorem nxt_ok (s : ByteArray) (a : Nat) : cbZ s (nxt s a) = true ∧ nxt s a ≤ s.size ∧ (a < s.size → a < nxt s a) ∧ (s.size ≤ a → nxt s a = s.size) := by
  have h := nxt_is s a
  refine ⟨h.cb, cb_le h.cb, fun e => ?_, fun e => ?_⟩
  · rcases h.up with u | ⟨u, u'⟩ <;> omega
  · rcases h.up with u | ⟨u, u'⟩
    · have := cb_le h.cb; omega
    · exact u
theorem pv_ok (s : ByteArray) (a : Nat) : cbZ s (pvC s a) = true ∧ pvC s a ≤ a ∧ (0 < a → pvC s a < a) := by
  have h := pvC_is s a
  refine ⟨h.cb, ?_, fun e => ?_⟩ <;> rcases h.dn with u | ⟨u, u'⟩ <;> omega
theorem lnA_ok {s : ByteArray} {a : Nat} (ha : cbZ s a = true) : cbZ s (lnA s a) = true ∧ lnA s a ≤ s.size ∧ a ≤ lnA s a ∧ (a < s.size → a < lnA s a) := by
  have h := lnP_pl ha
  have hl := h.le
  have hn := nxt_ok s a
  unfold lnA
  split
  · refine ⟨hn.1, hn.2.1, ?_, hn.2.2.1⟩
    rcases Nat.lt_or_ge a s.size with e | e
    · have := hn.2.2.1 e; omega
    · have := hn.2.2.2 e; omega
  · exact ⟨h.cbs.2, hl.2.2, hl.2.1, fun _ => by omega⟩
/-- where a command's step leads -/
noncomputable def stF (k : Int) (s : ByteArray) (a : Nat) : Nat :=
  if k = 14 then nxt s a else if k = 15 then pvC s a else if k = 17 then behindW (words s) a else if k = 18 then lnA s a else aheadW (words s) s.size a
theorem ahead_le {s : ByteArray} {a : Nat} (ha : a ≤ s.size) : a ≤ aheadW (words s) s.size a := by
  rcases words_ahead s a with ⟨w, h1, h2, h3⟩ | h <;> omega
theorem behind_le (s : ByteArray) (a : Nat) : behindW (words s) a ≤ a := by
  rcases words_behind s a with ⟨w, h1, h2, h3⟩ | h <;> omega
theorem stF_cb {k : Int} {s : ByteArray} {a : Nat} (ha : cbZ s a = true) : cbZ s (stF k s a) = true := by
  unfold stF
  split
  · exact (nxt_ok s a).1
  split
  · exact (pv_ok s a).1
  split
  · exact (behind_ok s a).1
  split
  · exact (lnA_ok ha).1
  · exact (ahead_ok s a).1
/-- does a kind step to the left? -/
def lefts (k : Int) : Bool := decide (k = 15 ∨ k = 17)
theorem stF_right {k : Int} {s : ByteArray} {a : Nat} (hk : lefts k = false) (ha : cbZ s a = true) : a ≤ stF k s a ∧ stF k s a ≤ s.size ∧ (a < s.size → a < stF k s a) := by
  have hal := cb_le ha
  have h1 : k ≠ 15 ∧ k ≠ 17 := by simpa [lefts] using hk
  unfold stF
  split
  · have := nxt_ok s a
    rcases Nat.lt_or_ge a s.size with e | e
    · have := this.2.2.1 e; exact ⟨by omega, by omega, fun _ => this⟩
    · have := this.2.2.2 e; exact ⟨by omega, by omega, fun _ => by omega⟩
  rw [if_neg h1.1, if_neg h1.2]
  split
  · have := lnA_ok ha; exact ⟨this.2.2.1, this.2.1, this.2.2.2⟩
  · exact ⟨ahead_le hal, (ahead_ok s a).2.1, (ahead_ok s a).2.2⟩
theorem stF_left {k : Int} {s : ByteArray} {a : Nat} (hk : lefts k = true) : stF k s a ≤ a ∧ (0 < a → stF k s a < a) := by
  have h1 : k = 15 ∨ k = 17 := by simpa [lefts] using hk
  unfold stF
  rcases h1 with rfl | rfl
  · rw [if_neg (by decide), if_pos rfl]; exact (pv_ok s a).2
  · rw [if_neg (by decide), if_neg (by decide), if_pos rfl]; exact ⟨behind_le s a, (behind_ok s a).2.2⟩
theorem rst_cb {k : Int} {s : ByteArray} (n : Nat) {a : Nat} (ha : cbZ s a = true) : cbZ s (rpt (stF k s) n a) = true := rpt_inv (P := fun a => cbZ s a = true) (fun _ h => stF_cb h) n a ha
theorem rst_right {k : Int} {s : ByteArray} (hk : lefts k = false) : ∀ (n a : Nat), cbZ s a = true → a ≤ rpt (stF k s) n a ∧ rpt (stF k s) n a ≤ s.size ∧ (0 < n → a < s.size → a < rpt (stF k s) n a)
  | 0, a, ha => ⟨Nat.le_refl _, cb_le ha, fun e => by omega⟩
  | n + 1, a, ha => by
    have h1 := stF_right hk ha
    have h2 := rst_right hk n _ (stF_cb (k := k) ha)
    rw [rpt]
    exact ⟨by omega, h2.2.1, fun _ e => by have := h1.2.2 e; omega⟩
theorem rst_left {k : Int} {s : ByteArray} (hk : lefts k = true) : ∀ (n a : Nat), rpt (stF k s) n a ≤ a ∧ (0 < n → 0 < a → rpt (stF k s) n a < a)
  | 0, a => ⟨Nat.le_refl _, fun e => by omega⟩
  | n + 1, a => by
    have h1 := stF_left (s := s) (a := a) hk
    have h2 := rst_left (s := s) hk n (stF k s a)
    rw [rpt]
    exact ⟨by omega, fun _ e => by have := h1.2 e; omega⟩
/-- a change: the edit, the cursor behind it, what is killed, whether ahead -/
structure Chg where
  at' : Nat
  cut : Nat
  put : ByteArray
  cur : Nat
  kill : ByteArray
  ahead : Bool
def chz : Chg := ⟨0, 0, ⟨#[]⟩, 0, ⟨#[]⟩, false⟩
def cutP (a to' : Nat) : Chg × Int := if to' = a then (chz, 8) else (⟨min a to', max a to' - min a to', ⟨#[]⟩, min a to', ⟨#[]⟩, false⟩, 0)
def killP (s : ByteArray) (a to' : Nat) : Chg × Int := if to' = a then (chz, 8) else (⟨min a to', max a to' - min a to', ⟨#[]⟩, min a to', s.extract (min a to') (max a to'), decide (to' < a)⟩, 0)
def copyP (s : ByteArray) (a to' : Nat) : Chg × Int := if to' = a then (chz, 8) else (⟨0, 0, ⟨#[]⟩, a, s.extract (min a to') (max a to'), false⟩, 0)
/-- what is put in the place of two pieces and what stands between them -/
def swp (s : ByteArray) (v w : Nat × Nat) : ByteArray := s.extract w.1 w.2 ++ s.extract v.2 w.1 ++ s.extract v.1 v.2
def swapP (s : ByteArray) (v w : Nat × Nat) : Chg := ⟨v.1, w.2 - v.1, swp s v w, w.2, ⟨#[]⟩, false⟩
/-- the middle of the two clusters that are changed about -/
noncomputable def midP (s : ByteArray) (a : Nat) : Nat := if a = (lnP s a).2 then pvC s a else a
noncomputable def charsP (s : ByteArray) (a : Nat) : Chg × Int := if midP s a ≤ (lnP s a).1 then (chz, 8) else (swapP s (pvC s (midP s a), midP s a) (midP s a, nxt s (midP s a)), 0)
def wordsP (s : ByteArray) (a : Nat) : Chg × Int := if (words s).length < 2 then (chz, 8) else (swapP s ((words s).getD (selI (words s) a - 1) (0, 0)) ((words s).getD (selI (words s) a) (0, 0)), 0)
/-- a text in a command's form -/
def frm (k : Int) (x : ByteArray) : ByteArray := if k = 26 then fm (fun _ => upc) x else if k = 27 then fm (fun _ => lowc) x else fm (capG (words x)) x
def caseP (k : Int) (s : ByteArray) (a to' : Nat) : Chg × Int := if to' = a then (chz, 8) else (⟨a, to' - a, frm k (s.extract a to'), a + (frm k (s.extract a to')).size, ⟨#[]⟩, false⟩, 0)
/-- is it a kind that changes a text? -/
def doesP (k : Int) : Bool := decide ((14 ≤ k ∧ k ≤ 21) ∨ (24 ≤ k ∧ k ≤ 28))
/-- what a command makes of a text, at a boundary, with a region or none -/
noncomputable def makP (k : Int) (s : ByteArray) (n a : Nat) (r : Option Nat) : Chg × Int :=
  if k = 14 ∨ k = 15 then cutP a (rpt (stF k s) n a)
  else if k = 16 ∨ k = 17 ∨ k = 18 then killP s a (rpt (stF k s) n a)
  else if k = 19 then killP s a (lnP s a).1
  else if k = 20 then (match r with | none => (chz, 7) | some r => killP s a r)
  else if k = 21 then (match r with | none => (chz, 7) | some r => copyP s a r)
  else if k = 24 then charsP s a
  else if k = 25 then wordsP s a
  else caseP k s a (rpt (stF k s) n a)
def cntP (c : Int) : Nat := (min (max c 1) 1000).toNat
theorem cnt_in (c : Int) : 1 ≤ cntP c ∧ cntP c ≤ 1000 ∧ ((cntP c : Nat) : Int) = min (max c 1) 1000 := by unfold cntP; omega
noncomputable def regP (s : ByteArray) (r : Int) : Option Nat := if r < 0 then none else some (snp s r)
noncomputable def ofP (s : ByteArray) (k c i r : Int) : Chg × Int := if doesP k then makP k s (cntP c) (snp s i) (regP s r) else (chz, 13)
end Go.Proofs.YtiejollfeggeoaaDoor
