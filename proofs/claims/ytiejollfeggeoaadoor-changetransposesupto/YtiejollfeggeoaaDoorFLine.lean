/-
  Lines, boundaries and words in pieces of a text, in plain words (facts of the texts of lines, ropes and motions). No program in this text; no conditions.
-/
import Derived.Test.YtiejollfeggeoaaDoorPkB
import Derived.Test.YtiejollfeggeoaaDoorPkC
namespace Go.Proofs.YtiejollfeggeoaaDoor
open Go.RowKit Go.Shelf Bod Wid Go.Lib

/-- the first and the last sixteen bytes -/
def hd (s : ByteArray) : ByteArray := if 16 < s.size then s.extract 0 16 else s
theorem data_extract' (s : ByteArray) (i j : Nat) : (s.extract i j).data.toList = (s.data.toList.drop i).take (j - i) := by
  rw [ByteArray.data_extract, Array.toList_extract, List.extract_eq_take_drop]
/-- the bytes 10 -/
def nls (s : ByteArray) : Nat := s.data.toList.countP (· == 10)
theorem nls_le (s : ByteArray) : nls s ≤ s.size := by
  unfold nls
  rw [Lib.size_eq]
  exact List.countP_le_length
/-- the boundary ahead, the boundary behind -/
def pvC (s : ByteArray) : Nat → Nat
  | 0 => 0
  | i + 1 => if cbZ s (i : Int) then i else pvC s i
def nxF (s : ByteArray) : Nat → Nat → Nat
  | 0, _ => s.size
  | f + 1, i => if cbZ s ((i + 1 : Nat) : Int) then i + 1 else nxF s f (i + 1)
theorem pvC_is (s : ByteArray) : ∀ i : Nat, IsPrev s (i : Int) (pvC s i)
  | 0 => ⟨cb_zero s, .inr ⟨rfl, Int.le_refl _⟩, fun j h1 h2 => by simp only [pvC] at h1; omega⟩
  | i + 1 => by
    unfold pvC
    split
    · rename_i h; exact ⟨h, .inl (by omega), fun j h1 h2 => by omega⟩
    · rename_i h
      have q := pvC_is s i
      refine ⟨q.cb, .inl ?_, fun j h1 h2 => ?_⟩
      · rcases q.dn with h | ⟨h, _⟩ <;> omega
      · by_cases e : j = i
        · rw [e]; simpa using h
        · exact q.no j h1 (by omega)
theorem nxF_is (s : ByteArray) : ∀ f i : Nat, i < s.size → s.size - i ≤ f + 1 → IsNext s (i : Int) (nxF s f i)
  | 0, i, h, k => ⟨cb_end s, .inl (by simp only [nxF]; omega), fun j h1 h2 => by simp only [nxF] at h2; omega⟩
  | f + 1, i, h, k => by
    unfold nxF
    split
    · rename_i c; exact ⟨c, .inl (by omega), fun j h1 h2 => by omega⟩
    · rename_i c
      by_cases e : i + 1 < s.size
      · have q := nxF_is s f (i + 1) e (by omega)
        refine ⟨q.cb, .inl ?_, fun j h1 h2 => ?_⟩
        · rcases q.up with h | ⟨h, _⟩ <;> omega
        · by_cases e : j = ((i + 1 : Nat) : Int)
          · rw [e]; simpa using c
          · exact q.no j (by omega) h2
      · have e' : i + 1 = s.size := by omega
        rw [e'] at c
        exact absurd (cb_end s) c
def nxC (s : ByteArray) (i : Nat) : Nat := nxF s (s.size - i) i
theorem nxC_is {s : ByteArray} {i : Nat} (h : i < s.size) : IsNext s (i : Int) (nxC s i) := nxF_is s _ i h (by omega)
theorem next_high {s : ByteArray} {i : Int} (h : (s.size : Int) ≤ i) : IsNext s i s.size := ⟨cb_end s, .inr ⟨rfl, h⟩, fun j h1 h2 => by omega⟩
/-- the bytes LF from a up to c -/
def cn (s : ByteArray) (a c : Nat) : Nat := nls (s.extract a c)
/-- the byte at i -/
def byt (s : ByteArray) (i : Nat) : UInt8 := s.data.toList.getD i 0
theorem cn_add {s : ByteArray} {a b c : Nat} (h1 : a ≤ b) (h2 : b ≤ c) : cn s a c = cn s a b + cn s b c := by
  unfold cn nls
  rw [data_extract', data_extract', data_extract', ← List.countP_append]
  congr 1
  rw [show c - a = (b - a) + (c - b) by omega, List.take_add, List.drop_drop, show a + (b - a) = b by omega]
theorem cn_self (s : ByteArray) (a : Nat) : cn s a a = 0 := by
  unfold cn nls
  rw [data_extract', Nat.sub_self, List.take_zero]; rfl
theorem cn_one {s : ByteArray} {i : Nat} (h : i < s.size) : cn s i (i + 1) = if byt s i = 10 then 1 else 0 := by
  unfold cn nls byt
  have hl : i < s.data.toList.length := by simpa using h
  rw [data_extract', show i + 1 - i = 1 by omega, List.take_one, List.head?_drop, List.getD_eq_getElem?_getD, List.getElem?_eq_getElem hl]
  simp [List.countP_cons]
theorem cn_mono {s : ByteArray} {a b c : Nat} (h1 : a ≤ b) (h2 : b ≤ c) : cn s a b ≤ cn s a c := by rw [cn_add h1 h2]; omega
theorem cn_le {s : ByteArray} {a c : Nat} (h : c ≤ s.size) : cn s a c ≤ c - a := by
  have := nls_le (s.extract a c)
  have e : (s.extract a c).size ≤ c - a := by rw [ByteArray.size_extract]; omega
  unfold cn; omega
/-- right behind the LF number k of those from a up to c, if there are so many -/
def IsB (s : ByteArray) (a c k : Nat) : Option Nat → Prop
  | some p => a < p ∧ p ≤ c ∧ byt s (p - 1) = 10 ∧ cn s a p = k
  | none => cn s a c < k
theorem IsB.uniq {s : ByteArray} {a c k : Nat} {x y : Option Nat} (hc : c ≤ s.size) (hx : IsB s a c k x) (hy : IsB s a c k y) : x = y := by
  have key : ∀ p q, IsB s a c k (some p) → IsB s a c k (some q) → p < q → False := fun p q hp hq hlt => by
    obtain ⟨p1, p2, p3, p4⟩ := hp
    obtain ⟨q1, q2, q3, q4⟩ := hq
    have e1 := cn_add (s := s) (a := a) (b := q - 1) (c := q) (by omega) (by omega)
    have e2 := cn_one (s := s) (i := q - 1) (by omega)
    rw [show q - 1 + 1 = q by omega, if_pos q3] at e2
    have e3 := cn_mono (s := s) (a := a) (b := p) (c := q - 1) (by omega) (by omega)
    omega
  match x, y, hx, hy with
  | none, none, _, _ => rfl
  | some p, none, hp, hn =>
    obtain ⟨p1, p2, p3, p4⟩ := hp
    have := cn_mono (s := s) (a := a) (b := p) (c := c) (by omega) p2
    have hn' : cn s a c < k := hn
    omega
  | none, some p, hn, hp =>
    obtain ⟨p1, p2, p3, p4⟩ := hp
    have := cn_mono (s := s) (a := a) (b := p) (c := c) (by omega) p2
    have hn' : cn s a c < k := hn
    omega
  | some p, some q, hp, hq =>
    rcases Nat.lt_trichotomy p q with h | h | h
    · exact (key p q hp hq h).elim
    · rw [h]
    · exact (key q p hq hp h).elim
/-- the line of at begins at p -/
def IsL (s : ByteArray) (at' p : Nat) : Prop := p ≤ at' ∧ (p = 0 ∨ byt s (p - 1) = 10) ∧ cn s p at' = 0
theorem IsL.uniq {s : ByteArray} {a p q : Nat} (ha : a ≤ s.size) (hp : IsL s a p) (hq : IsL s a q) : p = q := by
  have key : ∀ p q, IsL s a p → IsL s a q → p < q → False := fun p q hp hq hlt => by
    obtain ⟨p1, p2, p3⟩ := hp
    obtain ⟨q1, q2, q3⟩ := hq
    have hq4 : byt s (q - 1) = 10 := by rcases q2 with h | h; · omega
                                        · exact h
    have e1 := cn_add (s := s) (a := p) (b := q) (c := a) (by omega) q1
    have e2 := cn_add (s := s) (a := p) (b := q - 1) (c := q) (by omega) (by omega)
    have e3 := cn_one (s := s) (i := q - 1) (by omega)
    rw [show q - 1 + 1 = q by omega, if_pos hq4] at e3
    omega
  rcases Nat.lt_trichotomy p q with h | h | h
  · exact (key p q hp hq h).elim
  · exact h
  · exact (key q p hq hp h).elim
/-- where the line that begins at a ends, if the next one begins at r -/
def lend (s : ByteArray) (a : Nat) : Option Nat → Nat
  | none => s.size
  | some p => if a < p - 1 ∧ byt s (p - 2) = 13 then p - 2 else p - 1
theorem ext_one {s : ByteArray} {i : Nat} (h : i < s.size) : s.extract i (i + 1) = ⟨#[byt s i]⟩ := by
  apply ByteArray.ext
  apply Array.ext'
  rw [data_extract', show i + 1 - i = 1 by omega]
  have hl : i < s.data.toList.length := by simpa using h
  rw [List.take_one, List.head?_drop, List.getElem?_eq_getElem hl]
  simp [byt, List.getD_eq_getElem?_getD, List.getElem?_eq_getElem hl]
section
variable {w : World} {t : Value} {s : ByteArray}
/-- the line of that number begins at a -/
def IsN (s : ByteArray) (l : Int) (a : Nat) : Prop := a ≤ s.size ∧ (a = 0 ∨ byt s (a - 1) = 10) ∧ (cn s 0 a : Int) = l
/-- what span answers -/
def IsS (s : ByteArray) (l : Int) : Option (Nat × Nat) → Prop
  | some x => IsN s l x.1 ∧ ∃ r, IsB s x.1 s.size 1 r ∧ x.2 = lend s x.1 r
  | none => l < 0 ∨ (cn s 0 s.size : Int) < l
/-- span's answer as a value -/
def spa (o : Option (Nat × Nat)) : Value := .tuple #[.agg #[.int .i64 ((o.getD (0, 0)).1 : Nat), .int .i64 ((o.getD (0, 0)).2 : Nat)], .int .i64 (if o.isSome then 0 else 1)]
theorem IsS.le {l : Int} {x y : Nat} (h : IsS s l (some (x, y))) : x ≤ y ∧ y ≤ s.size := by
  obtain ⟨h1, r, h2, h3⟩ := h
  simp only at h1 h2 h3
  cases r with
  | none => rw [h3]; exact ⟨h1.1, Nat.le_refl _⟩
  | some p =>
    obtain ⟨r1, r2, -, -⟩ := h2
    rw [h3]
    unfold lend
    simp only
    split <;> omega
end
/-- the lines from a on: their spans, and where the next one begins -/
inductive Lns (s : ByteArray) (a : Nat) : List (Nat × Nat) → Option Nat → Prop
  | one {r : Option Nat} : IsB s a s.size 1 r → Lns s a [(a, lend s a r)] r
  | more {ys : List (Nat × Nat)} {p : Nat} {r : Option Nat} : Lns s a ys (some p) → IsB s p s.size 1 r → Lns s a (ys ++ [(p, lend s p r)]) r
theorem Lns.len {s : ByteArray} {a : Nat} {ys : List (Nat × Nat)} {r : Option Nat} (h : Lns s a ys r) : (ys.length ≤ s.size + 1) ∧ ∀ p, r = some p → ys.length ≤ p ∧ p ≤ s.size := by
  induction h with
  | one h =>
    refine ⟨by simp, fun p e => ?_⟩
    subst e
    obtain ⟨h1, h2, -, -⟩ := h
    simp; omega
  | more h1 h2 ih =>
    obtain ⟨i1, i2⟩ := ih.2 _ rfl
    refine ⟨by simp; omega, fun p e => ?_⟩
    subst e
    obtain ⟨h3, h4, -, -⟩ := h2
    simp; omega
theorem lf_un {s : ByteArray} {i : Nat} (h : bt s i = 10) : un s i = (10, 1) := by
  unfold un decodeN
  rw [h]
  repeat' split
  all_goals first | rfl | (exfalso; omega)
theorem lf_ch {s : ByteArray} {i : Nat} (h : bt s i = 10) : ch s i = 10 ∧ sz s i = 1 := by
  refine ⟨?_, by unfold sz; rw [lf_un h]⟩
  unfold ch
  rw [lf_un h]
  rfl
theorem cls_lf {u : Int} : cls u = 1 ↔ u = 10 := by
  constructor
  · intro h
    unfold cls at h
    repeat' split at h
    all_goals first | assumption | (exfalso; omega)
  · rintro rfl
    decide +kernel
theorem jn_lf (b : Int) : jn 10 b = false := by
  unfold jn
  split
  · simp
  · simp [cls_lf]
theorem bt_byt {s : ByteArray} {i : Nat} (h : i < s.size) : bt s i = (byt s i).toNat := by
  unfold bt byt
  rw [Utf8W.get!_of_lt s i h, List.getD_eq_getElem?_getD, Array.getElem?_toList, Array.getElem?_eq_getElem (show i < s.data.size from h), ByteArray.getElem_eq_getElem_data]
  rfl
theorem lf_bt {s : ByteArray} {i : Nat} (h : i < s.size) (hb : byt s i = 10) : bt s i = 10 := by rw [bt_byt h, hb]; rfl
theorem lf_B {s : ByteArray} {i : Nat} (h : i < s.size) (hb : byt s i = 10) : B s i := by
  have hb2 := lf_bt h hb
  refine ⟨by omega, fun k hk => ?_⟩
  rcases Nat.lt_or_ge i (k + sz s k) with e | e
  · have := cont (s := s) (i := k) (k := i) hk e
    omega
  · exact e
/-- right behind a line feed is a boundary -/
theorem lf_cb {s : ByteArray} {p : Nat} (h0 : 0 < p) (h : p ≤ s.size) (hb : byt s (p - 1) = 10) : cbZ s p = true := by
  obtain ⟨q, rfl⟩ : ∃ q, p = q + 1 := ⟨p - 1, by omega⟩
  rw [show q + 1 - 1 = q by omega] at hb
  obtain ⟨c1, c2⟩ := lf_ch (lf_bt (by omega) hb)
  by_cases e : q + 1 = s.size
  · rw [e]; exact cb_end s
  · have := cb_at (lf_B (by omega) hb) (by omega) (by omega)
    rw [c2, c1, jn_lf] at this
    exact this
/-- every offset has a line -/
theorem isL_ex {s : ByteArray} : ∀ a : Nat, a ≤ s.size → ∃ p, IsL s a p
  | 0, _ => ⟨0, Nat.le_refl _, .inl rfl, cn_self _ _⟩
  | a + 1, h => by
    by_cases hb : byt s a = 10
    · exact ⟨a + 1, Nat.le_refl _, .inr hb, cn_self _ _⟩
    · obtain ⟨p, h1, h2, h3⟩ := isL_ex (s := s) a (by omega)
      refine ⟨p, by omega, h2, ?_⟩
      rw [cn_add h1 (Nat.le_succ a), h3, cn_one (by omega), if_neg hb]
theorem ext_join {s : ByteArray} {a f b : Nat} (h1 : a ≤ f) (h2 : f ≤ b) : s.extract a b = s.extract a f ++ s.extract f b := by
  apply ByteArray.ext
  apply Array.ext'
  rw [ByteArray.data_append, Array.toList_append, data_extract', data_extract', data_extract', show b - a = (f - a) + (b - f) by omega, List.take_add, List.drop_drop, show a + (f - a) = f by omega]
theorem sub_un {s : ByteArray} {a b k : Nat} (hb : B s b) (hk : a + k < b) : un (s.extract a b) k = un s (a + k) := by
  have hbs := hb.1
  have e0 : s = s.extract 0 a ++ (s.extract a b ++ s.extract b s.size) := by
    rw [← ext_join (by omega) hbs, ← ext_join (by omega) (by omega)]
    apply ByteArray.ext
    apply Array.ext'
    rw [data_extract']
    simp [List.take_of_length_le]
  have hz0 : (s.extract 0 a).size = a := by rw [size_extract s 0 a (by omega)]; omega
  have hz1 : (s.extract a b).size = b - a := size_extract s a b hbs
  have e1 : un s (a + k) = un (s.extract a b ++ s.extract b s.size) k := by
    conv => lhs; rw [e0]
    have := un_right (s.extract 0 a) (s.extract a b ++ s.extract b s.size) k
    rw [hz0] at this
    exact this
  rw [e1]
  refine un_left _ _ k (by omega) ?_
  have h1 := hb.2 (a + k) hk
  unfold sz at h1 ⊢
  rw [← e1]
  omega
theorem sub_sz {s : ByteArray} {a b k : Nat} (hb : B s b) (hk : a + k < b) : sz (s.extract a b) k = sz s (a + k) := by unfold sz; rw [sub_un hb hk]
theorem sub_ch {s : ByteArray} {a b k : Nat} (hb : B s b) (hk : a + k < b) : ch (s.extract a b) k = ch s (a + k) := by unfold ch; rw [sub_un hb hk]
theorem sub_B {s : ByteArray} {a b k : Nat} (ha : B s a) (hb : B s b) (hk : a + k ≤ b) : B (s.extract a b) k ↔ B s (a + k) := by
  have hz := size_extract s a b hb.1
  have hbs := hb.1
  constructor
  · intro h
    refine ⟨by omega, fun i hi => ?_⟩
    rcases Nat.lt_or_ge i a with e | e
    · have := ha.2 i e; omega
    · obtain ⟨j, rfl⟩ : ∃ j, i = a + j := ⟨i - a, by omega⟩
      have := h.2 j (by omega)
      rw [sub_sz hb (by omega)] at this
      omega
  · intro h
    refine ⟨by omega, fun i hi => ?_⟩
    have := h.2 (a + i) (by omega)
    rw [sub_sz hb (by omega)]
    omega
/-- a piece between two boundaries has the boundaries of the text -/
theorem sub_cb {s : ByteArray} {a b k : Nat} (ha : cbZ s a = true) (hb : cbZ s b = true) (hk : a + k ≤ b) : cbZ (s.extract a b) k = cbZ s ((a + k : Nat) : Int) := by
  have hA : B s a := by obtain ⟨m, h1, h2⟩ := cb_B ha; rw [show a = m by omega]; exact h2
  have hB : B s b := by obtain ⟨m, h1, h2⟩ := cb_B hb; rw [show b = m by omega]; exact h2
  have hz := size_extract s a b hB.1
  have hbs := hB.1
  by_cases e0 : k = 0
  · subst e0; rw [Nat.add_zero, ha]; exact cb_zero _
  by_cases e1 : a + k = b
  · rw [e1, hb, show k = (s.extract a b).size by omega]; exact cb_end _
  by_cases hk2 : B (s.extract a b) k
  · obtain ⟨P, -, hP⟩ := us_to hk2 k 0 0 (B_zero _) (Nat.zero_le _) (by omega)
    obtain ⟨p, p1, p2, p3, -⟩ := hP (by omega)
    have q1 := (sub_B hA hB (k := p) (by omega)).1 p1
    have q2 := sub_sz (s := s) (a := a) hB (k := p) (by omega)
    have c1 := cb_at p1 p2 (by omega)
    have c2 := cb_at q1 (by omega) (by omega)
    rw [← q2, show a + p + sz (s.extract a b) p = a + k by omega, ← sub_ch hB (by omega), ← sub_ch hB (by omega)] at c2
    rw [p3] at c1
    rw [c1, c2]
  · have n1 : cbZ (s.extract a b) k = false := by
      cases h : cbZ (s.extract a b) k with
      | false => rfl
      | true => obtain ⟨m, h1, h2⟩ := cb_B h; exact absurd (by rw [show k = m by omega]; exact h2) hk2
    have n2 : cbZ s ((a + k : Nat) : Int) = false := by
      cases h : cbZ s ((a + k : Nat) : Int) with
      | false => rfl
      | true => obtain ⟨m, h1, h2⟩ := cb_B h; exact absurd ((sub_B hA hB hk).2 (by rw [show a + k = m by omega]; exact h2)) hk2
    rw [n1, n2]
/-- the cells between two boundaries -/
def cw (s : ByteArray) (a b : Nat) : Int := sumN (cl (s.extract a b))
theorem low_B {s : ByteArray} {i : Nat} (h : i < s.size) (hb : bt s i < 128) : B s i := by
  refine ⟨by omega, fun k hk => ?_⟩
  rcases Nat.lt_or_ge i (k + sz s k) with e | e
  · have := cont (s := s) (i := k) (k := i) hk e
    omega
  · exact e
theorem dec_cr (n b0 b1 b2 b3 : Nat) (h : (decodeN n b0 b1 b2 b3).1 = 13) : b0 = 13 ∧ (decodeN n b0 b1 b2 b3).2 = 1 := by
  revert h
  unfold decodeN
  repeat' split
  all_goals first | (intro h; exact ⟨h, rfl⟩) | (intro h; exfalso; simp only at h; omega)
theorem ch_cr {s : ByteArray} {i : Nat} (h : ch s i = 13) : bt s i = 13 ∧ sz s i = 1 := by
  have h1 : (un s i).1 = 13 := by
    unfold ch at h
    split at h <;> omega
  exact dec_cr _ _ _ _ _ h1
theorem cr_un {s : ByteArray} {i : Nat} (h : bt s i = 13) : un s i = (13, 1) := by
  unfold un decodeN
  rw [h]
  repeat' split
  all_goals first | rfl | (exfalso; omega)
theorem cr_ch {s : ByteArray} {i : Nat} (h : bt s i = 13) : ch s i = 13 := by
  unfold ch
  rw [cr_un h]
  rfl
theorem jn_cr (a : Int) : jn a 13 = false := by
  have : cls 13 ≠ 3 := by decide +kernel
  unfold jn
  rw [if_neg (by omega)]
  simp [this]
/-- ahead of a unit that does not join the one ahead of it -/
theorem cb_before {s : ByteArray} {i : Nat} (h0 : 0 < i) (h : i < s.size) (hB : B s i) (hj : ∀ p, B s p → p + sz s p = i → jn (ch s p) (ch s i) = false) : cbZ s i = true := by
  obtain ⟨P, -, hP⟩ := us_to hB i 0 0 (B_zero _) (Nat.zero_le _) (by omega)
  obtain ⟨p, p1, p2, p3, -⟩ := hP h0
  have := cb_at p1 p2 (by omega)
  rw [p3, hj p p1 p3] at this
  exact this
theorem cr_cb {s : ByteArray} {i : Nat} (h : i < s.size) (hb : byt s i = 13) : cbZ s i = true := by
  have hb2 : bt s i = 13 := by rw [bt_byt h, hb]; rfl
  by_cases e : i = 0
  · rw [e]; exact cb_zero s
  · exact cb_before (by omega) h (low_B h (by omega)) (fun p _ _ => by rw [cr_ch hb2]; exact jn_cr _)
theorem lf_cb0 {s : ByteArray} {i : Nat} (h0 : 0 < i) (h : i < s.size) (hb : byt s i = 10) (hn : byt s (i - 1) ≠ 13) : cbZ s i = true := by
  refine cb_before h0 h (lf_B h hb) (fun p _ hp => ?_)
  rw [(lf_ch (lf_bt h hb)).1]
  unfold jn
  rw [if_pos rfl]
  simp only [decide_eq_false_iff_not]
  intro e
  obtain ⟨e1, e2⟩ := ch_cr e
  have hpi : p = i - 1 := by omega
  rw [hpi, bt_byt (by omega)] at e1
  exact hn (UInt8.toNat_inj.1 e1)
/-- both ends of a line are boundaries -/
theorem IsS.cb {s : ByteArray} {l : Int} {a b : Nat} (h : IsS s l (some (a, b))) : cbZ s a = true ∧ cbZ s b = true := by
  have hle := h.le
  obtain ⟨h1, r, h2, h3⟩ := h
  simp only at h1 h2 h3
  have ca : cbZ s a = true := by
    by_cases e : a = 0
    · rw [e]; exact cb_zero s
    · refine lf_cb (by omega) h1.1 ?_
      rcases h1.2.1 with x | x
      · omega
      · exact x
  refine ⟨ca, ?_⟩
  cases r with
  | none => rw [h3]; exact cb_end s
  | some p =>
    obtain ⟨r1, r2, r3, -⟩ := h2
    unfold lend at h3
    simp only at h3
    by_cases e : a < p - 1 ∧ byt s (p - 2) = 13
    · rw [if_pos e] at h3
      rw [h3]
      exact cr_cb (by omega) e.2
    · rw [if_neg e] at h3
      by_cases e2 : a < p - 1
      · rw [h3]
        exact lf_cb0 (by omega) (by omega) r3 (by rw [show p - 1 - 1 = p - 2 by omega]; exact fun x => e ⟨e2, x⟩)
      · rw [show b = a by omega]; exact ca
theorem ext_ext {s : ByteArray} {f o e : Nat} (h : f + e ≤ o) : (s.extract f o).extract 0 e = s.extract f (f + e) := by
  apply ByteArray.ext
  apply Array.ext'
  rw [data_extract', data_extract', data_extract', List.drop_zero, Nat.sub_zero, List.take_take]
  congr 1
  omega
theorem isB_ex {s : ByteArray} {a : Nat} : ∀ d : Nat, a + d ≤ s.size → ∃ r, IsB s a (a + d) 1 r
  | 0, _ => ⟨none, by show cn s a (a + 0) < 1; rw [Nat.add_zero, cn_self]; omega⟩
  | d + 1, h => by
    obtain ⟨r, hr⟩ := isB_ex (s := s) (a := a) d (by omega)
    cases r with
    | some p =>
      obtain ⟨h1, h2, h3, h4⟩ := hr
      exact ⟨some p, h1, by omega, h3, h4⟩
    | none =>
      have h0 : cn s a (a + d) < 1 := hr
      have e := cn_add (s := s) (a := a) (b := a + d) (c := a + d + 1) (by omega) (by omega)
      have e1 := cn_one (s := s) (i := a + d) (by omega)
      by_cases hb : byt s (a + d) = 10
      · rw [if_pos hb] at e1
        exact ⟨some (a + d + 1), by omega, by omega, hb, by omega⟩
      · rw [if_neg hb] at e1
        exact ⟨none, by show cn s a (a + d + 1) < 1; omega⟩
theorem isB_ex' {s : ByteArray} {a : Nat} (h : a ≤ s.size) : ∃ r, IsB s a s.size 1 r := by
  have := isB_ex (s := s) (a := a) (s.size - a) (by omega)
  rw [show a + (s.size - a) = s.size by omega] at this
  exact this
theorem lns_go {s : ByteArray} {a : Nat} : ∀ (d : Nat) (ys : List (Nat × Nat)) (p : Nat), s.size - p ≤ d → Lns s a ys (some p) → ∃ zs, Lns s a zs none
  | d, ys, p, hd, h => by
    have hp := (h.len.2 p rfl).2
    obtain ⟨r, hr⟩ := isB_ex' hp
    cases r with
    | none => exact ⟨_, Lns.more h hr⟩
    | some q =>
      have h1 : p < q := hr.1
      have h2 : q ≤ s.size := hr.2.1
      cases d with
      | zero => omega
      | succ d => exact lns_go d _ q (by omega) (Lns.more h hr)
theorem lns_ex (s : ByteArray) : ∃ zs, Lns s 0 zs none := by
  obtain ⟨r, hr⟩ := isB_ex' (s := s) (Nat.zero_le _)
  cases r with
  | none => exact ⟨_, Lns.one hr⟩
  | some q => exact lns_go _ _ q (Nat.le_refl _) (Lns.one hr)
theorem Lns.ne {s : ByteArray} {a : Nat} {ys : List (Nat × Nat)} {r : Option Nat} (h : Lns s a ys r) : ys ≠ [] := by
  cases h <;> simp
theorem Lns.pre {s : ByteArray} {a : Nat} {ys : List (Nat × Nat)} {r : Option Nat} (h : Lns s a ys r) : ∀ {zs : List (Nat × Nat)} {q : Option Nat}, Lns s a zs q → ys.length = zs.length → ys = zs ∧ r = q := by
  induction h with
  | one h1 =>
    intro zs q h2 hl
    cases h2 with
    | one h3 => rw [h1.uniq (Nat.le_refl _) h3]; exact ⟨rfl, rfl⟩
    | more h3 h4 =>
      have := List.length_pos_iff.2 h3.ne
      simp only [List.length_append, List.length_cons, List.length_nil] at hl
      omega
  | more h1 h2 ih =>
    intro zs q h3 hl
    cases h3 with
    | one h4 =>
      have := List.length_pos_iff.2 h1.ne
      simp only [List.length_append, List.length_cons, List.length_nil] at hl
      omega
    | more h4 h5 =>
      obtain ⟨e1, e2⟩ := ih h4 (by simpa using hl)
      cases e2
      rw [h2.uniq (Nat.le_refl _) h5, e1]
      exact ⟨rfl, rfl⟩
theorem Lns.short {s : ByteArray} {a : Nat} {zs : List (Nat × Nat)} {q : Option Nat} (h : Lns s a zs q) : ∀ k, 1 ≤ k → k < zs.length → ∃ p, Lns s a (zs.take k) (some p) := by
  induction h with
  | one h1 => intro k h2 h3; simp at h3; omega
  | @more ys p r h1 h2 ih =>
    intro k h3 h4
    simp only [List.length_append, List.length_cons, List.length_nil] at h4
    by_cases e : k = ys.length
    · exact ⟨p, by rw [e, List.take_left]; exact h1⟩
    · obtain ⟨p', hp⟩ := ih k h3 (by omega)
      exact ⟨p', by rw [List.take_append_of_le_length (by omega)]; exact hp⟩
theorem Lns.uniq {s : ByteArray} {a : Nat} {ys zs : List (Nat × Nat)} (h : Lns s a ys none) (k : Lns s a zs none) : ys = zs := by
  have key : ∀ {ys zs : List (Nat × Nat)}, Lns s a ys none → Lns s a zs none → ¬ ys.length < zs.length := fun {ys zs} h k hlt => by
    obtain ⟨p, hp⟩ := k.short ys.length (List.length_pos_iff.2 h.ne) hlt
    have := (h.pre hp (by rw [List.length_take]; omega)).2
    cases this
  have h1 := key h k
  have h2 := key k h
  exact (h.pre k (by omega)).1
theorem IsN.uniq {s : ByteArray} {l : Int} {a b : Nat} (h : IsN s l a) (k : IsN s l b) : a = b := by
  have key : ∀ p q, IsN s l p → IsN s l q → p < q → False := fun p q hp hq hlt => by
    obtain ⟨p1, p2, p3⟩ := hp
    obtain ⟨q1, q2, q3⟩ := hq
    have q2' : byt s (q - 1) = 10 := by rcases q2 with x | x; omega; exact x
    have e1 := cn_add (s := s) (a := 0) (b := q - 1) (c := q) (by omega) (by omega)
    have e2 := cn_one (s := s) (i := q - 1) (by omega)
    rw [show q - 1 + 1 = q by omega, if_pos q2'] at e2
    have e3 := cn_mono (s := s) (a := 0) (b := p) (c := q - 1) (by omega) (by omega)
    omega
  rcases Nat.lt_trichotomy a b with e | e | e
  · exact (key a b h k e).elim
  · exact e
  · exact (key b a k h e).elim
theorem IsS.uniq {s : ByteArray} {l : Int} {x y : Option (Nat × Nat)} (hx : IsS s l x) (hy : IsS s l y) : x = y := by
  match x, y, hx, hy with
  | none, none, _, _ => rfl
  | some p, none, hp, hn =>
    obtain ⟨⟨h1, h2, h3⟩, -⟩ := hp
    have := cn_mono (s := s) (a := 0) (b := p.1) (c := s.size) (by omega) h1
    have hn' : l < 0 ∨ (cn s 0 s.size : Int) < l := hn
    omega
  | none, some p, hn, hp =>
    obtain ⟨⟨h1, h2, h3⟩, -⟩ := hp
    have := cn_mono (s := s) (a := 0) (b := p.1) (c := s.size) (by omega) h1
    have hn' : l < 0 ∨ (cn s 0 s.size : Int) < l := hn
    omega
  | some (p, p'), some (q, q'), ⟨h1, r, h2, h3⟩, ⟨k1, r', k2, k3⟩ =>
    simp only at h1 h2 h3 k1 k2 k3
    obtain rfl := h1.uniq k1
    obtain rfl := h2.uniq (Nat.le_refl _) k2
    rw [h3, k3]
theorem Lns.num' {s : ByteArray} {ys : List (Nat × Nat)} {r : Option Nat} (h : Lns s 0 ys r) : (∀ (k : Nat) (x : Nat × Nat), ys[k]? = some x → IsS s k (some x)) ∧ (∀ p, r = some p → IsN s ys.length p) ∧ (r = none → ys.length = cn s 0 s.size + 1) := by
  induction h with
  | one h =>
    rename_i r
    refine ⟨fun k x hx => ?_, fun p e => ?_, fun e => ?_⟩
    · cases k with
      | zero => simp at hx; subst hx; exact ⟨⟨Nat.zero_le _, .inl rfl, by rw [cn_self]⟩, r, h, rfl⟩
      | succ k => simp at hx
    · subst e
      obtain ⟨h1, h2, h3, h4⟩ := h
      exact ⟨h2, .inr h3, by rw [h4]; rfl⟩
    · subst e
      have h' : cn s 0 s.size < 1 := h
      simp; omega
  | more h1 h2 ih =>
    rename_i ys p r
    obtain ⟨i1, i2, -⟩ := ih
    have hp := i2 p rfl
    refine ⟨fun k x hx => ?_, fun q e => ?_, fun e => ?_⟩
    · rcases Nat.lt_trichotomy k ys.length with hk | hk | hk
      · rw [List.getElem?_append_left hk] at hx; exact i1 k x hx
      · subst hk
        simp at hx
        subst hx
        exact ⟨hp, r, h2, rfl⟩
      · rw [List.getElem?_eq_none (by simp; omega)] at hx; cases hx
    · subst e
      obtain ⟨k1, k2, k3, k4⟩ := h2
      have e1 := cn_add (s := s) (a := 0) (b := p) (c := q) (by omega) (by omega)
      have e2 := hp.2.2
      exact ⟨k2, .inr k3, by rw [e1, k4]; simp; omega⟩
    · subst e
      have h' : cn s p s.size < 1 := h2
      have e1 := cn_add (s := s) (a := 0) (b := p) (c := s.size) (by omega) hp.1
      have e2 := hp.2.2
      simp; omega
theorem Lns.isS {s : ByteArray} {ys : List (Nat × Nat)} (h : Lns s 0 ys none) (l : Int) : IsS s l (if 0 ≤ l then ys[l.toNat]? else none) := by
  obtain ⟨h1, -, h3⟩ := h.num'
  have h3 := h3 rfl
  by_cases hl : 0 ≤ l
  · rw [if_pos hl]
    cases e : ys[l.toNat]? with
    | none =>
      have := List.getElem?_eq_none_iff.1 e
      exact .inr (by omega)
    | some x =>
      have := h1 _ _ e
      rw [show ((l.toNat : Nat) : Int) = l by omega] at this
      exact this
  · rw [if_neg hl]
    exact .inl (by omega)
theorem isS_ex (s : ByteArray) (l : Int) : ∃ o, IsS s l o := by
  obtain ⟨ys, h⟩ := lns_ex s
  exact ⟨_, h.isS l⟩
def ofv (s : ByteArray) (a : Int) : Value := .tuple #[.int .i64 (if 0 ≤ a ∧ a ≤ s.size then (cn s 0 a.toNat : Int) else 0), .int .i64 (if 0 ≤ a ∧ a ≤ s.size then 0 else 1)]
theorem byt_get {s : ByteArray} {i : Nat} (h : i < s.size) : byt s i = s[i]'h := by
  obtain ⟨d⟩ := s
  have h' : i < d.size := h
  simp only [byt, List.getD_eq_getElem?_getD, Array.getElem?_toList]
  rw [Array.getElem?_eq_getElem h']
  rfl
theorem cn_pre {s : ByteArray} {a : Nat} (h : a ≤ s.size) : cn (s.extract 0 a) 0 (s.extract 0 a).size = cn s 0 a := by
  rw [size_extract s 0 a h]
  unfold cn
  rw [ext_ext (by omega)]
  congr 2
  omega
theorem cn_in {s : ByteArray} {a c i : Nat} (h : cn s a c = 0) (h1 : a ≤ i) (h2 : i < c) (hc : c ≤ s.size) : byt s i ≠ 10 := fun e => by
  have e1 := cn_add (s := s) (a := a) (b := i) (c := c) h1 (by omega)
  have e2 := cn_add (s := s) (a := i) (b := i + 1) (c := c) (by omega) (by omega)
  have e3 := cn_one (s := s) (i := i) (by omega)
  rw [if_pos e] at e3
  omega
theorem byt_ext {s : ByteArray} {a b i : Nat} (h : a + i < b) : byt (s.extract a b) i = byt s (a + i) := by
  unfold byt
  rw [data_extract', List.getD_eq_getElem?_getD, List.getD_eq_getElem?_getD, List.getElem?_take_of_lt (by omega), List.getElem?_drop]
/-- behind a line: its newline, and the next line's beginning -/
theorem IsS.nl {s : ByteArray} {l : Int} {a b p : Nat} (h : IsS s l (some (a, b))) (hp : IsB s a s.size 1 (some p)) : b < p ∧ p ≤ s.size ∧ IsNext s b p ∧ cw s b p = 0 ∧ byt s (p - 1) = 10 ∧ (p = b + 1 ∨ (p = b + 2 ∧ byt s b = 13)) ∧ IsN s (l + 1) p := by
  have hle := h.le
  obtain ⟨h1, r, h2, h3⟩ := h
  simp only at h1 h2 h3
  obtain rfl := h2.uniq (Nat.le_refl _) hp
  obtain ⟨r1, r2, r3, r4⟩ := hp
  have cp : cbZ s p = true := lf_cb (by omega) r2 r3
  have hN : IsN s (l + 1) p := by
    have e1 := cn_add (s := s) (a := 0) (b := a) (c := p) (by omega) (by omega)
    exact ⟨r2, .inr r3, by have := h1.2.2; omega⟩
  unfold lend at h3
  simp only at h3
  by_cases e : a < p - 1 ∧ byt s (p - 2) = 13
  · rw [if_pos e] at h3
    have hb : p = b + 2 := by omega
    subst hb
    have e13 : byt s b = 13 := by have := e.2; rwa [show b + 2 - 2 = b by omega] at this
    have e10 : byt s (b + 1) = 10 := by rwa [show b + 2 - 1 = b + 1 by omega] at r3
    have hx : s.extract b (b + 2) = ⟨#[13, 10]⟩ := by
      rw [ext_join (s := s) (a := b) (f := b + 1) (b := b + 2) (by omega) (by omega), ext_one (by omega), show b + 2 = (b + 1) + 1 from rfl, ext_one (by omega), e13, e10]
      rfl
    refine ⟨by omega, r2, ⟨cp, .inl (by omega), fun j j1 j2 => ?_⟩, ?_, r3, .inr ⟨rfl, e13⟩, hN⟩
    · obtain rfl : j = ((b + 1 : Nat) : Int) := by omega
      have hB : B s b := low_B (by omega) (by rw [bt_byt (by omega), e13]; decide)
      have hc : ch s b = 13 := cr_ch (by rw [bt_byt (by omega), e13]; rfl)
      have hz : sz s b = 1 := (ch_cr hc).2
      have hc2 : ch s (b + 1) = 10 := (lf_ch (lf_bt (by omega) e10)).1
      have := cb_at hB (by omega) (by omega)
      rw [hz, hc, hc2] at this
      rw [this]
      decide
    · unfold cw; rw [hx]; decide +kernel
  · rw [if_neg e] at h3
    have hb : p = b + 1 := by omega
    subst hb
    have hx : s.extract b (b + 1) = ⟨#[10]⟩ := by
      rw [ext_one (by omega)]
      rw [show b + 1 - 1 = b by omega] at r3
      rw [r3]
    refine ⟨by omega, r2, ⟨cp, .inl (by omega), fun j j1 j2 => by omega⟩, ?_, r3, .inl rfl, hN⟩
    unfold cw; rw [hx]; decide +kernel
theorem tiled_sh (d : Nat) : ∀ (l : List Clu) (i j : Nat), tiled i l j → tiled (i + d) (l.map (sh d)) (j + d)
  | [], i, j, h => by
    have e : i = j := h
    show i + d = j + d
    omega
  | c :: r, i, j, ⟨h1, h2, h3⟩ => ⟨by show c.fr + d = i + d; omega, by show i + d < c.to + d; omega, tiled_sh d r c.to j h3⟩
theorem tiled_end : ∀ (l : List Clu) (i j : Nat), tiled i l j → i ≤ j ∧ (i = j → l = [])
  | [], i, j, h => by
    have e : i = j := h
    exact ⟨by omega, fun _ => rfl⟩
  | c :: r, i, j, ⟨h1, h2, h3⟩ => by
    have := (tiled_end r c.to j h3).1
    exact ⟨by omega, fun e => by omega⟩
theorem til_app : ∀ (a b : List Clu) (i m n : Nat), tiled i a m → tiled m b n → tiled i (a ++ b) n
  | [], b, i, m, n, h, k => by
    have e : i = m := h
    rw [e]; exact k
  | c :: r, b, i, m, n, ⟨h1, h2, h3⟩, k => ⟨h1, h2, til_app r b c.to m n h3 k⟩
theorem til_mem : ∀ (l : List Clu) (i j : Nat), tiled i l j → ∀ c ∈ l, i ≤ c.fr ∧ c.fr < c.to ∧ c.to ≤ j
  | [], i, j, h, c, hc => by simp at hc
  | d :: r, i, j, ⟨h1, h2, h3⟩, c, hc => by
    have e := (tiled_end r d.to j h3).1
    rcases List.mem_cons.1 hc with rfl | hc
    · omega
    · have := til_mem r d.to j h3 c hc
      omega
theorem cut1 {s : ByteArray} {a : Nat} (ha : cbZ s a = true) : cl s = cl (s.extract 0 a) ++ (cl (s.extract a s.size)).map (sh a) := by
  obtain ⟨m, h1, h2⟩ := cb_B ha
  have hb := h2.1
  have hz : (s.extract 0 a).size = a := by rw [size_extract s 0 a (by omega)]; omega
  have ec := extract_cut s a (by omega)
  have := cl_cut (a := s.extract 0 a) (b := s.extract a s.size) (by rw [ec, hz]; exact ha)
  rw [ec, hz] at this
  exact this
/-- the clusters of a text by a piece of it -/
structure Mid (s : ByteArray) (a b : Nat) (pre post : List Clu) : Prop where
  eq : cl s = pre ++ ((cl (s.extract a b)).map (sh a) ++ post)
  l : tiled 0 pre a
  m : tiled a ((cl (s.extract a b)).map (sh a)) b
  r : tiled b post s.size
theorem mid_ex {s : ByteArray} {a b : Nat} (ha : cbZ s a = true) (hb : cbZ s b = true) (h : a ≤ b) : ∃ pre post, Mid s a b pre post := by
  obtain ⟨m, h1, h2⟩ := cb_B hb
  have hbs := h2.1
  have hx : (s.extract a s.size).size = s.size - a := size_extract s a s.size (Nat.le_refl _)
  have hz : (s.extract a b).size = b - a := size_extract s a b (by omega)
  have e1 := cut1 ha
  have hc := sub_cb (k := b - a) ha (cb_end s) (by omega)
  rw [show a + (b - a) = b by omega, hb] at hc
  have e2 := cut1 hc
  rw [ext_ext (by omega), show a + (b - a) = b by omega] at e2
  rw [e2, List.map_append] at e1
  have t1 := cl_tile (s.extract 0 a)
  rw [show (s.extract 0 a).size = a by rw [size_extract s 0 a (by omega)]; omega] at t1
  have t2 := tiled_sh a _ _ _ (cl_tile (s.extract a b))
  rw [hz, show 0 + a = a by omega, show b - a + a = b by omega] at t2
  have t3 := cl_tile ((s.extract a s.size).extract (b - a) (s.extract a s.size).size)
  rw [size_extract _ (b - a) _ (Nat.le_refl _), hx] at t3
  have t3 := tiled_sh a _ _ _ (tiled_sh (b - a) _ _ _ t3)
  rw [show 0 + (b - a) + a = b by omega, show s.size - a - (b - a) + (b - a) + a = s.size by omega] at t3
  rw [hx] at e1
  exact ⟨_, _, e1, t1, t2, t3⟩
/-- the end of the first word of a list of clusters, or n -/
def fstp (p : Clu → Bool) (n : Nat) (l : List Clu) : Nat := ((wrun p none l).head?.map (·.2)).getD n
theorem fst_nil (p : Clu → Bool) (n : Nat) : fstp p n [] = n := rfl
theorem fst_not {p : Clu → Bool} {n : Nat} {c : Clu} {r : List Clu} (h : p c = false) : fstp p n (c :: r) = fstp p n r := by simp [fstp, wrun, h]
theorem fst_in {p : Clu → Bool} {n : Nat} {c : Clu} {r : List Clu} (h : p c = true) : fstp p n (c :: r) = lastTo p c.to r := by simp [fstp, wrun, h, wrun_some]
theorem lastTo_sh (d : Nat) {p q : Clu → Bool} : ∀ (l : List Clu) (t : Nat), (∀ c ∈ l, p (sh d c) = q c) → lastTo p (t + d) (l.map (sh d)) = lastTo q t l + d
  | [], t, _ => rfl
  | c :: r, t, h => by
    have h1 := h c (by simp)
    have ih := lastTo_sh d (p := p) (q := q) r c.to (fun x hx => h x (by simp [hx]))
    simp only [List.map_cons, lastTo, h1]
    by_cases e : q c = true
    · rw [if_pos e, if_pos e]; exact ih
    · rw [if_neg e, if_neg e]
theorem fst_sh (d : Nat) {p q : Clu → Bool} (n : Nat) : ∀ (l : List Clu), (∀ c ∈ l, p (sh d c) = q c) → fstp p (n + d) (l.map (sh d)) = fstp q n l + d
  | [], _ => rfl
  | c :: r, h => by
    have h1 := h c (by simp)
    rw [List.map_cons]
    cases e : q c with
    | false => rw [fst_not e, fst_not (h1.trans e)]; exact fst_sh d n r (fun x hx => h x (by simp [hx]))
    | true => rw [fst_in e, fst_in (h1.trans e)]; exact lastTo_sh d r c.to (fun x hx => h x (by simp [hx]))
theorem lastTo_app {p : Clu → Bool} (rest : List Clu) : ∀ (l : List Clu) (i j : Nat), tiled i l j → lastTo p i l < j → lastTo p i (l ++ rest) = lastTo p i l
  | [], i, j, h, k => by
    have e : i = j := h
    have k : i < j := k
    omega
  | c :: r, i, j, ⟨h1, h2, h3⟩, k => by
    rw [List.cons_append]
    unfold lastTo at k ⊢
    by_cases e : p c = true
    · rw [if_pos e] at k; rw [if_pos e, if_pos e]; exact lastTo_app rest r c.to j h3 k
    · rw [if_neg e, if_neg e]
theorem fst_app {p : Clu → Bool} (n : Nat) (rest : List Clu) : ∀ (l : List Clu) (i j : Nat), tiled i l j → fstp p j l < j → fstp p n (l ++ rest) = fstp p j l
  | [], i, j, h, k => by rw [fst_nil] at k; omega
  | c :: r, i, j, ⟨h1, h2, h3⟩, k => by
    rw [List.cons_append]
    cases e : p c with
    | false => rw [fst_not e] at k ⊢; rw [fst_not e]; exact fst_app n rest r c.to j h3 k
    | true => rw [fst_in e] at k ⊢; rw [fst_in e]; exact lastTo_app rest r c.to j h3 k
theorem wcl_sub {s : ByteArray} {a b : Nat} (hb : cbZ s b = true) (h : a ≤ b) : ∀ c ∈ cl (s.extract a b), wcl s (sh a c) = wcl (s.extract a b) c := fun c hc => by
  obtain ⟨m, h1, h2⟩ := cb_B hb
  obtain rfl : b = m := by omega
  have hz : (s.extract a b).size = b - a := size_extract s a b h2.1
  have := til_mem _ _ _ (cl_tile (s.extract a b)) c hc
  unfold wcl
  rw [sub_ch h2 (by omega)]
  show wch (ch s (c.fr + a)) = _
  rw [Nat.add_comm]
theorem ahead_piece {s : ByteArray} {a b : Nat} (ha : cbZ s a = true) (hb : cbZ s b = true) (h : a ≤ b) (hc : a + aheadW (words (s.extract a b)) (s.extract a b).size 0 < b ∨ b = s.size) : aheadW (words s) s.size a = a + aheadW (words (s.extract a b)) (s.extract a b).size 0 := by
  obtain ⟨pre, post, hm⟩ := mid_ex ha hb h
  have hF : Fr s a pre ((cl (s.extract a b)).map (sh a) ++ post) := ⟨hm.eq.symm, hm.l, til_app _ _ _ _ _ hm.m hm.r⟩
  have hX : Fr (s.extract a b) 0 [] (cl (s.extract a b)) := ⟨rfl, rfl, cl_tile _⟩
  obtain ⟨m, h1, h2⟩ := cb_B hb
  have hbs := h2.1
  have hz : (s.extract a b).size = b - a := size_extract s a b (by omega)
  rw [ahead_first hX] at hc ⊢
  rw [ahead_first hF]
  have e := fst_sh a (p := wcl s) (q := wcl (s.extract a b)) (b - a) (cl (s.extract a b)) (wcl_sub hb h)
  rw [show b - a + a = b by omega] at e
  have ex : firstW (s.extract a b) (cl (s.extract a b)) = fstp (wcl (s.extract a b)) (b - a) (cl (s.extract a b)) := by rw [← hz]; rfl
  rw [ex] at hc ⊢
  show fstp (wcl s) s.size _ = _
  rcases hc with hc | hc
  · rw [fst_app s.size post _ a b hm.m (by omega), e, Nat.add_comm]
  · have := (tiled_end _ _ _ hm.r).2 hc
    rw [this, List.append_nil, ← hc, e, Nat.add_comm]
theorem last_sh {s x : ByteArray} {f : Nat} {init : List Clu} (hi : tiled 0 init f) : ∀ (n : Nat) (L : List Clu) (j : Nat), L.length = n → tiled 0 L j → (∀ c ∈ L, wcl s (sh f c) = wcl x c) → 0 < lastW x L → lastW s (init ++ L.map (sh f)) = lastW x L + f
  | 0, L, j, hn, ht, hw, hp => by
    have : L = [] := List.length_eq_zero_iff.1 hn
    subst this
    rw [last_nil] at hp; omega
  | n + 1, L, j, hn, ht, hw, hp => by
    rcases List.eq_nil_or_concat L with e | ⟨q, c, e⟩
    · subst e; simp at hn
    rw [List.concat_eq_append] at e
    subst e
    have hq : q.length = n := by simpa using hn
    have tS : tiled 0 (init ++ (q ++ [c]).map (sh f)) (j + f) := til_app _ _ _ f _ hi (by have := tiled_sh f _ _ _ ht; rw [Nat.zero_add] at this; exact this)
    obtain ⟨t1, t2, t3⟩ := tiled_last ht
    have hc := hw c (by simp)
    have ih := last_sh (s := s) (x := x) hi n q c.fr hq t1 (fun d hd => hw d (by simp [hd]))
    rw [List.map_append, List.map_cons, List.map_nil, ← List.append_assoc] at tS ⊢
    cases ec : wcl x c with
    | false =>
      rw [last_not ht ec] at hp ⊢
      rw [last_not tS (hc.trans ec)]
      exact ih hp
    | true =>
      rcases List.eq_nil_or_concat q with e | ⟨p, d, e⟩
      · subst e
        rw [last_new ht ec (.inl rfl)] at hp
        have : 0 = c.fr := t1
        omega
      rw [List.concat_eq_append] at e
      subst e
      have hd := hw d (by simp)
      cases ed : wcl x d with
      | true =>
        rw [last_on ht ec ed] at hp ⊢
        have ih := ih hp
        rw [List.map_append, List.map_cons, List.map_nil, ← List.append_assoc] at tS ih ⊢
        rw [last_on tS (hc.trans ec) (hd.trans ed)]
        exact ih
      | false =>
        rw [last_new ht ec (.inr ⟨p, d, rfl, ed⟩)]
        rw [last_new tS (hc.trans ec) (.inr ⟨init ++ p.map (sh f), sh f d, by simp, hd.trans ed⟩)]
        rfl
theorem behind_piece {s : ByteArray} {f a : Nat} (hf : cbZ s f = true) (ha : cbZ s a = true) (h : f ≤ a) (hc : 0 < behindW (words (s.extract f a)) (s.extract f a).size ∨ f = 0) : behindW (words s) a = f + behindW (words (s.extract f a)) (s.extract f a).size := by
  obtain ⟨pre, post, hm⟩ := mid_ex hf ha h
  have hF : Fr s a (pre ++ (cl (s.extract f a)).map (sh f)) post := ⟨by rw [hm.eq, List.append_assoc], til_app _ _ _ _ _ hm.l hm.m, hm.r⟩
  have hX : Fr (s.extract f a) (s.extract f a).size (cl (s.extract f a)) [] := ⟨by simp, cl_tile _, rfl⟩
  rw [behind_last (bh_fr hX)] at hc ⊢
  rw [behind_last (bh_fr hF)]
  rcases hc with hc | hc
  · rw [last_sh hm.l _ _ _ rfl (cl_tile _) (wcl_sub ha h) hc, Nat.add_comm]
  · subst hc
    have hp := (tiled_end _ _ _ hm.l).2 rfl
    subst hp
    have hw := wcl_sub ha h
    have e0 : ∀ c : Clu, sh 0 c = c := fun c => rfl
    have e1 : (cl (s.extract 0 a)).map (sh 0) = cl (s.extract 0 a) := by rw [show sh 0 = id from funext e0]; exact List.map_id _
    rw [List.nil_append, Nat.zero_add, e1]
    unfold lastW
    rw [wrun_congr (p := wcl s) (q := wcl (s.extract 0 a)) _ _ (fun c hc => by have := hw c hc; rwa [e0] at this)]
theorem words_ahead (s : ByteArray) (a : Nat) : (∃ w ∈ words s, a < w.2 ∧ aheadW (words s) s.size a = w.2) ∨ aheadW (words s) s.size a = s.size := by
  unfold aheadW
  cases e : (words s).find? (fun w => decide (a < w.2)) with
  | none => exact .inr rfl
  | some w => exact .inl ⟨w, List.mem_of_find?_eq_some e, by simpa using List.find?_some e, rfl⟩
theorem ahead_ok (s : ByteArray) (a : Nat) : cbZ s (aheadW (words s) s.size a : Nat) = true ∧ aheadW (words s) s.size a ≤ s.size ∧ (a < s.size → a < aheadW (words s) s.size a) := by
  have h0 := words_ahead s a
  generalize aheadW (words s) s.size a = V at h0 ⊢
  rcases h0 with ⟨w, h1, h2, rfl⟩ | rfl
  · have e1 := (words_cb h1).2
    have e2 := (words_mem h1).2
    exact ⟨e1, e2, fun _ => h2⟩
  · exact ⟨cb_end s, Nat.le_refl _, fun e => e⟩
theorem words_behind (s : ByteArray) (a : Nat) : (∃ w ∈ words s, w.1 < a ∧ behindW (words s) a = w.1) ∨ behindW (words s) a = 0 := by
  unfold behindW
  cases e : (((words s).map (·.1)).filter fun x => decide (x < a)).getLast? with
  | none => exact .inr rfl
  | some x =>
    have := List.mem_of_getLast? e
    rw [List.mem_filter, List.mem_map] at this
    obtain ⟨⟨w, h1, h2⟩, h3⟩ := this
    exact .inl ⟨w, h1, by rw [h2]; simpa using h3, h2.symm⟩
theorem behind_ok (s : ByteArray) (a : Nat) : cbZ s (behindW (words s) a : Nat) = true ∧ behindW (words s) a ≤ s.size ∧ (0 < a → behindW (words s) a < a) := by
  have h0 := words_behind s a
  generalize behindW (words s) a = V at h0 ⊢
  rcases h0 with ⟨w, h1, h2, rfl⟩ | rfl
  · have e1 := (words_cb h1).1
    have e2 := words_mem h1
    exact ⟨e1, by omega, fun _ => h2⟩
  · exact ⟨cb_zero s, Nat.zero_le _, fun e => e⟩
/-- the next boundary above a, or the end -/
def nxt (s : ByteArray) (a : Nat) : Nat := if a < s.size then nxC s a else s.size
theorem nxt_is (s : ByteArray) (a : Nat) : IsNext s a (nxt s a) := by
  unfold nxt
  split
  · exact nxC_is (by assumption)
  · exact next_high (by omega)
theorem isSnap_ex (s : ByteArray) (i : Int) : ∃ m : Nat, IsSnap s i m := by
  by_cases h0 : i < 0
  · exact ⟨0, cb_zero s, .inl (by omega), fun j _ h2 => cb_out (.inl h2)⟩
  · obtain ⟨a, rfl⟩ := Int.eq_ofNat_of_zero_le (show 0 ≤ i by omega)
    cases hc : cbZ s a with
    | true => exact ⟨a, IsSnap.self hc⟩
    | false => exact ⟨_, (nxt_is s a).snap hc⟩
noncomputable def snp (s : ByteArray) (i : Int) : Nat := Classical.choose (isSnap_ex s i)
theorem snp_is (s : ByteArray) (i : Int) : IsSnap s i (snp s i) := Classical.choose_spec (isSnap_ex s i)
theorem snp_le (s : ByteArray) (i : Int) : snp s i ≤ s.size := by obtain ⟨m, h1, h2⟩ := cb_B (snp_is s i).cb; have := h2.1; omega
theorem snp_self {s : ByteArray} {a : Nat} (h : cbZ s a = true) : snp s a = a := (snp_is s a).uniq (IsSnap.self h)
theorem cb_le {s : ByteArray} {a : Nat} (h : cbZ s a = true) : a ≤ s.size := by obtain ⟨m, h1, h2⟩ := cb_B h; have := h2.1; omega
/-- a boundary in its line -/
structure Pl (s : ByteArray) (at' p b : Nat) : Prop where
  sp : IsS s (cn s 0 at' : Int) (some (p, b))
  lo : p ≤ at'
  hi : at' ≤ b
  cb : cbZ s at' = true
  l : IsL s at' p
theorem pl_ex {s : ByteArray} {n : Nat} (hc : cbZ s n = true) : ∃ p b, Pl s n p b := by
  have hn := cb_le hc
  obtain ⟨p, hp⟩ := isL_ex (s := s) n hn
  have hp0 := hp
  obtain ⟨p1, p2, p3⟩ := hp
  have e1 := cn_add (s := s) (a := 0) (b := p) (c := n) (by omega) p1
  have hN : IsN s (cn s 0 n : Int) p := ⟨by omega, p2, by omega⟩
  obtain ⟨o, ho⟩ := isS_ex s (cn s 0 n : Int)
  cases o with
  | none =>
    have h' : (cn s 0 n : Int) < 0 ∨ (cn s 0 s.size : Int) < (cn s 0 n : Int) := ho
    have := cn_mono (s := s) (a := 0) (b := n) (c := s.size) (by omega) hn
    omega
  | some x =>
    obtain ⟨a, b⟩ := x
    obtain rfl : a = p := ho.1.uniq hN
    refine ⟨a, b, ho, p1, ?_, hc, hp0⟩
    rcases Nat.lt_or_ge b n with hb | hb
    · have ho' := ho
      obtain ⟨-, r, hr, hl⟩ := ho
      simp only at hr hl
      cases r with
      | none => have : b = s.size := hl; omega
      | some q =>
        obtain ⟨k1, k2, k3, k4, k5, k6, k7⟩ := ho'.nl hr
        have hq : n < q := by
          rcases Nat.lt_or_ge n q with e | e
          · exact e
          · have := cn_mono (s := s) (a := a) (b := q) (c := n) (by have := hr.1; omega) e
            have := hr.2.2.2
            omega
        have := k3.no n (by omega) (by omega)
        rw [hc] at this; cases this
    · exact hb
end Go.Proofs.YtiejollfeggeoaaDoor
