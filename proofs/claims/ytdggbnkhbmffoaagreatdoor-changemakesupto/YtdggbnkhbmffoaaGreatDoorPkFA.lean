/-
  Lines, words and changes of a text, in plain words. No program is walked in this text; no conditions.
-/
import Derived.Test.YtdggbnkhbmffoaaGreatDoorPkB
import Derived.Test.YtdggbnkhbmffoaaGreatDoorPkC
namespace Go.Proofs.YtdggbnkhbmffoaaGreatDoor
open Go.RowKit Go.Shelf Bod Wid Go.Lib

/-- the first and the last sixteen bytes -/
def hd (s : ByteArray) : ByteArray := if 16 < s.size then s.extract 0 16 else s
theorem data_extract' (s : ByteArray) (i j : Nat) : (s.extract i j).data.toList = (s.data.toList.drop i).take (j - i) := by
  rw [ByteArray.data_extract, Array.toList_extract, List.extract_eq_take_drop]
/-- the bytes 10 -/
def nls (s : ByteArray) : Nat := s.data.toList.countP (· == 10)
theorem nls_le (s : ByteArray) : nls s ≤ s.size := by
  unfold nls
  rw [Lib.size_eq]
  exact List.countP_le_length
/-- the boundary ahead, the boundary behind -/
def pvC (s : ByteArray) : Nat → Nat
  | 0 => 0
  | i + 1 => if cbZ s (i : Int) then i else pvC s i
def nxF (s : ByteArray) : Nat → Nat → Nat
  | 0, _ => s.size
  | f + 1, i => if cbZ s ((i + 1 : Nat) : Int) then i + 1 else nxF s f (i + 1)
theorem pvC_is (s : ByteArray) : ∀ i : Nat, IsPrev s (i : Int) (pvC s i)
  | 0 => ⟨cb_zero s, .inr ⟨rfl, Int.le_refl _⟩, fun j h1 h2 => by simp only [pvC] at h1; omega⟩
  | i + 1 => by
    unfold pvC
    split
    · rename_i h; exact ⟨h, .inl (by omega), fun j h1 h2 => by omega⟩
    · rename_i h
      have q := pvC_is s i
      refine ⟨q.cb, .inl ?_, fun j h1 h2 => ?_⟩
      · rcases q.dn with h | ⟨h, _⟩ <;> omega
      · by_cases e : j = i
        · rw [e]; simpa using h
        · exact q.no j h1 (by omega)
theorem nxF_is (s : ByteArray) : ∀ f i : Nat, i < s.size → s.size - i ≤ f + 1 → IsNext s (i : Int) (nxF s f i)
  | 0, i, h, k => ⟨cb_end s, .inl (by simp only [nxF]; omega), fun j h1 h2 => by simp only [nxF] at h2; omega⟩
  | f + 1, i, h, k => by
    unfold nxF
    split
    · rename_i c; exact ⟨c, .inl (by omega), fun j h1 h2 => by omega⟩
    · rename_i c
      by_cases e : i + 1 < s.size
      · have q := nxF_is s f (i + 1) e (by omega)
        refine ⟨q.cb, .inl ?_, fun j h1 h2 => ?_⟩
        · rcases q.up with h | ⟨h, _⟩ <;> omega
        · by_cases e : j = ((i + 1 : Nat) : Int)
          · rw [e]; simpa using c
          · exact q.no j (by omega) h2
      · have e' : i + 1 = s.size := by omega
        rw [e'] at c
        exact absurd (cb_end s) c
def nxC (s : ByteArray) (i : Nat) : Nat := nxF s (s.size - i) i
theorem nxC_is {s : ByteArray} {i : Nat} (h : i < s.size) : IsNext s (i : Int) (nxC s i) := nxF_is s _ i h (by omega)
theorem next_high {s : ByteArray} {i : Int} (h : (s.size : Int) ≤ i) : IsNext s i s.size := ⟨cb_end s, .inr ⟨rfl, h⟩, fun j h1 h2 => by omega⟩
/-- the bytes LF from a up to c -/
def cn (s : ByteArray) (a c : Nat) : Nat := nls (s.extract a c)
/-- the byte at i -/
def byt (s : ByteArray) (i : Nat) : UInt8 := s.data.toList.getD i 0
theorem cn_add {s : ByteArray} {a b c : Nat} (h1 : a ≤ b) (h2 : b ≤ c) : cn s a c = cn s a b + cn s b c := by
  unfold cn nls
  rw [data_extract', data_extract', data_extract', ← List.countP_append]
  congr 1
  rw [show c - a = (b - a) + (c - b) by omega, List.take_add, List.drop_drop, show a + (b - a) = b by omega]
theorem cn_self (s : ByteArray) (a : Nat) : cn s a a = 0 := by
  unfold cn nls
  rw [data_extract', Nat.sub_self, List.take_zero]; rfl
theorem cn_one {s : ByteArray} {i : Nat} (h : i < s.size) : cn s i (i + 1) = if byt s i = 10 then 1 else 0 := by
  unfold cn nls byt
  have hl : i < s.data.toList.length := by simpa using h
  rw [data_extract', show i + 1 - i = 1 by omega, List.take_one, List.head?_drop, List.getD_eq_getElem?_getD, List.getElem?_eq_getElem hl]
  simp [List.countP_cons]
theorem cn_mono {s : ByteArray} {a b c : Nat} (h1 : a ≤ b) (h2 : b ≤ c) : cn s a b ≤ cn s a c := by rw [cn_add h1 h2]; omega
theorem cn_le {s : ByteArray} {a c : Nat} (h : c ≤ s.size) : cn s a c ≤ c - a := by
  have := nls_le (s.extract a c)
  have e : (s.extract a c).size ≤ c - a := by rw [ByteArray.size_extract]; omega
  unfold cn; omega
/-- right behind the LF number k of those from a up to c, if there are so many -/
def IsB (s : ByteArray) (a c k : Nat) : Option Nat → Prop
  | some p => a < p ∧ p ≤ c ∧ byt s (p - 1) = 10 ∧ cn s a p = k
  | none => cn s a c < k
theorem IsB.uniq {s : ByteArray} {a c k : Nat} {x y : Option Nat} (hc : c ≤ s.size) (hx : IsB s a c k x) (hy : IsB s a c k y) : x = y := by
  have key : ∀ p q, IsB s a c k (some p) → IsB s a c k (some q) → p < q → False := fun p q hp hq hlt => by
    obtain ⟨p1, p2, p3, p4⟩ := hp
    obtain ⟨q1, q2, q3, q4⟩ := hq
    have e1 := cn_add (s := s) (a := a) (b := q - 1) (c := q) (by omega) (by omega)
    have e2 := cn_one (s := s) (i := q - 1) (by omega)
    rw [show q - 1 + 1 = q by omega, if_pos q3] at e2
    have e3 := cn_mono (s := s) (a := a) (b := p) (c := q - 1) (by omega) (by omega)
    omega
  match x, y, hx, hy with
  | none, none, _, _ => rfl
  | some p, none, hp, hn =>
    obtain ⟨p1, p2, p3, p4⟩ := hp
    have := cn_mono (s := s) (a := a) (b := p) (c := c) (by omega) p2
    have hn' : cn s a c < k := hn
    omega
  | none, some p, hn, hp =>
    obtain ⟨p1, p2, p3, p4⟩ := hp
    have := cn_mono (s := s) (a := a) (b := p) (c := c) (by omega) p2
    have hn' : cn s a c < k := hn
    omega
  | some p, some q, hp, hq =>
    rcases Nat.lt_trichotomy p q with h | h | h
    · exact (key p q hp hq h).elim
    · rw [h]
    · exact (key q p hq hp h).elim
/-- the line of at begins at p -/
def IsL (s : ByteArray) (at' p : Nat) : Prop := p ≤ at' ∧ (p = 0 ∨ byt s (p - 1) = 10) ∧ cn s p at' = 0
theorem IsL.uniq {s : ByteArray} {a p q : Nat} (ha : a ≤ s.size) (hp : IsL s a p) (hq : IsL s a q) : p = q := by
  have key : ∀ p q, IsL s a p → IsL s a q → p < q → False := fun p q hp hq hlt => by
    obtain ⟨p1, p2, p3⟩ := hp
    obtain ⟨q1, q2, q3⟩ := hq
    have hq4 : byt s (q - 1) = 10 := by rcases q2 with h | h; · omega
                                        · exact h
    have e1 := cn_add (s := s) (a := p) (b := q) (c := a) (by omega) q1
    have e2 := cn_add (s := s) (a := p) (b := q - 1) (c := q) (by omega) (by omega)
    have e3 := cn_one (s := s) (i := q - 1) (by omega)
    rw [show q - 1 + 1 = q by omega, if_pos hq4] at e3
    omega
  rcases Nat.lt_trichotomy p q with h | h | h
  · exact (key p q hp hq h).elim
  · exact h
  · exact (key q p hq hp h).elim
/-- where the line that begins at a ends, if the next one begins at r -/
def lend (s : ByteArray) (a : Nat) : Option Nat → Nat
  | none => s.size
  | some p => if a < p - 1 ∧ byt s (p - 2) = 13 then p - 2 else p - 1
theorem ext_one {s : ByteArray} {i : Nat} (h : i < s.size) : s.extract i (i + 1) = ⟨#[byt s i]⟩ := by
  apply ByteArray.ext
  apply Array.ext'
  rw [data_extract', show i + 1 - i = 1 by omega]
  have hl : i < s.data.toList.length := by simpa using h
  rw [List.take_one, List.head?_drop, List.getElem?_eq_getElem hl]
  simp [byt, List.getD_eq_getElem?_getD, List.getElem?_eq_getElem hl]
section
variable {w : World} {t : Value} {s : ByteArray}
/-- the line of that number begins at a -/
def IsN (s : ByteArray) (l : Int) (a : Nat) : Prop := a ≤ s.size ∧ (a = 0 ∨ byt s (a - 1) = 10) ∧ (cn s 0 a : Int) = l
/-- what span answers -/
def IsS (s : ByteArray) (l : Int) : Option (Nat × Nat) → Prop
  | some x => IsN s l x.1 ∧ ∃ r, IsB s x.1 s.size 1 r ∧ x.2 = lend s x.1 r
  | none => l < 0 ∨ (cn s 0 s.size : Int) < l
/-- span's answer as a value -/
def spa (o : Option (Nat × Nat)) : Value := .tuple #[.agg #[.int .i64 ((o.getD (0, 0)).1 : Nat), .int .i64 ((o.getD (0, 0)).2 : Nat)], .int .i64 (if o.isSome then 0 else 1)]
theorem IsS.le {l : Int} {x y : Nat} (h : IsS s l (some (x, y))) : x ≤ y ∧ y ≤ s.size := by
  obtain ⟨h1, r, h2, h3⟩ := h
  simp only at h1 h2 h3
  cases r with
  | none => rw [h3]; exact ⟨h1.1, Nat.le_refl _⟩
  | some p =>
    obtain ⟨r1, r2, -, -⟩ := h2
    rw [h3]
    unfold lend
    simp only
    split <;> omega
end
/-- the lines from a on: their spans, and where the next one begins -/
inductive Lns (s : ByteArray) (a : Nat) : List (Nat × Nat) → Option Nat → Prop
  | one {r : Option Nat} : IsB s a s.size 1 r → Lns s a [(a, lend s a r)] r
  | more {ys : List (Nat × Nat)} {p : Nat} {r : Option Nat} : Lns s a ys (some p) → IsB s p s.size 1 r → Lns s a (ys ++ [(p, lend s p r)]) r
theorem Lns.len {s : ByteArray} {a : Nat} {ys : List (Nat × Nat)} {r : Option Nat} (h : Lns s a ys r) : (ys.length ≤ s.size + 1) ∧ ∀ p, r = some p → ys.length ≤ p ∧ p ≤ s.size := by
  induction h with
  | one h =>
    refine ⟨by simp, fun p e => ?_⟩
    subst e
    obtain ⟨h1, h2, -, -⟩ := h
    simp; omega
  | more h1 h2 ih =>
    obtain ⟨i1, i2⟩ := ih.2 _ rfl
    refine ⟨by simp; omega, fun p e => ?_⟩
    subst e
    obtain ⟨h3, h4, -, -⟩ := h2
    simp; omega
theorem lf_un {s : ByteArray} {i : Nat} (h : bt s i = 10) : un s i = (10, 1) := by
  unfold un decodeN
  rw [h]
  repeat' split
  all_goals first | rfl | (exfalso; omega)
theorem lf_ch {s : ByteArray} {i : Nat} (h : bt s i = 10) : ch s i = 10 ∧ sz s i = 1 := by
  refine ⟨?_, by unfold sz; rw [lf_un h]⟩
  unfold ch
  rw [lf_un h]
  rfl
theorem cls_lf {u : Int} : cls u = 1 ↔ u = 10 := by
  constructor
  · intro h
    unfold cls at h
    repeat' split at h
    all_goals first | assumption | (exfalso; omega)
  · rintro rfl
    decide +kernel
theorem jn_lf (b : Int) : jn 10 b = false := by
  unfold jn
  split
  · simp
  · simp [cls_lf]
theorem bt_byt {s : ByteArray} {i : Nat} (h : i < s.size) : bt s i = (byt s i).toNat := by
  unfold bt byt
  rw [Utf8W.get!_of_lt s i h, List.getD_eq_getElem?_getD, Array.getElem?_toList, Array.getElem?_eq_getElem (show i < s.data.size from h), ByteArray.getElem_eq_getElem_data]
  rfl
theorem lf_bt {s : ByteArray} {i : Nat} (h : i < s.size) (hb : byt s i = 10) : bt s i = 10 := by rw [bt_byt h, hb]; rfl
theorem lf_B {s : ByteArray} {i : Nat} (h : i < s.size) (hb : byt s i = 10) : B s i := by
  have hb2 := lf_bt h hb
  refine ⟨by omega, fun k hk => ?_⟩
  rcases Nat.lt_or_ge i (k + sz s k) with e | e
  · have := cont (s := s) (i := k) (k := i) hk e
    omega
  · exact e
/-- right behind a line feed is a boundary -/
theorem lf_cb {s : ByteArray} {p : Nat} (h0 : 0 < p) (h : p ≤ s.size) (hb : byt s (p - 1) = 10) : cbZ s p = true := by
  obtain ⟨q, rfl⟩ : ∃ q, p = q + 1 := ⟨p - 1, by omega⟩
  rw [show q + 1 - 1 = q by omega] at hb
  obtain ⟨c1, c2⟩ := lf_ch (lf_bt (by omega) hb)
  by_cases e : q + 1 = s.size
  · rw [e]; exact cb_end s
  · have := cb_at (lf_B (by omega) hb) (by omega) (by omega)
    rw [c2, c1, jn_lf] at this
    exact this
/-- every offset has a line -/
theorem isL_ex {s : ByteArray} : ∀ a : Nat, a ≤ s.size → ∃ p, IsL s a p
  | 0, _ => ⟨0, Nat.le_refl _, .inl rfl, cn_self _ _⟩
  | a + 1, h => by
    by_cases hb : byt s a = 10
    · exact ⟨a + 1, Nat.le_refl _, .inr hb, cn_self _ _⟩
    · obtain ⟨p, h1, h2, h3⟩ := isL_ex (s := s) a (by omega)
      refine ⟨p, by omega, h2, ?_⟩
      rw [cn_add h1 (Nat.le_succ a), h3, cn_one (by omega), if_neg hb]
theorem ext_join {s : ByteArray} {a f b : Nat} (h1 : a ≤ f) (h2 : f ≤ b) : s.extract a b = s.extract a f ++ s.extract f b := by
  apply ByteArray.ext
  apply Array.ext'
  rw [ByteArray.data_append, Array.toList_append, data_extract', data_extract', data_extract', show b - a = (f - a) + (b - f) by omega, List.take_add, List.drop_drop, show a + (f - a) = f by omega]
theorem sub_un {s : ByteArray} {a b k : Nat} (hb : B s b) (hk : a + k < b) : un (s.extract a b) k = un s (a + k) := by
  have hbs := hb.1
  have e0 : s = s.extract 0 a ++ (s.extract a b ++ s.extract b s.size) := by
    rw [← ext_join (by omega) hbs, ← ext_join (by omega) (by omega)]
    apply ByteArray.ext
    apply Array.ext'
    rw [data_extract']
    simp [List.take_of_length_le]
  have hz0 : (s.extract 0 a).size = a := by rw [size_extract s 0 a (by omega)]; omega
  have hz1 : (s.extract a b).size = b - a := size_extract s a b hbs
  have e1 : un s (a + k) = un (s.extract a b ++ s.extract b s.size) k := by
    conv => lhs; rw [e0]
    have := un_right (s.extract 0 a) (s.extract a b ++ s.extract b s.size) k
    rw [hz0] at this
    exact this
  rw [e1]
  refine un_left _ _ k (by omega) ?_
  have h1 := hb.2 (a + k) hk
  unfold sz at h1 ⊢
  rw [← e1]
  omega
theorem sub_sz {s : ByteArray} {a b k : Nat} (hb : B s b) (hk : a + k < b) : sz (s.extract a b) k = sz s (a + k) := by unfold sz; rw [sub_un hb hk]
theorem sub_ch {s : ByteArray} {a b k : Nat} (hb : B s b) (hk : a + k < b) : ch (s.extract a b) k = ch s (a + k) := by unfold ch; rw [sub_un hb hk]
theorem sub_B {s : ByteArray} {a b k : Nat} (ha : B s a) (hb : B s b) (hk : a + k ≤ b) : B (s.extract a b) k ↔ B s (a + k) := by
  have hz := size_extract s a b hb.1
  have hbs := hb.1
  constructor
  · intro h
    refine ⟨by omega, fun i hi => ?_⟩
    rcases Nat.lt_or_ge i a with e | e
    · have := ha.2 i e; omega
    · obtain ⟨j, rfl⟩ : ∃ j, i = a + j := ⟨i - a, by omega⟩
      have := h.2 j (by omega)
      rw [sub_sz hb (by omega)] at this
      omega
  · intro h
    refine ⟨by omega, fun i hi => ?_⟩
    have := h.2 (a + i) (by omega)
    rw [sub_sz hb (by omega)]
    omega
/-- a piece between two boundaries has the boundaries of the text -/
theorem sub_cb {s : ByteArray} {a b k : Nat} (ha : cbZ s a = true) (hb : cbZ s b = true) (hk : a + k ≤ b) : cbZ (s.extract a b) k = cbZ s ((a + k : Nat) : Int) := by
  have hA : B s a := by obtain ⟨m, h1, h2⟩ := cb_B ha; rw [show a = m by omega]; exact h2
  have hB : B s b := by obtain ⟨m, h1, h2⟩ := cb_B hb; rw [show b = m by omega]; exact h2
  have hz := size_extract s a b hB.1
  have hbs := hB.1
  by_cases e0 : k = 0
  · subst e0; rw [Nat.add_zero, ha]; exact cb_zero _
  by_cases e1 : a + k = b
  · rw [e1, hb, show k = (s.extract a b).size by omega]; exact cb_end _
  by_cases hk2 : B (s.extract a b) k
  · obtain ⟨P, -, hP⟩ := us_to hk2 k 0 0 (B_zero _) (Nat.zero_le _) (by omega)
    obtain ⟨p, p1, p2, p3, -⟩ := hP (by omega)
    have q1 := (sub_B hA hB (k := p) (by omega)).1 p1
    have q2 := sub_sz (s := s) (a := a) hB (k := p) (by omega)
    have c1 := cb_at p1 p2 (by omega)
    have c2 := cb_at q1 (by omega) (by omega)
    rw [← q2, show a + p + sz (s.extract a b) p = a + k by omega, ← sub_ch hB (by omega), ← sub_ch hB (by omega)] at c2
    rw [p3] at c1
    rw [c1, c2]
  · have n1 : cbZ (s.extract a b) k = false := by
      cases h : cbZ (s.extract a b) k with
      | false => rfl
      | true => obtain ⟨m, h1, h2⟩ := cb_B h; exact absurd (by rw [show k = m by omega]; exact h2) hk2
    have n2 : cbZ s ((a + k : Nat) : Int) = false := by
      cases h : cbZ s ((a + k : Nat) : Int) with
      | false => rfl
      | true => obtain ⟨m, h1, h2⟩ := cb_B h; exact absurd ((sub_B hA hB hk).2 (by rw [show a + k = m by omega]; exact h2)) hk2
    rw [n1, n2]
/-- the cells between two boundaries -/
def cw (s : ByteArray) (a b : Nat) : Int := sumN (cl (s.extract a b))
theorem low_B {s : ByteArray} {i : Nat} (h : i < s.size) (hb : bt s i < 128) : B s i := by
  refine ⟨by omega, fun k hk => ?_⟩
  rcases Nat.lt_or_ge i (k + sz s k) with e | e
  · have := cont (s := s) (i := k) (k := i) hk e
    omega
  · exact e
theorem dec_cr (n b0 b1 b2 b3 : Nat) (h : (decodeN n b0 b1 b2 b3).1 = 13) : b0 = 13 ∧ (decodeN n b0 b1 b2 b3).2 = 1 := by
  revert h
  unfold decodeN
  repeat' split
  all_goals first | (intro h; exact ⟨h, rfl⟩) | (intro h; exfalso; simp only at h; omega)
theorem ch_cr {s : ByteArray} {i : Nat} (h : ch s i = 13) : bt s i = 13 ∧ sz s i = 1 := by
  have h1 : (un s i).1 = 13 := by
    unfold ch at h
    split at h <;> omega
  exact dec_cr _ _ _ _ _ h1
theorem cr_un {s : ByteArray} {i : Nat} (h : bt s i = 13) : un s i = (13, 1) := by
  unfold un decodeN
  rw [h]
  repeat' split
  all_goals first | rfl | (exfalso; omega)
theorem cr_ch {s : ByteArray} {i : Nat} (h : bt s i = 13) : ch s i = 13 := by
  unfold ch
  rw [cr_un h]
  rfl
theorem jn_cr (a : Int) : jn a 13 = false := by
  have : cls 13 ≠ 3 := by decide +kernel
  unfold jn
  rw [if_neg (by omega)]
  simp [this]
/-- ahead of a unit that does not join the one ahead of it -/
theorem cb_before {s : ByteArray} {i : Nat} (h0 : 0 < i) (h : i < s.size) (hB : B s i) (hj : ∀ p, B s p → p + sz s p = i → jn (ch s p) (ch s i) = false) : cbZ s i = true := by
  obtain ⟨P, -, hP⟩ := us_to hB i 0 0 (B_zero _) (Nat.zero_le _) (by omega)
  obtain ⟨p, p1, p2, p3, -⟩ := hP h0
  have := cb_at p1 p2 (by omega)
  rw [p3, hj p p1 p3] at this
  exact this
theorem cr_cb {s : ByteArray} {i : Nat} (h : i < s.size) (hb : byt s i = 13) : cbZ s i = true := by
  have hb2 : bt s i = 13 := by rw [bt_byt h, hb]; rfl
  by_cases e : i = 0
  · rw [e]; exact cb_zero s
  · exact cb_before (by omega) h (low_B h (by omega)) (fun p _ _ => by rw [cr_ch hb2]; exact jn_cr _)
theorem lf_cb0 {s : ByteArray} {i : Nat} (h0 : 0 < i) (h : i < s.size) (hb : byt s i = 10) (hn : byt s (i - 1) ≠ 13) : cbZ s i = true := by
  refine cb_before h0 h (lf_B h hb) (fun p _ hp => ?_)
  rw [(lf_ch (lf_bt h hb)).1]
  unfold jn
  rw [if_pos rfl]
  simp only [decide_eq_false_iff_not]
  intro e
  obtain ⟨e1, e2⟩ := ch_cr e
  have hpi : p = i - 1 := by omega
  rw [hpi, bt_byt (by omega)] at e1
  exact hn (UInt8.toNat_inj.1 e1)
/-- both ends of a line are boundaries -/
theorem IsS.cb {s : ByteArray} {l : Int} {a b : Nat} (h : IsS s l (some (a, b))) : cbZ s a = true ∧ cbZ s b = true := by
  have hle := h.le
  obtain ⟨h1, r, h2, h3⟩ := h
  simp only at h1 h2 h3
  have ca : cbZ s a = true := by
    by_cases e : a = 0
    · rw [e]; exact cb_zero s
    · refine lf_cb (by omega) h1.1 ?_
      rcases h1.2.1 with x | x
      · omega
      · exact x
  refine ⟨ca, ?_⟩
  cases r with
  | none => rw [h3]; exact cb_end s
  | some p =>
    obtain ⟨r1, r2, r3, -⟩ := h2
    unfold lend at h3
    simp only at h3
    by_cases e : a < p - 1 ∧ byt s (p - 2) = 13
    · rw [if_pos e] at h3
      rw [h3]
      exact cr_cb (by omega) e.2
    · rw [if_neg e] at h3
      by_cases e2 : a < p - 1
      · rw [h3]
        exact lf_cb0 (by omega) (by omega) r3 (by rw [show p - 1 - 1 = p - 2 by omega]; exact fun x => e ⟨e2, x⟩)
      · rw [show b = a by omega]; exact ca
theorem ext_ext {s : ByteArray} {f o e : Nat} (h : f + e ≤ o) : (s.extract f o).extract 0 e = s.extract f (f + e) := by
  apply ByteArray.ext
  apply Array.ext'
  rw [data_extract', data_extract', data_extract', List.drop_zero, Nat.sub_zero, List.take_take]
  congr 1
  omega
theorem isB_ex {s : ByteArray} {a : Nat} : ∀ d : Nat, a + d ≤ s.size → ∃ r, IsB s a (a + d) 1 r
  | 0, _ => ⟨none, by show cn s a (a + 0) < 1; rw [Nat.add_zero, cn_self]; omega⟩
  | d + 1, h => by
    obtain ⟨r, hr⟩ := isB_ex (s := s) (a := a) d (by omega)
    cases r with
    | some p =>
      obtain ⟨h1, h2, h3, h4⟩ := hr
      exact ⟨some p, h1, by omega, h3, h4⟩
    | none =>
      have h0 : cn s a (a + d) < 1 := hr
      have e := cn_add (s := s) (a := a) (b := a + d) (c := a + d + 1) (by omega) (by omega)
      have e1 := cn_one (s := s) (i := a + d) (by omega)
      by_cases hb : byt s (a + d) = 10
      · rw [if_pos hb] at e1
        exact ⟨some (a + d + 1), by omega, by omega, hb, by omega⟩
      · rw [if_neg hb] at e1
        exact ⟨none, by show cn s a (a + d + 1) < 1; omega⟩
theorem isB_ex' {s : ByteArray} {a : Nat} (h : a ≤ s.size) : ∃ r, IsB s a s.size 1 r := by
  have := isB_ex (s := s) (a := a) (s.size - a) (by omega)
  rw [show a + (s.size - a) = s.size by omega] at this
  exact this
theorem lns_go {s : ByteArray} {a : Nat} : ∀ (d : Nat) (ys : List (Nat × Nat)) (p : Nat), s.size - p ≤ d → Lns s a ys (some p) → ∃ zs, Lns s a zs none
  | d, ys, p, hd, h => by
    have hp := (h.len.2 p rfl).2
    obtain ⟨r, hr⟩ := isB_ex' hp
    cases r with
    | none => exact ⟨_, Lns.more h hr⟩
    | some q =>
      have h1 : p < q := hr.1
      have h2 : q ≤ s.size := hr.2.1
      cases d with
      | zero => omega
      | succ d => exact lns_go d _ q (by omega) (Lns.more h hr)
theorem lns_ex (s : ByteArray) : ∃ zs, Lns s 0 zs none := by
  obtain ⟨r, hr⟩ := isB_ex' (s := s) (Nat.zero_le _)
  cases r with
  | none => exact ⟨_, Lns.one hr⟩
  | some q => exact lns_go _ _ q (Nat.le_refl _) (Lns.one hr)
theorem Lns.ne {s : ByteArray} {a : Nat} {ys : List (Nat × Nat)} {r : Option Nat} (h : Lns s a ys r) : ys ≠ [] := by
  cases h <;> simp
theorem Lns.pre {s : ByteArray} {a : Nat} {ys : List (Nat × Nat)} {r : Option Nat} (h : Lns s a ys r) : ∀ {zs : List (Nat × Nat)} {q : Option Nat}, Lns s a zs q → ys.length = zs.length → ys = zs ∧ r = q := by
  induction h with
  | one h1 =>
    intro zs q h2 hl
    cases h2 with
    | one h3 => rw [h1.uniq (Nat.le_refl _) h3]; exact ⟨rfl, rfl⟩
    | more h3 h4 =>
      have := List.length_pos_iff.2 h3.ne
      simp only [List.length_append, List.length_cons, List.length_nil] at hl
      omega
  | more h1 h2 ih =>
    intro zs q h3 hl
    cases h3 with
    | one h4 =>
      have := List.length_pos_iff.2 h1.ne
      simp only [List.length_append, List.length_cons, List.length_nil] at hl
      omega
    | more h4 h5 =>
      obtain ⟨e1, e2⟩ := ih h4 (by simpa using hl)
      cases e2
      rw [h2.uniq (Nat.le_refl _) h5, e1]
      exact ⟨rfl, rfl⟩
theorem Lns.short {s : ByteArray} {a : Nat} {zs : List (Nat × Nat)} {q : Option Nat} (h : Lns s a zs q) : ∀ k, 1 ≤ k → k < zs.length → ∃ p, Lns s a (zs.take k) (some p) := by
  induction h with
  | one h1 => intro k h2 h3; simp at h3; omega
  | @more ys p r h1 h2 ih =>
    intro k h3 h4
    simp only [List.length_append, List.length_cons, List.length_nil] at h4
    by_cases e : k = ys.length
    · exact ⟨p, by rw [e, List.take_left]; exact h1⟩
    · obtain ⟨p', hp⟩ := ih k h3 (by omega)
      exact ⟨p', by rw [List.take_append_of_le_length (by omega)]; exact hp⟩
theorem Lns.uniq {s : ByteArray} {a : Nat} {ys zs : List (Nat × Nat)} (h : Lns s a ys none) (k : Lns s a zs none) : ys = zs := by
  have key : ∀ {ys zs : List (Nat × Nat)}, Lns s a ys none → Lns s a zs none → ¬ ys.length < zs.length := fun {ys zs} h k hlt => by
    obtain ⟨p, hp⟩ := k.short ys.length (List.length_pos_iff.2 h.ne) hlt
    have := (h.pre hp (by rw [List.length_take]; omega)).2
    cases this
  have h1 := key h k
  have h2 := key k h
  exact (h.pre k (by omega)).1
theorem IsN.uniq {s : ByteArray} {l : Int} {a b : Nat} (h : IsN s l a) (k : IsN s l b) : a = b := by
  have key : ∀ p q, IsN s l p → IsN s l q → p < q → False := fun p q hp hq hlt => by
    obtain ⟨p1, p2, p3⟩ := hp
    obtain ⟨q1, q2, q3⟩ := hq
    have q2' : byt s (q - 1) = 10 := by rcases q2 with x | x; omega; exact x
    have e1 := cn_add (s := s) (a := 0) (b := q - 1) (c := q) (by omega) (by omega)
    have e2 := cn_one (s := s) (i := q - 1) (by omega)
    rw [show q - 1 + 1 = q by omega, if_pos q2'] at e2
    have e3 := cn_mono (s := s) (a := 0) (b := p) (c := q - 1) (by omega) (by omega)
    omega
  rcases Nat.lt_trichotomy a b with e | e | e
  · exact (key a b h k e).elim
  · exact e
  · exact (key b a k h e).elim
theorem IsS.uniq {s : ByteArray} {l : Int} {x y : Option (Nat × Nat)} (hx : IsS s l x) (hy : IsS s l y) : x = y := by
  match x, y, hx, hy with
  | none, none, _, _ => rfl
  | some p, none, hp, hn =>
    obtain ⟨⟨h1, h2, h3⟩, -⟩ := hp
    have := cn_mono (s := s) (a := 0) (b := p.1) (c := s.size) (by omega) h1
    have hn' : l < 0 ∨ (cn s 0 s.size : Int) < l := hn
    omega
  | none, some p, hn, hp =>
    obtain ⟨⟨h1, h2, h3⟩, -⟩ := hp
    have := cn_mono (s := s) (a := 0) (b := p.1) (c := s.size) (by omega) h1
    have hn' : l < 0 ∨ (cn s 0 s.size : Int) < l := hn
    omega
  | some (p, p'), some (q, q'), ⟨h1, r, h2, h3⟩, ⟨k1, r', k2, k3⟩ =>
    simp only at h1 h2 h3 k1 k2 k3
    obtain rfl := h1.uniq k1
    obtain rfl := h2.uniq (Nat.le_refl _) k2
    rw [h3, k3]
theorem Lns.num' {s : ByteArray} {ys : List (Nat × Nat)} {r : Option Nat} (h : Lns s 0 ys r) : (∀ (k : Nat) (x : Nat × Nat), ys[k]? = some x → IsS s k (some x)) ∧ (∀ p, r = some p → IsN s ys.length p) ∧ (r = none → ys.length = cn s 0 s.size + 1) := by
  induction h with
  | one h =>
    rename_i r
    refine ⟨fun k x hx => ?_, fun p e => ?_, fun e => ?_⟩
    · cases k with
      | zero => simp at hx; subst hx; exact ⟨⟨Nat.zero_le _, .inl rfl, by rw [cn_self]⟩, r, h, rfl⟩
      | succ k => simp at hx
    · subst e
      obtain ⟨h1, h2, h3, h4⟩ := h
      exact ⟨h2, .inr h3, by rw [h4]; rfl⟩
    · subst e
      have h' : cn s 0 s.size < 1 := h
      simp; omega
  | more h1 h2 ih =>
    rename_i ys p r
    obtain ⟨i1, i2, -⟩ := ih
    have hp := i2 p rfl
    refine ⟨fun k x hx => ?_, fun q e => ?_, fun e => ?_⟩
    · rcases Nat.lt_trichotomy k ys.length with hk | hk | hk
      · rw [List.getElem?_append_left hk] at hx; exact i1 k x hx
      · subst hk
        simp at hx
        subst hx
        exact ⟨hp, r, h2, rfl⟩
      · rw [List.getElem?_eq_none (by simp; omega)] at hx; cases hx
    · subst e
      obtain ⟨k1, k2, k3, k4⟩ := h2
      have e1 := cn_add (s := s) (a := 0) (b := p) (c := q) (by omega) (by omega)
      have e2 := hp.2.2
      exact ⟨k2, .inr k3, by rw [e1, k4]; simp; omega⟩
    · subst e
      have h' : cn s p s.size < 1 := h2
      have e1 := cn_add (s := s) (a := 0) (b := p) (c := s.size) (by omega) hp.1
      have e2 := hp.2.2
      simp; omega
theorem Lns.isS {s : ByteArray} {ys : List (Nat × Nat)} (h : Lns s 0 ys none) (l : Int) : IsS s l (if 0 ≤ l then ys[l.toNat]? else none) := by
  obtain ⟨h1, -, h3⟩ := h.num'
  have h3 := h3 rfl
  by_cases hl : 0 ≤ l
  · rw [if_pos hl]
    cases e : ys[l.toNat]? with
    | none =>
      have := List.getElem?_eq_none_iff.1 e
      exact .inr (by omega)
    | some x =>
      have := h1 _ _ e
      rw [show ((l.toNat : Nat) : Int) = l by omega] at this
      exact this
  · rw [if_neg hl]
    exact .inl (by omega)
theorem isS_ex (s : ByteArray) (l : Int) : ∃ o, IsS s l o := by
  obtain ⟨ys, h⟩ := lns_ex s
  exact ⟨_, h.isS l⟩
def ofv (s : ByteArray) (a : Int) : Value := .tuple #[.int .i64 (if 0 ≤ a ∧ a ≤ s.size then (cn s 0 a.toNat : Int) else 0), .int .i64 (if 0 ≤ a ∧ a ≤ s.size then 0 else 1)]
theorem byt_get {s : ByteArray} {i : Nat} (h : i < s.size) : byt s i = s[i]'h := by
  obtain ⟨d⟩ := s
  have h' : i < d.size := h
  simp only [byt, List.getD_eq_getElem?_getD, Array.getElem?_toList]
  rw [Array.getElem?_eq_getElem h']
  rfl
theorem cn_pre {s : ByteArray} {a : Nat} (h : a ≤ s.size) : cn (s.extract 0 a) 0 (s.extract 0 a).size = cn s 0 a := by
  rw [size_extract s 0 a h]
  unfold cn
  rw [ext_ext (by omega)]
  congr 2
  omega
theorem cn_in {s : ByteArray} {a c i : Nat} (h : cn s a c = 0) (h1 : a ≤ i) (h2 : i < c) (hc : c ≤ s.size) : byt s i ≠ 10 := fun e => by
  have e1 := cn_add (s := s) (a := a) (b := i) (c := c) h1 (by omega)
  have e2 := cn_add (s := s) (a := i) (b := i + 1) (c := c) (by omega) (by omega)
  have e3 := cn_one (s := s) (i := i) (by omega)
  rw [if_pos e] at e3
  omega
theorem byt_ext {s : ByteArray} {a b i : Nat} (h : a + i < b) : byt (s.extract a b) i = byt s (a + i) := by
  unfold byt
  rw [data_extract', List.getD_eq_getElem?_getD, List.getD_eq_getElem?_getD, List.getElem?_take_of_lt (by omega), List.getElem?_drop]
/-- behind a line: its newline, and the next line's beginning -/
theorem IsS.nl {s : ByteArray} {l : Int} {a b p : Nat} (h : IsS s l (some (a, b))) (hp : IsB s a s.size 1 (some p)) : b < p ∧ p ≤ s.size ∧ IsNext s b p ∧ cw s b p = 0 ∧ byt s (p - 1) = 10 ∧ (p = b + 1 ∨ (p = b + 2 ∧ byt s b = 13)) ∧ IsN s (l + 1) p := by
  have hle := h.le
  obtain ⟨h1, r, h2, h3⟩ := h
  simp only at h1 h2 h3
  obtain rfl := h2.uniq (Nat.le_refl _) hp
  obtain ⟨r1, r2, r3, r4⟩ := hp
  have cp : cbZ s p = true := lf_cb (by omega) r2 r3
  have hN : IsN s (l + 1) p := by
    have e1 := cn_add (s := s) (a := 0) (b := a) (c := p) (by omega) (by omega)
    exact ⟨r2, .inr r3, by have := h1.2.2; omega⟩
  unfold lend at h3
  simp only at h3
  by_cases e : a < p - 1 ∧ byt s (p - 2) = 13
  · rw [if_pos e] at h3
    have hb : p = b + 2 := by omega
    subst hb
    have e13 : byt s b = 13 := by have := e.2; rwa [show b + 2 - 2 = b by omega] at this
    have e10 : byt s (b + 1) = 10 := by rwa [show b + 2 - 1 = b + 1 by omega] at r3
    have hx : s.extract b (b + 2) = ⟨#[13, 10]⟩ := by
      rw [ext_join (s := s) (a := b) (f := b + 1) (b := b + 2) (by omega) (by omega), ext_one (by omega), show b + 2 = (b + 1) + 1 from rfl, ext_one (by omega), e13, e10]
      rfl
    refine ⟨by omega, r2, ⟨cp, .inl (by omega), fun j j1 j2 => ?_⟩, ?_, r3, .inr ⟨rfl, e13⟩, hN⟩
    · obtain rfl : j = ((b + 1 : Nat) : Int) := by omega
      have hB : B s b := low_B (by omega) (by rw [bt_byt (by omega), e13]; decide)
      have hc : ch s b = 13 := cr_ch (by rw [bt_byt (by omega), e13]; rfl)
      have hz : sz s b = 1 := (ch_cr hc).2
      have hc2 : ch s (b + 1) = 10 := (lf_ch (lf_bt (by omega) e10)).1
      have := cb_at hB (by omega) (by omega)
      rw [hz, hc, hc2] at this
      rw [this]
      decide
    · unfold cw; rw [hx]; decide +kernel
  · rw [if_neg e] at h3
    have hb : p = b + 1 := by omega
    subst hb
    have hx : s.extract b (b + 1) = ⟨#[10]⟩ := by
      rw [ext_one (by omega)]
      rw [show b + 1 - 1 = b by omega] at r3
      rw [r3]
    refine ⟨by omega, r2, ⟨cp, .inl (by omega), fun j j1 j2 => by omega⟩, ?_, r3, .inl rfl, hN⟩
    unfold cw; rw [hx]; decide +kernel
theorem tiled_sh (d : Nat) : ∀ (l : List Clu) (i j : Nat), tiled i l j → tiled (i + d) (l.map (sh d)) (j + d)
  | [], i, j, h => by
    have e : i = j := h
    show i + d = j + d
    omega
  | c :: r, i, j, ⟨h1, h2, h3⟩ => ⟨by show c.fr + d = i + d; omega, by show i + d < c.to + d; omega, tiled_sh d r c.to j h3⟩
theorem tiled_end : ∀ (l : List Clu) (i j : Nat), tiled i l j → i ≤ j ∧ (i = j → l = [])
  | [], i, j, h => by
    have e : i = j := h
    exact ⟨by omega, fun _ => rfl⟩
  | c :: r, i, j, ⟨h1, h2, h3⟩ => by
    have := (tiled_end r c.to j h3).1
    exact ⟨by omega, fun e => by omega⟩
theorem til_app : ∀ (a b : List Clu) (i m n : Nat), tiled i a m → tiled m b n → tiled i (a ++ b) n
  | [], b, i, m, n, h, k => by
    have e : i = m := h
    rw [e]; exact k
  | c :: r, b, i, m, n, ⟨h1, h2, h3⟩, k => ⟨h1, h2, til_app r b c.to m n h3 k⟩
theorem til_mem : ∀ (l : List Clu) (i j : Nat), tiled i l j → ∀ c ∈ l, i ≤ c.fr ∧ c.fr < c.to ∧ c.to ≤ j
  | [], i, j, h, c, hc => by simp at hc
  | d :: r, i, j, ⟨h1, h2, h3⟩, c, hc => by
    have e := (tiled_end r d.to j h3).1
    rcases List.mem_cons.1 hc with rfl | hc
    · omega
    · have := til_mem r d.to j h3 c hc
      omega
theorem cut1 {s : ByteArray} {a : Nat} (ha : cbZ s a = true) : cl s = cl (s.extract 0 a) ++ (cl (s.extract a s.size)).map (sh a) := by
  obtain ⟨m, h1, h2⟩ := cb_B ha
  have hb := h2.1
  have hz : (s.extract 0 a).size = a := by rw [size_extract s 0 a (by omega)]; omega
  have ec := extract_cut s a (by omega)
  have := cl_cut (a := s.extract 0 a) (b := s.extract a s.size) (by rw [ec, hz]; exact ha)
  rw [ec, hz] at this
  exact this
/-- the clusters of a text by a piece of it -/
structure Mid (s : ByteArray) (a b : Nat) (pre post : List Clu) : Prop where
  eq : cl s = pre ++ ((cl (s.extract a b)).map (sh a) ++ post)
  l : tiled 0 pre a
  m : tiled a ((cl (s.extract a b)).map (sh a)) b
  r : tiled b post s.size
theorem mid_ex {s : ByteArray} {a b : Nat} (ha : cbZ s a = true) (hb : cbZ s b = true) (h : a ≤ b) : ∃ pre post, Mid s a b pre post := by
  obtain ⟨m, h1, h2⟩ := cb_B hb
  have hbs := h2.1
  have hx : (s.extract a s.size).size = s.size - a := size_extract s a s.size (Nat.le_refl _)
  have hz : (s.extract a b).size = b - a := size_extract s a b (by omega)
  have e1 := cut1 ha
  have hc := sub_cb (k := b - a) ha (cb_end s) (by omega)
  rw [show a + (b - a) = b by omega, hb] at hc
  have e2 := cut1 hc
  rw [ext_ext (by omega), show a + (b - a) = b by omega] at e2
  rw [e2, List.map_append] at e1
  have t1 := cl_tile (s.extract 0 a)
  rw [show (s.extract 0 a).size = a by rw [size_extract s 0 a (by omega)]; omega] at t1
  have t2 := tiled_sh a _ _ _ (cl_tile (s.extract a b))
  rw [hz, show 0 + a = a by omega, show b - a + a = b by omega] at t2
  have t3 := cl_tile ((s.extract a s.size).extract (b - a) (s.extract a s.size).size)
  rw [size_extract _ (b - a) _ (Nat.le_refl _), hx] at t3
  have t3 := tiled_sh a _ _ _ (tiled_sh (b - a) _ _ _ t3)
  rw [show 0 + (b - a) + a = b by omega, show s.size - a - (b - a) + (b - a) + a = s.size by omega] at t3
  rw [hx] at e1
  exact ⟨_, _, e1, t1, t2, t3⟩
/-- the end of the first word of a list of clusters, or n -/
def fstp (p : Clu → Bool) (n : Nat) (l : List Clu) : Nat := ((wrun p none l).head?.map (·.2)).getD n
theorem fst_nil (p : Clu → Bool) (n : Nat) : fstp p n [] = n := rfl
theorem fst_not {p : Clu → Bool} {n : Nat} {c : Clu} {r : List Clu} (h : p c = false) : fstp p n (c :: r) = fstp p n r := by simp [fstp, wrun, h]
theorem fst_in {p : Clu → Bool} {n : Nat} {c : Clu} {r : List Clu} (h : p c = true) : fstp p n (c :: r) = lastTo p c.to r := by simp [fstp, wrun, h, wrun_some]
theorem lastTo_sh (d : Nat) {p q : Clu → Bool} : ∀ (l : List Clu) (t : Nat), (∀ c ∈ l, p (sh d c) = q c) → lastTo p (t + d) (l.map (sh d)) = lastTo q t l + d
  | [], t, _ => rfl
  | c :: r, t, h => by
    have h1 := h c (by simp)
    have ih := lastTo_sh d (p := p) (q := q) r c.to (fun x hx => h x (by simp [hx]))
    simp only [List.map_cons, lastTo, h1]
    by_cases e : q c = true
    · rw [if_pos e, if_pos e]; exact ih
    · rw [if_neg e, if_neg e]
theorem fst_sh (d : Nat) {p q : Clu → Bool} (n : Nat) : ∀ (l : List Clu), (∀ c ∈ l, p (sh d c) = q c) → fstp p (n + d) (l.map (sh d)) = fstp q n l + d
  | [], _ => rfl
  | c :: r, h => by
    have h1 := h c (by simp)
    rw [List.map_cons]
    cases e : q c with
    | false => rw [fst_not e, fst_not (h1.trans e)]; exact fst_sh d n r (fun x hx => h x (by simp [hx]))
    | true => rw [fst_in e, fst_in (h1.trans e)]; exact lastTo_sh d r c.to (fun x hx => h x (by simp [hx]))
theorem lastTo_app {p : Clu → Bool} (rest : List Clu) : ∀ (l : List Clu) (i j : Nat), tiled i l j → lastTo p i l < j → lastTo p i (l ++ rest) = lastTo p i l
  | [], i, j, h, k => by
    have e : i = j := h
    have k : i < j := k
    omega
  | c :: r, i, j, ⟨h1, h2, h3⟩, k => by
    rw [List.cons_append]
    unfold lastTo at k ⊢
    by_cases e : p c = true
    · rw [if_pos e] at k; rw [if_pos e, if_pos e]; exact lastTo_app rest r c.to j h3 k
    · rw [if_neg e, if_neg e]
theorem fst_app {p : Clu → Bool} (n : Nat) (rest : List Clu) : ∀ (l : List Clu) (i j : Nat), tiled i l j → fstp p j l < j → fstp p n (l ++ rest) = fstp p j l
  | [], i, j, h, k => by rw [fst_nil] at k; omega
  | c :: r, i, j, ⟨h1, h2, h3⟩, k => by
    rw [List.cons_append]
    cases e : p c with
    | false => rw [fst_not e] at k ⊢; rw [fst_not e]; exact fst_app n rest r c.to j h3 k
    | true => rw [fst_in e] at k ⊢; rw [fst_in e]; exact lastTo_app rest r c.to j h3 k
theorem wcl_sub {s : ByteArray} {a b : Nat} (hb : cbZ s b = true) (h : a ≤ b) : ∀ c ∈ cl (s.extract a b), wcl s (sh a c) = wcl (s.extract a b) c := fun c hc => by
  obtain ⟨m, h1, h2⟩ := cb_B hb
  obtain rfl : b = m := by omega
  have hz : (s.extract a b).size = b - a := size_extract s a b h2.1
  have := til_mem _ _ _ (cl_tile (s.extract a b)) c hc
  unfold wcl
  rw [sub_ch h2 (by omega)]
  show wch (ch s (c.fr + a)) = _
  rw [Nat.add_comm]
theorem ahead_piece {s : ByteArray} {a b : Nat} (ha : cbZ s a = true) (hb : cbZ s b = true) (h : a ≤ b) (hc : a + aheadW (words (s.extract a b)) (s.extract a b).size 0 < b ∨ b = s.size) : aheadW (words s) s.size a = a + aheadW (words (s.extract a b)) (s.extract a b).size 0 := by
  obtain ⟨pre, post, hm⟩ := mid_ex ha hb h
  have hF : Fr s a pre ((cl (s.extract a b)).map (sh a) ++ post) := ⟨hm.eq.symm, hm.l, til_app _ _ _ _ _ hm.m hm.r⟩
  have hX : Fr (s.extract a b) 0 [] (cl (s.extract a b)) := ⟨rfl, rfl, cl_tile _⟩
  obtain ⟨m, h1, h2⟩ := cb_B hb
  have hbs := h2.1
  have hz : (s.extract a b).size = b - a := size_extract s a b (by omega)
  rw [ahead_first hX] at hc ⊢
  rw [ahead_first hF]
  have e := fst_sh a (p := wcl s) (q := wcl (s.extract a b)) (b - a) (cl (s.extract a b)) (wcl_sub hb h)
  rw [show b - a + a = b by omega] at e
  have ex : firstW (s.extract a b) (cl (s.extract a b)) = fstp (wcl (s.extract a b)) (b - a) (cl (s.extract a b)) := by rw [← hz]; rfl
  rw [ex] at hc ⊢
  show fstp (wcl s) s.size _ = _
  rcases hc with hc | hc
  · rw [fst_app s.size post _ a b hm.m (by omega), e, Nat.add_comm]
  · have := (tiled_end _ _ _ hm.r).2 hc
    rw [this, List.append_nil, ← hc, e, Nat.add_comm]
theorem last_sh {s x : ByteArray} {f : Nat} {init : List Clu} (hi : tiled 0 init f) : ∀ (n : Nat) (L : List Clu) (j : Nat), L.length = n → tiled 0 L j → (∀ c ∈ L, wcl s (sh f c) = wcl x c) → 0 < lastW x L → lastW s (init ++ L.map (sh f)) = lastW x L + f
  | 0, L, j, hn, ht, hw, hp => by
    have : L = [] := List.length_eq_zero_iff.1 hn
    subst this
    rw [last_nil] at hp; omega
  | n + 1, L, j, hn, ht, hw, hp => by
    rcases List.eq_nil_or_concat L with e | ⟨q, c, e⟩
    · subst e; simp at hn
    rw [List.concat_eq_append] at e
    subst e
    have hq : q.length = n := by simpa using hn
    have tS : tiled 0 (init ++ (q ++ [c]).map (sh f)) (j + f) := til_app _ _ _ f _ hi (by have := tiled_sh f _ _ _ ht; rw [Nat.zero_add] at this; exact this)
    obtain ⟨t1, t2, t3⟩ := tiled_last ht
    have hc := hw c (by simp)
    have ih := last_sh (s := s) (x := x) hi n q c.fr hq t1 (fun d hd => hw d (by simp [hd]))
    rw [List.map_append, List.map_cons, List.map_nil, ← List.append_assoc] at tS ⊢
    cases ec : wcl x c with
    | false =>
      rw [last_not ht ec] at hp ⊢
      rw [last_not tS (hc.trans ec)]
      exact ih hp
    | true =>
      rcases List.eq_nil_or_concat q with e | ⟨p, d, e⟩
      · subst e
        rw [last_new ht ec (.inl rfl)] at hp
        have : 0 = c.fr := t1
        omega
      rw [List.concat_eq_append] at e
      subst e
      have hd := hw d (by simp)
      cases ed : wcl x d with
      | true =>
        rw [last_on ht ec ed] at hp ⊢
        have ih := ih hp
        rw [List.map_append, List.map_cons, List.map_nil, ← List.append_assoc] at tS ih ⊢
        rw [last_on tS (hc.trans ec) (hd.trans ed)]
        exact ih
      | false =>
        rw [last_new ht ec (.inr ⟨p, d, rfl, ed⟩)]
        rw [last_new tS (hc.trans ec) (.inr ⟨init ++ p.map (sh f), sh f d, by simp, hd.trans ed⟩)]
        rfl
theorem behind_piece {s : ByteArray} {f a : Nat} (hf : cbZ s f = true) (ha : cbZ s a = true) (h : f ≤ a) (hc : 0 < behindW (words (s.extract f a)) (s.extract f a).size ∨ f = 0) : behindW (words s) a = f + behindW (words (s.extract f a)) (s.extract f a).size := by
  obtain ⟨pre, post, hm⟩ := mid_ex hf ha h
  have hF : Fr s a (pre ++ (cl (s.extract f a)).map (sh f)) post := ⟨by rw [hm.eq, List.append_assoc], til_app _ _ _ _ _ hm.l hm.m, hm.r⟩
  have hX : Fr (s.extract f a) (s.extract f a).size (cl (s.extract f a)) [] := ⟨by simp, cl_tile _, rfl⟩
  rw [behind_last (bh_fr hX)] at hc ⊢
  rw [behind_last (bh_fr hF)]
  rcases hc with hc | hc
  · rw [last_sh hm.l _ _ _ rfl (cl_tile _) (wcl_sub ha h) hc, Nat.add_comm]
  · subst hc
    have hp := (tiled_end _ _ _ hm.l).2 rfl
    subst hp
    have hw := wcl_sub ha h
    have e0 : ∀ c : Clu, sh 0 c = c := fun c => rfl
    have e1 : (cl (s.extract 0 a)).map (sh 0) = cl (s.extract 0 a) := by rw [show sh 0 = id from funext e0]; exact List.map_id _
    rw [List.nil_append, Nat.zero_add, e1]
    unfold lastW
    rw [wrun_congr (p := wcl s) (q := wcl (s.extract 0 a)) _ _ (fun c hc => by have := hw c hc; rwa [e0] at this)]
theorem words_ahead (s : ByteArray) (a : Nat) : (∃ w ∈ words s, a < w.2 ∧ aheadW (words s) s.size a = w.2) ∨ aheadW (words s) s.size a = s.size := by
  unfold aheadW
  cases e : (words s).find? (fun w => decide (a < w.2)) with
  | none => exact .inr rfl
  | some w => exact .inl ⟨w, List.mem_of_find?_eq_some e, by simpa using List.find?_some e, rfl⟩
theorem ahead_ok (s : ByteArray) (a : Nat) : cbZ s (aheadW (words s) s.size a : Nat) = true ∧ aheadW (words s) s.size a ≤ s.size ∧ (a < s.size → a < aheadW (words s) s.size a) := by
  have h0 := words_ahead s a
  generalize aheadW (words s) s.size a = V at h0 ⊢
  rcases h0 with ⟨w, h1, h2, rfl⟩ | rfl
  · have e1 := (words_cb h1).2
    have e2 := (words_mem h1).2
    exact ⟨e1, e2, fun _ => h2⟩
  · exact ⟨cb_end s, Nat.le_refl _, fun e => e⟩
theorem words_behind (s : ByteArray) (a : Nat) : (∃ w ∈ words s, w.1 < a ∧ behindW (words s) a = w.1) ∨ behindW (words s) a = 0 := by
  unfold behindW
  cases e : (((words s).map (·.1)).filter fun x => decide (x < a)).getLast? with
  | none => exact .inr rfl
  | some x =>
    have := List.mem_of_getLast? e
    rw [List.mem_filter, List.mem_map] at this
    obtain ⟨⟨w, h1, h2⟩, h3⟩ := this
    exact .inl ⟨w, h1, by rw [h2]; simpa using h3, h2.symm⟩
theorem behind_ok (s : ByteArray) (a : Nat) : cbZ s (behindW (words s) a : Nat) = true ∧ behindW (words s) a ≤ s.size ∧ (0 < a → behindW (words s) a < a) := by
  have h0 := words_behind s a
  generalize behindW (words s) a = V at h0 ⊢
  rcases h0 with ⟨w, h1, h2, rfl⟩ | rfl
  · have e1 := (words_cb h1).1
    have e2 := words_mem h1
    exact ⟨e1, by omega, fun _ => h2⟩
  · exact ⟨cb_zero s, Nat.zero_le _, fun e => e⟩
/-- the next boundary above a, or the end -/
def nxt (s : ByteArray) (a : Nat) : Nat := if a < s.size then nxC s a else s.size
theorem nxt_is (s : ByteArray) (a : Nat) : IsNext s a (nxt s a) := by
  unfold nxt
  split
  · exact nxC_is (by assumption)
  · exact next_high (by omega)
theorem isSnap_ex (s : ByteArray) (i : Int) : ∃ m : Nat, IsSnap s i m := by
  by_cases h0 : i < 0
  · exact ⟨0, cb_zero s, .inl (by omega), fun j _ h2 => cb_out (.inl h2)⟩
  · obtain ⟨a, rfl⟩ := Int.eq_ofNat_of_zero_le (show 0 ≤ i by omega)
    cases hc : cbZ s a with
    | true => exact ⟨a, IsSnap.self hc⟩
    | false => exact ⟨_, (nxt_is s a).snap hc⟩
noncomputable def snp (s : ByteArray) (i : Int) : Nat := Classical.choose (isSnap_ex s i)
theorem snp_is (s : ByteArray) (i : Int) : IsSnap s i (snp s i) := Classical.choose_spec (isSnap_ex s i)
theorem snp_le (s : ByteArray) (i : Int) : snp s i ≤ s.size := by obtain ⟨m, h1, h2⟩ := cb_B (snp_is s i).cb; have := h2.1; omega
theorem snp_self {s : ByteArray} {a : Nat} (h : cbZ s a = true) : snp s a = a := (snp_is s a).uniq (IsSnap.self h)
theorem cb_le {s : ByteArray} {a : Nat} (h : cbZ s a = true) : a ≤ s.size := by obtain ⟨m, h1, h2⟩ := cb_B h; have := h2.1; omega
/-- a boundary in its line -/
structure Pl (s : ByteArray) (at' p b : Nat) : Prop where
  sp : IsS s (cn s 0 at' : Int) (some (p, b))
  lo : p ≤ at'
  hi : at' ≤ b
  cb : cbZ s at' = true
  l : IsL s at' p
theorem pl_ex {s : ByteArray} {n : Nat} (hc : cbZ s n = true) : ∃ p b, Pl s n p b := by
  have hn := cb_le hc
  obtain ⟨p, hp⟩ := isL_ex (s := s) n hn
  have hp0 := hp
  obtain ⟨p1, p2, p3⟩ := hp
  have e1 := cn_add (s := s) (a := 0) (b := p) (c := n) (by omega) p1
  have hN : IsN s (cn s 0 n : Int) p := ⟨by omega, p2, by omega⟩
  obtain ⟨o, ho⟩ := isS_ex s (cn s 0 n : Int)
  cases o with
  | none =>
    have h' : (cn s 0 n : Int) < 0 ∨ (cn s 0 s.size : Int) < (cn s 0 n : Int) := ho
    have := cn_mono (s := s) (a := 0) (b := n) (c := s.size) (by omega) hn
    omega
  | some x =>
    obtain ⟨a, b⟩ := x
    obtain rfl : a = p := ho.1.uniq hN
    refine ⟨a, b, ho, p1, ?_, hc, hp0⟩
    rcases Nat.lt_or_ge b n with hb | hb
    · have ho' := ho
      obtain ⟨-, r, hr, hl⟩ := ho
      simp only at hr hl
      cases r with
      | none => have : b = s.size := hl; omega
      | some q =>
        obtain ⟨k1, k2, k3, k4, k5, k6, k7⟩ := ho'.nl hr
        have hq : n < q := by
          rcases Nat.lt_or_ge n q with e | e
          · exact e
          · have := cn_mono (s := s) (a := a) (b := q) (c := n) (by have := hr.1; omega) e
            have := hr.2.2.2
            omega
        have := k3.no n (by omega) (by omega)
        rw [hc] at this; cases this
    · exact hb
end Go.Proofs.YtdggbnkhbmffoaaGreatDoor
namespace Go.Proofs.YtdggbnkhbmffoaaGreatDoor
open Go.RowKit Go.Shelf Bod Wid Go.Lib

/-- runs over a seam: cut there, or one goes over it -/
theorem wrun_seam (p : Clu → Bool) (b : List Clu) : ∀ (a : List Clu) (x : Option (Nat × Nat)) (i m n : Nat), tiled i a m → tiled m b n → (∀ y, x = some y → y.1 < y.2 ∧ y.2 = i) →
    wrun p x (a ++ b) = wrun p x a ++ wrun p none b ∨ ∃ w ∈ wrun p x (a ++ b), w.1 < m ∧ m < w.2
  | [], none, i, m, n, ha, hb, hx => .inl (by simp [wrun])
  | [], some y, i, m, n, ha, hb, hx => by
    have e : i = m := ha
    obtain ⟨h1, h2⟩ := hx y rfl
    cases b with
    | nil => exact .inl (by simp [wrun])
    | cons c r =>
      obtain ⟨k1, k2, k3⟩ := hb
      cases hc : p c with
      | false => exact .inl (by simp [wrun, hc])
      | true =>
        refine .inr ⟨(y.1, lastTo p c.to r), ?_, by simp only; omega, ?_⟩
        · rw [List.nil_append]
          simp only [wrun, if_pos hc]
          rw [wrun_some]
          simp
        · have := lastTo_ge p r c.to n k3
          simp only; omega
  | c :: a, x, i, m, n, ⟨h1, h2, h3⟩, hb, hx => by
    cases hc : p c with
    | true =>
      cases x with
      | none =>
        have := wrun_seam p b a (some (c.fr, c.to)) c.to m n h3 hb (fun y e => by cases e; exact ⟨by omega, rfl⟩)
        simpa [wrun, hc] using this
      | some y =>
        obtain ⟨k1, k2⟩ := hx y rfl
        have := wrun_seam p b a (some (y.1, c.to)) c.to m n h3 hb (fun z e => by cases e; exact ⟨by omega, rfl⟩)
        simpa [wrun, hc] using this
    | false =>
      have := wrun_seam p b a none c.to m n h3 hb (fun y e => by cases e)
      cases x with
      | none => simpa [wrun, hc] using this
      | some y =>
        rcases this with e | ⟨w, e1, e2⟩
        · exact .inl (by simp [wrun, hc, e])
        · exact .inr ⟨w, by simp [wrun, hc, e1], e2⟩
/-- no word goes over m -/
def Clear (s : ByteArray) (m : Nat) : Prop := ∀ w ∈ words s, ¬ (w.1 < m ∧ m < w.2)
theorem clear_zero (s : ByteArray) : Clear s 0 := fun w _ h => by omega
theorem clear_end (s : ByteArray) : Clear s s.size := fun w hw h => by have := (words_mem hw).2; omega
theorem words_idx {s : ByteArray} {w : Nat × Nat} (h : w ∈ words s) : ∃ i : Nat, (words s)[i]? = some w := List.mem_iff_getElem?.1 h
theorem words_two {s : ByteArray} {v w : Nat × Nat} (hv : v ∈ words s) (hw : w ∈ words s) : v = w ∨ v.2 < w.1 ∨ w.2 < v.1 := by
  obtain ⟨i, hi⟩ := words_idx hv
  obtain ⟨j, hj⟩ := words_idx hw
  rcases Nat.lt_trichotomy i j with h | h | h
  · exact .inr (.inl (words_lt hi hj h))
  · subst h; rw [hi] at hj; exact .inl (Option.some.inj hj)
  · exact .inr (.inr (words_lt hj hi h))
theorem clear_fst {s : ByteArray} {v : Nat × Nat} (hv : v ∈ words s) : Clear s v.1 := fun w hw h => by
  have h1 := (words_mem hv).1
  rcases words_two hv hw with e | e | e
  · subst e; omega
  · omega
  · omega
theorem clear_snd {s : ByteArray} {v : Nat × Nat} (hv : v ∈ words s) : Clear s v.2 := fun w hw h => by
  have h1 := (words_mem hv).1
  rcases words_two hv hw with e | e | e
  · subst e; omega
  · omega
  · omega
theorem wrun_sh (d : Nat) {p q : Clu → Bool} : ∀ (l : List Clu) (x : Option (Nat × Nat)), (∀ c ∈ l, p (sh d c) = q c) → wrun p (x.map fun y => (y.1 + d, y.2 + d)) (l.map (sh d)) = (wrun q x l).map fun y => (y.1 + d, y.2 + d)
  | [], none, _ => rfl
  | [], some _, _ => rfl
  | c :: r, none, h => by
    have h1 := h c (by simp)
    have h2 := fun x => wrun_sh d (p := p) (q := q) r x (fun e he => h e (by simp [he]))
    cases hc : q c with
    | true =>
      have := h2 (some (c.fr, c.to))
      simp only [Option.map_none, List.map_cons, wrun, h1, hc, if_true]
      exact this
    | false =>
      have := h2 none
      simp only [Option.map_none, List.map_cons, wrun, h1, hc]
      exact this
  | c :: r, some x, h => by
    have h1 := h c (by simp)
    have h2 := fun x => wrun_sh d (p := p) (q := q) r x (fun e he => h e (by simp [he]))
    cases hc : q c with
    | true =>
      have := h2 (some (x.1, c.to))
      simp only [Option.map_some, List.map_cons, wrun, h1, hc, if_true]
      exact this
    | false =>
      have := h2 none
      simp only [Option.map_some, List.map_cons, wrun, h1, hc]
      simp only [Option.map_none] at this
      simpa using this
/-- the words of a piece, as places of the text -/
def wsh (d : Nat) (l : List (Nat × Nat)) : List (Nat × Nat) := l.map fun y => (y.1 + d, y.2 + d)
theorem wsh_len (d : Nat) (l : List (Nat × Nat)) : (wsh d l).length = l.length := by simp [wsh]
/-- the words of a text by those of a piece that no word goes over at its ends -/
theorem words_piece {s : ByteArray} {a b : Nat} (ha : cbZ s a = true) (hb : cbZ s b = true) (h : a ≤ b) (ca : Clear s a) (cb : Clear s b) :
    ∃ u v, words s = u ++ (wsh a (words (s.extract a b)) ++ v) ∧ (∀ w ∈ u, w.2 ≤ a) ∧ (∀ w ∈ wsh a (words (s.extract a b)), a ≤ w.1 ∧ w.2 ≤ b) ∧ ∀ w ∈ v, b ≤ w.1 := by
  obtain ⟨pre, post, hm⟩ := mid_ex ha hb h
  have e0 := words_wcl s
  have tr : tiled a ((cl (s.extract a b)).map (sh a) ++ post) s.size := til_app _ _ _ _ _ hm.m hm.r
  have e1 : words s = wrun (wcl s) none pre ++ wrun (wcl s) none ((cl (s.extract a b)).map (sh a) ++ post) := by
    rcases wrun_seam (wcl s) ((cl (s.extract a b)).map (sh a) ++ post) pre none 0 a s.size hm.l tr (fun y e => by cases e) with e | ⟨w, w1, w2⟩
    · rw [e0, hm.eq, e]
    · rw [← hm.eq, ← e0] at w1
      exact absurd w2 (ca w w1)
  have e2 : wrun (wcl s) none ((cl (s.extract a b)).map (sh a) ++ post) = wrun (wcl s) none ((cl (s.extract a b)).map (sh a)) ++ wrun (wcl s) none post := by
    rcases wrun_seam (wcl s) post ((cl (s.extract a b)).map (sh a)) none a b s.size hm.m hm.r (fun y e => by cases e) with e | ⟨w, w1, w2⟩
    · exact e
    · exact absurd w2 (cb w (by rw [e1]; exact List.mem_append_right _ w1))
  have e3 : wrun (wcl s) none ((cl (s.extract a b)).map (sh a)) = wsh a (words (s.extract a b)) := by
    have := wrun_sh a (p := wcl s) (q := wcl (s.extract a b)) (cl (s.extract a b)) none (wcl_sub hb h)
    exact this
  rw [e2, e3] at e1
  refine ⟨_, _, e1, fun w hw => (wsp_mem _ hm.l w hw).2.2, fun w hw => ?_, fun w hw => (wsp_mem _ hm.r w hw).1⟩
  rw [← e3] at hw
  have := wsp_mem _ hm.m w hw
  exact ⟨this.1, this.2.2⟩
/-- how many of them begin below a -/
def belowN (l : List (Nat × Nat)) (a : Nat) : Nat := (l.filter fun w => decide (w.1 < a)).length
/-- lists whose members rise -/
def Ris (l : List (Nat × Nat)) : Prop := l.Pairwise fun v w => v.2 < w.1
theorem ris_below {l : List (Nat × Nat)} (h : Ris l) (hw : ∀ w ∈ l, w.1 < w.2) (a : Nat) : ∀ (i : Nat) (w : Nat × Nat), l[i]? = some w → (w.1 < a ↔ i < belowN l a) := by
  induction l with
  | nil => intro i w e; simp at e
  | cons v l ih =>
    have h1 : ∀ w ∈ l, v.2 < w.1 := (List.pairwise_cons.1 h).1
    have h2 := ih (List.pairwise_cons.1 h).2 (fun w m => hw w (by simp [m]))
    have h3 := hw v (by simp)
    intro i w e
    unfold belowN
    rw [List.filter_cons]
    by_cases c : v.1 < a
    · rw [if_pos (by simp [c])]
      cases i with
      | zero => simp at e; subst e; simp [c]
      | succ i =>
        have := h2 i w (by simpa using e)
        unfold belowN at this
        rw [this, List.length_cons]; omega
    · rw [if_neg (by simp [c])]
      have hz : l.filter (fun w => decide (w.1 < a)) = [] := by
        rw [List.filter_eq_nil_iff]
        intro w m
        have := h1 w m
        simp; omega
      rw [hz]
      cases i with
      | zero => simp at e; subst e; simp [c]
      | succ i =>
        have m := List.mem_of_getElem? (show l[i]? = some w by simpa using e)
        have := h1 w m
        simp; omega
theorem below_le (l : List (Nat × Nat)) (a : Nat) : belowN l a ≤ l.length := List.length_filter_le _ _
theorem words_ris (s : ByteArray) : Ris (words s) := words_sorted s
/-- the index of the second of the two words that are changed about at a -/
def selI (l : List (Nat × Nat)) (a : Nat) : Nat := max (min (belowN l a) (l.length - 1)) 1
theorem below_app (l m : List (Nat × Nat)) (a : Nat) : belowN (l ++ m) a = belowN l a + belowN m a := by simp [belowN]
theorem below_all {l : List (Nat × Nat)} {a : Nat} (h : ∀ w ∈ l, w.1 < a) : belowN l a = l.length := by
  unfold belowN
  rw [List.filter_eq_self.2 (fun w m => by simpa using h w m)]
theorem below_none {l : List (Nat × Nat)} {a : Nat} (h : ∀ w ∈ l, a ≤ w.1) : belowN l a = 0 := by
  unfold belowN
  rw [List.filter_eq_nil_iff.2 (fun w m => by have := h w m; simp; omega)]
  rfl
theorem two_mem {l : List (Nat × Nat)} {p : Nat × Nat → Bool} {v w : Nat × Nat} (hv : v ∈ l) (hw : w ∈ l) (hn : v ≠ w) (pv : p v = true) (pw : p w = true) : 2 ≤ (l.filter p).length := by
  have m1 : v ∈ l.filter p := List.mem_filter.2 ⟨hv, pv⟩
  have m2 : w ∈ l.filter p := List.mem_filter.2 ⟨hw, pw⟩
  generalize l.filter p = q at m1 m2
  match q, m1, m2 with
  | [x], m1, m2 => simp at m1 m2; exact absurd (m1.trans m2.symm) hn
  | x :: y :: r, _, _ => simp
/-- about a place, two words behind and two ahead, all that a transposition asks of the text is there -/
theorem sel_piece {s : ByteArray} {a : Nat} (ha : cbZ s a = true) :
    let f := behindW (words s) (behindW (words s) a)
    let t := aheadW (words s) s.size (aheadW (words s) s.size a)
    f ≤ a ∧ a ≤ t ∧ t ≤ s.size ∧ cbZ s f = true ∧ cbZ s t = true ∧
    ((words (s.extract f t)).length < 2 ↔ (words s).length < 2) ∧
    (2 ≤ (words s).length → selI (wsh f (words (s.extract f t))) a < (words (s.extract f t)).length ∧ (wsh f (words (s.extract f t)))[selI (wsh f (words (s.extract f t))) a]? = (words s)[selI (words s) a]? ∧ (wsh f (words (s.extract f t)))[selI (wsh f (words (s.extract f t))) a - 1]? = (words s)[selI (words s) a - 1]?) := by
  intro f t
  have hal := cb_le ha
  obtain ⟨g, hg⟩ : ∃ g, behindW (words s) a = g := ⟨_, rfl⟩
  obtain ⟨k, hk⟩ : ∃ k, aheadW (words s) s.size a = k := ⟨_, rfl⟩
  obtain ⟨f0, hf0⟩ : ∃ f0, behindW (words s) g = f0 := ⟨_, rfl⟩
  obtain ⟨t0, ht0⟩ : ∃ t0, aheadW (words s) s.size k = t0 := ⟨_, rfl⟩
  have ef : f = f0 := by show behindW (words s) (behindW (words s) a) = f0; rw [hg, hf0]
  have et : t = t0 := by show aheadW (words s) s.size (aheadW (words s) s.size a) = t0; rw [hk, ht0]
  clear_value f t
  subst ef et
  have g1 := behind_ok s a
  have g2 := behind_ok s g
  have k1 := ahead_ok s a
  have k2 := ahead_ok s k
  have wg := words_behind s a
  have wf := words_behind s g
  have wk := words_ahead s a
  have wt := words_ahead s k
  rw [hg] at g1 wg
  rw [hf0] at g2 wf
  rw [hk] at k1 wk
  rw [ht0] at k2 wt
  have hga : g ≤ a := by
    rcases wg with ⟨w, h1, h2, h3⟩ | h <;> omega
  have hfg : f ≤ g := by
    rcases wf with ⟨w, h1, h2, h3⟩ | h <;> omega
  have hak : a ≤ k := by
    rcases wk with ⟨w, h1, h2, h3⟩ | h <;> omega
  have hkt : k ≤ t := by
    rcases wt with ⟨w, h1, h2, h3⟩ | h <;> omega
  have cf : Clear s f := by
    rcases wf with ⟨w, h1, h2, h3⟩ | h
    · rw [h3]; exact clear_fst h1
    · rw [h]; exact clear_zero s
  have ct : Clear s t := by
    rcases wt with ⟨w, h1, h2, h3⟩ | h
    · rw [h3]; exact clear_snd h1
    · rw [h]; exact clear_end s
  obtain ⟨u, v, e, hu, hm, hv⟩ := words_piece g2.1 k2.1 (by omega) cf ct
  have hl : (wsh f (words (s.extract f t))).length = (words (s.extract f t)).length := wsh_len _ _
  obtain ⟨L, hL⟩ : ∃ L, wsh f (words (s.extract f t)) = L := ⟨_, rfl⟩
  rw [hL] at e hm hl ⊢
  rw [← hl]
  refine ⟨by omega, by omega, k2.2.1, g2.1, k2.1, ?_⟩
  have hmem : ∀ w ∈ words s, w.1 < w.2 := fun w hw => (words_mem hw).1
  -- two words ahead of a, or nothing ahead of the piece
  have A : u = [] ∨ 2 ≤ belowN L a := by
    rcases Nat.eq_zero_or_pos f with h0 | h0
    · refine .inl (List.eq_nil_iff_forall_not_mem.2 fun w hw => ?_)
      have := hu w hw
      have := hmem w (by rw [e]; simp [hw])
      omega
    · refine .inr ?_
      rcases wf with ⟨w, w1, w2, w3⟩ | h
      · rcases wg with ⟨x, x1, x2, x3⟩ | h'
        · have hw := hmem w w1
          have hx := hmem x x1
          have mw : w ∈ L := by
            have := w1; rw [e] at this
            rcases List.mem_append.1 this with q | q
            · have := hu w q; omega
            · rcases List.mem_append.1 q with q | q
              · exact q
              · have := hv w q; omega
          have mx : x ∈ L := by
            have := x1; rw [e] at this
            rcases List.mem_append.1 this with q | q
            · have := hu x q; omega
            · rcases List.mem_append.1 q with q | q
              · exact q
              · have := hv x q; omega
          exact two_mem mw mx (fun h => by subst h; omega) (by simp; omega) (by simp; omega)
        · omega
      · omega
  -- two words that end above a, or nothing behind the piece
  have Bb : v = [] ∨ ∃ x ∈ L, ∃ y ∈ L, a < x.2 ∧ x.2 < y.1 := by
    rcases Nat.lt_or_ge t s.size with h0 | h0
    · refine .inr ?_
      rcases wt with ⟨w, w1, w2, w3⟩ | h
      · rcases wk with ⟨x, x1, x2, x3⟩ | h'
        · have hw := hmem w w1
          have hx := hmem x x1
          have mw : w ∈ L := by
            have := w1; rw [e] at this
            rcases List.mem_append.1 this with q | q
            · have := hu w q; omega
            · rcases List.mem_append.1 q with q | q
              · exact q
              · have := hv w q; omega
          have mx : x ∈ L := by
            have := x1; rw [e] at this
            rcases List.mem_append.1 this with q | q
            · have := hu x q; omega
            · rcases List.mem_append.1 q with q | q
              · exact q
              · have := hv x q; omega
          refine ⟨x, mx, w, mw, x2, ?_⟩
          rcases words_two x1 w1 with q | q | q
          · subst q; omega
          · exact q
          · omega
        · omega
      · omega
    · refine .inl (List.eq_nil_iff_forall_not_mem.2 fun w hw => ?_)
      have := hv w hw
      have := (words_mem (show w ∈ words s by rw [e]; simp [hw])).2
      have := hmem w (by rw [e]; simp [hw])
      omega
  have bu : belowN u a = u.length := below_all fun w hw => by have := hu w hw; have := hmem w (by rw [e]; simp [hw]); omega
  have bv : belowN v a = 0 := below_none fun w hw => by have := hv w hw; omega
  have bs : belowN (words s) a = u.length + belowN L a := by rw [e, below_app, below_app, bu, bv]; omega
  have ls : (words s).length = u.length + L.length + v.length := by rw [e]; simp; omega
  have bl := below_le L a
  have hLr : Ris L := by
    have := words_ris s
    rw [e] at this
    exact (List.pairwise_append.1 (List.pairwise_append.1 this).2.1).1
  have hLw : ∀ w ∈ L, w.1 < w.2 := fun w hw => hmem w (by rw [e]; simp [hw])
  have C : v = [] ∨ belowN L a + 1 ≤ L.length ∧ 2 ≤ L.length := by
    rcases Bb with h | ⟨x, mx, y, my, h1, h2⟩
    · exact .inl h
    · refine .inr ?_
      obtain ⟨j, hj⟩ := List.mem_iff_getElem?.1 my
      have hx := hLw x mx
      have := (ris_below hLr hLw a j y hj)
      have hjl : j < L.length := (List.getElem?_eq_some_iff.1 hj).1
      have : ¬ j < belowN L a := fun q => by have := this.2 q; omega
      refine ⟨by omega, ?_⟩
      obtain ⟨i, hi⟩ := List.mem_iff_getElem?.1 mx
      have hil : i < L.length := (List.getElem?_eq_some_iff.1 hi).1
      rcases Nat.lt_or_ge 1 L.length with q | q
      · omega
      · have : i = j := by omega
        subst this
        rw [hi] at hj; have := Option.some.inj hj; subst this; omega
  have A' : u.length = 0 ∨ 2 ≤ belowN L a := A.imp (fun h => by rw [h]; rfl) id
  have C' : v.length = 0 ∨ belowN L a + 1 ≤ L.length ∧ 2 ≤ L.length := C.imp (fun h => by rw [h]; rfl) id
  have key : 2 ≤ L.length → selI (words s) a = u.length + selI L a ∧ 1 ≤ selI L a ∧ selI L a < L.length := fun h2 => by
    unfold selI
    rw [bs, ls]
    omega
  refine ⟨⟨fun h => by omega, fun h => by omega⟩, fun h => ?_⟩
  have h2 : 2 ≤ L.length := by omega
  obtain ⟨q1, q2, q3⟩ := key h2
  refine ⟨q3, ?_, ?_⟩
  · rw [q1, e, List.getElem?_append_right (by omega), Nat.add_sub_cancel_left, List.getElem?_append_left q3]
  · rw [q1, e, List.getElem?_append_right (by omega), show u.length + selI L a - 1 - u.length = selI L a - 1 by omega, List.getElem?_append_left (by omega)]
end Go.Proofs.YtdggbnkhbmffoaaGreatDoor
namespace Go.Proofs.YtdggbnkhbmffoaaGreatDoor
open Go.RowKit Go.Shelf Bod Wid Go.Lib

/-- f taken n times -/
def rpt (f : Nat → Nat) : Nat → Nat → Nat
  | 0, a => a
  | n + 1, a => rpt f n (f a)
theorem rpt_fix {f : Nat → Nat} {a : Nat} (h : f a = a) : ∀ n, rpt f n a = a
  | 0 => rfl
  | n + 1 => by rw [rpt, h]; exact rpt_fix h n
theorem rpt_inv {f : Nat → Nat} {P : Nat → Prop} (h : ∀ a, P a → P (f a)) : ∀ (n a : Nat), P a → P (rpt f n a)
  | 0, _, ha => ha
  | n + 1, a, ha => rpt_inv h n (f a) (h a ha)
theorem rpt_snoc (f : Nat → Nat) : ∀ (n a : Nat), rpt f (n + 1) a = f (rpt f n a)
  | 0, _ => rfl
  | n + 1, a => rpt_snoc f n (f a)
theorem rpt_add (f : Nat → Nat) : ∀ (n m a : Nat), rpt f (n + m) a = rpt f m (rpt f n a)
  | 0, m, a => by rw [Nat.zero_add]; rfl
  | n + 1, m, a => by rw [show n + 1 + m = (n + m) + 1 by omega]; exact rpt_add f n m (f a)

theorem lnp_ex (s : ByteArray) (a : Nat) : ∃ x : Nat × Nat, cbZ s a = true → Pl s a x.1 x.2 := by
  cases h : cbZ s a with
  | true => obtain ⟨p, b, hp⟩ := pl_ex h; exact ⟨(p, b), fun _ => hp⟩
  | false => exact ⟨(0, 0), fun e => by cases e⟩
/-- a boundary's line -/
noncomputable def lnP (s : ByteArray) (a : Nat) : Nat × Nat := Classical.choose (lnp_ex s a)
theorem lnP_pl {s : ByteArray} {a : Nat} (h : cbZ s a = true) : Pl s a (lnP s a).1 (lnP s a).2 := Classical.choose_spec (lnp_ex s a) h
theorem Pl.uniq {s : ByteArray} {a p b p' b' : Nat} (h : Pl s a p b) (k : Pl s a p' b') : p = p' ∧ b = b' := by
  have := h.sp.uniq k.sp
  cases this
  exact ⟨rfl, rfl⟩
theorem lnP_eq {s : ByteArray} {a p b : Nat} (h : Pl s a p b) : lnP s a = (p, b) := by
  obtain ⟨h1, h2⟩ := (lnP_pl h.cb).uniq h
  rw [← h1, ← h2]
/-- a place up to which no line ends, and a place behind a line's end -/
theorem Pl.le {s : ByteArray} {a p b : Nat} (h : Pl s a p b) : p ≤ a ∧ a ≤ b ∧ b ≤ s.size := ⟨h.lo, h.hi, h.sp.le.2⟩
theorem Pl.cbs {s : ByteArray} {a p b : Nat} (h : Pl s a p b) : cbZ s p = true ∧ cbZ s b = true := h.sp.cb
/-- where a line ends: the text's end, or right ahead of the newline -/
theorem Pl.fin {s : ByteArray} {a p b : Nat} (h : Pl s a p b) : (cn s a s.size = 0 ∧ b = s.size) ∨ ∃ q, a < q ∧ q ≤ s.size ∧ cn s a (q - 1) = 0 ∧ byt s (q - 1) = 10 ∧ IsPrev s q b ∧ IsNext s b q := by
  obtain ⟨k1, k2, k3⟩ := h.le
  obtain ⟨-, r, hr, hl⟩ := h.sp
  have hcn : cn s p a = 0 := h.l.2.2
  simp only at hr hl
  cases r with
  | none =>
    have hr' : cn s p s.size < 1 := hr
    refine .inl ⟨?_, hl⟩
    have := cn_add (s := s) (a := p) (b := a) (c := s.size) k1 (by omega)
    omega
  | some q =>
    obtain ⟨n1, n2, n3, n4, n5, n6, n7⟩ := h.sp.nl hr
    have hr' := hr
    have ha : a < q := by omega
    refine .inr ⟨q, ha, n2, ?_, n5, ⟨(Pl.cbs h).2, .inl (by omega), fun j j1 j2 => n3.no j j1 j2⟩, n3⟩
    have e1 : cn s p q = 1 := hr'.2.2.2
    have e2 := cn_add (s := s) (a := p) (b := q - 1) (c := q) (by omega) (by omega)
    have e3 := cn_one (s := s) (i := q - 1) (by omega)
    rw [if_pos n5, show q - 1 + 1 = q by omega] at e3
    have e4 := cn_add (s := s) (a := p) (b := a) (c := q - 1) k1 (by omega)
    omega
/-- where DoKillLineEnd leads, once -/
noncomputable def lnA (s : ByteArray) (a : Nat) : Nat := if (lnP s a).2 = a then nxt s a else (lnP s a).2
theorem nxt_ok (s : ByteArray) (a : Nat) : cbZ s (nxt s a) = true ∧ nxt s a ≤ s.size ∧ (a < s.size → a < nxt s a) ∧ (s.size ≤ a → nxt s a = s.size) := by
  have h := nxt_is s a
  refine ⟨h.cb, cb_le h.cb, fun e => ?_, fun e => ?_⟩
  · rcases h.up with u | ⟨u, u'⟩ <;> omega
  · rcases h.up with u | ⟨u, u'⟩
    · have := cb_le h.cb; omega
    · exact u
theorem pv_ok (s : ByteArray) (a : Nat) : cbZ s (pvC s a) = true ∧ pvC s a ≤ a ∧ (0 < a → pvC s a < a) := by
  have h := pvC_is s a
  refine ⟨h.cb, ?_, fun e => ?_⟩ <;> rcases h.dn with u | ⟨u, u'⟩ <;> omega
theorem lnA_ok {s : ByteArray} {a : Nat} (ha : cbZ s a = true) : cbZ s (lnA s a) = true ∧ lnA s a ≤ s.size ∧ a ≤ lnA s a ∧ (a < s.size → a < lnA s a) := by
  have h := lnP_pl ha
  have hl := h.le
  have hn := nxt_ok s a
  unfold lnA
  split
  · refine ⟨hn.1, hn.2.1, ?_, hn.2.2.1⟩
    rcases Nat.lt_or_ge a s.size with e | e
    · have := hn.2.2.1 e; omega
    · have := hn.2.2.2 e; omega
  · exact ⟨h.cbs.2, hl.2.2, hl.2.1, fun _ => by omega⟩
/-- where a command's step leads -/
noncomputable def stF (k : Int) (s : ByteArray) (a : Nat) : Nat :=
  if k = 14 then nxt s a else if k = 15 then pvC s a else if k = 17 then behindW (words s) a else if k = 18 then lnA s a else aheadW (words s) s.size a
theorem ahead_le {s : ByteArray} {a : Nat} (ha : a ≤ s.size) : a ≤ aheadW (words s) s.size a := by
  rcases words_ahead s a with ⟨w, h1, h2, h3⟩ | h <;> omega
theorem behind_le (s : ByteArray) (a : Nat) : behindW (words s) a ≤ a := by
  rcases words_behind s a with ⟨w, h1, h2, h3⟩ | h <;> omega
theorem stF_cb {k : Int} {s : ByteArray} {a : Nat} (ha : cbZ s a = true) : cbZ s (stF k s a) = true := by
  unfold stF
  split
  · exact (nxt_ok s a).1
  split
  · exact (pv_ok s a).1
  split
  · exact (behind_ok s a).1
  split
  · exact (lnA_ok ha).1
  · exact (ahead_ok s a).1
/-- does a kind step to the left? -/
def lefts (k : Int) : Bool := decide (k = 15 ∨ k = 17)
theorem stF_right {k : Int} {s : ByteArray} {a : Nat} (hk : lefts k = false) (ha : cbZ s a = true) : a ≤ stF k s a ∧ stF k s a ≤ s.size ∧ (a < s.size → a < stF k s a) := by
  have hal := cb_le ha
  have h1 : k ≠ 15 ∧ k ≠ 17 := by simpa [lefts] using hk
  unfold stF
  split
  · have := nxt_ok s a
    rcases Nat.lt_or_ge a s.size with e | e
    · have := this.2.2.1 e; exact ⟨by omega, by omega, fun _ => this⟩
    · have := this.2.2.2 e; exact ⟨by omega, by omega, fun _ => by omega⟩
  rw [if_neg h1.1, if_neg h1.2]
  split
  · have := lnA_ok ha; exact ⟨this.2.2.1, this.2.1, this.2.2.2⟩
  · exact ⟨ahead_le hal, (ahead_ok s a).2.1, (ahead_ok s a).2.2⟩
theorem stF_left {k : Int} {s : ByteArray} {a : Nat} (hk : lefts k = true) : stF k s a ≤ a ∧ (0 < a → stF k s a < a) := by
  have h1 : k = 15 ∨ k = 17 := by simpa [lefts] using hk
  unfold stF
  rcases h1 with rfl | rfl
  · rw [if_neg (by decide), if_pos rfl]; exact (pv_ok s a).2
  · rw [if_neg (by decide), if_neg (by decide), if_pos rfl]; exact ⟨behind_le s a, (behind_ok s a).2.2⟩
theorem rst_cb {k : Int} {s : ByteArray} (n : Nat) {a : Nat} (ha : cbZ s a = true) : cbZ s (rpt (stF k s) n a) = true := rpt_inv (P := fun a => cbZ s a = true) (fun _ h => stF_cb h) n a ha
theorem rst_right {k : Int} {s : ByteArray} (hk : lefts k = false) : ∀ (n a : Nat), cbZ s a = true → a ≤ rpt (stF k s) n a ∧ rpt (stF k s) n a ≤ s.size ∧ (0 < n → a < s.size → a < rpt (stF k s) n a)
  | 0, a, ha => ⟨Nat.le_refl _, cb_le ha, fun e => by omega⟩
  | n + 1, a, ha => by
    have h1 := stF_right hk ha
    have h2 := rst_right hk n _ (stF_cb (k := k) ha)
    rw [rpt]
    exact ⟨by omega, h2.2.1, fun _ e => by have := h1.2.2 e; omega⟩
theorem rst_left {k : Int} {s : ByteArray} (hk : lefts k = true) : ∀ (n a : Nat), rpt (stF k s) n a ≤ a ∧ (0 < n → 0 < a → rpt (stF k s) n a < a)
  | 0, a => ⟨Nat.le_refl _, fun e => by omega⟩
  | n + 1, a => by
    have h1 := stF_left (s := s) (a := a) hk
    have h2 := rst_left (s := s) hk n (stF k s a)
    rw [rpt]
    exact ⟨by omega, fun _ e => by have := h1.2 e; omega⟩
/-- a change: the edit, the cursor behind it, what is killed, whether ahead -/
structure Chg where
  at' : Nat
  cut : Nat
  put : ByteArray
  cur : Nat
  kill : ByteArray
  ahead : Bool
def chz : Chg := ⟨0, 0, ⟨#[]⟩, 0, ⟨#[]⟩, false⟩
def cutP (a to' : Nat) : Chg × Int := if to' = a then (chz, 8) else (⟨min a to', max a to' - min a to', ⟨#[]⟩, min a to', ⟨#[]⟩, false⟩, 0)
def killP (s : ByteArray) (a to' : Nat) : Chg × Int := if to' = a then (chz, 8) else (⟨min a to', max a to' - min a to', ⟨#[]⟩, min a to', s.extract (min a to') (max a to'), decide (to' < a)⟩, 0)
def copyP (s : ByteArray) (a to' : Nat) : Chg × Int := if to' = a then (chz, 8) else (⟨0, 0, ⟨#[]⟩, a, s.extract (min a to') (max a to'), false⟩, 0)
/-- what is put in the place of two pieces and what stands between them -/
def swp (s : ByteArray) (v w : Nat × Nat) : ByteArray := s.extract w.1 w.2 ++ s.extract v.2 w.1 ++ s.extract v.1 v.2
def swapP (s : ByteArray) (v w : Nat × Nat) : Chg := ⟨v.1, w.2 - v.1, swp s v w, w.2, ⟨#[]⟩, false⟩
/-- the middle of the two clusters that are changed about -/
noncomputable def midP (s : ByteArray) (a : Nat) : Nat := if a = (lnP s a).2 then pvC s a else a
noncomputable def charsP (s : ByteArray) (a : Nat) : Chg × Int := if midP s a ≤ (lnP s a).1 then (chz, 8) else (swapP s (pvC s (midP s a), midP s a) (midP s a, nxt s (midP s a)), 0)
def wordsP (s : ByteArray) (a : Nat) : Chg × Int := if (words s).length < 2 then (chz, 8) else (swapP s ((words s).getD (selI (words s) a - 1) (0, 0)) ((words s).getD (selI (words s) a) (0, 0)), 0)
/-- a text in a command's form -/
def frm (k : Int) (x : ByteArray) : ByteArray := if k = 26 then fm (fun _ => upc) x else if k = 27 then fm (fun _ => lowc) x else fm (capG (words x)) x
def caseP (k : Int) (s : ByteArray) (a to' : Nat) : Chg × Int := if to' = a then (chz, 8) else (⟨a, to' - a, frm k (s.extract a to'), a + (frm k (s.extract a to')).size, ⟨#[]⟩, false⟩, 0)
/-- is it a kind that changes a text? -/
def doesP (k : Int) : Bool := decide ((14 ≤ k ∧ k ≤ 21) ∨ (24 ≤ k ∧ k ≤ 28))
/-- what a command makes of a text, at a boundary, with a region or none -/
noncomputable def makP (k : Int) (s : ByteArray) (n a : Nat) (r : Option Nat) : Chg × Int :=
  if k = 14 ∨ k = 15 then cutP a (rpt (stF k s) n a)
  else if k = 16 ∨ k = 17 ∨ k = 18 then killP s a (rpt (stF k s) n a)
  else if k = 19 then killP s a (lnP s a).1
  else if k = 20 then (match r with | none => (chz, 7) | some r => killP s a r)
  else if k = 21 then (match r with | none => (chz, 7) | some r => copyP s a r)
  else if k = 24 then charsP s a
  else if k = 25 then wordsP s a
  else caseP k s a (rpt (stF k s) n a)
def cntP (c : Int) : Nat := (min (max c 1) 1000).toNat
theorem cnt_in (c : Int) : 1 ≤ cntP c ∧ cntP c ≤ 1000 ∧ ((cntP c : Nat) : Int) = min (max c 1) 1000 := by unfold cntP; omega
noncomputable def regP (s : ByteArray) (r : Int) : Option Nat := if r < 0 then none else some (snp s r)
noncomputable def ofP (s : ByteArray) (k c i r : Int) : Chg × Int := if doesP k then makP k s (cntP c) (snp s i) (regP s r) else (chz, 13)
end Go.Proofs.YtdggbnkhbmffoaaGreatDoor
namespace Go.Proofs.YtdggbnkhbmffoaaGreatDoor
open Go.RowKit Go.Shelf Bod Wid Go.Lib

theorem snp_lo {s : ByteArray} {i : Int} (h : i ≤ 0) : snp s i = 0 := by
  have k := snp_is s i
  have z := cb_zero s
  rcases Nat.eq_zero_or_pos (snp s i) with e | e
  · exact e
  · have := k.no 0 h (by omega)
    rw [z] at this; cases this
theorem snp_hi {s : ByteArray} {i : Int} (h : (s.size : Int) ≤ i) : snp s i = s.size := by
  have k := snp_is s i
  have := cb_le k.cb
  rcases k.up with u | u <;> omega
theorem snp_clamp (s : ByteArray) (i : Int) : snp s (min (max i 0) s.size) = snp s i := by
  rcases Int.lt_or_le i 0 with h | h
  · rw [snp_lo (i := i) (by omega), snp_lo (by omega)]
  rcases Int.lt_or_le (s.size : Int) i with k | k
  · rw [snp_hi (i := i) (by omega), snp_hi (by omega)]
  · rw [show min (max i 0) (s.size : Int) = i by omega]
theorem snp_min (s : ByteArray) (i : Int) : snp s (min i s.size) = snp s i := by
  rcases Int.lt_or_le (s.size : Int) i with k | k
  · rw [snp_hi (i := i) (by omega), snp_hi (by omega)]
  · rw [show min i (s.size : Int) = i by omega]
/-- a boundary among clusters that lie one behind the other begins one of them -/
theorem tile_at {s : ByteArray} {a : Nat} (ha : cbZ s a = true) : ∀ (L : List Clu) (x y : Nat), tiled x L y → (∀ d ∈ L, Sp s d) → x ≤ a → a < y → ∃ (i : Nat) (c : Clu), L[i]? = some c ∧ c.fr = a
  | [], x, y, h, _, h1, h2 => by have : x = y := h; omega
  | c :: r, x, y, h, hs, h1, h2 => by
    obtain ⟨k1, k2, k3⟩ := h
    rcases Nat.eq_or_lt_of_le h1 with e | e
    · exact ⟨0, c, rfl, by omega⟩
    · rcases Nat.lt_or_ge a c.to with f | f
      · have := (hs c (List.mem_cons_self ..)).2 a (by omega) (by omega)
        rw [ha] at this; cases this
      · obtain ⟨i, d, q1, q2⟩ := tile_at ha r c.to y k3 (fun d hd => hs d (List.mem_cons_of_mem _ hd)) f h2
        exact ⟨i + 1, d, by simpa using q1, q2⟩
theorem tile_two : ∀ (L : List Clu) (x y i : Nat) (c d : Clu), tiled x L y → L[i]? = some c → L[i + 1]? = some d → c.to = d.fr
  | [], _, _, _, _, _, _, h, _ => by simp at h
  | e :: r, x, y, 0, c, d, h, h1, h2 => by
    simp at h1 h2; subst h1
    cases r with
    | nil => simp at h2
    | cons g r => simp at h2; subst h2; exact h.2.2.1.symm
  | e :: r, x, y, i + 1, c, d, h, h1, h2 => tile_two r e.to y i c d h.2.2 (by simpa using h1) (by simpa using h2)
theorem tile_last : ∀ (L : List Clu) (x y i : Nat) (c : Clu), tiled x L y → L[i]? = some c → (i + 1 = L.length → c.to = y) ∧ (i + 1 < L.length → c.to < y)
  | [], _, _, _, _, _, h => by simp at h
  | e :: r, x, y, 0, c, h, h1 => by
    simp at h1; subst h1
    refine ⟨fun q => ?_, fun q => ?_⟩
    · have : r = [] := by cases r with
        | nil => rfl
        | cons g r => simp at q
      subst this; exact h.2.2
    · cases r with
      | nil => simp at q
      | cons g r => have h3 := h.2.2; have := h3.1; have := h3.2.1; have := tiled_le h3.2.2; omega
  | e :: r, x, y, i + 1, c, h, h1 => by
    obtain ⟨p, q⟩ := tile_last r e.to y i c h.2.2 (by simpa using h1)
    exact ⟨fun k => p (by simpa using k), fun k => q (by simpa using k)⟩
/-- the clusters of a line, and where they lie in the text -/
structure Lc (s : ByteArray) (p b : Nat) (L : List Clu) : Prop where
  t : tiled p (L.map (sh p)) b
  sp : ∀ d ∈ L.map (sh p), Sp s d
  cb : cbZ s p = true
theorem lc_of {s : ByteArray} {a : Nat} (ha : cbZ s a = true) : Lc s (lnP s a).1 (lnP s a).2 (cl (s.extract (lnP s a).1 (lnP s a).2)) := by
  have h := lnP_pl ha
  have hc := h.cbs
  have hl := h.le
  obtain ⟨pre, post, m⟩ := mid_ex hc.1 hc.2 (by omega)
  exact ⟨m.m, fun d hd => cl_cb s d (by rw [m.eq]; exact List.mem_append_right _ (List.mem_append_left _ hd)), hc.1⟩
section
variable {s : ByteArray} {p b : Nat} {L : List Clu}
theorem Lc.one (h : Lc s p b L) {i : Nat} {c : Clu} (hc : L[i]? = some c) : cbZ s (c.fr + p : Nat) = true ∧ cbZ s (c.to + p : Nat) = true ∧ c.fr < c.to ∧ c.to + p ≤ b ∧ nxt s (c.fr + p) = c.to + p ∧ (i + 1 = L.length → c.to + p = b) ∧ (i + 1 < L.length → c.to + p < b) := by
  have hm : (L.map (sh p))[i]? = some (sh p c) := by rw [List.getElem?_map, hc]; rfl
  have hmem : sh p c ∈ L.map (sh p) := List.mem_of_getElem? hm
  have h1 := til_mem _ _ _ h.t _ hmem
  have h2 := h.sp _ hmem
  have h3 := tiled_fr h.t h.cb h.sp _ hmem
  have h4 := tile_last _ _ _ _ _ h.t hm
  have hl : (L.map (sh p)).length = L.length := List.length_map _
  rw [hl] at h4
  have f1 : (sh p c).fr = c.fr + p := rfl
  have f2 : (sh p c).to = c.to + p := rfl
  rw [f1, f2] at h1
  rw [f2] at h4
  have h2' : cbZ s (c.to + p : Nat) = true ∧ ∀ j : Int, ((c.fr + p : Nat) : Int) < j → j < (c.to + p : Nat) → cbZ s j = false := h2
  refine ⟨h3, h2'.1, by omega, by omega, ?_, h4.1, h4.2⟩
  exact (nxt_is s (c.fr + p)).uniq ⟨h2'.1, .inl (by omega), fun j j1 j2 => h2'.2 j j1 j2⟩
theorem Lc.two (h : Lc s p b L) {i : Nat} {c d : Clu} (hc : L[i]? = some c) (hd : L[i + 1]? = some d) : c.to = d.fr ∧ pvC s (d.fr + p) = c.fr + p := by
  have hm : (L.map (sh p))[i]? = some (sh p c) := by rw [List.getElem?_map, hc]; rfl
  have hm' : (L.map (sh p))[i + 1]? = some (sh p d) := by rw [List.getElem?_map, hd]; rfl
  have e : c.to + p = d.fr + p := tile_two _ _ _ _ _ _ h.t hm hm'
  have e' : c.to = d.fr := by omega
  obtain ⟨a1, a2, a3, a4, a5, a6, a7⟩ := h.one hc
  refine ⟨e', ?_⟩
  have hs := h.sp _ (List.mem_of_getElem? hm)
  have hs' : ∀ j : Int, ((c.fr + p : Nat) : Int) < j → j < (c.to + p : Nat) → cbZ s j = false := hs.2
  have k := pvC_is s (d.fr + p)
  have k' : IsPrev s ((d.fr + p : Nat) : Int) (c.fr + p) := ⟨a1, .inl (by omega), fun j j1 j2 => hs' j j1 (by omega)⟩
  exact k.uniq k'
/-- is it the second of the two that are changed about? -/
def Hit (L : List Clu) (p a i : Nat) : Prop := ∃ c, L[i]? = some c ∧ (c.fr + p = a ∨ (i + 1 = L.length ∧ c.to + p = a))
theorem Lc.last (h : Lc s p b L) (_hb : pvC s b < b) (hp : p < b) : ∃ i c, L[i]? = some c ∧ i + 1 = L.length ∧ c.to + p = b ∧ pvC s b = c.fr + p := by
  cases hL : L.length with
  | zero =>
    have : L = [] := List.length_eq_zero_iff.1 hL
    subst this
    have : p = b := h.t
    omega
  | succ n =>
    obtain ⟨c, hc⟩ : ∃ c, L[n]? = some c := ⟨_, List.getElem?_eq_getElem (by omega)⟩
    obtain ⟨a1, a2, a3, a4, a5, a6, a7⟩ := h.one hc
    refine ⟨n, c, hc, by omega, a6 (by omega), ?_⟩
    have hm : (L.map (sh p))[n]? = some (sh p c) := by rw [List.getElem?_map, hc]; rfl
    have hs := h.sp _ (List.mem_of_getElem? hm)
    have hs' : ∀ j : Int, ((c.fr + p : Nat) : Int) < j → j < (c.to + p : Nat) → cbZ s j = false := hs.2
    have e6 := a6 (by omega)
    have k := pvC_is s b
    have k' : IsPrev s (b : Int) (c.fr + p) := ⟨a1, .inl (by omega), fun j j1 j2 => hs' j j1 (by omega)⟩
    exact k.uniq k'
end
theorem chars_hit {s : ByteArray} {a i : Nat} {c d : Clu} (ha : cbZ s a = true) (hc : (cl (s.extract (lnP s a).1 (lnP s a).2))[i]? = some c) (hd : (cl (s.extract (lnP s a).1 (lnP s a).2))[i + 1]? = some d)
    (hh : d.fr + (lnP s a).1 = a ∨ (i + 1 + 1 = (cl (s.extract (lnP s a).1 (lnP s a).2)).length ∧ d.to + (lnP s a).1 = a)) :
    charsP s a = (swapP s (c.fr + (lnP s a).1, c.to + (lnP s a).1) (d.fr + (lnP s a).1, d.to + (lnP s a).1), 0) := by
  have h := lc_of ha
  have hl := (lnP_pl ha).le
  obtain ⟨a1, a2, a3, a4, a5, a6, a7⟩ := h.one hc
  obtain ⟨b1, b2, b3, b4, b5, b6, b7⟩ := h.one hd
  obtain ⟨t1, t2⟩ := h.two hc hd
  have hm : midP s a = d.fr + (lnP s a).1 := by
    unfold midP
    rcases hh with hh | ⟨hh, hh'⟩
    · rw [if_neg (by omega)]; exact hh.symm
    · have e := b6 hh
      rw [if_pos (by omega)]
      obtain ⟨j, q, q1, q2, q3, q4⟩ := h.last (by have := (pv_ok s (lnP s a).2).2.2 (by omega); exact this) (by omega)
      have : j = i + 1 := by omega
      subst this
      rw [hd] at q1; cases q1
      exact (congrArg (pvC s) (show a = (lnP s a).2 by omega)).trans q4
  unfold charsP
  rw [hm, if_neg (by omega), t2, b5, t1]
theorem chars_none {s : ByteArray} {a : Nat} (ha : cbZ s a = true) (hn : ∀ i d, (cl (s.extract (lnP s a).1 (lnP s a).2))[i + 1]? = some d → ¬ (d.fr + (lnP s a).1 = a) ∧ ¬ (i + 1 + 1 = (cl (s.extract (lnP s a).1 (lnP s a).2)).length ∧ d.to + (lnP s a).1 = a)) :
    charsP s a = (chz, 8) := by
  have h := lc_of ha
  have hl := (lnP_pl ha).le
  unfold charsP
  refine if_pos ?_
  unfold midP
  split
  · rename_i e
    rcases Nat.lt_or_ge (lnP s a).1 (pvC s a) with k | k
    · exfalso
      have hb := (pv_ok s (lnP s a).2).2.2 (by have := (pv_ok s a).2.1; omega)
      obtain ⟨j, q, q1, q2, q3, q4⟩ := h.last hb (by have := (pv_ok s a).2.1; omega)
      cases j with
      | succ j => exact (hn j q q1).2 ⟨q2, by omega⟩
      | zero =>
        have hm : ((cl (s.extract (lnP s a).1 (lnP s a).2)).map (sh (lnP s a).1))[0]? = some (sh (lnP s a).1 q) := by rw [List.getElem?_map, q1]; rfl
        have ht := h.t
        cases hL : (cl (s.extract (lnP s a).1 (lnP s a).2)).map (sh (lnP s a).1) with
        | nil => rw [hL] at hm; simp at hm
        | cons x r =>
          rw [hL] at hm ht
          simp at hm
          have := ht.1
          rw [hm] at this
          have e2 : q.fr + (lnP s a).1 = (lnP s a).1 := this
          rw [← e] at q4
          omega
    · exact k
  · rename_i e
    rcases Nat.lt_or_ge (lnP s a).1 a with k | k
    · exfalso
      obtain ⟨i, c, h1, h2⟩ := tile_at ha _ _ _ h.t h.sp (by omega) (by omega)
      rw [List.getElem?_map] at h1
      cases hL : (cl (s.extract (lnP s a).1 (lnP s a).2))[i]? with
      | none => rw [hL] at h1; cases h1
      | some d =>
        rw [hL] at h1
        have e1 : sh (lnP s a).1 d = c := by simpa using h1
        rw [← e1] at h2
        have h2' : d.fr + (lnP s a).1 = a := h2
        cases i with
        | succ i => exact (hn i d hL).1 h2'
        | zero =>
          have ht := h.t
          cases hL2 : (cl (s.extract (lnP s a).1 (lnP s a).2)) with
          | nil => rw [hL2] at hL; simp at hL
          | cons x r =>
            rw [hL2] at hL ht
            simp at hL
            subst hL
            have := ht.1
            have e2 : x.fr + (lnP s a).1 = (lnP s a).1 := this
            omega
    · exact k
/-- the search for the second word -/
theorem sel_of {l : List (Nat × Nat)} (hr : Ris l) (hw : ∀ w ∈ l, w.1 < w.2) {a k : Nat} (hk : k ≤ l.length - 1) (hb : ∀ (j : Nat) (w : Nat × Nat), j < k → l[j]? = some w → w.1 < a) (he : k = l.length - 1 ∨ ∃ w, l[k]? = some w ∧ ¬ w.1 < a) : min (belowN l a) (l.length - 1) = k := by
  have h := ris_below hr hw a
  have hle := below_le l a
  rcases Nat.lt_trichotomy (belowN l a) k with e | e | e
  · exfalso
    obtain ⟨w, hw'⟩ : ∃ w, l[belowN l a]? = some w := ⟨_, List.getElem?_eq_getElem (by omega)⟩
    have := (h _ _ hw').1 (hb _ _ e hw')
    omega
  · omega
  · rcases he with he | ⟨w, h1, h2⟩
    · omega
    · exact absurd ((h _ _ h1).2 e) h2
end Go.Proofs.YtdggbnkhbmffoaaGreatDoor
