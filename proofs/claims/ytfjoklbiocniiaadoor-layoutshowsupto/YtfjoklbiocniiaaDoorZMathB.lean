/-
  What is drawn for a text, cluster by cluster: characters alone, plain or wide, of as many cells; and it is drawn as itself. No program is walked in this text; no conditions.
-/
import Derived.Test.YtfjoklbiocniiaaDoorZMath
import Derived.Test.YtfjoklbiocniiaaDoorYMath
namespace Go.Proofs.YtfjoklbiocniiaaDoor
open Bod Wid

theorem cls_13 : cls 13 = 2 := by decide +kernel
theorem chn_marks : ∀ {l : List (Int × Int)} {a : Int}, cls a ≠ 1 → cls a ≠ 2 → Chn a l → ∀ q ∈ l, cls q.1 = 3 ∧ q.1 ≠ 10
  | [], _, _, _, _, q, hq => by cases hq
  | x :: l, a, h1, h2, h, q, hq => by
    have hx : cls x.1 = 3 ∧ x.1 ≠ 10 := by
      have hj := h.1
      unfold jn at hj
      by_cases e : x.1 = 10
      · rw [if_pos e] at hj
        have : a = 13 := by simpa using hj
        rw [this, cls_13] at h2
        exact absurd rfl h2
      · rw [if_neg e] at hj
        have := of_decide_eq_true hj
        exact ⟨this.1, e⟩
    rcases List.mem_cons.1 hq with rfl | hq
    · exact hx
    · exact chn_marks (by rw [hx.1]; decide) (by rw [hx.1]; decide) h.2 q hq
theorem kf_same : ∀ {l : List (Int × Int)} (k : Int), (∀ q ∈ l, q.1 ≠ 10) → kf k l = k ∧ nf k l = k
  | [], _, _ => ⟨rfl, rfl⟩
  | x :: l, k, h => by
    have hx := h x (by simp)
    have := kf_same (l := l) k (fun q hq => h q (by simp [hq]))
    simp only [kf, nf, if_neg hx]
    exact this
theorem chn_ctl {l : List (Int × Int)} {a : Int} (ha : cls a = 1 ∨ cls a = 2) (h : Chn a l) : l = [] ∨ ∃ q, l = [q] ∧ q.1 = 10 ∧ a = 13 := by
  match l, h with
  | [], _ => exact .inl rfl
  | x :: l, h =>
    have hj := h.1
    unfold jn at hj
    by_cases e : x.1 = 10
    · rw [if_pos e] at hj
      have h13 : a = 13 := by simpa using hj
      match l, h with
      | [], _ => exact .inr ⟨x, rfl, e, h13⟩
      | y :: l, h =>
        have hj := h.2.1
        rw [e] at hj
        unfold jn at hj
        by_cases e2 : y.1 = 10
        · rw [if_pos e2] at hj; exact absurd hj (by decide)
        · rw [if_neg e2, cls_ten] at hj; exact absurd hj (by simp)
    · rw [if_neg e] at hj
      have := of_decide_eq_true hj
      omega
theorem cls_cases (c : Int) : cls c = 0 ∨ cls c = 1 ∨ cls c = 2 ∨ cls c = 3 ∨ cls c = 4 ∨ cls c = 5 := by
  unfold cls
  repeat' split
  all_goals simp
theorem cls_one {c : Int} (h : cls c = 1) : c = 10 := by
  unfold cls at h
  repeat' split at h
  all_goals first | assumption | (exact absurd h (by decide))
theorem cel_of {c : Int} (h1 : cls c ≠ 1) (h4 : cls c ≠ 4) (h2 : cls c ≠ 2) : cel c = 1 := by
  unfold cel
  rw [if_neg h1, if_neg h4, if_neg (fun h => h2 h.1)]
theorem dec_high {n b0 b1 b2 b3 : Nat} (h : 128 ≤ b0) (h0 : b0 < 256) : 128 ≤ (Lib.decodeN n b0 b1 b2 b3).1 := by
  unfold Lib.decodeN
  rw [if_neg (by omega)]
  repeat' split
  all_goals (simp only []; omega)

/-- one printable byte -/
theorem good_byte {x : UInt8} (h : 32 ≤ x.toNat ∧ x.toNat < 127) : Good ⟨#[x]⟩ 1 := by
  have hb : bt ⟨#[x]⟩ 0 = x.toNat := by rw [bt_eq]; rfl
  have ha := ch_ascii (s := ⟨#[x]⟩) (i := 0) (by rw [hb]; omega)
  have hu : us ⟨#[x]⟩ 0 = [((x.toNat : Int), 1)] := by
    rw [us_step (by show 0 < 1; omega), us_end (by rw [ha.2]; show 1 ≤ 0 + 1; omega)]
    unfold pr
    rw [ha.1, ha.2, hb]
    rfl
  have hk : cls (x.toNat : Int) = 0 := by
    unfold cls bad
    rw [if_neg (by omega), if_neg (by omega), if_neg (by omega), if_pos (by omega)]
  have := good_run hu (.inl hk) (fun q hq => by cases hq)
  rwa [show cel ((x.toNat : Int), (1 : Int)).1 = 1 from cel_of (by rw [hk]; decide) (by rw [hk]; decide) (by rw [hk]; decide)] at this
theorem us_repl : us ⟨#[239, 191, 189]⟩ 0 = [(65533, 3)] := by decide +kernel
theorem us_blank : us ⟨#[32]⟩ 0 = [(32, 1)] := by decide +kernel
theorem cls_repl : cls 65533 = 0 := by decide +kernel
theorem cls_blank : cls 32 = 0 := by decide +kernel
theorem str_app (a b : List UInt8) : (⟨(a ++ b).toArray⟩ : ByteArray) = ⟨a.toArray⟩ ++ ⟨b.toArray⟩ := by
  apply ByteArray.ext
  simp

theorem piece_good {s : ByteArray} {c : Clu} (hc : c ∈ cl s) : Good ⟨(drw c.k (sub s c.fr c.to)).toArray⟩ c.n := by
  obtain ⟨P, p, l, R, h⟩ := cl_part hc
  obtain ⟨hu, hto⟩ := us_piece h.eq
  rw [← h.fr, ← h.te] at hu
  rw [← h.te] at hto
  obtain ⟨own, ho⟩ : ∃ own, s.extract c.fr c.to = own := ⟨_, rfl⟩
  have hsub : sub s c.fr c.to = own.data.toList := by unfold sub; rw [ho]
  rw [ho] at hu
  obtain ⟨hpos, hp, hl, hz⟩ := us_cons hu
  obtain ⟨x, r, hx⟩ : ∃ x r, own.data.toList = x :: r := by
    cases e : own.data.toList with
    | nil => rw [Lib.size_eq, e] at hpos; simp at hpos
    | cons x r => exact ⟨x, r, rfl⟩
  have hown : own = ⟨(x :: r).toArray⟩ := by rw [← hx]
  have hbt : bt own 0 = x.toNat := by rw [bt_eq, hx]; rfl
  have hp1 : p.1 = ch own 0 := by rw [hp]; rfl
  rw [hsub, hx, h.k, h.n]
  have hch := h.chn
  rcases cls_cases p.1 with hk | hk | hk | hk | hk | hk
  · -- plain
    have hm := chn_marks (by rw [hk]; decide) (by rw [hk]; decide) hch
    have hs := kf_same (l := l) (cls p.1) (fun q hq => (hm q hq).2)
    have hn := kf_same (l := l) (cel p.1) (fun q hq => (hm q hq).2)
    rw [hs.1, hn.2, hk]
    show Good ⟨(x :: r).toArray⟩ (cel p.1)
    rw [← hown]
    exact good_run hu (.inl hk) (fun q hq => (hm q hq).1)
  · -- newline
    have h10 := cls_one hk
    rcases chn_ctl (.inl hk) hch with rfl | ⟨q, _, _, h13⟩
    · show Good ⟨(drw (cls p.1) (x :: r)).toArray⟩ (cel p.1)
      have : cel p.1 = 0 := by unfold cel; rw [if_pos hk]
      rw [this, hk]
      exact Good.nil rfl
    · omega
  · -- control
    rcases chn_ctl (.inr hk) hch with rfl | ⟨q, rfl, h10, _⟩
    · show Good ⟨(drw (cls p.1) (x :: r)).toArray⟩ (cel p.1)
      have h2 := cls_two hk
      have hcel : cel p.1 = if p.1 ≤ 127 then 2 else 1 := by
        unfold cel
        rw [hk]
        by_cases e : p.1 ≤ 127
        · rw [if_pos e]; simp [e]
        · rw [if_neg e]; simp [e]
      rw [hcel, hk]
      by_cases hlt : x.toNat < 128
      · have ha := (ch_ascii (s := own) (i := 0) (by rw [hbt]; exact hlt)).1
        rw [hbt] at ha
        rw [hp1, ha] at h2 ⊢
        rw [if_pos (by omega)]
        have e : drw 2 (x :: r) = [94] ++ [x ^^^ 64] := by
          simp only [drw]
          rw [if_neg (by decide), if_pos trivial, if_pos hlt]
          rfl
        rw [e, str_app]
        have hxx : 32 ≤ (x ^^^ 64).toNat ∧ (x ^^^ 64).toNat < 127 := by
          have : ∀ n : Fin 128, (n.val ≤ 31 ∨ n.val = 127) → 32 ≤ n.val ^^^ 64 ∧ n.val ^^^ 64 < 127 := by decide +kernel
          rw [UInt8.toNat_xor]
          exact this ⟨x.toNat, hlt⟩ (by show x.toNat ≤ 31 ∨ x.toNat = 127; omega)
        exact (good_byte (by decide)).app (good_byte hxx)
      · have e : drw 2 (x :: r) = [239, 191, 189] := by
          simp only [drw]
          rw [if_neg (by decide), if_pos trivial, if_neg hlt]
        rw [e]
        have hge : 128 ≤ p.1 := by
          have hd := dec_high (n := own.size - 0) (b0 := bt own 0) (b1 := bt own 1) (b2 := bt own 2) (b3 := bt own 3) (by omega) (bt_lt own 0)
          have hd : 128 ≤ (un own 0).1 := hd
          have h0 : 0 ≤ p.1 := cls_pos (by rw [hk]; decide)
          rw [hp1] at h0 ⊢
          unfold ch at h0 ⊢
          split at h0
          · omega
          · rw [if_neg (by assumption)]; omega
        rw [if_neg (by omega)]
        exact good_run us_repl (.inl cls_repl) (fun q hq => by cases hq)
    · show Good ⟨(drw (if q.1 = 10 then 1 else cls p.1) (x :: r)).toArray⟩ (if q.1 = 10 then 0 else cel p.1)
      rw [if_pos h10, if_pos h10]
      exact Good.nil rfl
  · -- mark
    have hm := chn_marks (by rw [hk]; decide) (by rw [hk]; decide) hch
    have hs := kf_same (l := l) (cls p.1) (fun q hq => (hm q hq).2)
    have hn := kf_same (l := l) (cel p.1) (fun q hq => (hm q hq).2)
    rw [hs.1, hn.2, hk, cel_of (by rw [hk]; decide) (by rw [hk]; decide) (by rw [hk]; decide)]
    have e : drw 3 (x :: r) = [32] ++ (x :: r) := rfl
    rw [e, str_app, ← hown]
    have hok : Ok ⟨#[32]⟩ := fun q hq => by rw [us_blank] at hq; rw [List.mem_singleton.1 hq]; decide
    have hus : us ((⟨#[32]⟩ : ByteArray) ++ own) 0 = (32, 1) :: p :: l := by rw [us_seam_B (ok_seam hok), us_blank, hu]; rfl
    exact good_run hus (.inl cls_blank) (fun q hq => by
      rcases List.mem_cons.1 hq with rfl | hq
      · exact hk
      · exact (hm q hq).1)
  · -- wide
    have hm := chn_marks (by rw [hk]; decide) (by rw [hk]; decide) hch
    have hs := kf_same (l := l) (cls p.1) (fun q hq => (hm q hq).2)
    have hn := kf_same (l := l) (cel p.1) (fun q hq => (hm q hq).2)
    rw [hs.1, hn.2, hk]
    show Good ⟨(x :: r).toArray⟩ (cel p.1)
    rw [← hown]
    exact good_run hu (.inr hk) (fun q hq => (hm q hq).1)
  · -- bad
    have hm := chn_marks (by rw [hk]; decide) (by rw [hk]; decide) hch
    have hs := kf_same (l := l) (cls p.1) (fun q hq => (hm q hq).2)
    have hn := kf_same (l := l) (cel p.1) (fun q hq => (hm q hq).2)
    rw [hs.1, hn.2, hk, cel_of (by rw [hk]; decide) (by rw [hk]; decide) (by rw [hk]; decide)]
    have e : drw 5 (x :: r) = [239, 191, 189] ++ r := rfl
    rw [e, str_app]
    have hneg : ch own 0 < 0 := by
      by_cases h0 : 0 ≤ ch own 0
      · have hv := (good_bytes hpos h0).1
        have hv : Lib.validRune (ch own 0) = true := hv
        unfold Lib.validRune at hv
        have hv := of_decide_eq_true hv
        exact absurd (by rw [← hp1]; exact hk) (show cls (ch own 0) ≠ 5 by
          unfold cls bad
          rw [if_neg (by omega)]
          repeat' split
          all_goals decide)
      · omega
    have hz1 := (ch_neg hneg).2
    have hrest : (⟨r.toArray⟩ : ByteArray) = own.extract 1 own.size := by
      apply ByteArray.ext
      have := own_tail hx
      rw [← this]
    have hok : Ok ⟨#[239, 191, 189]⟩ := fun q hq => by rw [us_repl] at hq; rw [List.mem_singleton.1 hq]; decide
    have hus : us ((⟨#[239, 191, 189]⟩ : ByteArray) ++ ⟨r.toArray⟩) 0 = (65533, 3) :: l := by
      rw [us_seam_B (ok_seam hok), us_repl, hrest, us_from (by omega), hl, hz1]
      rfl
    exact good_run hus (.inl cls_repl) (fun q hq => (hm q hq).1)
theorem good_all {s : ByteArray} : ∀ l : List Clu, (∀ c ∈ l, c ∈ cl s) → Good ⟨(drawnL s l).toArray⟩ (sumN l)
  | [], _ => Good.nil rfl
  | c :: r, h => by
    have e : drawnL s (c :: r) = drw c.k (sub s c.fr c.to) ++ drawnL s r := by simp [drawnL]
    rw [e, str_app]
    exact (piece_good (h c (by simp))).app (good_all r (fun d hd => h d (by simp [hd])))
/-- what is drawn for a text -/
def shown (s : ByteArray) : ByteArray := ⟨(drawnL s (cl s)).toArray⟩
theorem shown_good (s : ByteArray) : Good (shown s) (sumN (cl s)) := good_all (cl s) (fun _ h => h)

theorem drawn_self {t : ByteArray} : ∀ {l : List Clu} {i j : Nat}, tiled i l j → j ≤ t.size → (∀ c ∈ l, c.k = 0 ∨ c.k = 4) → drawnL t l = sub t i j
  | [], i, j, h, hj, _ => by
    have h : i = j := h
    subst h
    rw [sub_eq]
    simp [drawnL]
  | c :: r, i, j, h, hj, hk => by
    obtain ⟨h1, h2, h3⟩ := h
    have h4 := tiled_le h3
    have e : drawnL t (c :: r) = drw c.k (sub t c.fr c.to) ++ drawnL t r := by simp [drawnL]
    have ed : drw c.k (sub t c.fr c.to) = sub t c.fr c.to := by
      cases hs : sub t c.fr c.to with
      | nil => rfl
      | cons x q =>
        simp only [drw]
        have := hk c (by simp)
        rw [if_neg (by omega), if_neg (by omega), if_neg (by omega), if_neg (by omega)]
    rw [e, ed, drawn_self h3 hj (fun d hd => hk d (by simp [hd])), h1, sub_eq, sub_eq, sub_eq]
    have e2 : t.data.toList.drop c.to = (t.data.toList.drop i).drop (c.to - i) := by rw [List.drop_drop]; congr 1; omega
    rw [e2, show j - i = (c.to - i) + (j - c.to) by omega, List.take_add]
theorem shown_self (s : ByteArray) : shown (shown s) = shown s := by
  have h := shown_good s
  have := drawn_self (t := shown s) (cl_tile (shown s)) (Nat.le_refl _) h.kls
  unfold shown at this ⊢
  rw [this, sub_eq]
  apply ByteArray.ext
  simp only [List.drop_zero, Nat.sub_zero]
  rw [List.take_of_length_le (show (drawnL s (cl s)).length ≤ (⟨(drawnL s (cl s)).toArray⟩ : ByteArray).size by simp [ByteArray.size])]

theorem decodeL_un (l : List UInt8) : Lib.decodeL l = un ⟨l.toArray⟩ 0 := by
  unfold Lib.decodeL
  rw [Lib.decode_at]
  rfl
theorem drop_str (l : List UInt8) (k : Nat) : (⟨(l.drop k).toArray⟩ : ByteArray) = (⟨l.toArray⟩ : ByteArray).extract k (⟨l.toArray⟩ : ByteArray).size := by
  apply ByteArray.ext
  have e : (⟨l.toArray⟩ : ByteArray).size = l.length := by simp [ByteArray.size]
  rw [e, ByteArray.data_extract]
  simp only [List.extract_toArray, List.extract_eq_take_drop]
  rw [List.take_of_length_le (by simp)]
theorem valid_go : ∀ (n : Nat) (l : List UInt8), Ok ⟨l.toArray⟩ → Lib.validGoD n l = true
  | 0, _, _ => rfl
  | n + 1, l, h => by
    unfold Lib.validGoD
    by_cases h0 : l = []
    · rw [if_pos h0]
    · rw [if_neg h0, decodeL_un]
      have hpos : 0 < (⟨l.toArray⟩ : ByteArray).size := by
        have := List.length_pos_iff.2 h0
        simpa [ByteArray.size] using this
      have hc : 0 ≤ ch ⟨l.toArray⟩ 0 := h (pr ⟨l.toArray⟩ 0) (by rw [us_step hpos]; simp)
      have hn : ¬ ((un ⟨l.toArray⟩ 0).1 = 65533 ∧ (un ⟨l.toArray⟩ 0).2 = 1) := fun e => by
        unfold ch at hc
        rw [if_pos e] at hc
        omega
      rw [if_neg hn]
      refine valid_go n _ (fun p hp => h p ?_)
      have hsz := sz_in hpos
      rw [Nat.zero_add] at hsz
      rw [drop_str] at hp
      have hp : p ∈ us ((⟨l.toArray⟩ : ByteArray).extract (sz ⟨l.toArray⟩ 0) (⟨l.toArray⟩ : ByteArray).size) 0 := hp
      rw [us_from hsz] at hp
      rw [us_step hpos, Nat.zero_add]
      exact List.mem_cons_of_mem _ hp
theorem shown_valid (s : ByteArray) : Lib.validD (shown s).data.toList = true := by
  have h := (shown_good s).ok
  exact valid_go _ _ h
end Go.Proofs.YtfjoklbiocniiaaDoor
