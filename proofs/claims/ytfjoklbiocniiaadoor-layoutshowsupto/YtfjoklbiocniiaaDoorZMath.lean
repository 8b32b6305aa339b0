/-
  What is drawn for a text's clusters, in plain words: it is made of characters alone, its clusters are plain or wide, and they take as many cells. No program is walked in this text; no conditions.
-/
import Derived.Test.YtfjoklbiocniiaaDoorPkB
import Derived.Lib.ValidU
namespace Go.Proofs.YtfjoklbiocniiaaDoor
open Bod Wid

/-- all units are characters -/
def Ok (t : ByteArray) : Prop := ∀ p ∈ us t 0, 0 ≤ p.1
theorem ok_seam {a b : ByteArray} (h : Ok a) : B (a ++ b) a.size := by
  rw [B_iff3 (by rw [size_app]; omega)]
  intro k hk _
  by_cases hle : k + sz (a ++ b) k ≤ a.size
  · exact hle
  · exfalso
    have hlt : a.size < k + sz (a ++ b) k := by omega
    have hks : k < (a ++ b).size := by rw [size_app]; omega
    have hb : B (a ++ b) k := lead_B hks (by omega)
    obtain ⟨P, _, h2⟩ := us_left a b k hb (by omega) k 0 (Nat.zero_le _) (by omega)
    have hu := un_cut a b k hk hlt
    have := h (pr a k) (by rw [h2, us_step hk]; simp)
    rw [(pr_bad hu).1] at this
    exact absurd this (by decide)
theorem cls_ten : cls 10 = 1 := by decide +kernel
theorem jn_no {x y : Int} (h : cls y = 0 ∨ cls y = 4) : jn x y = false := by
  have h10 : y ≠ 10 := fun e => by rw [e, cls_ten] at h; omega
  unfold jn
  rw [if_neg h10]
  exact decide_eq_false (by omega)
theorem cls_pos {c : Int} (h : cls c ≠ 5) : 0 ≤ c := by
  by_cases hb : bad c
  · exact absurd (by unfold cls; rw [if_pos hb]) h
  · omega

/-- made of characters, its clusters plain or wide, of n cells together -/
structure Good (t : ByteArray) (n : Int) : Prop where
  ok : Ok t
  head : ∀ p r, us t 0 = p :: r → cls p.1 = 0 ∨ cls p.1 = 4
  kls : ∀ c ∈ cl t, c.k = 0 ∨ c.k = 4
  sum : sumN (cl t) = n
theorem Good.nil {t : ByteArray} (h : t.size = 0) : Good t 0 := by
  have hu : us t 0 = [] := us_end (by omega)
  have hc : cl t = [] := cl_nil h
  exact ⟨fun p hp => (by rw [hu] at hp; cases hp), fun p r h => (by rw [hu] at h; cases h), fun c hc' => (by rw [hc] at hc'; cases hc'), by rw [hc]; rfl⟩
theorem Good.app {a b : ByteArray} {n m : Int} (ha : Good a n) (hb : Good b m) : Good (a ++ b) (n + m) := by
  have hB := ok_seam (b := b) ha.ok
  have hu := us_seam_B hB
  have hcb : cbZ (a ++ b) a.size = true := by
    by_cases h0 : b.size = 0
    · have e : (a ++ b).size = a.size := by rw [size_app]; omega
      have := cb_end (a ++ b)
      rw [e] at this
      exact this
    · have h1 : ch (a ++ b) a.size = ch b 0 := by
        have := un_right a b 0
        rw [Nat.add_zero] at this
        unfold ch
        rw [this]
      have hk : cls (ch b 0) = 0 ∨ cls (ch b 0) = 4 := hb.head (pr b 0) _ (us_step (by omega))
      unfold cbZ
      rw [bd_B hB, Int.toNat_natCast, h1, jn_no hk]
      simp
  have hc := cl_cut hcb
  refine ⟨fun p hp => ?_, fun p r h => ?_, fun c hc' => ?_, by rw [hc, sumN_app, sumN_sh, ha.sum, hb.sum]⟩
  · rw [hu, List.mem_append] at hp
    exact hp.elim (ha.ok p) (hb.ok p)
  · rw [hu] at h
    cases e : us a 0 with
    | nil => rw [e] at h; exact hb.head p r h
    | cons q l =>
      rw [e] at h
      cases h
      exact ha.head _ l e
  · rw [hc, List.mem_append] at hc'
    rcases hc' with h | h
    · exact ha.kls c h
    · obtain ⟨d, hd, rfl⟩ := List.mem_map.1 h
      exact hb.kls d hd

theorem clG_marks : ∀ (l : List (Int × Int)) (c : Clu) (a : Int), cls a ≠ 1 ∧ cls a ≠ 2 → (∀ q ∈ l, cls q.1 = 3) → ∃ te, clG c a l = [⟨c.fr, te, c.k, c.n⟩]
  | [], c, a, _, _ => ⟨c.to, rfl⟩
  | q :: l, c, a, ha, hl => by
    have hq := hl q (by simp)
    have h10 : q.1 ≠ 10 := fun e => by rw [e, cls_ten] at hq; omega
    have hj : jn a q.1 = true := by unfold jn; rw [if_neg h10]; exact decide_eq_true ⟨hq, ha⟩
    obtain ⟨te, h⟩ := clG_marks l ⟨c.fr, c.to + q.2.toNat, c.k, c.n⟩ q.1 (by rw [hq]; decide) (fun x hx => hl x (by simp [hx]))
    exact ⟨te, by simp only [clG]; rw [if_pos hj, if_neg h10, if_neg h10]; exact h⟩
theorem good_run {t : ByteArray} {p : Int × Int} {l : List (Int × Int)} (h : us t 0 = p :: l) (hp : cls p.1 = 0 ∨ cls p.1 = 4) (hl : ∀ q ∈ l, cls q.1 = 3) : Good t (cel p.1) := by
  obtain ⟨te, hc⟩ := clG_marks l ⟨0, 0 + p.2.toNat, cls p.1, cel p.1⟩ p.1 (by omega) hl
  have hcl : cl t = [⟨0, te, cls p.1, cel p.1⟩] := by rw [cl_us, h]; exact hc
  refine ⟨fun q hq => ?_, fun q r e => ?_, fun c hc' => ?_, by rw [hcl]; simp [sumN]⟩
  · rw [h] at hq
    rcases List.mem_cons.1 hq with rfl | hq
    · exact cls_pos (by omega)
    · exact cls_pos (by rw [hl q hq]; decide)
  · rw [h] at e
    cases e
    exact hp
  · rw [hcl, List.mem_singleton] at hc'
    rw [hc']
    exact hp

/-- each unit is joined to the one ahead -/
def Chn : Int → List (Int × Int) → Prop
  | _, [] => True
  | a, q :: l => jn a q.1 = true ∧ Chn q.1 l
theorem chn_snoc : ∀ {l : List (Int × Int)} {a : Int} {q : Int × Int}, Chn a l → jn (lastC a l) q.1 = true → Chn a (l ++ [q])
  | [], _, _, _, h => ⟨h, trivial⟩
  | _ :: _, _, _, h, k => ⟨h.1, chn_snoc h.2 k⟩
theorem last_snoc : ∀ (l : List (Int × Int)) (a : Int) (q : Int × Int), lastC a (l ++ [q]) = q.1
  | [], _, _ => rfl
  | p :: l, _, q => last_snoc l p.1 q
theorem endC_app : ∀ (l1 l2 : List (Int × Int)) (i : Nat), endC i (l1 ++ l2) = endC (endC i l1) l2
  | [], _, _ => rfl
  | p :: l1, l2, i => endC_app l1 l2 (i + p.2.toNat)
def kf : Int → List (Int × Int) → Int
  | k, [] => k
  | k, q :: l => kf (if q.1 = 10 then 1 else k) l
def nf : Int → List (Int × Int) → Int
  | k, [] => k
  | k, q :: l => nf (if q.1 = 10 then 0 else k) l
theorem kf_snoc : ∀ (l : List (Int × Int)) (k : Int) (q : Int × Int), kf k (l ++ [q]) = if q.1 = 10 then 1 else kf k l
  | [], _, _ => rfl
  | _ :: l, _, q => kf_snoc l _ q
theorem nf_snoc : ∀ (l : List (Int × Int)) (k : Int) (q : Int × Int), nf k (l ++ [q]) = if q.1 = 10 then 0 else nf k l
  | [], _, _ => rfl
  | _ :: l, _, q => nf_snoc l _ q
/-- the units of a cluster -/
structure Part (i : Nat) (L : List (Int × Int)) (d : Clu) (P : List (Int × Int)) (p : Int × Int) (l R : List (Int × Int)) : Prop where
  eq : L = P ++ (p :: l) ++ R
  fr : d.fr = endC i P
  te : d.to = endC i (P ++ p :: l)
  chn : Chn p.1 l
  k : d.k = kf (cls p.1) l
  n : d.n = nf (cel p.1) l
theorem clG_mem (i : Nat) : ∀ (L : List (Int × Int)) (c : Clu) (P : List (Int × Int)) (p : Int × Int) (l : List (Int × Int)), c.fr = endC i P → c.to = endC i (P ++ p :: l) → Chn p.1 l → c.k = kf (cls p.1) l → c.n = nf (cel p.1) l →
    ∀ d ∈ clG c (lastC p.1 l) L, ∃ P' p' l' R, Part i (P ++ (p :: l) ++ L) d P' p' l' R
  | [], c, P, p, l, h1, h2, h3, h4, h5, d, hd => by
    simp only [clG, List.mem_singleton] at hd
    subst hd
    exact ⟨P, p, l, [], rfl, h1, h2, h3, h4, h5⟩
  | q :: L, c, P, p, l, h1, h2, h3, h4, h5, d, hd => by
    simp only [clG] at hd
    by_cases hj : jn (lastC p.1 l) q.1 = true
    · rw [if_pos hj] at hd
      have := clG_mem i L ⟨c.fr, c.to + q.2.toNat, if q.1 = 10 then 1 else c.k, if q.1 = 10 then 0 else c.n⟩ P p (l ++ [q]) h1
        (by show c.to + q.2.toNat = _; rw [h2, show P ++ p :: (l ++ [q]) = (P ++ p :: l) ++ [q] by simp, endC_app (P ++ p :: l) [q]]; rfl)
        (chn_snoc h3 hj) (by rw [kf_snoc]; show (if q.1 = 10 then 1 else c.k) = _; rw [h4]) (by rw [nf_snoc]; show (if q.1 = 10 then 0 else c.n) = _; rw [h5]) d (by rw [last_snoc]; exact hd)
      obtain ⟨P', p', l', R, h⟩ := this
      exact ⟨P', p', l', R, by rw [← h.eq]; simp, h.fr, h.te, h.chn, h.k, h.n⟩
    · rw [if_neg hj] at hd
      rcases List.mem_cons.1 hd with rfl | hd
      · exact ⟨P, p, l, q :: L, rfl, h1, h2, h3, h4, h5⟩
      · have := clG_mem i L ⟨c.to, c.to + q.2.toNat, cls q.1, cel q.1⟩ (P ++ p :: l) q [] h2
          (by show c.to + q.2.toNat = _; rw [h2, endC_app (P ++ p :: l) [q]]; rfl) trivial rfl rfl d hd
        obtain ⟨P', p', l', R, h⟩ := this
        exact ⟨P', p', l', R, by rw [← h.eq]; simp, h.fr, h.te, h.chn, h.k, h.n⟩
theorem cl_part {s : ByteArray} {d : Clu} (hd : d ∈ cl s) : ∃ P p l R, Part 0 (us s 0) d P p l R := by
  rw [cl_us] at hd
  cases e : us s 0 with
  | nil => rw [e] at hd; cases hd
  | cons q L =>
    rw [e] at hd
    exact clG_mem 0 L ⟨0, 0 + q.2.toNat, cls q.1, cel q.1⟩ [] q [] rfl rfl trivial rfl rfl d hd

theorem us_cons {s : ByteArray} {i : Nat} {p : Int × Int} {l : List (Int × Int)} (h : us s i = p :: l) : i < s.size ∧ p = pr s i ∧ l = us s (i + sz s i) ∧ p.2.toNat = sz s i := by
  have hi : i < s.size := by
    by_cases hi : i < s.size
    · exact hi
    · rw [us_end (by omega)] at h; cases h
  rw [us_step hi] at h
  cases h
  exact ⟨hi, rfl, rfl, by simp [pr]⟩
theorem us_drop {s : ByteArray} : ∀ {P Q : List (Int × Int)} {i : Nat}, us s i = P ++ Q → i ≤ s.size → us s (endC i P) = Q ∧ endC i P ≤ s.size ∧ i ≤ endC i P
  | [], _, _, h, hi => ⟨h, hi, Nat.le_refl _⟩
  | p :: P, Q, i, h, hi => by
    obtain ⟨h1, _, h3, h4⟩ := us_cons h
    have := us_drop (P := P) (Q := Q) (i := i + sz s i) h3.symm (sz_in h1)
    simp only [endC, h4]
    exact ⟨this.1, this.2.1, by omega⟩
theorem us_take {s : ByteArray} {b : Nat} (hb : b ≤ s.size) : ∀ {U R : List (Int × Int)} {i : Nat}, us s i = U ++ R → i ≤ s.size → endC i U = b → us (s.extract 0 b) i = U
  | [], _, i, _, _, he => by
    have he : i = b := he
    exact us_end (by rw [size_extract _ _ _ hb]; omega)
  | p :: U, R, i, h, hi, he => by
    obtain ⟨h1, h2, h3, h4⟩ := us_cons h
    simp only [endC, h4] at he
    have hd := us_drop (P := U) (Q := R) (i := i + sz s i) h3.symm (sz_in h1)
    rw [he] at hd
    have hz := sz_pos h1
    have hs : (s.extract 0 b).size = b := by rw [size_extract _ _ _ hb]; omega
    have hx := extract_cut s b hb
    have hu : un (s.extract 0 b) i = un s i := by
      have := un_left (s.extract 0 b) (s.extract b s.size) i (by omega) (by rw [hx, hs]; omega)
      rw [hx] at this
      exact this
    have hsz : sz (s.extract 0 b) i = sz s i := by unfold sz; rw [hu]
    rw [us_step (by omega), pr_congr hu, ← h2, hsz, us_take hb (U := U) (R := R) h3.symm (sz_in h1) he]
theorem us_from {t : ByteArray} {a : Nat} (ha : a ≤ t.size) : us (t.extract a t.size) 0 = us t a := by
  have hx := extract_cut t a ha
  have hs : (t.extract 0 a).size = a := by rw [size_extract _ _ _ ha]; omega
  have := us_right (t.extract 0 a) (t.extract a t.size) (t.extract a t.size).size 0 (by omega)
  rw [hx, hs, Nat.add_zero] at this
  exact this.symm
theorem extract_two (s : ByteArray) (a b : Nat) : (s.extract 0 b).extract a b = s.extract a b := by
  apply ByteArray.ext
  simp [ByteArray.data_extract]
theorem us_piece {s : ByteArray} {P U R : List (Int × Int)} (h : us s 0 = P ++ U ++ R) : us (s.extract (endC 0 P) (endC 0 (P ++ U))) 0 = U ∧ endC 0 (P ++ U) ≤ s.size := by
  have h1 := us_drop (P := P ++ U) (Q := R) (i := 0) h (Nat.zero_le _)
  have h2 := us_drop (P := P) (Q := U ++ R) (i := 0) (by rw [h]; simp) (Nat.zero_le _)
  refine ⟨?_, h1.2.1⟩
  obtain ⟨b, hb⟩ : ∃ b, endC 0 (P ++ U) = b := ⟨_, rfl⟩
  have hab : endC (endC 0 P) U = b := by rw [← endC_app, hb]
  rw [hb] at h1 ⊢
  have h3 := us_take h1.2.1 (U := U) (R := R) h2.1 h2.2.1 hab
  have hs : (s.extract 0 b).size = b := by rw [size_extract _ _ _ h1.2.1]; omega
  have hle : endC 0 P ≤ b := by
    have := (us_drop (P := U) (Q := R) (i := endC 0 P) h2.1 h2.2.1).2.2
    rw [hab] at this
    exact this
  have h4 := us_from (t := s.extract 0 b) (a := endC 0 P) (by omega)
  rw [hs, extract_two s] at h4
  rw [h4, h3]
end Go.Proofs.YtfjoklbiocniiaaDoor
