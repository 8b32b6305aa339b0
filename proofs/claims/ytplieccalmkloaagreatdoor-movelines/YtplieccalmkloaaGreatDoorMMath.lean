/-
  What is counted of a text, in plain words: each count is a sum over the units, of what stands ahead and of the unit; so what a seam changes is seen by sixteen bytes at each side of it. No program is walked in this text; no conditions.
-/
import Derived.Test.YtplieccalmkloaaGreatDoorPkB
namespace Go.Proofs.YtplieccalmkloaaGreatDoor
open Bod Wid

/-- a count: of the first unit g0, of every other one g, by the character ahead -/
structure Cnt where
  g0 : Int → Int
  g : Int → Int → Int
def Cnt.S (k : Cnt) : Int → List (Int × Int) → Int
  | _, [] => 0
  | a, p :: r => k.g a p.1 + k.S p.1 r
def Cnt.T (k : Cnt) : List (Int × Int) → Int
  | [] => 0
  | p :: r => k.g0 p.1 + k.S p.1 r
theorem Cnt.S_app (k : Cnt) : ∀ (l1 l2 : List (Int × Int)) (a : Int), k.S a (l1 ++ l2) = k.S a l1 + k.S (lastC a l1) l2
  | [], l2, a => by simp [Cnt.S, lastC]
  | p :: l1, l2, a => by
    simp only [List.cons_append, Cnt.S, lastC]
    rw [Cnt.S_app k l1 l2 p.1]
    omega
/-- the character ahead of what comes behind a list -/
def lastU : List (Int × Int) → Int
  | [] => 0
  | p :: r => lastC p.1 r
theorem Cnt.T_app (k : Cnt) {l1 : List (Int × Int)} (h : l1 ≠ []) (l2 : List (Int × Int)) : k.T (l1 ++ l2) = k.T l1 + k.S (lastU l1) l2 := by
  cases l1 with
  | nil => exact absurd rfl h
  | cons p r =>
    simp only [List.cons_append, Cnt.T, lastU]
    rw [Cnt.S_app]
    omega
/-- the count of a text -/
def Cnt.of (k : Cnt) (s : ByteArray) : Int := k.T (us s 0)
def kU : Cnt := ⟨fun _ => 1, fun _ _ => 1⟩
def kC : Cnt := ⟨fun _ => 1, fun a u => if jn a u then 0 else 1⟩
def kN : Cnt := ⟨cel, fun a u => if jn a u then (if u = 10 then -2 else 0) else cel u⟩
theorem kU_S : ∀ (l : List (Int × Int)) (a : Int), kU.S a l = l.length
  | [], _ => rfl
  | p :: r, _ => by
    simp only [Cnt.S, List.length_cons]
    rw [kU_S r]
    show (1 : Int) + _ = _
    omega
theorem kU_of (s : ByteArray) : kU.of s = (offs s 0).length := by
  unfold Cnt.of
  have e : (us s 0).length = (offs s 0).length := by simp [us]
  rw [← e]
  cases us s 0 with
  | nil => rfl
  | cons p r =>
    simp only [Cnt.T, kU_S r, List.length_cons]
    show (1 : Int) + _ = _
    omega
theorem kC_S : ∀ (l : List (Int × Int)) (c : Clu) (a : Int), ((clG c a l).length : Int) = 1 + kC.S a l
  | [], _, _ => rfl
  | p :: r, c, a => by
    have e : kC.g a p.1 = if jn a p.1 then 0 else 1 := rfl
    simp only [clG, Cnt.S, e]
    split
    · rw [kC_S r]; omega
    · rw [List.length_cons]
      have := kC_S r ⟨c.to, c.to + p.2.toNat, cls p.1, cel p.1⟩ p.1
      omega
theorem kC_of (s : ByteArray) : kC.of s = (cl s).length := by
  unfold Cnt.of
  rw [cl_us]
  cases us s 0 with
  | nil => rfl
  | cons p r =>
    simp only [clU, Cnt.T]
    rw [kC_S]
    rfl
theorem cls13 : cls 13 = 2 := by decide +kernel
theorem cel13 : cel 13 = 2 := by decide +kernel
theorem jn13 (a : Int) : jn a 13 = false := by
  unfold jn
  rw [if_neg (by decide), cls13]
  exact decide_eq_false (by omega)
theorem kN_S : ∀ (l : List (Int × Int)) (c : Clu) (a : Int), (a = 13 → c.n = 2) → sumN (clG c a l) = c.n + kN.S a l
  | [], c, _, _ => by simp [clG, sumN, Cnt.S]
  | p :: r, c, a, h => by
    have e : kN.g a p.1 = if jn a p.1 then (if p.1 = 10 then -2 else 0) else cel p.1 := rfl
    simp only [clG, Cnt.S, e]
    by_cases hj : jn a p.1 = true
    · rw [if_pos hj, if_pos hj, kN_S r _ _ (fun e13 => by rw [e13, jn13] at hj; cases hj)]
      by_cases h10 : p.1 = 10
      · have h13 : a = 13 := by
          unfold jn at hj
          rw [if_pos h10] at hj
          simpa using hj
        have := h h13
        simp only [if_pos h10]
        omega
      · simp only [if_neg h10]
        omega
    · rw [if_neg hj, if_neg hj]
      simp only [sumN]
      rw [kN_S r _ _ (fun e13 => by show cel p.1 = 2; rw [e13, cel13])]
theorem kN_of (s : ByteArray) : kN.of s = sumN (cl s) := by
  unfold Cnt.of
  rw [cl_us]
  cases us s 0 with
  | nil => rfl
  | cons p r =>
    simp only [clU, Cnt.T]
    rw [kN_S r _ _ (fun e13 => by show cel p.1 = 2; rw [e13, cel13])]
    rfl

theorem app_assoc (a b c : ByteArray) : a ++ b ++ c = a ++ (b ++ c) := by
  apply ByteArray.ext
  simp
theorem un_mid (p q b : ByteArray) (k : Nat) (h : k + 4 ≤ q.size) : un (p ++ (q ++ b)) (p.size + k) = un q k := by
  rw [un_right, un_left4 q b k h]
/-- a boundary well within q is one whatever stands around -/
theorem B_mid {q : ByteArray} {m : Nat} (hm : B q m) (h3 : 3 ≤ m) (h4 : m + 4 ≤ q.size) (p b : ByteArray) : B (p ++ (q ++ b)) (p.size + m) := by
  rw [B_iff3 (by rw [size_app, size_app]; omega)]
  intro k hk hk3
  have h := (B_iff3 (by omega)).1 hm (k - p.size) (by omega) (by omega)
  have e : sz (p ++ (q ++ b)) k = sz q (k - p.size) := by
    have := un_mid p q b (k - p.size) (by omega)
    rw [show p.size + (k - p.size) = k by omega] at this
    unfold sz
    rw [this]
  rw [e]
  omega
theorem B_some {q : ByteArray} (h : 10 ≤ q.size) : ∃ m, 3 ≤ m ∧ m ≤ 6 ∧ B q m := by
  have hd := dnF_Dn (s := q) (i := 6) (by omega)
  have h1 := hd.gt
  have h2 := hd.le
  have h3 := sz_le (s := q) (i := dnF q 6) (by omega)
  exact ⟨dnF q 6, by omega, h2, hd.bd⟩
theorem us_ne {s : ByteArray} (h : 0 < s.size) : us s 0 ≠ [] := by rw [us_step h]; simp
/-- ten bytes between two texts keep what is counted apart -/
theorem mid (k : Cnt) (p q b : ByteArray) (h : 10 ≤ q.size) : k.of (p ++ (q ++ b)) + k.of q = k.of (p ++ q) + k.of (q ++ b) := by
  obtain ⟨m, h3, h6, hm⟩ := B_some h
  obtain ⟨q1, e1⟩ : ∃ q1, q.extract 0 m = q1 := ⟨_, rfl⟩
  obtain ⟨q2, e2⟩ : ∃ q2, q.extract m q.size = q2 := ⟨_, rfl⟩
  have hq : q1 ++ q2 = q := by rw [← e1, ← e2]; exact extract_cut q m (by omega)
  have s1 : q1.size = m := by rw [← e1, size_extract _ _ _ (by omega)]; omega
  have s2 : q2.size = q.size - m := by rw [← e2, size_extract _ _ _ (Nat.le_refl _)]
  have b1 : B (p ++ (q ++ b)) (p.size + m) := B_mid hm h3 (by omega) p b
  have b2 : B (q ++ b) m := by
    have := B_mid hm h3 (by omega) ByteArray.empty b
    simpa using this
  have b3 : B (p ++ q) (p.size + m) := by
    have := B_mid hm h3 (by omega) p ByteArray.empty
    simpa using this
  have r1 : p ++ (q ++ b) = (p ++ q1) ++ (q2 ++ b) := by rw [← hq]; simp only [app_assoc]
  have r2 : q ++ b = q1 ++ (q2 ++ b) := by rw [← hq]; simp only [app_assoc]
  have r3 : p ++ q = (p ++ q1) ++ q2 := by rw [← hq]; simp only [app_assoc]
  have z1 : (p ++ q1).size = p.size + m := by rw [size_app, s1]
  have u1 : us (p ++ (q ++ b)) 0 = us (p ++ q1) 0 ++ us (q2 ++ b) 0 := by
    rw [r1]; exact us_seam_B (by rw [z1, ← r1]; exact b1)
  have u2 : us (q ++ b) 0 = us q1 0 ++ us (q2 ++ b) 0 := by
    rw [r2]; exact us_seam_B (by rw [s1, ← r2]; exact b2)
  have u3 : us (p ++ q) 0 = us (p ++ q1) 0 ++ us q2 0 := by
    rw [r3]; exact us_seam_B (by rw [z1, ← r3]; exact b3)
  have u4 : us q 0 = us q1 0 ++ us q2 0 := by
    rw [← hq]; exact us_seam_B (by rw [s1, hq]; exact hm)
  have f : pr (q2 ++ b) 0 = pr q2 0 := pr_congr (un_left4 q2 b 0 (by omega))
  have v1 := us_step (s := q2 ++ b) (i := 0) (by rw [size_app]; omega)
  have v2 := us_step (s := q2) (i := 0) (by omega)
  rw [f] at v1
  have n1 : us (p ++ q1) 0 ≠ [] := us_ne (by omega)
  have n2 : us q1 0 ≠ [] := us_ne (by omega)
  unfold Cnt.of
  rw [u1, u2, u3, u4, k.T_app n1, k.T_app n1, k.T_app n2, k.T_app n2, v1, v2]
  simp only [Cnt.S]
  omega

/-- the first and the last sixteen bytes -/
def hd (s : ByteArray) : ByteArray := if 16 < s.size then s.extract 0 16 else s
def tl (s : ByteArray) : ByteArray := if 16 < s.size then s.extract (s.size - 16) s.size else s
/-- what a seam changes -/
def Cnt.seam (k : Cnt) (a b : ByteArray) : Int := k.of (a ++ b) - k.of a - k.of b
theorem seam_tl (k : Cnt) (a b : ByteArray) : k.seam (tl a) b = k.seam a b := by
  unfold tl
  split
  · have hx := extract_cut a (a.size - 16) (by omega)
    have hs : (a.extract (a.size - 16) a.size).size = 16 := by rw [size_extract _ _ _ (Nat.le_refl _)]; omega
    have := mid k (a.extract 0 (a.size - 16)) (a.extract (a.size - 16) a.size) b (by omega)
    rw [← app_assoc, hx] at this
    unfold Cnt.seam
    omega
  · rfl
theorem seam_hd (k : Cnt) (a b : ByteArray) : k.seam a (hd b) = k.seam a b := by
  unfold hd
  split
  · have hx := extract_cut b 16 (by omega)
    have hs : (b.extract 0 16).size = 16 := by rw [size_extract _ _ _ (by omega)]
    have := mid k a (b.extract 0 16) (b.extract 16 b.size) (by omega)
    rw [hx] at this
    unfold Cnt.seam
    omega
  · rfl
/-- the counts of two texts together, by their ends alone -/
theorem of_app (k : Cnt) (a b : ByteArray) : k.of (a ++ b) = k.of a + k.of b + k.of (tl a ++ hd b) - k.of (tl a) - k.of (hd b) := by
  have h1 := seam_tl k a (hd b)
  have h2 := seam_hd k a b
  unfold Cnt.seam at h1 h2
  omega
theorem hd_size (s : ByteArray) : (hd s).size = min 16 s.size := by
  unfold hd
  split
  · rw [size_extract _ _ _ (by omega)]; omega
  · omega
theorem tl_size (s : ByteArray) : (tl s).size = min 16 s.size := by
  unfold tl
  split
  · rw [size_extract _ _ _ (Nat.le_refl _)]; omega
  · omega
theorem data_extract' (s : ByteArray) (i j : Nat) : (s.extract i j).data.toList = (s.data.toList.drop i).take (j - i) := by
  rw [ByteArray.data_extract, Array.toList_extract, List.extract_eq_take_drop]
theorem hd_data (s : ByteArray) : (hd s).data.toList = s.data.toList.take 16 := by
  unfold hd
  split
  · rw [data_extract']; simp
  · rw [List.take_of_length_le (by rw [← Lib.size_eq]; omega)]
theorem tl_data (s : ByteArray) : (tl s).data.toList = s.data.toList.drop (s.size - 16) := by
  unfold tl
  split
  · rw [data_extract', List.take_of_length_le (by rw [List.length_drop, ← Lib.size_eq]; omega)]
  · rw [show s.size - 16 = 0 by omega]; rfl
theorem ext_data {a b : ByteArray} (h : a.data.toList = b.data.toList) : a = b := by
  apply ByteArray.ext
  exact Array.toList_inj.1 h
theorem hd_app (a b : ByteArray) : hd (a ++ b) = if (hd a).size < 16 then hd (hd a ++ hd b) else hd a := by
  apply ext_data
  have ha := hd_size a
  split
  · have hs : a.size < 16 := by omega
    rw [hd_data, hd_data, data_app, data_app, hd_data, hd_data, List.take_append, List.take_append, List.take_take, List.take_take]
    have e : a.data.toList.length = a.size := by rw [Lib.size_eq]
    rw [List.length_take, e, Nat.min_self, Nat.min_eq_right (show a.size ≤ 16 by omega), Nat.min_eq_left (by omega)]
  · rw [hd_data, hd_data, data_app, List.take_append_of_le_length (by rw [← Lib.size_eq]; omega)]
theorem tl_app (a b : ByteArray) : tl (a ++ b) = if (tl b).size < 16 then tl (tl a ++ tl b) else tl b := by
  apply ext_data
  have hb := tl_size b
  have ha := tl_size a
  have ea : a.data.toList.length = a.size := by rw [Lib.size_eq]
  split
  · have hs : b.size < 16 := by omega
    rw [tl_data, tl_data, data_app, data_app, tl_data, tl_data, size_app, size_app, List.drop_append, List.drop_append, List.length_drop, List.drop_drop, List.drop_drop, ea]
    rw [show b.size - 16 = 0 by omega]
    congr 1
    · congr 1; omega
    · congr 1; omega
  · rw [tl_data, tl_data, data_app, size_app, List.drop_append, ea]
    rw [List.drop_of_length_le (by rw [ea]; omega), List.nil_append]
    congr 1; omega
theorem hd_short {s : ByteArray} (h : s.size ≤ 16) : hd s = s := by unfold hd; rw [if_neg (by omega)]
theorem tl_short {s : ByteArray} (h : s.size ≤ 16) : tl s = s := by unfold tl; rw [if_neg (by omega)]
theorem hd_hd (s : ByteArray) : hd (hd s) = hd s := hd_short (by rw [hd_size]; omega)
theorem tl_tl (s : ByteArray) : tl (tl s) = tl s := tl_short (by rw [tl_size]; omega)
/-- the bytes 10 -/
def nls (s : ByteArray) : Nat := s.data.toList.countP (· == 10)
theorem nls_app (a b : ByteArray) : nls (a ++ b) = nls a + nls b := by
  unfold nls
  rw [data_app, List.countP_append]
theorem nls_le (s : ByteArray) : nls s ≤ s.size := by
  unfold nls
  rw [Lib.size_eq]
  exact List.countP_le_length
/-- the summary of a text -/
structure Sum where
  by' : Int
  un : Int
  cl : Int
  ce : Int
  nl : Int
  hd : ByteArray
  tl : ByteArray
def smr (s : ByteArray) : Sum := ⟨s.size, kU.of s, kC.of s, kN.of s, nls s, hd s, tl s⟩
theorem kT_bd {k : Cnt} {l : List (Int × Int)} (h0 : ∀ u, 0 ≤ k.g0 u ∧ k.g0 u ≤ 2) (h1 : ∀ a u, -2 ≤ k.g a u ∧ k.g a u ≤ 2) : -2 * (l.length : Int) ≤ k.T l ∧ k.T l ≤ 2 * l.length := by
  have hS : ∀ (l : List (Int × Int)) (a : Int), -2 * (l.length : Int) ≤ k.S a l ∧ k.S a l ≤ 2 * l.length := fun l => by
    induction l with
    | nil => intro a; simp [Cnt.S]
    | cons p r ih =>
      intro a
      have := ih p.1
      have := h1 a p.1
      simp only [Cnt.S, List.length_cons]
      omega
  cases l with
  | nil => simp [Cnt.T]
  | cons p r =>
    have := hS r p.1
    have := h0 p.1
    simp only [Cnt.T, List.length_cons]
    omega
theorem us_len (s : ByteArray) : (us s 0).length ≤ s.size := by
  have : (us s 0).length = (offs s 0).length := by simp [us]
  rw [this]; exact offs_len_le s
theorem smr_nil {s : ByteArray} (h : s.size = 0) : smr s = ⟨0, 0, 0, 0, 0, ByteArray.empty, ByteArray.empty⟩ := by
  have e : s = ByteArray.empty := ByteArray.ext (Array.eq_empty_of_size_eq_zero h)
  subst e
  rfl
end Go.Proofs.YtplieccalmkloaaGreatDoor
