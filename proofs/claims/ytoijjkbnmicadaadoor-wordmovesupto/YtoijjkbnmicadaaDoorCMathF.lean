/-
  A text cut in two: at a boundary the clusters are those of both pieces, elsewhere the pieces have no fewer. Plain facts; no program is walked in this text; no conditions.
-/
import Derived.Test.YtoijjkbnmicadaaDoorCMathE
namespace Go.Proofs.YtoijjkbnmicadaaDoor
open Bod Wid

/-- the clusters out of a list of characters and sizes -/
def clG : Clu → Int → List (Int × Int) → List Clu
  | c, _, [] => [c]
  | c, a, p :: r => if jn a p.1 then clG ⟨c.fr, c.to + p.2.toNat, if p.1 = 10 then 1 else c.k, if p.1 = 10 then 0 else c.n⟩ p.1 r else c :: clG ⟨c.to, c.to + p.2.toNat, cls p.1, cel p.1⟩ p.1 r
def clU (i : Nat) : List (Int × Int) → List Clu
  | [] => []
  | p :: r => clG ⟨i, i + p.2.toNat, cls p.1, cel p.1⟩ p.1 r
theorem clF_us (s : ByteArray) : ∀ (f i : Nat) (c : Clu) (a : Int), s.size - i ≤ f → c.to = i → clF s c a (offs s i) = clG c a (us s i)
  | f, i, c, a, hf, hto => by
    by_cases h : i < s.size
    · have h1 := sz_pos h
      cases f with
      | zero => omega
      | succ f =>
        have e : (pr s i).2.toNat = sz s i := by simp [pr]
        have e1 : (pr s i).1 = ch s i := rfl
        rw [offs_step h, us_step h]
        simp only [clF, clG, e, e1]
        rw [clF_us s f (i + sz s i) (gro s c i) _ (by omega) (by show c.to + _ = _; omega), clF_us s f (i + sz s i) (beg s i) _ (by omega) rfl]
        simp only [gro, beg, hto]
    · rw [offs_end (by omega), us_end (by omega)]; rfl
theorem cl_us (s : ByteArray) : cl s = clU 0 (us s 0) := by
  by_cases h : 0 < s.size
  · have e : (pr s 0).2.toNat = sz s 0 := by simp [pr]
    unfold cl
    rw [offs_step h, us_step h]
    simp only [clL, clU, e]
    exact clF_us s s.size (0 + sz s 0) (beg s 0) _ (by omega) rfl
  · rw [cl_nil (by omega), us_end (by omega)]; rfl

def lastC : Int → List (Int × Int) → Int
  | a, [] => a
  | _, p :: r => lastC p.1 r
def endC : Nat → List (Int × Int) → Nat
  | i, [] => i
  | i, p :: r => endC (i + p.2.toNat) r
theorem clG_app : ∀ (l1 : List (Int × Int)) (c : Clu) (a : Int) (q : Int × Int) (l2 : List (Int × Int)), jn (lastC a l1) q.1 = false → clG c a (l1 ++ q :: l2) = clG c a l1 ++ clU (endC c.to l1) (q :: l2)
  | [], c, a, q, l2, h => by
    simp only [List.nil_append, clG, lastC] at h ⊢
    rw [h]
    rfl
  | p :: l1, c, a, q, l2, h => by
    simp only [List.cons_append, clG, lastC, endC] at h ⊢
    split
    · exact clG_app l1 _ _ q l2 h
    · rw [List.cons_append, clG_app l1 _ _ q l2 h]
def sh (d : Nat) (c : Clu) : Clu := ⟨c.fr + d, c.to + d, c.k, c.n⟩
theorem clG_sh (d : Nat) : ∀ (l : List (Int × Int)) (c : Clu) (a : Int), clG (sh d c) a l = (clG c a l).map (sh d)
  | [], c, a => rfl
  | p :: l, c, a => by
    simp only [clG]
    split
    · rw [← clG_sh d l]; simp only [sh]; rw [show c.to + d + p.2.toNat = c.to + p.2.toNat + d by omega]
    · rw [List.map_cons, ← clG_sh d l]; simp only [sh]; rw [show c.to + d + p.2.toNat = c.to + p.2.toNat + d by omega]
theorem clU_sh (d i : Nat) : ∀ l : List (Int × Int), clU (i + d) l = (clU i l).map (sh d)
  | [] => rfl
  | p :: l => by
    simp only [clU]
    rw [← clG_sh d l]
    simp only [sh]
    rw [show i + d + p.2.toNat = i + p.2.toNat + d by omega]
theorem endC_us (s : ByteArray) : ∀ (f i : Nat), s.size - i ≤ f → i ≤ s.size → endC i (us s i) = s.size
  | f, i, hf, hi => by
    by_cases h : i < s.size
    · have h1 := sz_pos h
      cases f with
      | zero => omega
      | succ f =>
        have e : (pr s i).2.toNat = sz s i := by simp [pr]
        rw [us_step h]
        simp only [endC, e]
        exact endC_us s f (i + sz s i) (by omega) (sz_in h)
    · rw [us_end (by omega)]; show i = s.size; omega
/-- the units up to a boundary, and the last of them -/
theorem us_to {s : ByteArray} {j : Nat} (hj : B s j) : ∀ (f i : Nat) (a : Int), B s i → i ≤ j → j - i ≤ f → ∃ P, us s i = P ++ us s j ∧ (i < j → ∃ p, B s p ∧ p < s.size ∧ p + sz s p = j ∧ lastC a P = ch s p)
  | f, i, a, hb, hij, hf => by
    by_cases e : i = j
    · subst e; exact ⟨[], rfl, fun h => by omega⟩
    · have hs := hj.1
      have hi : i < s.size := by omega
      have h1 := sz_pos hi
      have h2 := hj.2 i (by omega)
      cases f with
      | zero => omega
      | succ f =>
        obtain ⟨P, h3, h4⟩ := us_to hj f (i + sz s i) (ch s i) (B_next hb hi) h2 (by omega)
        refine ⟨pr s i :: P, by rw [us_step hi, h3]; rfl, fun _ => ?_⟩
        by_cases e2 : i + sz s i = j
        · have hP : P = [] := by
            rw [e2] at h3
            simpa using h3
          subst hP
          exact ⟨i, hb, hi, e2, rfl⟩
        · exact h4 (by omega)

theorem cl_cut {a b : ByteArray} (h : cbZ (a ++ b) a.size = true) : cl (a ++ b) = cl a ++ (cl b).map (sh a.size) := by
  have hs := size_app a b
  obtain ⟨m, hm, hB⟩ := cb_B h
  have hm : m = a.size := by omega
  subst hm
  have hu := us_seam_B hB
  have hsh : (cl b).map (sh a.size) = clU a.size (us b 0) := by
    rw [cl_us b, ← clU_sh, Nat.zero_add]
  rw [hsh, cl_us (a ++ b), cl_us a, hu]
  by_cases h0 : 0 < a.size
  · by_cases h1 : 0 < b.size
    · have e1 : us b 0 = pr b 0 :: us b (0 + sz b 0) := us_step h1
      have e0 : us a 0 = pr a 0 :: us a (0 + sz a 0) := us_step h0
      obtain ⟨P, h3, h4⟩ := us_to hB a.size 0 0 (B_zero _) (by omega) (by omega)
      obtain ⟨p, hp, hps, hpe, hlast⟩ := h4 h0
      have er := us_right a b b.size 0 (by omega)
      rw [Nat.add_zero] at er
      rw [hu, er] at h3
      have hP : us a 0 = P := List.append_cancel_right h3
      have hj : jn (lastC 0 (us a 0)) (pr b 0).1 = false := by
        have hc := cb_at hp hps (by omega)
        rw [hpe, h] at hc
        have e2 : ch (a ++ b) a.size = ch b 0 := by
          have := un_right a b 0
          rw [Nat.add_zero] at this
          unfold ch; rw [this]
        rw [e2] at hc
        rw [hP, hlast]
        show jn (ch (a ++ b) p) (ch b 0) = false
        simpa using hc.symm
      have ee := endC_us a a.size 0 (by omega) (by omega)
      rw [e1]
      rw [e0] at hj ee ⊢
      simp only [lastC, endC] at hj ee
      show clU 0 (pr a 0 :: (us a (0 + sz a 0) ++ pr b 0 :: us b (0 + sz b 0))) = _
      simp only [clU]
      rw [clG_app _ _ _ _ _ hj]
      simp only [clU]
      rw [ee]
    · rw [us_end (s := b) (by omega)]
      simp [clU]
  · have : a.size = 0 := by omega
    rw [us_end (s := a) (by omega), this]
    simp [clU]

/-! counting -/
def brk : Int → List (Int × Int) → Nat
  | _, [] => 0
  | a, p :: r => (if jn a p.1 then 0 else 1) + brk p.1 r
theorem clG_len : ∀ (l : List (Int × Int)) (c : Clu) (a : Int), (clG c a l).length = 1 + brk a l
  | [], _, _ => rfl
  | p :: l, c, a => by
    simp only [clG, brk]
    split
    · rw [clG_len l]; omega
    · rw [List.length_cons, clG_len l]; omega
theorem brk_app : ∀ (l1 : List (Int × Int)) (a : Int) (l2 : List (Int × Int)), brk a (l1 ++ l2) = brk a l1 + brk (lastC a l1) l2
  | [], _, _ => by simp [brk, lastC]
  | p :: l1, a, l2 => by simp only [List.cons_append, brk, lastC, brk_app l1]; omega
theorem brk_any (a b : Int) : ∀ l : List (Int × Int), brk a l ≤ 1 + brk b l
  | [] => by simp [brk]
  | p :: l => by
    simp only [brk]
    split <;> split <;> omega
theorem brk_cons (a : Int) (p : Int × Int) (l : List (Int × Int)) : brk a (p :: l) ≤ 1 + brk p.1 l := by
  simp only [brk]; split <;> omega
theorem jn_bad (a : Int) : jn a (-1) = false := by
  unfold jn
  rw [if_neg (by decide)]
  have : cls (-1) = 5 := by decide +kernel
  simp [this]
theorem last_bads : ∀ n : Nat, lastC (-1) (List.replicate n (-1, 1)) = -1
  | 0 => rfl
  | n + 1 => by simp only [List.replicate_succ, lastC]; exact last_bads n
theorem clU_len (i : Nat) (p : Int × Int) (l : List (Int × Int)) : (clU i (p :: l)).length = 1 + brk p.1 l := by simp only [clU, clG_len]
theorem cl_none {a b : ByteArray} : (cl (a ++ b)).length ≤ (cl a).length + (cl b).length := by
  have hs := size_app a b
  rw [cl_us (a ++ b), cl_us a, cl_us b]
  by_cases hB : B (a ++ b) a.size
  · rw [us_seam_B hB]
    cases ha : us a 0 with
    | nil => simp [clU]
    | cons p r =>
      cases hb : us b 0 with
      | nil => simp [clU]
      | cons q l =>
        rw [List.cons_append, clU_len, clU_len, clU_len, brk_app]
        have := brk_cons (lastC p.1 r) q l
        omega
  · have hlt : a.size < (a ++ b).size := by
      by_cases e : a.size = (a ++ b).size
      · rw [e] at hB; exact absurd (B_end _) hB
      · omega
    have hd := dnF_Dn hlt
    have hne : dnF (a ++ b) a.size ≠ a.size := fun e => hB (by have := hd.bd; rwa [e] at this)
    obtain ⟨P, h1, h2, h3, _⟩ := us_seam_C hd hne hlt
    have g1 := hd.le
    have g2 := hd.gt
    obtain ⟨k, hk⟩ : ∃ k, a.size - dnF (a ++ b) a.size = k + 1 := ⟨a.size - dnF (a ++ b) a.size - 1, by omega⟩
    obtain ⟨m, hm⟩ : ∃ m, dnF (a ++ b) a.size + sz (a ++ b) (dnF (a ++ b) a.size) - a.size = m + 1 := ⟨dnF (a ++ b) a.size + sz (a ++ b) (dnF (a ++ b) a.size) - a.size - 1, by omega⟩
    rw [hk] at h2
    rw [hm] at h3
    rw [h1, h2, h3]
    generalize us (a ++ b) (dnF (a ++ b) a.size + sz (a ++ b) (dnF (a ++ b) a.size)) = S
    generalize pr (a ++ b) (dnF (a ++ b) a.size) = u
    have hb : 1 + brk (-1) S ≤ (clU 0 (List.replicate (m + 1) (-1, 1) ++ S)).length := by
      rw [List.replicate_succ, List.cons_append, clU_len, brk_app, last_bads]
      omega
    have hu := brk_any u.1 (-1) S
    cases P with
    | nil =>
      rw [List.nil_append, List.nil_append, clU_len, List.replicate_succ, clU_len]
      omega
    | cons p r =>
      rw [List.cons_append, List.cons_append, clU_len, clU_len, brk_app, brk_app, List.replicate_succ]
      have g3 := brk_cons (lastC p.1 r) u S
      have g4 : 1 ≤ brk (lastC p.1 r) ((-1, 1) :: List.replicate k (-1, 1)) := by
        simp only [brk, jn_bad]
        simp
      omega

/-! what is drawn for a text that is cut at a boundary -/
theorem sub_eq (s : ByteArray) (i j : Nat) : sub s i j = (s.data.toList.drop i).take (j - i) := by
  unfold sub
  rw [ByteArray.data_extract, Array.toList_extract, List.extract_eq_take_drop]
theorem data_app (a b : ByteArray) : (a ++ b).data.toList = a.data.toList ++ b.data.toList := by simp
theorem sub_left {a b : ByteArray} {i j : Nat} (h : j ≤ a.size) : sub (a ++ b) i j = sub a i j := by
  rw [sub_eq, sub_eq, data_app]
  have hl : a.data.toList.length = a.size := by rw [Lib.size_eq]
  by_cases hi : i ≤ a.size
  · rw [List.drop_append_of_le_length (by omega), List.take_append_of_le_length (by rw [List.length_drop]; omega)]
  · rw [show j - i = 0 by omega]; simp
theorem sub_right {a b : ByteArray} {i j : Nat} : sub (a ++ b) (i + a.size) (j + a.size) = sub b i j := by
  rw [sub_eq, sub_eq, data_app]
  have hl : a.data.toList.length = a.size := by rw [Lib.size_eq]
  rw [show i + a.size = a.data.toList.length + i by omega, List.drop_append, List.drop_eq_nil_of_le (by omega), List.nil_append, show a.data.toList.length + i - a.data.toList.length = i by omega, show j + a.size - (a.data.toList.length + i) = j - i by omega]
theorem drawn_cut {a b : ByteArray} (h : cbZ (a ++ b) a.size = true) : drawnL (a ++ b) (cl (a ++ b)) = drawnL a (cl a) ++ drawnL b (cl b) := by
  rw [cl_cut h, drawnL_app]
  congr 1
  · have : ∀ l : List Clu, (∀ c ∈ l, c.to ≤ a.size) → drawnL (a ++ b) l = drawnL a l := fun l => by
      induction l with
      | nil => intro _; rfl
      | cons c r ih =>
        intro hl
        simp only [drawnL, List.flatMap_cons]
        rw [sub_left (hl c (by simp))]
        have := ih (fun d hd => hl d (by simp [hd]))
        simp only [drawnL] at this
        rw [this]
    exact this _ (fun c hc => (cl_span hc).2)
  · have : ∀ l : List Clu, drawnL (a ++ b) (l.map (sh a.size)) = drawnL b l := fun l => by
      induction l with
      | nil => rfl
      | cons c r ih =>
        simp only [drawnL, List.map_cons, List.flatMap_cons] at ih ⊢
        rw [ih]
        simp only [sh]
        rw [sub_right]
    exact this _
theorem sumN_sh (d : Nat) : ∀ l : List Clu, sumN (l.map (sh d)) = sumN l
  | [] => rfl
  | c :: l => by simp only [List.map_cons, sumN, sumN_sh d l]; rfl
theorem extract_cut (s : ByteArray) (i : Nat) (h : i ≤ s.size) : s.extract 0 i ++ s.extract i s.size = s := by
  apply ByteArray.ext
  rw [ByteArray.data_append, ByteArray.data_extract, ByteArray.data_extract]
  apply Array.ext'
  have hl : s.data.toList.length = s.size := by rw [Lib.size_eq]
  rw [Array.toList_append, Array.toList_extract, Array.toList_extract, List.extract_eq_take_drop, List.extract_eq_take_drop, List.drop_zero, Nat.sub_zero, List.take_of_length_le (l := List.drop i s.data.toList) (by rw [List.length_drop]; omega), List.take_append_drop]
end Go.Proofs.YtoijjkbnmicadaaDoor
