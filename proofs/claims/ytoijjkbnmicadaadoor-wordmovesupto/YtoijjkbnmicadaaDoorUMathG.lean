/-
  Plain facts on two texts laid one behind the other: the units of both, but for one character over the seam. No program is named here; no conditions.
-/
import Derived.Test.YtoijjkbnmicadaaDoorUMathD
namespace Bod
open Go Go.Lib

set_option maxHeartbeats 4000000 in
theorem dec_tr {n m b0 b1 b2 b3 : Nat} (hn : n ≤ m) (hs : (decodeN m b0 b1 b2 b3).2 ≤ n) : decodeN n b0 b1 b2 b3 = decodeN m b0 b1 b2 b3 := by
  by_cases hb : decodeN m b0 b1 b2 b3 = (65533, 1)
  · rw [hb]; exact dec_bad_mono hn hb
  · have key : ∀ p, decodeN m b0 b1 b2 b3 = p → p ≠ (65533, 1) → p.2 ≤ n → decodeN n b0 b1 b2 b3 = p := by
      intro p hp hne hs2
      unfold decodeN at hp
      split at hp
      · rename_i h0
        subst hp
        unfold decodeN
        rw [if_pos h0]
      · rename_i h0
        split at hp
        · rename_i c
          split at hp
          · rename_i v
            subst hp
            simp only at hs2
            unfold decodeN
            rw [if_neg h0, if_pos (by omega), if_pos v]
          · exact absurd hp.symm hne
        · split at hp
          · rename_i c
            split at hp
            · rename_i v
              subst hp
              simp only at hs2
              unfold decodeN
              rw [if_neg h0, if_neg (by omega), if_pos (by omega), if_pos v]
            · exact absurd hp.symm hne
          · split at hp
            · rename_i c
              split at hp
              · rename_i v
                subst hp
                simp only at hs2
                unfold decodeN
                rw [if_neg h0, if_neg (by omega), if_neg (by omega), if_pos (by omega), if_pos v]
              · exact absurd hp.symm hne
            · exact absurd hp.symm hne
    exact key _ rfl hb hs

set_option maxHeartbeats 4000000 in
theorem dec_cut {n m b0 b1 b2 b3 : Nat} (hs : n < (decodeN m b0 b1 b2 b3).2) (h1 : 1 ≤ n) : decodeN n b0 b1 b2 b3 = (65533, 1) := by
  unfold decodeN at hs
  split at hs
  · simp only at hs; omega
  · rename_i h0
    split at hs
    · rename_i c
      split at hs
      · simp only at hs
        unfold decodeN
        rw [if_neg h0, if_neg (by omega), if_neg (by omega), if_neg (by omega)]
      · simp only at hs; omega
    · split at hs
      · rename_i c
        split at hs
        · simp only at hs
          unfold decodeN
          rw [if_neg h0, if_neg (by omega), if_neg (by omega), if_neg (by omega)]
        · simp only at hs; omega
      · split at hs
        · rename_i c
          split at hs
          · simp only at hs
            unfold decodeN
            rw [if_neg h0, if_neg (by omega), if_neg (by omega), if_neg (by omega)]
          · simp only at hs; omega
        · simp only at hs; omega
theorem dec_inner {n b0 b1 b2 b3 : Nat} (h : b0 / 64 = 2) : decodeN n b0 b1 b2 b3 = (65533, 1) := by
  unfold decodeN
  rw [if_neg (by omega), if_neg (by omega), if_neg (by omega), if_neg (by omega)]

theorem bt_append (a b : ByteArray) (k : Nat) : bt (a ++ b) k = if k < a.size then bt a k else bt b (k - a.size) := by
  have hd : (a ++ b).data.toList = a.data.toList ++ b.data.toList := by simp
  rw [bt_eq, hd]
  by_cases h : k < a.size
  · rw [if_pos h, List.getElem?_append_left (by rw [← Lib.size_eq]; exact h), bt_eq]
  · rw [if_neg h, List.getElem?_append_right (by rw [← Lib.size_eq]; omega), ← Lib.size_eq, bt_eq]
theorem size_app (a b : ByteArray) : (a ++ b).size = a.size + b.size := by simp [ByteArray.size_append]

theorem un_right (a b : ByteArray) (j : Nat) : un (a ++ b) (a.size + j) = un b j := by
  unfold un
  rw [size_app, bt_append, bt_append, bt_append, bt_append, if_neg (by omega), if_neg (by omega), if_neg (by omega), if_neg (by omega), show a.size + b.size - (a.size + j) = b.size - j by omega, show a.size + j - a.size = j by omega, show a.size + j + 1 - a.size = j + 1 by omega, show a.size + j + 2 - a.size = j + 2 by omega, show a.size + j + 3 - a.size = j + 3 by omega]
theorem un_left_bytes (a b : ByteArray) (i : Nat) (hi : i < a.size) : un a i = decodeN (a.size - i) (bt (a ++ b) i) (bt (a ++ b) (i + 1)) (bt (a ++ b) (i + 2)) (bt (a ++ b) (i + 3)) := by
  unfold un
  rw [bt_append a b i, if_pos hi]
  refine dec_cong Iff.rfl Iff.rfl Iff.rfl (fun g => ?_) (fun g => ?_) (fun g => ?_)
  · rw [bt_append, if_pos (by omega)]
  · rw [bt_append, if_pos (by omega)]
  · rw [bt_append, if_pos (by omega)]
theorem un_left (a b : ByteArray) (i : Nat) (hi : i < a.size) (h : i + sz (a ++ b) i ≤ a.size) : un a i = un (a ++ b) i := by
  rw [un_left_bytes a b i hi]
  refine dec_tr (by rw [size_app]; omega) ?_
  have : (un (a ++ b) i).2 = sz (a ++ b) i := rfl
  unfold un at this
  omega
theorem un_cut (a b : ByteArray) (i : Nat) (hi : i < a.size) (h : a.size < i + sz (a ++ b) i) : un a i = (65533, 1) := by
  rw [un_left_bytes a b i hi]
  have : (un (a ++ b) i).2 = sz (a ++ b) i := rfl
  unfold un at this
  exact dec_cut (m := (a ++ b).size - i) (by omega) (by omega)
theorem un_inner {s : ByteArray} {i : Nat} (h : bt s i / 64 = 2) : un s i = (65533, 1) := dec_inner h

/-! the units as a list of pairs -/
def pr (s : ByteArray) (i : Nat) : Int × Int := (ch s i, (sz s i : Int))
def us (s : ByteArray) (i : Nat) : List (Int × Int) := (offs s i).map (pr s)
theorem pr_congr {s t : ByteArray} {i j : Nat} (h : un s i = un t j) : pr s i = pr t j := by unfold pr ch sz; rw [h]
theorem pr_bad {s : ByteArray} {i : Nat} (h : un s i = (65533, 1)) : pr s i = (-1, 1) ∧ sz s i = 1 := by unfold pr ch sz; rw [h]; simp
theorem us_step {s : ByteArray} {i : Nat} (h : i < s.size) : us s i = pr s i :: us s (i + sz s i) := by unfold us; rw [offs_step h]; rfl
theorem us_end {s : ByteArray} {i : Nat} (h : s.size ≤ i) : us s i = [] := by unfold us; rw [offs_end h]; rfl

theorem us_right (a b : ByteArray) : ∀ (f j : Nat), b.size - j ≤ f → us (a ++ b) (a.size + j) = us b j
  | 0, j, h => by rw [us_end (by rw [size_app]; omega), us_end (by omega)]
  | f + 1, j, h => by
    by_cases hj : j < b.size
    · have e := un_right a b j
      have es : sz (a ++ b) (a.size + j) = sz b j := by unfold sz; rw [e]
      rw [us_step (by rw [size_app]; omega), us_step hj, pr_congr e, es, Nat.add_assoc, us_right a b f (j + sz b j) (by have := sz_pos hj; omega)]
    · rw [us_end (by rw [size_app]; omega), us_end (by omega)]

theorem us_left (a b : ByteArray) (d : Nat) (hd : B (a ++ b) d) (hda : d ≤ a.size) : ∀ (f i : Nat), i ≤ d → d - i ≤ f → ∃ P, us (a ++ b) i = P ++ us (a ++ b) d ∧ us a i = P ++ us a d
  | 0, i, h, hf => by
    have : i = d := by omega
    subst this; exact ⟨[], rfl, rfl⟩
  | f + 1, i, h, hf => by
    by_cases e : i = d
    · subst e; exact ⟨[], rfl, rfl⟩
    · have hlt : i < d := by omega
      have hz := hd.2 i hlt
      have hs := size_app a b
      have hp := sz_pos (s := a ++ b) (i := i) (by omega)
      have hu := un_left a b i (by omega) (by omega)
      have es : sz a i = sz (a ++ b) i := by unfold sz; rw [hu]
      obtain ⟨P, h1, h2⟩ := us_left a b d hd hda f (i + sz (a ++ b) i) (by omega) (by omega)
      refine ⟨pr (a ++ b) i :: P, ?_, ?_⟩
      · rw [us_step (by omega), h1]; rfl
      · rw [us_step (by omega), es, h2, pr_congr hu]; rfl

theorem us_bads {s : ByteArray} {e : Nat} (he : e ≤ s.size) : ∀ (f i : Nat), i ≤ e → e - i ≤ f → (∀ k, i ≤ k → k < e → un s k = (65533, 1)) → us s i = List.replicate (e - i) (-1, 1) ++ us s e
  | 0, i, h, hf, _ => by
    have : i = e := by omega
    subst this; simp
  | f + 1, i, h, hf, hb => by
    by_cases c : i = e
    · subst c; simp
    · obtain ⟨p1, p2⟩ := pr_bad (hb i (Nat.le_refl _) (by omega))
      rw [us_step (by omega), p1, p2, us_bads he f (i + 1) (by omega) (by omega) (fun k k1 k2 => hb k (by omega) k2), show e - i = (e - (i + 1)) + 1 by omega, List.replicate_succ]
      rfl

/-- the seam is a boundary -/
theorem us_seam_B {a b : ByteArray} (h : B (a ++ b) a.size) : us (a ++ b) 0 = us a 0 ++ us b 0 := by
  obtain ⟨P, h1, h2⟩ := us_left a b a.size h (Nat.le_refl _) a.size 0 (by omega) (by omega)
  have e := us_right a b b.size 0 (by omega)
  rw [Nat.add_zero] at e
  rw [h1, h2, us_end (s := a) (Nat.le_refl _), e]; simp

/-- the seam is none: one character lies over it -/
theorem us_seam_C {a b : ByteArray} {d : Nat} (h : Dn (a ++ b) a.size d) (hne : d ≠ a.size) (hs : a.size < (a ++ b).size) :
    ∃ P, us (a ++ b) 0 = P ++ pr (a ++ b) d :: us (a ++ b) (d + sz (a ++ b) d) ∧ us a 0 = P ++ List.replicate (a.size - d) (-1, 1) ∧ us b 0 = List.replicate (d + sz (a ++ b) d - a.size) (-1, 1) ++ us (a ++ b) (d + sz (a ++ b) d) ∧ 0 ≤ ch (a ++ b) d := by
  have hle := h.le
  have hgt := h.gt
  have hss := size_app a b
  have hin := sz_in (s := a ++ b) (i := d) (by omega)
  obtain ⟨P, h1, h2⟩ := us_left a b d h.bd (by omega) d 0 (by omega) (by omega)
  have hcont : ∀ k, d < k → k < d + sz (a ++ b) d → bt (a ++ b) k / 64 = 2 := fun k k1 k2 => cont k1 k2
  have hda := us_bads (s := a) (e := a.size) (Nat.le_refl _) a.size d (by omega) (by omega) (fun k k1 k2 => by
    by_cases e : k = d
    · subst e; exact un_cut a b k k2 (by omega)
    · have := hcont k (by omega) (by omega)
      rw [bt_append, if_pos k2] at this
      exact un_inner this)
  rw [us_end (s := a) (Nat.le_refl _), List.append_nil] at hda
  have hdb := us_bads (s := b) (e := d + sz (a ++ b) d - a.size) (by omega) b.size 0 (by omega) (by omega) (fun k k1 k2 => by
    have := hcont (a.size + k) (by omega) (by omega)
    rw [bt_append, if_neg (by omega), show a.size + k - a.size = k by omega] at this
    exact un_inner this)
  have e := us_right a b b.size (d + sz (a ++ b) d - a.size) (by omega)
  rw [show a.size + (d + sz (a ++ b) d - a.size) = d + sz (a ++ b) d by omega] at e
  rw [← e, Nat.sub_zero] at hdb
  refine ⟨P, by rw [h1, us_step (by omega)], by rw [h2, hda], hdb, ?_⟩
  unfold ch
  split
  · rename_i q
    have : sz (a ++ b) d = 1 := q.2
    omega
  · omega
end Bod
