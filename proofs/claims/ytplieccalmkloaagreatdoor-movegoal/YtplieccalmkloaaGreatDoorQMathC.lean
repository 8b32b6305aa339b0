/-
  Motions end at boundaries, in their direction; a count is so many steps: in plain words. No program in this text; no conditions.
-/
import Derived.Test.YtplieccalmkloaaGreatDoorQMathB
namespace Go.Proofs.YtplieccalmkloaaGreatDoor.Sto
open Go.RowKit Go.Shelf Bod Wid Go.Lib

section
variable {s : ByteArray}
theorem plc_cb {l c : Int} (h : 0 ≤ l ∧ l ≤ cn s 0 s.size) : cbZ s (plcF s l c : Nat) = true ∧ (cn s 0 (plcF s l c) : Int) = l ∧ plcF s l c ≤ s.size := by
  obtain ⟨x, y, hS⟩ := line_ex h
  have hR := plc_is (c := c) hS
  exact ⟨hR.cb, hS.num hR.lo hR.hi, cb_le hR.cb⟩
theorem cn_lt {m a : Nat} (h : cn s 0 m < cn s 0 a) : m < a := by
  rcases Nat.lt_or_ge m a with e | e
  · exact e
  · have := cn_mono (s := s) (a := 0) (b := a) (c := m) (by omega) e
    omega
theorem line_at {a : Nat} (ha : cbZ s a = true) : ∃ x y, lspF s (cn s 0 a) = some (x, y) ∧ x ≤ a ∧ a ≤ y ∧ cbZ s x = true ∧ cbZ s y = true ∧ cn s 0 x = cn s 0 a ∧ cn s 0 y = cn s 0 a := by
  obtain ⟨x, y, hP⟩ := pl_ex ha
  have h1 := hP.sp.num (Nat.le_refl _) hP.sp.le.1
  have h2 := hP.sp.num hP.sp.le.1 (Nat.le_refl _)
  exact ⟨x, y, lspF_eq hP.sp, hP.lo, hP.hi, hP.sp.cb.1, hP.sp.cb.2, by omega, by omega⟩
theorem lead_cb (k : Int) {a : Nat} (ha : cbZ s a = true) (want : Int) (c : Nat) : cbZ s ((lead s k a want c).1 : Nat) = true := by
  obtain ⟨x, y, h1, -, -, h2, h3, -, -⟩ := line_at ha
  unfold lead away
  rw [h1]
  split
  · exact itr_inv (P := fun b => cbZ s (b : Nat) = true) (fun b _ _ => (pvC_is s b).cb) c a ha
  split
  · exact itr_inv (P := fun b => cbZ s (b : Nat) = true) (fun b _ _ => (nxt_is s b).cb) c a ha
  split
  · exact itr_inv (P := fun b => cbZ s (b : Nat) = true) (fun b _ _ => (behind_ok s b).1) c a ha
  split
  · exact itr_inv (P := fun b => cbZ s (b : Nat) = true) (fun b _ _ => (ahead_ok s b).1) c a ha
  split
  · exact h2
  split
  · exact h3
  split
  · exact (plc_cb (hl_in s _)).1
  split
  · exact (plc_cb (hl_in s _)).1
  split
  · exact cb_zero s
  · exact cb_end s
/-- the motions that go back -/
def bck (k : Int) : Bool := decide (k = 4 ∨ k = 6 ∨ k = 8 ∨ k = 10 ∨ k = 12)
theorem pv_le (s : ByteArray) {b : Nat} (h : 0 < b) : pvC s b < b := by rcases (pvC_is s b).dn with e | ⟨e, e'⟩ <;> omega
theorem nx_ge (s : ByteArray) {b : Nat} (h : b < s.size) : b < nxt s b := by rcases (nxt_is s b).up with e | ⟨e, e'⟩ <;> omega
theorem lead_dir {k : Int} (hk : 4 ≤ k ∧ k ≤ 13) {a : Nat} (ha : cbZ s a = true) (want : Int) (c : Nat) (h : (lead s k a want c).2 = true) : (bck k = true → (lead s k a want c).1 ≤ a) ∧ (bck k = false → a ≤ (lead s k a want c).1) := by
  obtain ⟨x, y, h1, hx, hy, -, -, -, -⟩ := line_at ha
  have hal := cb_le ha
  have hin := fun d => plc_cb (c := want) (hl_in s ((cn s 0 a : Int) + d))
  have hcl := cn_mono (s := s) (a := 0) (b := a) (c := s.size) (by omega) hal
  have hkc : k = 4 ∨ k = 5 ∨ k = 6 ∨ k = 7 ∨ k = 8 ∨ k = 9 ∨ k = 10 ∨ k = 11 ∨ k = 12 ∨ k = 13 := by omega
  rcases hkc with rfl | rfl | rfl | rfl | rfl | rfl | rfl | rfl | rfl | rfl
  · refine ⟨fun _ => ?_, fun e => by simp [bck] at e⟩
    exact itr_inv (P := fun b => b ≤ a) (fun b hb hne => by have := pv_le s (b := b) (by omega); omega) c a (Nat.le_refl _)
  · refine ⟨fun e => by simp [bck] at e, fun _ => ?_⟩
    exact (itr_inv (P := fun b => a ≤ b ∧ b ≤ s.size) (fun b hb hne => by have := nx_ge s (b := b) (by omega); have := cb_le (nxt_is s b).cb; omega) c a ⟨Nat.le_refl _, hal⟩).1
  · refine ⟨fun _ => ?_, fun e => by simp [bck] at e⟩
    exact itr_inv (P := fun b => b ≤ a) (fun b hb hne => by have := (behind_ok s b).2.2 (by omega); omega) c a (Nat.le_refl _)
  · refine ⟨fun e => by simp [bck] at e, fun _ => ?_⟩
    exact (itr_inv (P := fun b => a ≤ b ∧ b ≤ s.size) (fun b hb hne => by have := (ahead_ok s b).2; have := this.2 (by omega); omega) c a ⟨Nat.le_refl _, hal⟩).1
  · refine ⟨fun _ => ?_, fun e => by simp [bck] at e⟩
    show ((lspF s (cn s 0 a)).getD (0, 0)).1 ≤ a
    rw [h1]; exact hx
  · refine ⟨fun e => by simp [bck] at e, fun _ => ?_⟩
    show a ≤ ((lspF s (cn s 0 a)).getD (0, 0)).2
    rw [h1]; exact hy
  · refine ⟨fun _ => ?_, fun e => by simp [bck] at e⟩
    have h' : (!decide (hl s ((cn s 0 a : Int) + -(c : Int)) = (cn s 0 a : Int))) = true := h
    simp only [Bool.not_eq_true', decide_eq_false_iff_not] at h'
    obtain ⟨-, q2, q3⟩ := hin (-(c : Int))
    have : hl s ((cn s 0 a : Int) + -(c : Int)) < cn s 0 a := by unfold hl at h' ⊢; omega
    have := cn_lt (s := s) (m := plcF s (hl s ((cn s 0 a : Int) + -(c : Int))) want) (a := a) (by omega)
    exact Nat.le_of_lt this
  · refine ⟨fun e => by simp [bck] at e, fun _ => ?_⟩
    have h' : (!decide (hl s ((cn s 0 a : Int) + (c : Int)) = (cn s 0 a : Int))) = true := h
    simp only [Bool.not_eq_true', decide_eq_false_iff_not] at h'
    obtain ⟨-, q2, q3⟩ := hin (c : Int)
    have : (cn s 0 a : Int) < hl s ((cn s 0 a : Int) + (c : Int)) := by unfold hl at h' ⊢; omega
    have := cn_lt (s := s) (m := a) (a := plcF s (hl s ((cn s 0 a : Int) + (c : Int))) want) (by omega)
    exact Nat.le_of_lt this
  · exact ⟨fun _ => Nat.zero_le _, fun e => by simp [bck] at e⟩
  · exact ⟨fun e => by simp [bck] at e, fun _ => hal⟩
/-- what Go answers, in three cases -/
theorem goP_in {k : Int} (hk : 4 ≤ k ∧ k ≤ 13) (i g n : Int) : goP s k i g n = if (lead s k (snp s i) (wantF s k (snp s i) (max g (-1))) (cnt n)).2 = true then ((((lead s k (snp s i) (wantF s k (snp s i) (max g (-1))) (cnt n)).1 : Nat) : Int), wantF s k (snp s i) (max g (-1)), 0) else (((snp s i : Nat) : Int), max g (-1), 8) := by
  unfold goP
  rw [if_pos hk]
/-- where Go ends: at a boundary; with an error the place stays -/
theorem goP_ends {k : Int} (hk : 4 ≤ k ∧ k ≤ 13) (i g n : Int) : ∃ m : Nat, (goP s k i g n).1 = m ∧ cbZ s m = true ∧ m ≤ s.size ∧ ((goP s k i g n).2.2 = 0 ∨ ((goP s k i g n).2.2 = 8 ∧ m = snp s i)) ∧ (bck k = true → m ≤ snp s i) ∧ (bck k = false → snp s i ≤ m) := by
  rw [goP_in hk]
  have hp := (snp_is s i).cb
  split
  · rename_i h
    have hd := lead_dir hk hp _ _ h
    have hc := lead_cb k hp (wantF s k (snp s i) (max g (-1))) (cnt n)
    exact ⟨_, rfl, hc, cb_le hc, .inl rfl, hd.1, hd.2⟩
  · exact ⟨_, rfl, hp, cb_le hp, .inr ⟨rfl, rfl⟩, fun _ => Nat.le_refl _, fun _ => Nat.le_refl _⟩
/-- one step from a boundary -/
theorem goP_one {k : Int} (hk : 4 ≤ k ∧ k ≤ 13) {p : Nat} (hp : cbZ s p = true) {g : Int} (hg : -1 ≤ g) : goP s k p g 1 = if (lead s k p (wantF s k p g) 1).2 = true then ((((lead s k p (wantF s k p g) 1).1 : Nat) : Int), wantF s k p g, 0) else (((p : Nat) : Int), g, 8) := by
  rw [goP_in hk, snp_self hp, show max g (-1) = g by omega, show cnt 1 = 1 from rfl]
/-- steps one behind the other, until one can't be done -/
noncomputable def wlk (s : ByteArray) (k : Int) : Nat → Int → Int → Int × Int
  | 0, p, g => (p, g)
  | n + 1, p, g => if (goP s k p g 1).2.2 = 0 then wlk s k n (goP s k p g 1).1 (goP s k p g 1).2.1 else ((goP s k p g 1).1, (goP s k p g 1).2.1)
theorem wlk_yes {k : Int} (hk : 4 ≤ k ∧ k ≤ 13) {p : Nat} (hp : cbZ s p = true) {g : Int} (hg : -1 ≤ g) {m : Nat} {y : Int} (hw : wantF s k p g = y) (h : lead s k p y 1 = (m, true)) (n : Nat) : wlk s k (n + 1) p g = wlk s k n m y := by
  have e : goP s k p g 1 = ((m : Int), y, 0) := by rw [goP_one hk hp hg, hw, h]; rfl
  conv => lhs; unfold wlk
  rw [e, if_pos rfl]
theorem wlk_no {k : Int} (hk : 4 ≤ k ∧ k ≤ 13) {p : Nat} (hp : cbZ s p = true) {g : Int} (hg : -1 ≤ g) (h : (lead s k p (wantF s k p g) 1).2 = false) (n : Nat) : wlk s k (n + 1) p g = ((p : Int), g) := by
  have e : goP s k p g 1 = ((p : Int), g, 8) := by rw [goP_one hk hp hg, if_neg (by rw [h]; simp)]
  unfold wlk
  rw [e, if_neg (by simp)]
theorem wlk_itr {k : Int} (hk : 4 ≤ k ∧ k ≤ 13) {f : Nat → Nat} {e : Nat} (hl : ∀ a want c, lead s k a want c = (itr f e c a, !decide ((a : Int) = (e : Nat)))) (hw : ∀ p g, wantF s k p g = -1) (hf : ∀ a, cbZ s (a : Nat) = true → a ≠ e → cbZ s (f a : Nat) = true) : ∀ (n p : Nat) (g : Int), cbZ s p = true → -1 ≤ g → (wlk s k n p g).1 = itr f e n p
  | 0, p, g, hp, hg => rfl
  | n + 1, p, g, hp, hg => by
    by_cases h : p = e
    · subst h
      rw [itr_edge, wlk_no hk hp hg (by rw [hl]; simp)]
    · rw [wlk_yes hk hp hg (hw p g) (m := f p) (by rw [hl, itr_on 0 h]; simp [itr]; omega), itr_on _ h]
      exact wlk_itr hk hl hw hf n (f p) (-1) (hf p hp h) (by omega)
theorem wlk_fix {k : Int} (hk : 4 ≤ k ∧ k ≤ 13) {X : Nat → Nat} (hl : ∀ a want c, lead s k a want c = (X a, true)) (hw : ∀ p g, wantF s k p g = -1) (hf : ∀ a, cbZ s (a : Nat) = true → cbZ s (X a : Nat) = true ∧ X (X a) = X a) : ∀ (n p : Nat) (g : Int), cbZ s p = true → -1 ≤ g → X p = p ∨ 0 < n → (wlk s k n p g).1 = X p
  | 0, p, g, hp, hg, h => by
    rcases h with h | h
    · rw [h]; rfl
    · omega
  | n + 1, p, g, hp, hg, h => by
    rw [wlk_yes hk hp hg (hw p g) (hl _ _ _)]
    have := wlk_fix hk hl hw hf n (X p) (-1) (hf p hp).1 (by omega) (.inl (hf p hp).2)
    rw [this, (hf p hp).2]
theorem want_pos {p : Nat} (hp : cbZ s p = true) {g : Int} (hg : -1 ≤ g) : 0 ≤ (if g = -1 then colF s p else g) := by
  have := col_bd hp
  split <;> omega
theorem wlk_up {k D : Int} (hk : k = 10 ∨ k = 11) (hD : D = 1 ∨ D = -1) (hl0 : ∀ (a : Nat) (want : Int) (c : Nat), lead s k a want c = away s a want (D * c)) : ∀ (n p : Nat) (g : Int), cbZ s p = true → -1 ≤ g → wlk s k n p g = if hl s ((cn s 0 p : Int) + D * n) = (cn s 0 p : Int) then ((p : Int), g) else (((plcF s (hl s ((cn s 0 p : Int) + D * n)) (if g = -1 then colF s p else g) : Nat) : Int), if g = -1 then colF s p else g)
  | 0, p, g, hp, hg => by
    rw [if_pos (by rw [show (cn s 0 p : Int) + D * (0 : Nat) = cn s 0 p by simp]; exact hl_of s (cb_le hp))]
    rfl
  | n + 1, p, g, hp, hg => by
    have hk' : 4 ≤ k ∧ k ≤ 13 := by omega
    have hw : wantF s k p g = if g = -1 then colF s p else g := by unfold wantF; rw [if_pos hk]
    have hwp := want_pos hp hg
    have hcl := cn_mono (s := s) (a := 0) (b := p) (c := s.size) (by omega) (cb_le hp)
    generalize (if g = -1 then colF s p else g) = W at hw hwp ⊢
    by_cases h1 : hl s ((cn s 0 p : Int) + D) = (cn s 0 p : Int)
    · have e1 : hl s ((cn s 0 p : Int) + D * ((n + 1 : Nat) : Int)) = (cn s 0 p : Int) := by
        rcases hD with rfl | rfl <;> (unfold hl at h1 ⊢; omega)
      rw [if_pos e1]
      refine wlk_no hk' hp hg ?_ n
      rw [hw, hl0]
      unfold away
      simp [h1]
    · obtain ⟨q1, q2, q3⟩ := plc_cb (s := s) (c := W) (hl_in s ((cn s 0 p : Int) + D))
      have e1 : hl s ((cn s 0 p : Int) + D) = (cn s 0 p : Int) + D := by rcases hD with rfl | rfl <;> (unfold hl at h1 ⊢; omega)
      have e2 : (cn s 0 p : Int) + D + D * (n : Nat) = (cn s 0 p : Int) + D * ((n + 1 : Nat) : Int) := by
        rcases hD with rfl | rfl <;> omega
      have e3 : hl s ((cn s 0 p : Int) + D * ((n + 1 : Nat) : Int)) ≠ (cn s 0 p : Int) := by
        rcases hD with rfl | rfl <;> (unfold hl at h1 ⊢; omega)
      rw [wlk_yes hk' hp hg hw (m := plcF s (hl s ((cn s 0 p : Int) + D)) W) (by rw [hl0]; unfold away; simp [h1])]
      rw [wlk_up hk hD hl0 n _ W q1 (by omega), q2, if_neg (show ¬ W = -1 by omega), e1, e2, if_neg e3]
      split
      · rename_i h2
        rw [h2]
      · rfl
/-- a count is so many steps, as far as they go -/
theorem wlk_all {k : Int} (hk : 4 ≤ k ∧ k ≤ 13) (i n : Int) : (wlk s k (cnt n) (snp s i : Nat) (-1)).1 = (goP s k i (-1) n).1 ∧ ((wlk s k (cnt n) (snp s i : Nat) (-1)).2 = (goP s k i (-1) n).2.1 ∨ (goP s k i (-1) n).2.1 = -1) := by
  have hp := (snp_is s i).cb
  have hc : 0 < cnt n := by have := cnt_eq n; omega
  rw [goP_in hk, show max (-1 : Int) (-1) = -1 from rfl]
  generalize snp s i = p at hp ⊢
  generalize cnt n = c at hc ⊢
  have nv : k ≠ 10 → k ≠ 11 → ∀ (p : Nat) (g : Int), wantF s k p g = -1 := fun h1 h2 p g => by unfold wantF; rw [if_neg (by omega)]
  have hkc : k = 4 ∨ k = 5 ∨ k = 6 ∨ k = 7 ∨ k = 8 ∨ k = 9 ∨ k = 10 ∨ k = 11 ∨ k = 12 ∨ k = 13 := by omega
  have fin1 : ∀ {f : Nat → Nat} {e : Nat}, (∀ a want c, lead s k a want c = (itr f e c a, !decide ((a : Int) = (e : Nat)))) → (∀ p g, wantF s k p g = -1) → (∀ a, cbZ s (a : Nat) = true → a ≠ e → cbZ s (f a : Nat) = true) → (wlk s k c (p : Nat) (-1)).1 = (if (lead s k p (wantF s k p (-1)) c).2 = true then ((((lead s k p (wantF s k p (-1)) c).1 : Nat) : Int), wantF s k p (-1), (0 : Int)) else (((p : Nat) : Int), (-1 : Int), (8 : Int))).1 ∧ ((wlk s k c (p : Nat) (-1)).2 = (if (lead s k p (wantF s k p (-1)) c).2 = true then ((((lead s k p (wantF s k p (-1)) c).1 : Nat) : Int), wantF s k p (-1), (0 : Int)) else (((p : Nat) : Int), (-1 : Int), (8 : Int))).2.1 ∨ (if (lead s k p (wantF s k p (-1)) c).2 = true then ((((lead s k p (wantF s k p (-1)) c).1 : Nat) : Int), wantF s k p (-1), (0 : Int)) else (((p : Nat) : Int), (-1 : Int), (8 : Int))).2.1 = -1) := by
    intro f e a1 a2 a3
    rw [wlk_itr hk a1 a2 a3 c p (-1) hp (by omega), a1, a2]
    by_cases h : p = e
    · subst h; rw [itr_edge]; simp
    · rw [if_pos (by simp; omega)]; simp
  have fin2 : ∀ {X : Nat → Nat}, (∀ a want c, lead s k a want c = (X a, true)) → (∀ p g, wantF s k p g = -1) → (∀ a, cbZ s (a : Nat) = true → cbZ s (X a : Nat) = true ∧ X (X a) = X a) → (wlk s k c (p : Nat) (-1)).1 = (if (lead s k p (wantF s k p (-1)) c).2 = true then ((((lead s k p (wantF s k p (-1)) c).1 : Nat) : Int), wantF s k p (-1), (0 : Int)) else (((p : Nat) : Int), (-1 : Int), (8 : Int))).1 ∧ ((wlk s k c (p : Nat) (-1)).2 = (if (lead s k p (wantF s k p (-1)) c).2 = true then ((((lead s k p (wantF s k p (-1)) c).1 : Nat) : Int), wantF s k p (-1), (0 : Int)) else (((p : Nat) : Int), (-1 : Int), (8 : Int))).2.1 ∨ (if (lead s k p (wantF s k p (-1)) c).2 = true then ((((lead s k p (wantF s k p (-1)) c).1 : Nat) : Int), wantF s k p (-1), (0 : Int)) else (((p : Nat) : Int), (-1 : Int), (8 : Int))).2.1 = -1) := by
    intro X a1 a2 a3
    rw [wlk_fix hk a1 a2 a3 c p (-1) hp (by omega) (.inr hc), a1, a2, if_pos rfl]
    simp
  have fin3 : ∀ {D : Int}, (k = 10 ∨ k = 11) → (D = 1 ∨ D = -1) → (∀ (a : Nat) (want : Int) (c : Nat), lead s k a want c = away s a want (D * c)) → (wlk s k c (p : Nat) (-1)).1 = (if (lead s k p (wantF s k p (-1)) c).2 = true then ((((lead s k p (wantF s k p (-1)) c).1 : Nat) : Int), wantF s k p (-1), (0 : Int)) else (((p : Nat) : Int), (-1 : Int), (8 : Int))).1 ∧ ((wlk s k c (p : Nat) (-1)).2 = (if (lead s k p (wantF s k p (-1)) c).2 = true then ((((lead s k p (wantF s k p (-1)) c).1 : Nat) : Int), wantF s k p (-1), (0 : Int)) else (((p : Nat) : Int), (-1 : Int), (8 : Int))).2.1 ∨ (if (lead s k p (wantF s k p (-1)) c).2 = true then ((((lead s k p (wantF s k p (-1)) c).1 : Nat) : Int), wantF s k p (-1), (0 : Int)) else (((p : Nat) : Int), (-1 : Int), (8 : Int))).2.1 = -1) := by
    intro D a1 a2 a3
    have hw : wantF s k p (-1) = colF s p := by unfold wantF; rw [if_pos a1, if_pos rfl]
    rw [wlk_up a1 a2 a3 c p (-1) hp (by omega), a3, hw, if_pos rfl]
    unfold away
    by_cases h : hl s ((cn s 0 p : Int) + D * c) = (cn s 0 p : Int)
    · rw [if_pos h, if_neg (by simp [h])]; simp
    · rw [if_neg h, if_pos (by simp [h])]; simp
  rcases hkc with rfl | rfl | rfl | rfl | rfl | rfl | rfl | rfl | rfl | rfl
  · exact fin1 (f := pvC s) (e := 0) (fun _ _ _ => rfl) (nv (by decide) (by decide)) (fun a _ _ => (pvC_is s a).cb)
  · exact fin1 (f := nxt s) (e := s.size) (fun _ _ _ => rfl) (nv (by decide) (by decide)) (fun a _ _ => (nxt_is s a).cb)
  · exact fin1 (f := behindW (words s)) (e := 0) (fun _ _ _ => rfl) (nv (by decide) (by decide)) (fun a _ _ => (behind_ok s a).1)
  · exact fin1 (f := aheadW (words s) s.size) (e := s.size) (fun _ _ _ => rfl) (nv (by decide) (by decide)) (fun a _ _ => (ahead_ok s a).1)
  · refine fin2 (X := fun a => ((lspF s (cn s 0 a)).getD (0, 0)).1) (fun _ _ _ => rfl) (nv (by decide) (by decide)) (fun a ha => ?_)
    obtain ⟨x, y, h1, -, -, h2, h3, h4, h5⟩ := line_at ha
    simp only [h1, Option.getD_some, h4]
    exact ⟨h2, trivial⟩
  · refine fin2 (X := fun a => ((lspF s (cn s 0 a)).getD (0, 0)).2) (fun _ _ _ => rfl) (nv (by decide) (by decide)) (fun a ha => ?_)
    obtain ⟨x, y, h1, -, -, h2, h3, h4, h5⟩ := line_at ha
    simp only [h1, Option.getD_some, h5]
    exact ⟨h3, trivial⟩
  · exact fin3 (D := -1) (.inl rfl) (.inr rfl) (fun a want c => by rw [show (-1 : Int) * c = -(c : Int) by omega]; rfl)
  · exact fin3 (D := 1) (.inr rfl) (.inl rfl) (fun a want c => by rw [Int.one_mul]; rfl)
  · exact fin2 (X := fun _ => 0) (fun _ _ _ => rfl) (nv (by decide) (by decide)) (fun a ha => ⟨cb_zero s, rfl⟩)
  · exact fin2 (X := fun _ => s.size) (fun _ _ _ => rfl) (nv (by decide) (by decide)) (fun a ha => ⟨cb_end s, rfl⟩)
theorem goP_goal {k : Int} (hk : 4 ≤ k ∧ k ≤ 13) (hs : s.size ≤ 1073741824) (i : Int) {g : Int} (hg : g ≤ 9223372036854775807) (n : Int) : -1 ≤ (goP s k i g n).2.1 ∧ (goP s k i g n).2.1 ≤ 9223372036854775807 := by
  rw [goP_in hk]
  have hb := col_bd (snp_is s i).cb
  split
  · show -1 ≤ wantF s k (snp s i) (max g (-1)) ∧ wantF s k (snp s i) (max g (-1)) ≤ 9223372036854775807
    unfold wantF
    split
    · split <;> omega
    · omega
  · show -1 ≤ max g (-1) ∧ max g (-1) ≤ 9223372036854775807
    omega
theorem wlk_zero (s : ByteArray) (k : Int) (p g : Int) : wlk s k 0 p g = (p, g) := rfl
theorem wlk_ok {k : Int} {p g x y : Int} (h : goP s k p g 1 = (x, y, 0)) (n : Nat) : wlk s k (n + 1) p g = wlk s k n x y := by
  conv => lhs; unfold wlk
  rw [h, if_pos rfl]
theorem wlk_end {k : Int} {p g x y e : Int} (h : goP s k p g 1 = (x, y, e)) (he : e ≠ 0) (n : Nat) : wlk s k (n + 1) p g = (x, y) := by
  unfold wlk
  rw [h, if_neg he]
end
end Go.Proofs.YtplieccalmkloaaGreatDoor.Sto
