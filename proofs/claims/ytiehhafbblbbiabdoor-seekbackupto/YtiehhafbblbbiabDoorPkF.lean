/-
  Places by counts, in plain words. No program is walked in this text; no conditions.
-/
import Derived.Test.YtiehhafbblbbiabDoorPkR
namespace Go.Proofs.YtiehhafbblbbiabDoor
open Bod Wid

/-- the three counts: clusters, line feeds, cells -/
inductive Ck where
  | C
  | L
  | N
/-- where something begins that a cluster adds to the count, and how much it adds -/
def itm : Ck → Clu → Nat × Int
  | .C, c => (c.fr, 1)
  | .L, c => if c.k = 1 then (c.to - 1, 1) else (c.fr, 0)
  | .N, c => (c.fr, c.n)
def sb (k : Ck) (to : Int) (c : Clu) : Int := if ((itm k c).1 : Int) < to then (itm k c).2 else 0
def cnL (k : Ck) (to : Int) : List Clu → Int
  | [] => 0
  | c :: l => sb k to c + cnL k to l
def cn (k : Ck) (s : ByteArray) (to : Int) : Int := cnL k to (cl s)
def ful (k : Ck) : List Clu → Int
  | [] => 0
  | c :: l => (itm k c).2 + ful k l
theorem cnL_app (k : Ck) (to : Int) : ∀ a b : List Clu, cnL k to (a ++ b) = cnL k to a + cnL k to b
  | [], b => by simp [cnL]
  | c :: a, b => by simp only [List.cons_append, cnL]; rw [cnL_app k to a b]; omega
theorem ful_app (k : Ck) : ∀ a b : List Clu, ful k (a ++ b) = ful k a + ful k b
  | [], b => by simp [ful]
  | c :: a, b => by simp only [List.cons_append, ful]; rw [ful_app k a b]; omega
/-- an item begins within its cluster -/
theorem itm_in (k : Ck) {c : Clu} (h : c.fr < c.to) : c.fr ≤ (itm k c).1 ∧ (itm k c).1 < c.to := by
  cases k <;> simp only [itm]
  · omega
  · split <;> simp only <;> omega
  · omega
theorem itm_n (k : Ck) {c : Clu} (h : 0 ≤ c.n ∧ c.n ≤ 2) : 0 ≤ (itm k c).2 ∧ (itm k c).2 ≤ 2 := by
  cases k <;> simp only [itm]
  · omega
  · split <;> simp only <;> omega
  · omega
theorem cnL_zero (k : Ck) (to : Int) : ∀ {l : List Clu}, (∀ c ∈ l, c.fr < c.to ∧ to ≤ (c.fr : Int)) → cnL k to l = 0
  | [], _ => rfl
  | c :: l, h => by
    have h1 := h c List.mem_cons_self
    have := itm_in k h1.1
    simp only [cnL, sb]
    rw [cnL_zero k to (fun d hd => h d (List.mem_cons_of_mem _ hd)), if_neg (by omega)]
    rfl
theorem cnL_full (k : Ck) (to : Int) : ∀ {l : List Clu}, (∀ c ∈ l, ((itm k c).1 : Int) < to) → cnL k to l = ful k l
  | [], _ => rfl
  | c :: l, h => by
    simp only [cnL, sb, ful]
    rw [cnL_full k to (fun d hd => h d (List.mem_cons_of_mem _ hd)), if_pos (h c List.mem_cons_self)]
theorem sb_sh (k : Ck) (to : Int) (d : Nat) {c : Clu} (h : c.fr < c.to) : sb k to (sh d c) = sb k (to - d) c := by
  have e : itm k (sh d c) = ((itm k c).1 + d, (itm k c).2) := by
    cases k with
    | C => rfl
    | N => rfl
    | L =>
      show (if c.k = 1 then (c.to + d - 1, (1 : Int)) else (c.fr + d, 0)) = _
      by_cases hk : c.k = 1
      · simp only [itm, if_pos hk]
        rw [show c.to + d - 1 = c.to - 1 + d by omega]
      · simp only [itm, if_neg hk]
  unfold sb
  rw [e]
  simp only
  split <;> split <;> first | rfl | omega
theorem cnL_sh (k : Ck) (to : Int) (d : Nat) : ∀ {l : List Clu}, (∀ c ∈ l, c.fr < c.to) → cnL k to (l.map (sh d)) = cnL k (to - d) l
  | [], _ => rfl
  | c :: l, h => by
    simp only [List.map_cons, cnL]
    rw [sb_sh k to d (h c List.mem_cons_self), cnL_sh k to d (fun x hx => h x (List.mem_cons_of_mem _ hx))]
theorem cl_lt (s : ByteArray) : ∀ c ∈ cl s, c.fr < c.to := fun _ hc => (cl_span hc).1
/-- cut at a boundary -/
theorem cn_cut (k : Ck) {a b : ByteArray} (h : cbZ (a ++ b) a.size = true) (to : Int) : cn k (a ++ b) to = cn k a to + cn k b (to - a.size) := by
  unfold cn
  rw [cl_cut h, cnL_app, cnL_sh k to a.size (cl_lt b)]
theorem cn_end (k : Ck) (s : ByteArray) : cn k s s.size = ful k (cl s) := cnL_full k _ fun _ hc => by have := cl_span hc; have := itm_in k this.1; omega
theorem cn_low (k : Ck) (s : ByteArray) {to : Int} (h : to ≤ 0) : cn k s to = 0 := cnL_zero k to fun c hc => ⟨cl_lt s c hc, by have := Int.natCast_nonneg c.fr; omega⟩
theorem cn_high (k : Ck) (s : ByteArray) {to : Int} (h : (s.size : Int) ≤ to) : cn k s to = ful k (cl s) := cnL_full k _ fun _ hc => by have := cl_span hc; have := itm_in k this.1; omega
/-- the next boundary -/
theorem snap_ex (s : ByteArray) : ∀ (f i : Nat), s.size - i ≤ f → i ≤ s.size → ∃ m, i ≤ m ∧ m ≤ s.size ∧ cbZ s (m : Int) = true ∧ ∀ j : Nat, i ≤ j → j < m → cbZ s (j : Int) = false
  | f, i, hf, hi => by
    by_cases c : cbZ s (i : Int) = true
    · exact ⟨i, Nat.le_refl _, hi, c, fun j h1 h2 => by omega⟩
    · have hne : i ≠ s.size := fun e => c (by rw [e]; exact cb_end s)
      cases f with
      | zero => omega
      | succ f =>
        obtain ⟨m, h1, h2, h3, h4⟩ := snap_ex s f (i + 1) (by omega) (by omega)
        refine ⟨m, by omega, h2, h3, fun j k1 k2 => ?_⟩
        by_cases e : j = i
        · rw [e]; simpa using c
        · exact h4 j (by omega) k2
/-- what begins ahead of an offset is all of the text up to the next boundary -/
theorem cn_snap (k : Ck) (hk : k ≠ .L) {x y : ByteArray} {to : Nat} (h : cbZ (x ++ y) (x.size : Int) = true) (h1 : to ≤ x.size) (h2 : ∀ j : Nat, to ≤ j → j < x.size → cbZ (x ++ y) (j : Int) = false) : cn k (x ++ y) to = ful k (cl x) := by
  unfold cn
  have e := cl_cut h
  have hz : cnL k (to : Int) ((cl y).map (sh x.size)) = 0 := by
    rw [cnL_sh k _ _ (cl_lt y)]
    exact cnL_zero k _ fun c hc => ⟨cl_lt y c hc, by omega⟩
  have hf : cnL k (to : Int) (cl x) = ful k (cl x) := cnL_full k _ fun c hc => by
    have c1 := cl_span hc
    have c2 : cbZ (x ++ y) (c.fr : Int) = true := cl_fr (x ++ y) c (by rw [e]; exact List.mem_append_left _ hc)
    have c3 : c.fr < to := by
      apply Decidable.byContradiction
      intro hn
      have := h2 c.fr (by omega) (by omega)
      rw [c2] at this
      cases this
    cases k with
    | C => simp only [itm]; omega
    | L => exact absurd rfl hk
    | N => simp only [itm]; omega
  rw [e, cnL_app, hz, hf]
  omega
theorem ful_C : ∀ l : List Clu, ful .C l = l.length
  | [] => rfl
  | c :: l => by simp only [ful, itm, ful_C l, List.length_cons]; omega
theorem ful_N : ∀ l : List Clu, ful .N l = sumN l
  | [] => rfl
  | c :: l => by simp only [ful, itm, ful_N l, sumN]
def kt : Ck → Cnt
  | .N => kN
  | _ => kC
theorem ful_of (k : Ck) (hk : k ≠ .L) (s : ByteArray) : ful k (cl s) = (kt k).of s := by
  cases k with
  | C => rw [ful_C]; exact (kC_of s).symm
  | L => exact absurd rfl hk
  | N => rw [ful_N]; exact (kN_of s).symm
/-- what lies far ahead changes nothing at a boundary -/
theorem cb_far {p x : ByteArray} {i : Nat} (h0 : 4 ≤ i) (h1 : i ≤ x.size) : cbZ (p ++ x) ((p.size + i : Nat) : Int) = cbZ x (i : Int) := by
  by_cases e : i = x.size
  · rw [e, cb_end, ← size_app, cb_end]
  · refine cb_near (by omega) (by rw [size_app]; omega) (by omega) (by omega) (by omega) fun d h2 h3 => ?_
    rw [show p.size + i - d = p.size + (i - d) by omega]
    exact un_right p x (i - d)
/-- what lies far ahead: left out -/
theorem cn_left (k : Ck) (hk : k ≠ .L) (p q b : ByteArray) (h : 10 ≤ q.size) : cn k (p ++ (q ++ b)) ((p.size + q.size : Nat) : Int) - ful k (cl (p ++ q)) = cn k (q ++ b) (q.size : Int) - ful k (cl q) := by
  obtain ⟨m, m1, m2, m3, m4⟩ := snap_ex (q ++ b) _ q.size (Nat.le_refl _) (by rw [size_app]; omega)
  obtain ⟨x, y, e, x1, _⟩ := split_at m2
  obtain ⟨q', b1, e2, q1, _⟩ := split_at (x := x) (n := q.size) (by omega)
  have e3 : q ++ b = q' ++ (b1 ++ y) := by rw [e, e2, app_assoc]
  obtain ⟨rfl, -⟩ := app_inj e3 q1.symm
  have E1 : cn k (q ++ b) (q.size : Int) = ful k (cl (q ++ b1)) := by
    rw [e, ← e2]
    exact cn_snap k hk (by rw [← e, x1]; exact m3) (by omega) (fun j h1 h2 => by rw [← e]; exact m4 j h1 (by omega))
  have E2 : cn k (p ++ (q ++ b)) ((p.size + q.size : Nat) : Int) = ful k (cl (p ++ (q ++ b1))) := by
    have e4 : p ++ (q ++ b) = p ++ x ++ y := by rw [e, app_assoc]
    rw [e4, ← e2]
    have hz : (p ++ x).size = p.size + x.size := size_app p x
    refine cn_snap k hk ?_ (by omega) (fun j h1 h2 => ?_)
    · rw [← e4, hz, cb_far (by omega) (by rw [e, size_app]; omega), x1]
      exact m3
    · obtain ⟨i, rfl⟩ : ∃ i, j = p.size + i := ⟨j - p.size, by omega⟩
      rw [← e4, cb_far (by omega) (by rw [e, size_app]; omega)]
      exact m4 i (by omega) (by omega)
  rw [E1, E2, ful_of k hk, ful_of k hk, ful_of k hk, ful_of k hk]
  have := mid (kt k) p q b1 h
  omega
/-- the clusters that come of a cluster and more units -/
theorem clG_fr : ∀ (l : List (Int × Int)) (c : Clu) (a : Int), c.fr < c.to → (∀ p ∈ l, 1 ≤ p.2.toNat) → ∀ d ∈ clG c a l, c.fr ≤ d.fr ∧ d.fr < d.to
  | [], c, a, h, _, d, hd => by simp only [clG, List.mem_singleton] at hd; subst hd; exact ⟨Nat.le_refl _, h⟩
  | p :: r, c, a, h, hp, d, hd => by
    have h1 := hp p List.mem_cons_self
    have h2 := fun q hq => hp q (List.mem_cons_of_mem _ hq)
    simp only [clG] at hd
    split at hd
    · exact clG_fr r ⟨c.fr, c.to + p.2.toNat, _, _⟩ _ (by show c.fr < c.to + p.2.toNat; omega) h2 d hd
    · rcases List.mem_cons.1 hd with rfl | hd
      · exact ⟨Nat.le_refl _, h⟩
      · have := clG_fr r ⟨c.to, c.to + p.2.toNat, cls p.1, cel p.1⟩ p.1 (by show c.to < c.to + _; omega) h2 d hd
        have h3 : c.to ≤ d.fr := this.1
        exact ⟨by omega, this.2⟩
theorem us_szs (s : ByteArray) (i : Nat) : ∀ p ∈ us s i, 1 ≤ p.2.toNat := fun p hp => by
  obtain ⟨j, hj, rfl⟩ := List.mem_map.1 hp
  have := sz_pos (offs_pos s _ i (Nat.le_refl _) j hj).2
  simp only [pr]
  omega
theorem jn_lf {a : Int} (h : a ≠ 13) : jn a 10 = false := by simp [jn, h]
theorem cls13' {b : Int} (h : cls b = 3) : b ≠ 13 := fun e => by rw [e, cls13] at h; cases h
theorem sb_same {k : Ck} (hk : k ≠ .L) (to : Int) {c d : Clu} (h1 : c.fr = d.fr) (h2 : c.n = d.n) : sb k to c = sb k to d := by
  obtain ⟨f, t, x, n⟩ := c
  obtain ⟨f', t', x', n'⟩ := d
  simp only at h1 h2
  subst h1
  subst h2
  cases k with
  | C => rfl
  | L => exact absurd rfl hk
  | N => rfl
/-- past the offset nothing changes the cluster's part, but a line feed behind a CR -/
theorem cn_done (k : Ck) (hk : k ≠ .L) (to : Int) : ∀ (l : List (Int × Int)) (c : Clu) (a : Int), c.fr < c.to → (∀ p ∈ l, 1 ≤ p.2.toNat) → to ≤ (c.to : Int) → a ≠ 13 → cnL k to (clG c a l) = sb k to c
  | [], c, a, _, _, _, _ => by simp only [clG, cnL]; omega
  | p :: r, c, a, h, hp, ht, ha => by
    have h1 := hp p List.mem_cons_self
    have h2 := fun q hq => hp q (List.mem_cons_of_mem _ hq)
    simp only [clG]
    split
    · rename_i hj
      have hne : p.1 ≠ 10 := fun e => by rw [e, jn_lf ha] at hj; cases hj
      have h3 : cls p.1 = 3 := by simp only [jn, if_neg hne, decide_eq_true_eq] at hj; exact hj.1
      rw [cn_done k hk to r _ _ (by show c.fr < c.to + _; omega) h2 (by show to ≤ ((c.to + _ : Nat) : Int); omega) (cls13' h3)]
      exact sb_same hk to rfl (if_neg hne)
    · simp only [cnL]
      rw [cnL_zero k to fun d hd => ?_]
      · omega
      · have := clG_fr r ⟨c.to, c.to + p.2.toNat, cls p.1, cel p.1⟩ p.1 (by show c.to < c.to + _; omega) h2 d hd
        have h3 : c.to ≤ d.fr := this.1
        exact ⟨this.2, by omega⟩
/-- what begins ahead of an offset hangs on what stands up to three bytes behind it -/
theorem cn_agree (k : Ck) (hk : k ≠ .L) {s s' : ByteArray} {to : Nat} (hu : ∀ i, i ≤ to + 3 → un s i = un s' i) (hz : ∀ i, i ≤ to + 3 → (i < s.size ↔ i < s'.size)) : ∀ (f i : Nat) (c : Clu) (a : Int), s.size - i ≤ f → i ≤ to + 3 → c.to = i → c.fr < i → cnL k to (clG c a (us s i)) = cnL k to (clG c a (us s' i))
  | f, i, c, a, hf, hi, hc, hfr => by
    by_cases h : i < s.size
    · have h' := (hz i hi).1 h
      have hp := sz_pos h
      cases f with
      | zero => omega
      | succ f =>
        have e1 : pr s i = pr s' i := pr_congr (hu i hi)
        have e2 : sz s i = sz s' i := by unfold sz; rw [hu i hi]
        have e3 : (pr s' i).2.toNat = sz s' i := by simp [pr]
        have hp' := sz_pos h'
        have h4 := sz_le h
        rw [us_step h, us_step h', e1, e2]
        simp only [clG, e3]
        by_cases hlt : i < to
        · split
          · exact cn_agree k hk hu hz f (i + sz s' i) _ _ (by omega) (by omega) (by show c.to + _ = _; omega) (by show c.fr < _; omega)
          · simp only [cnL]
            rw [cn_agree k hk hu hz f (i + sz s' i) _ _ (by omega) (by omega) (by show c.to + _ = _; omega) (by show c.to < _; omega)]
        · split
          · rename_i hj
            have ha : (pr s' i).1 ≠ 13 := fun e => by rw [e, jn13] at hj; cases hj
            rw [cn_done k hk _ _ _ _ (by show c.fr < c.to + _; omega) (us_szs s _) (by show _ ≤ ((c.to + _ : Nat) : Int); omega) ha, cn_done k hk _ _ _ _ (by show c.fr < c.to + _; omega) (us_szs s' _) (by show _ ≤ ((c.to + _ : Nat) : Int); omega) ha]
          · simp only [cnL]
            rw [cnL_zero k _ fun d hd => ?_, cnL_zero k _ fun d hd => ?_]
            · have := clG_fr _ ⟨c.to, c.to + sz s' i, _, _⟩ _ (by show c.to < c.to + _; omega) (us_szs s' _) d hd
              have h3 : c.to ≤ d.fr := this.1
              exact ⟨this.2, by omega⟩
            · have := clG_fr _ ⟨c.to, c.to + sz s' i, _, _⟩ _ (by show c.to < c.to + _; omega) (us_szs s _) d hd
              have h3 : c.to ≤ d.fr := this.1
              exact ⟨this.2, by omega⟩
    · have h' : ¬ i < s'.size := fun h' => h ((hz i hi).2 h')
      rw [us_end (by omega), us_end (by omega)]
theorem cn_pre (k : Ck) (hk : k ≠ .L) {s s' : ByteArray} {to : Nat} (hu : ∀ i, i ≤ to + 3 → un s i = un s' i) (hz : ∀ i, i ≤ to + 3 → (i < s.size ↔ i < s'.size)) : cn k s to = cn k s' to := by
  by_cases h0 : to = 0
  · rw [cn_low k s (by omega), cn_low k s' (by omega)]
  · unfold cn
    rw [cl_us, cl_us]
    by_cases h : 0 < s.size
    · have h' := (hz 0 (by omega)).1 h
      have e1 : pr s 0 = pr s' 0 := pr_congr (hu 0 (by omega))
      have e2 : sz s 0 = sz s' 0 := by unfold sz; rw [hu 0 (by omega)]
      have e3 : (pr s' 0).2.toNat = sz s' 0 := by simp [pr]
      have h4 := sz_le h
      have hp := sz_pos h'
      rw [us_step h, us_step h', e1, e2]
      simp only [clU, e3]
      exact cn_agree k hk hu hz _ _ _ _ (Nat.le_refl _) (by omega) rfl (by show 0 < _; omega)
    · have h' : ¬ 0 < s'.size := fun h' => h ((hz 0 (by omega)).2 h')
      rw [us_end (by omega), us_end (by omega)]
theorem hd_split (b : ByteArray) (h : 16 < b.size) : ∃ r, b = hd b ++ r ∧ (hd b).size = 16 := by
  refine ⟨b.extract 16 b.size, ?_, by rw [hd_size]; omega⟩
  unfold hd
  rw [if_pos h]
  exact (extract_cut b 16 (by omega)).symm
theorem tl_split (a : ByteArray) (h : 16 < a.size) : ∃ p, a = p ++ tl a ∧ (tl a).size = 16 := by
  refine ⟨a.extract 0 (a.size - 16), ?_, by rw [tl_size]; omega⟩
  unfold tl
  rw [if_pos h]
  exact (extract_cut a (a.size - 16) (by omega)).symm
/-- what lies far behind: left out -/
theorem cn_right (k : Ck) (hk : k ≠ .L) (a m b : ByteArray) : cn k (a ++ (m ++ b)) (a.size : Int) = cn k (a ++ (m ++ hd b)) (a.size : Int) := by
  by_cases h : 16 < b.size
  · obtain ⟨r, e, hz⟩ := hd_split b h
    have e2 : a ++ (m ++ b) = a ++ (m ++ hd b) ++ r := by rw [app_assoc, app_assoc, ← e]
    have hs : (a ++ (m ++ hd b)).size = a.size + (m.size + 16) := by rw [size_app, size_app, hz]
    rw [e2]
    refine cn_pre k hk (fun i hi => un_left4 _ _ _ (by omega)) (fun i hi => ?_)
    rw [size_app _ r]
    omega
  · rw [hd_short (by omega)]
theorem cn_locK (k : Ck) (hk : k ≠ .L) (A x y B : ByteArray) : cn k (A ++ (x ++ (y ++ B))) ((A.size + x.size : Nat) : Int) - ful k (cl A) = cn k (tl A ++ (x ++ (y ++ hd B))) (((tl A).size + x.size : Nat) : Int) - ful k (cl (tl A)) := by
  by_cases h : 16 < A.size
  · obtain ⟨p, e, hz⟩ := tl_split A h
    have h1 := cn_left k hk p (tl A ++ x) (y ++ B) (by rw [size_app]; omega)
    have h2 := cn_right k hk (tl A ++ x) y B
    have h3 := seam_tl (kt k) A x
    unfold Cnt.seam at h3
    have e1 : p ++ (tl A ++ x ++ (y ++ B)) = A ++ (x ++ (y ++ B)) := by rw [app_assoc (tl A), ← app_assoc p, ← e]
    have e2 : p ++ (tl A ++ x) = A ++ x := by rw [← app_assoc, ← e]
    have e3 : p.size + (tl A ++ x).size = A.size + x.size := by rw [← size_app, e2, size_app]
    rw [e1, e2, e3, h2, app_assoc (tl A), size_app (tl A), ful_of k hk, ful_of k hk] at h1
    rw [ful_of k hk, ful_of k hk]
    omega
  · rw [tl_short (by omega)]
    have h2 := cn_right k hk (A ++ x) y B
    rw [app_assoc, app_assoc, size_app] at h2
    rw [h2]
end Go.Proofs.YtiehhafbblbbiabDoor
namespace Go.Proofs.YtiehhafbblbbiabDoor
open Bod Wid Go.Lib

theorem cls_lf {u : Int} : cls u = 1 ↔ u = 10 := by
  constructor
  · intro h
    unfold cls at h
    repeat' split at h
    all_goals first | assumption | (exfalso; omega)
  · rintro rfl
    decide +kernel
theorem sb_L {c : Clu} {a : Int} (to : Int) (hk : c.k = 1 ↔ a = 10) (h : c.fr < c.to) : sb .L to c = if a = 10 ∧ (c.to : Int) - 1 < to then 1 else 0 := by
  by_cases e : a = 10
  · have i1 : itm .L c = (c.to - 1, 1) := if_pos (hk.2 e)
    unfold sb
    rw [i1]
    simp only [e, true_and]
    split <;> split <;> omega
  · have i1 : itm .L c = (c.fr, 0) := if_neg (fun x => e (hk.1 x))
    unfold sb
    rw [i1]
    simp [e]
/-- line feeds among units -/
def lfs (to : Int) : Nat → List (Int × Int) → Int
  | _, [] => 0
  | i, p :: r => (if p.1 = 10 ∧ ((i + p.2.toNat : Nat) : Int) - 1 < to then 1 else 0) + lfs to (i + p.2.toNat) r
theorem cnL_lfs (to : Int) : ∀ (l : List (Int × Int)) (c : Clu) (a : Int), (c.k = 1 ↔ a = 10) → c.fr < c.to → (∀ p ∈ l, 1 ≤ p.2.toNat) → cnL .L to (clG c a l) = (if a = 10 ∧ (c.to : Int) - 1 < to then 1 else 0) + lfs to c.to l
  | [], c, a, hk, h, _ => by
    simp only [clG, cnL, lfs]
    rw [sb_L to hk h]
  | p :: r, c, a, hk, h, hp => by
    have h1 := hp p List.mem_cons_self
    have h2 := fun q hq => hp q (List.mem_cons_of_mem _ hq)
    simp only [clG, lfs]
    split
    · rename_i hj
      have ha : a ≠ 10 := fun e => by
        rw [e] at hj
        unfold jn at hj
        split at hj
        · simp at hj
        · simp [cls_lf] at hj
      rw [cnL_lfs to r _ _ ?_ (by show c.fr < c.to + _; omega) h2]
      · simp only [ha, false_and, if_false]
        omega
      · show (if p.1 = 10 then (1 : Int) else c.k) = 1 ↔ p.1 = 10
        by_cases e : p.1 = 10
        · simp [e]
        · simp only [e, if_false, iff_false]
          exact fun x => ha (hk.1 x)
    · simp only [cnL]
      rw [cnL_lfs to r _ _ cls_lf (by show c.to < c.to + _; omega) h2]
      rw [sb_L to hk h]
/-- the line feeds among the first bytes -/
def nlt (s : ByteArray) (n : Nat) : Nat := (s.data.toList.take n).countP (· == 10)
theorem dec_lf (n b0 b1 b2 b3 : Nat) (h : (decodeN n b0 b1 b2 b3).1 = 10) : b0 = 10 ∧ (decodeN n b0 b1 b2 b3).2 = 1 := by
  revert h
  unfold decodeN
  repeat' split
  all_goals first | (intro h; exact ⟨h, rfl⟩) | (intro h; exfalso; simp only at h; omega)
theorem ch_lf {s : ByteArray} {i : Nat} : ch s i = 10 → bt s i = 10 ∧ sz s i = 1 := fun h => by
  have h1 : (un s i).1 = 10 := by
    unfold ch at h
    split at h <;> omega
  exact dec_lf _ _ _ _ _ h1
theorem lf_ch {s : ByteArray} {i : Nat} (h : bt s i = 10) : ch s i = 10 := by
  have e : un s i = (10, 1) := by
    unfold un decodeN
    rw [h]
    repeat' split
    all_goals first | rfl | (exfalso; omega)
  unfold ch
  rw [e]
  rfl
theorem nlt_step (s : ByteArray) (k : Nat) (h : k < s.size) : nlt s (k + 1) = nlt s k + if bt s k = 10 then 1 else 0 := by
  have e1 : s.data.toList[k]? = some s[k] := by
    rw [Array.getElem?_toList, Array.getElem?_eq_getElem (show k < s.data.size from h), ByteArray.getElem_eq_getElem_data]
  have e2 : bt s k = s[k].toNat := by unfold bt; rw [Utf8W.get!_of_lt s k h]
  unfold nlt
  rw [List.take_add_one, e1, List.countP_append, e2]
  congr 1
  by_cases e : s[k] = 10
  · simp [e]
  · have : s[k].toNat ≠ 10 := fun x => e (UInt8.toNat_inj.1 x)
    simp [e, this]
theorem nlt_all {s : ByteArray} {n : Nat} (h : s.size ≤ n) : nlt s n = nls s := by
  unfold nlt nls
  rw [List.take_of_length_le (by simpa using h)]
theorem nlt_zero (s : ByteArray) : nlt s 0 = 0 := rfl
/-- no line feed within a unit that is none -/
theorem nlt_unit {s : ByteArray} {i : Nat} (h : ch s i ≠ 10) (hi : i < s.size) : ∀ j, i ≤ j → j ≤ i + sz s i → nlt s j = nlt s i := by
  have hin := sz_in hi
  have key : ∀ d, d ≤ sz s i → nlt s (i + d) = nlt s i := fun d => by
    induction d with
    | zero => intro _; rfl
    | succ d ih =>
      intro h2
      have hb : bt s (i + d) ≠ 10 := by
        by_cases e : d = 0
        · rw [e]; exact fun x => h (lf_ch x)
        · have := cont (s := s) (i := i) (k := i + d) (by omega) (by omega)
          omega
      rw [show i + (d + 1) = i + d + 1 by omega, nlt_step s (i + d) (by omega), ih (by omega), if_neg hb]
      rfl
  intro j h1 h2
  have := key (j - i) (by omega)
  rw [show i + (j - i) = j by omega] at this
  exact this
theorem lfs_us {s : ByteArray} {to : Nat} (ht : to ≤ s.size) : ∀ (f i : Nat), s.size - i ≤ f → lfs to i (us s i) = (nlt s (max i to) : Int) - nlt s i
  | f, i, hf => by
    by_cases h : i < s.size
    · have hp := sz_pos h
      have hin := sz_in h
      cases f with
      | zero => omega
      | succ f =>
        have e3 : (pr s i).2.toNat = sz s i := by simp [pr]
        have e1 : (pr s i).1 = ch s i := rfl
        rw [us_step h]
        simp only [lfs, e3, e1]
        rw [lfs_us ht f (i + sz s i) (by omega)]
        by_cases c : ch s i = 10
        · obtain ⟨c1, c2⟩ := ch_lf c
          have hst := nlt_step s i h
          rw [if_pos c1] at hst
          rw [c2]
          by_cases hlt : i < to
          · rw [if_pos ⟨c, by omega⟩, show max (i + 1) to = to by omega, show max i to = to by omega]
            omega
          · rw [if_neg (by omega), show max (i + 1) to = i + 1 by omega, show max i to = i by omega]
            omega
        · rw [if_neg (by simp [c])]
          have hu := nlt_unit c h
          have z1 := hu (i + sz s i) (by omega) (by omega)
          by_cases hlt : i + sz s i ≤ to
          · rw [show max (i + sz s i) to = to by omega, show max i to = to by omega]
            omega
          · have z2 := hu (max i to) (by omega) (by omega)
            rw [show max (i + sz s i) to = i + sz s i by omega]
            omega
    · rw [us_end (by omega), show max i to = i by omega]
      simp [lfs]
theorem cn_lf (s : ByteArray) {to : Nat} (ht : to ≤ s.size) : cn .L s to = nlt s to := by
  unfold cn
  rw [cl_us]
  by_cases h : 0 < s.size
  · have e3 : (pr s 0).2.toNat = sz s 0 := by simp [pr]
    have hp := sz_pos h
    have := lfs_us ht _ 0 (Nat.le_refl _)
    rw [us_step h] at this ⊢
    simp only [lfs, e3, clU] at this ⊢
    rw [cnL_lfs _ _ _ _ cls_lf (by show 0 < 0 + sz s 0; omega) (us_szs s _)]
    rw [show max 0 to = to by omega, nlt_zero] at this
    simp only [Nat.zero_add] at this ⊢
    omega
  · rw [us_end (by omega), show to = 0 by omega]
    rfl
/-- the count of a whole text -/
def tot : Ck → ByteArray → Int
  | .C, s => kC.of s
  | .L, s => nls s
  | .N, s => kN.of s
theorem ful_tot (k : Ck) (s : ByteArray) : ful k (cl s) = tot k s := by
  cases k with
  | C => exact ful_of .C (by simp) s
  | N => exact ful_of .N (by simp) s
  | L => rw [← cn_end .L s, cn_lf s (Nat.le_refl _), nlt_all (Nat.le_refl _)]; rfl
theorem nlt_app (a b : ByteArray) (n : Nat) : nlt (a ++ b) (a.size + n) = nls a + nlt b n := by
  unfold nlt nls
  rw [data_app, List.take_append, List.countP_append]
  have hl : a.data.toList.length = a.size := rfl
  rw [hl, List.take_of_length_le (by rw [hl]; omega), show a.size + n - a.size = n by omega]
/-- what begins ahead of an offset of a piece is seen by the piece with sixteen bytes at each side -/
theorem cn_loc (k : Ck) (A x y B : ByteArray) : cn k (A ++ (x ++ (y ++ B))) ((A.size + x.size : Nat) : Int) - tot k A = cn k (tl A ++ (x ++ (y ++ hd B))) (((tl A).size + x.size : Nat) : Int) - tot k (tl A) := by
  by_cases hk : k = .L
  · subst hk
    rw [cn_lf _ (by rw [size_app, size_app]; omega), cn_lf _ (by rw [size_app, size_app]; omega), nlt_app, nlt_app]
    have e1 := nlt_app x (y ++ B) 0
    have e2 := nlt_app x (y ++ hd B) 0
    rw [nlt_zero, Nat.add_zero] at e1 e2
    rw [e1, e2]
    simp only [tot]
    omega
  · have := cn_locK k hk A x y B
    rw [ful_tot, ful_tot] at this
    exact this
theorem cnL_mono (k : Ck) {a b : Int} (h : a ≤ b) : ∀ {l : List Clu}, (∀ d ∈ l, 0 ≤ d.n ∧ d.n ≤ 2) → cnL k a l ≤ cnL k b l
  | [], _ => Int.le_refl _
  | c :: l, hn => by
    have h1 := itm_n k (hn c List.mem_cons_self)
    have h2 := cnL_mono k h (fun d hd => hn d (List.mem_cons_of_mem _ hd))
    simp only [cnL, sb]
    split <;> split <;> omega
theorem cn_mono (k : Ck) (s : ByteArray) {a b : Int} (h : a ≤ b) : cn k s a ≤ cn k s b := cnL_mono k h (cl_n s)
/-- where the item begins that a number belongs to; d, where there is none -/
def srch (k : Ck) (d : Nat) : Int → List Clu → Nat
  | _, [] => d
  | n, c :: l => if n < (itm k c).2 then (itm k c).1 else srch k d (n - (itm k c).2) l
theorem srch_ok (k : Ck) (d : Nat) : ∀ (l : List Clu) (n : Int) (i j : Nat), tiled i l j → 0 ≤ n → n < ful k l → cnL k (srch k d n l) l ≤ n ∧ n < cnL k (srch k d n l + 1) l ∧ i ≤ srch k d n l ∧ srch k d n l < j
  | [], n, i, j, _, h0, h1 => by simp only [ful] at h1; omega
  | c :: l, n, i, j, ht, h0, h1 => by
    have hm := tiled_mem ht c List.mem_cons_self
    have hi := itm_in k hm.2.1
    obtain ⟨m, t1, t2⟩ := tiled_app (a := [c]) (b := l) ht
    have hmc : m = c.to := by simp only [tiled] at t1; omega
    have hl : ∀ x ∈ l, x.fr < x.to ∧ c.to ≤ x.fr := fun x hx => by have := tiled_mem t2 x hx; omega
    simp only [srch, cnL, ful] at h1 ⊢
    split
    · rename_i hlt
      have z1 : cnL k ((itm k c).1 : Int) l = 0 := cnL_zero k _ fun x hx => ⟨(hl x hx).1, by have := (hl x hx).2; omega⟩
      have z2 : cnL k (((itm k c).1 : Int) + 1) l = 0 := cnL_zero k _ fun x hx => ⟨(hl x hx).1, by have := (hl x hx).2; omega⟩
      rw [z1, z2]
      simp only [sb]
      rw [if_neg (by omega), if_pos (by omega)]
      omega
    · rename_i hlt
      obtain ⟨r1, r2, r3, r4⟩ := srch_ok k d l (n - (itm k c).2) m j t2 (by omega) (by omega)
      have z1 : sb k (srch k d (n - (itm k c).2) l) c = (itm k c).2 := if_pos (by omega)
      have z2 : sb k ((srch k d (n - (itm k c).2) l : Int) + 1) c = (itm k c).2 := if_pos (by omega)
      rw [z1, z2]
      omega
/-- of a text -/
def pos (k : Ck) (s : ByteArray) (n : Int) : Nat := srch k s.size n (cl s)
theorem pos_ok (k : Ck) (s : ByteArray) {n : Int} (h0 : 0 ≤ n) (h1 : n < tot k s) : cn k s (pos k s n) ≤ n ∧ n < cn k s (pos k s n + 1) ∧ pos k s n < s.size := by
  obtain ⟨r1, r2, _, r4⟩ := srch_ok k s.size (cl s) n 0 s.size (cl_tile s) h0 (by rw [ful_tot]; exact h1)
  exact ⟨r1, r2, r4⟩
/-- found in a piece with sixteen bytes at each side -/
theorem pos_loc (k : Ck) (A M B : ByteArray) {n : Int} (h0 : cn k (A ++ (M ++ B)) A.size ≤ n) (h1 : n < cn k (A ++ (M ++ B)) ((A.size + M.size : Nat) : Int)) :
    (A.size : Int) - (tl A).size + pos k (tl A ++ (M ++ hd B)) (n - (tot k A - tot k (tl A))) = pos k (A ++ (M ++ B)) n := by
  have hs : (A ++ (M ++ B)).size = A.size + (M.size + B.size) := by rw [size_app, size_app]
  have hs2 : (tl A ++ (M ++ hd B)).size = (tl A).size + (M.size + (hd B).size) := by rw [size_app, size_app]
  have n0 : 0 ≤ n := by have := cn_mono k (A ++ (M ++ B)) (show (0 : Int) ≤ A.size by omega); rw [cn_low k _ (Int.le_refl 0)] at this; omega
  have n1 : n < tot k (A ++ (M ++ B)) := by
    have := cn_mono k (A ++ (M ++ B)) (show ((A.size + M.size : Nat) : Int) ≤ ((A ++ (M ++ B)).size : Int) by omega)
    rw [cn_end, ful_tot] at this
    omega
  obtain ⟨p1, p2, p3⟩ := pos_ok k _ n0 n1
  generalize pos k (A ++ (M ++ B)) n = p at *
  have q1 : A.size ≤ p := by
    apply Decidable.byContradiction
    intro hn
    have := cn_mono k (A ++ (M ++ B)) (show (p : Int) + 1 ≤ (A.size : Int) by omega)
    omega
  have q2 : p < A.size + M.size := by
    apply Decidable.byContradiction
    intro hn
    have := cn_mono k (A ++ (M ++ B)) (show ((A.size + M.size : Nat) : Int) ≤ (p : Int) by omega)
    omega
  have loc : ∀ j : Nat, j ≤ M.size → cn k (A ++ (M ++ B)) ((A.size + j : Nat) : Int) - tot k A = cn k (tl A ++ (M ++ hd B)) (((tl A).size + j : Nat) : Int) - tot k (tl A) := fun j hj => by
    obtain ⟨x, y, e, x1, _⟩ := split_at hj
    have := cn_loc k A x y B
    rw [x1, ← app_assoc x, ← app_assoc x, ← e] at this
    exact this
  have l1 := loc (p - A.size) (by omega)
  have l2 := loc (p - A.size + 1) (by omega)
  rw [show A.size + (p - A.size) = p by omega] at l1
  rw [show ((A.size + (p - A.size + 1) : Nat) : Int) = (p : Int) + 1 by omega] at l2
  obtain ⟨N, hN⟩ : ∃ N, n - (tot k A - tot k (tl A)) = N := ⟨_, rfl⟩
  rw [hN]
  have m0 : 0 ≤ N := by
    have := cn_mono k (tl A ++ (M ++ hd B)) (show (0 : Int) ≤ (((tl A).size + (p - A.size) : Nat) : Int) by omega)
    rw [cn_low k _ (Int.le_refl 0)] at this
    omega
  have m1 : N < tot k (tl A ++ (M ++ hd B)) := by
    have := cn_mono k (tl A ++ (M ++ hd B)) (show (((tl A).size + (p - A.size + 1) : Nat) : Int) ≤ ((tl A ++ (M ++ hd B)).size : Int) by omega)
    rw [cn_end, ful_tot] at this
    omega
  obtain ⟨r1, r2, _⟩ := pos_ok k _ m0 m1
  generalize pos k (tl A ++ (M ++ hd B)) N = r at *
  have u1 : ¬ r < (tl A).size + (p - A.size) := fun hn => by
    have := cn_mono k (tl A ++ (M ++ hd B)) (show (r : Int) + 1 ≤ (((tl A).size + (p - A.size) : Nat) : Int) by omega)
    omega
  have u2 : ¬ (tl A).size + (p - A.size) < r := fun hn => by
    have := cn_mono k (tl A ++ (M ++ hd B)) (show (((tl A).size + (p - A.size + 1) : Nat) : Int) ≤ (r : Int) by omega)
    omega
  omega
end Go.Proofs.YtiehhafbblbbiabDoor
