/-
  Two texts with a line's end between them: words and forms are those of each. No program in this text; no conditions.
-/
import Derived.Test.YtoijjkbnmicadabDoorWMathJ
namespace Go.Proofs.YtoijjkbnmicadabDoor
open Bod Wid

def nl : ByteArray := ⟨#[10]⟩
theorem wrun_not (p : Clu → Bool) {c : Clu} (hc : p c = false) : ∀ (l m : List Clu) (x : Option (Nat × Nat)), wrun p x (l ++ c :: m) = wrun p x l ++ wrun p none m
  | [], m, none => by simp [wrun, hc]
  | [], m, some x => by simp [wrun, hc]
  | d :: l, m, none => by
    simp only [List.cons_append, wrun]
    split
    · exact wrun_not p hc l m _
    · exact wrun_not p hc l m _
  | d :: l, m, some x => by
    simp only [List.cons_append, wrun]
    split
    · exact wrun_not p hc l m _
    · rw [List.cons_append, wrun_not p hc l m _]
/-- words moved on by d -/
def shw (d : Nat) (w : Nat × Nat) : Nat × Nat := (w.1 + d, w.2 + d)
theorem wrun_sh (p : Clu → Bool) (d : Nat) : ∀ (l : List Clu) (x : Option (Nat × Nat)), wrun p (x.map (shw d)) (l.map (sh d)) = (wrun (fun c => p (sh d c)) x l).map (shw d)
  | [], none => rfl
  | [], some x => rfl
  | c :: l, none => by
    simp only [List.map_cons, wrun, Option.map_none]
    split
    · exact wrun_sh p d l (some (c.fr, c.to))
    · exact wrun_sh p d l none
  | c :: l, some x => by
    simp only [List.map_cons, wrun, Option.map_some]
    split
    · exact wrun_sh p d l (some (x.1, c.to))
    · rw [List.map_cons]
      congr 1
      exact wrun_sh p d l none
/-- units of a text's first part, where it ends at a boundary -/
theorem left_ch {x y : ByteArray} (hB : B (x ++ y) x.size) {i : Nat} (hi : i < x.size) : ch (x ++ y) i = ch x i ∧ sz (x ++ y) i = sz x i := by
  have := un_left x y i hi (hB.2 i hi)
  unfold ch sz
  rw [this]
  exact ⟨rfl, rfl⟩
theorem right_ch (x y : ByteArray) (j : Nat) : ch (x ++ y) (x.size + j) = ch y j := by
  have := un_right x y j
  unfold ch
  rw [this]
/-- a text cut where clusters meet, the first part's last cluster no word -/
theorem words_cut {x y : ByteArray} (h : cbZ (x ++ y) x.size = true) {l : List Clu} {c : Clu} (hl : cl x = l ++ [c]) (hc : wcl x c = false) : words (x ++ y) = words x ++ (words y).map (shw x.size) := by
  obtain ⟨m, e, hB⟩ := cb_B h
  have : x.size = m := by omega
  subst this
  have hp1 : ∀ d ∈ cl x, wcl (x ++ y) d = wcl x d := fun d hd => by
    have := cl_span hd
    unfold wcl
    rw [(left_ch hB (by omega)).1]
  have hp2 : ∀ d : Clu, wcl (x ++ y) (sh x.size d) = wcl y d := fun d => by
    unfold wcl
    show wch (ch (x ++ y) (d.fr + x.size)) = _
    rw [Nat.add_comm, right_ch]
  rw [words_wcl, words_wcl, words_wcl, cl_cut h, hl, List.append_assoc, List.singleton_append, wrun_not _ (by rw [hp1 c (by rw [hl]; simp)]; exact hc)]
  have e1 : wrun (wcl (x ++ y)) none l = wrun (wcl x) none (l ++ [c]) := by
    rw [wrun_not _ hc, wrun_congr l none (fun d hd => hp1 d (by rw [hl]; simp [hd]))]
    simp [wrun]
  have e2 : wrun (wcl (x ++ y)) none ((cl y).map (sh x.size)) = (wrun (wcl y) none (cl y)).map (shw x.size) := by
    have := wrun_sh (wcl (x ++ y)) x.size (cl y) none
    rw [Option.map_none] at this
    rw [this, wrun_congr (cl y) none (fun d _ => hp2 d)]
  rw [e1, e2]
theorem bt_nl {a b : ByteArray} : bt (a ++ nl ++ b) a.size = 10 := by
  rw [bt_append, if_pos (by rw [size_app]; show a.size < a.size + 1; omega), bt_append, if_neg (by omega), Nat.sub_self]
  rfl
theorem nl_B {a b : ByteArray} : B (a ++ nl ++ b) a.size := by
  refine ⟨by rw [size_app, size_app]; omega, fun i hi => ?_⟩
  by_cases h : i + sz (a ++ nl ++ b) i ≤ a.size
  · exact h
  · have := cont (s := a ++ nl ++ b) (i := i) (k := a.size) hi (by omega)
    rw [bt_nl] at this
    omega
theorem nl_un {a b : ByteArray} : ch (a ++ nl ++ b) a.size = 10 ∧ sz (a ++ nl ++ b) a.size = 1 := by
  have h := bt_nl (a := a) (b := b)
  have : un (a ++ nl ++ b) a.size = (10, 1) := by
    unfold un Lib.decodeN
    rw [h]
    rfl
  unfold ch sz
  rw [this]
  exact ⟨rfl, rfl⟩
theorem app_nil (a : ByteArray) : a ++ nl ++ ⟨#[]⟩ = a ++ nl := by
  apply ByteArray.ext
  apply Array.ext'
  rw [data_app]
  simp
theorem jn_ten (c : Int) : jn 10 c = false := by
  unfold jn
  split
  · decide
  · have : cls 10 = 1 := by decide
    simp [this]
theorem cb_nl {a b : ByteArray} : cbZ (a ++ nl ++ b) (a ++ nl).size = true := by
  have hs : (a ++ nl).size = a.size + 1 := size_app a nl
  obtain ⟨h1, h2⟩ := nl_un (a := a) (b := b)
  by_cases e : b.size = 0
  · have : (a ++ nl).size = (a ++ nl ++ b).size := by rw [size_app (a ++ nl) b]; omega
    rw [this]
    exact cb_end _
  · have hlt : a.size < (a ++ nl ++ b).size := by rw [size_app, hs]; omega
    have := cb_at (nl_B (a := a) (b := b)) hlt (by rw [h2, size_app, hs]; omega)
    rw [h1, h2, jn_ten] at this
    rw [hs]
    exact this

/-- one more cluster that is no word -/
theorem words_tail {x y : ByteArray} {c : Clu} (h : cbZ (x ++ y) x.size = true) (hy : cl y = [c]) (hc : wch (ch y c.fr) = false) : words (x ++ y) = words x ∧ ∃ l d, cl (x ++ y) = l ++ [d] ∧ wcl (x ++ y) d = false := by
  obtain ⟨m, e, hB⟩ := cb_B h
  have : x.size = m := by omega
  subst this
  have hp1 : ∀ d ∈ cl x, wcl (x ++ y) d = wcl x d := fun d hd => by
    have := cl_span hd
    unfold wcl
    rw [(left_ch hB (by omega)).1]
  have hp2 : wcl (x ++ y) (sh x.size c) = false := by
    unfold wcl
    show wch (ch (x ++ y) (c.fr + x.size)) = _
    rw [Nat.add_comm, right_ch]
    exact hc
  have hcl : cl (x ++ y) = cl x ++ [sh x.size c] := by rw [cl_cut h, hy]; rfl
  refine ⟨?_, cl x, sh x.size c, hcl, hp2⟩
  rw [words_wcl, words_wcl, hcl, wrun_not _ hp2, wrun_congr (cl x) none hp1]
  simp [wrun]
theorem dec_small {n b0 b1 b2 b3 : Nat} (h : (Lib.decodeN n b0 b1 b2 b3).1 < 128) : b0 = (Lib.decodeN n b0 b1 b2 b3).1 := by
  unfold Lib.decodeN at h ⊢
  repeat' split at h
  all_goals (simp only at h; first | omega | simp_all)
theorem ch_small {s : ByteArray} {i : Nat} {c : Nat} (h : ch s i = c) (hc : c < 128) : bt s i = c := by
  have hg : ¬ ((un s i).1 = 65533 ∧ (un s i).2 = 1) := fun e => by unfold ch at h; rw [if_pos e] at h; omega
  have h1 : ch s i = ((un s i).1 : Int) := by unfold ch; rw [if_neg hg]
  have h2 : (un s i).1 = c := by omega
  have := dec_small (n := s.size - i) (b0 := bt s i) (b1 := bt s (i + 1)) (b2 := bt s (i + 2)) (b3 := bt s (i + 3)) (show (un s i).1 < 128 by omega)
  show bt s i = c
  rw [← h2]
  exact this
def cr : ByteArray := ⟨#[13]⟩
theorem one_of {l : List Clu} {a b : Nat} (h : l.map (fun c => (c.fr, c.to)) = [(a, b)]) : ∃ k n, l = [⟨a, b, k, n⟩] := by
  cases l with
  | nil => simp at h
  | cons c r =>
    cases r with
    | nil =>
      obtain ⟨x, y, k, n⟩ := c
      simp only [List.map_cons, List.map_nil, List.cons.injEq, Prod.mk.injEq, and_true] at h
      exact ⟨k, n, by rw [h.1, h.2]⟩
    | cons d r => simp at h
theorem cl_nl : ∃ k n, cl nl = [⟨0, 1, k, n⟩] := one_of (by decide +kernel)
theorem cl_crnl : ∃ k n, cl (cr ++ nl) = [⟨0, 2, k, n⟩] := one_of (by decide +kernel)
theorem cl_cr : ∃ k n, cl cr = [⟨0, 1, k, n⟩] := one_of (by decide +kernel)
/-- ahead of a return a cluster ends -/
theorem cb_cr {a y : ByteArray} (hy : 0 < y.size) (h13 : bt y 0 = 13) : cbZ (a ++ y) a.size = true := by
  have hb : bt (a ++ y) a.size = 13 := by rw [bt_append, if_neg (by omega), Nat.sub_self]; exact h13
  have hlt : a.size < (a ++ y).size := by rw [size_app]; omega
  by_cases h0 : a.size = 0
  · rw [h0]; exact cb_zero _
  have hB : B (a ++ y) a.size := by
    refine ⟨by omega, fun i hi => ?_⟩
    by_cases h : i + sz (a ++ y) i ≤ a.size
    · exact h
    · have := cont (s := a ++ y) (i := i) (k := a.size) hi (by omega)
      rw [hb] at this
      omega
  have hc : ch (a ++ y) a.size = 13 := by
    have : un (a ++ y) a.size = (13, 1) := by unfold un Lib.decodeN; rw [hb]; rfl
    unfold ch
    rw [this]; rfl
  obtain ⟨P, _, h4⟩ := us_to hB a.size 0 0 (B_zero _) (by omega) (by omega)
  obtain ⟨p, hp, hps, hpe, _⟩ := h4 (by omega)
  have := cb_at hp hps (by omega)
  rw [hpe, hc] at this
  rw [this]
  have c13 : cls 13 = 2 := by decide
  unfold jn
  simp [c13]
theorem words_nl (a : ByteArray) : words (a ++ nl) = words a ∧ ∃ l d, cl (a ++ nl) = l ++ [d] ∧ wcl (a ++ nl) d = false := by
  by_cases hlast : 0 < a.size ∧ bt a (a.size - 1) = 13
  · obtain ⟨h0, h1⟩ := hlast
    obtain ⟨x, hx⟩ : ∃ x, a = x ++ cr := by
      refine ⟨a.extract 0 (a.size - 1), ?_⟩
      have e := extract_cut a (a.size - 1) (by omega)
      have e2 : a.extract (a.size - 1) a.size = cr := by
        apply ByteArray.ext
        apply Array.ext'
        have hl : a.size - 1 < a.data.toList.length := by rw [← Lib.size_eq]; omega
        rw [Lib.extract_data, show a.size - (a.size - 1) = 1 by omega, List.drop_eq_getElem_cons hl]
        rw [bt_eq, List.getElem?_eq_getElem hl] at h1
        simp only [Option.getD_some] at h1
        show [a.data.toList[a.size - 1]] = [13]
        rw [show a.data.toList[a.size - 1] = 13 from UInt8.toNat_inj.1 h1]
      rw [e2] at e
      exact e.symm
    subst hx
    obtain ⟨k, n, e1⟩ := cl_crnl
    obtain ⟨k', n', e2⟩ := cl_cr
    have hw : wch (ch (cr ++ nl) 0) = false ∧ wch (ch cr 0) = false := by decide +kernel
    have t1 := words_tail (x := x) (y := cr ++ nl) (cb_cr (by decide) (by decide)) e1 hw.1
    have t2 := words_tail (x := x) (y := cr) (cb_cr (by decide) (by decide)) e2 hw.2
    rw [ByteArray.append_assoc]
    exact ⟨by rw [t1.1, t2.1], t1.2⟩
  · have hcb : cbZ (a ++ nl) a.size = true := by
      by_cases h0 : a.size = 0
      · rw [h0]; exact cb_zero _
      have hB := nl_B (a := a) (b := ⟨#[]⟩)
      obtain ⟨c1, c2⟩ := nl_un (a := a) (b := ⟨#[]⟩)
      rw [app_nil] at hB c1 c2
      have hs : (a ++ nl).size = a.size + 1 := size_app a nl
      obtain ⟨P, _, h4⟩ := us_to hB a.size 0 0 (B_zero _) (by omega) (by omega)
      obtain ⟨p, hp, hps, hpe, _⟩ := h4 (by omega)
      have hcb := cb_at hp hps (by omega)
      rw [hpe, c1] at hcb
      rw [hcb]
      have hne : ch (a ++ nl) p ≠ 13 := fun e => by
        have hsz : sz (a ++ nl) p = 1 := by
          have := sz_good (s := a ++ nl) (i := p) (by omega) hps
          rw [e] at this
          have : ((sz (a ++ nl) p : Nat) : Int) = 1 := this
          omega
        have hbt := ch_small (c := 13) e (by omega)
        rw [bt_append, if_pos (by omega)] at hbt
        exact hlast ⟨by omega, by rw [show a.size - 1 = p by omega]; exact hbt⟩
      unfold jn
      simp [hne]
    have hw : wch (ch nl 0) = false := by decide +kernel
    obtain ⟨k, n, e⟩ := cl_nl
    exact words_tail hcb e hw
/-- the words of both -/
theorem words_join (a b : ByteArray) : words (a ++ nl ++ b) = words a ++ (words b).map (shw (a.size + 1)) := by
  obtain ⟨h1, l, d, h2, h3⟩ := words_nl a
  have hs : (a ++ nl).size = a.size + 1 := size_app a nl
  rw [words_cut cb_nl h2 h3, h1, hs]
theorem extract_left (x y : ByteArray) : (x ++ y).extract 0 x.size = x := by
  apply ByteArray.ext
  apply Array.ext'
  rw [Lib.extract_data, data_app, List.drop_zero, Nat.sub_zero, Lib.size_eq, List.take_append_of_le_length (Nat.le_refl _), List.take_length]
theorem extract_right (x y : ByteArray) : (x ++ y).extract x.size (x ++ y).size = y := by
  apply ByteArray.ext
  apply Array.ext'
  rw [Lib.extract_data, data_app, size_app, Lib.size_eq, Lib.size_eq, List.drop_append_of_le_length (Nat.le_refl _), List.drop_length, List.nil_append, Nat.add_sub_cancel_left, List.take_length]
theorem fm_app {f : Int → Int} {x y : ByteArray} (hB : B (x ++ y) x.size) : fm (fun _ => f) (x ++ y) = fm (fun _ => f) x ++ fm (fun _ => f) y := by
  have hs := size_app x y
  have e1 := fm_sub (f := f) (s := x ++ y) (a := 0) (b := x.size) hB (Nat.zero_le _)
  have e2 := fm_sub (f := f) (s := x ++ y) (a := x.size) (b := (x ++ y).size) (B_end _) (by omega)
  rw [extract_left] at e1
  rw [extract_right] at e2
  apply ByteArray.ext
  apply Array.ext'
  rw [data_app, e1, e2, fm_data, fs_app (b := x.size) hB (Nat.le_refl _) (Nat.zero_le _) (by omega)]
theorem B_nl2 (a b : ByteArray) : B (a ++ nl ++ b) (a ++ nl).size := by
  obtain ⟨m, e, hB⟩ := cb_B (cb_nl (a := a) (b := b))
  have : (a ++ nl).size = m := by omega
  subst this
  exact hB
theorem B_nl1 (a : ByteArray) : B (a ++ nl) a.size := by
  have := nl_B (a := a) (b := ⟨#[]⟩)
  rwa [app_nil] at this
theorem up_nl : fm (fun _ => upc) nl = nl := by
  apply ByteArray.ext
  apply Array.ext'
  rw [fm_flat]
  decide +kernel
theorem low_nl : fm (fun _ => lowc) nl = nl := by
  apply ByteArray.ext
  apply Array.ext'
  rw [fm_flat]
  decide +kernel
theorem up_join (a b : ByteArray) : fm (fun _ => upc) (a ++ nl ++ b) = fm (fun _ => upc) a ++ nl ++ fm (fun _ => upc) b := by rw [fm_app (B_nl2 a b), fm_app (B_nl1 a), up_nl]
theorem low_join (a b : ByteArray) : fm (fun _ => lowc) (a ++ nl ++ b) = fm (fun _ => lowc) a ++ nl ++ fm (fun _ => lowc) b := by rw [fm_app (B_nl2 a b), fm_app (B_nl1 a), low_nl]
/-- a piece whose forms hang on the places -/
theorem fs_at {g h : Nat → Int → Int} {s : ByteArray} {a b : Nat} (hb : B s b) (hg : ∀ i, a + i < b → h (a + i) = g i) : ∀ (n k : Nat), b - (a + k) ≤ n → a + k ≤ b → fs g (s.extract a b) k (s.extract a b).size = fs h s (a + k) b
  | n, k, hn, hk => by
    have h0 := hb.1
    have hs : (s.extract a b).size = b - a := size_extract s a b h0
    by_cases hlt : a + k < b
    · cases n with
      | zero => omega
      | succ n =>
        have hu := un_sub hb hlt
        have hz : sz (s.extract a b) k = sz s (a + k) := by unfold sz; rw [hu]
        have hc : ch (s.extract a b) k = ch s (a + k) := by unfold ch; rw [hu]
        have hp := sz_pos (s := s) (i := a + k) (by omega)
        have hle := hb.2 (a + k) hlt
        have hpc : pc g (s.extract a b) k = pc h s (a + k) := by
          unfold pc
          rw [hc, hg k hlt]
          by_cases hn : ch s (a + k) < 0
          · rw [if_pos hn, if_pos hn]
            have hbt : bt (s.extract a b) k = bt s (a + k) := by rw [bt_extract, if_pos hlt]
            unfold bt at hbt
            rw [UInt8.toNat_inj.1 hbt]
          · rw [if_neg hn, if_neg hn]
        have ih := fs_at hb hg n (k + sz s (a + k)) (by omega) (by omega)
        rw [fs_step (s := s.extract a b) (a := k) (by omega) (Nat.le_refl _), fs_step hlt h0, hz, hpc, ih, Nat.add_assoc]
    · rw [fs_nil (by omega), fs_nil (by omega)]
theorem cap_join (a b : ByteArray) : fm (capG (words (a ++ nl ++ b))) (a ++ nl ++ b) = fm (capG (words a)) a ++ nl ++ fm (capG (words b)) b := by
  have hsA : (a ++ nl).size = a.size + 1 := size_app a nl
  have hs : (a ++ nl ++ b).size = a.size + 1 + b.size := by rw [size_app, hsA]
  have B1 := nl_B (a := a) (b := b)
  have B2 := B_nl2 a b
  obtain ⟨c1, c2⟩ := nl_un (a := a) (b := b)
  have hw := words_join a b
  have g1 : ∀ i, i < a.size → capG (words (a ++ nl ++ b)) i = capG (words a) i := fun i hi => by
    funext c
    unfold capG
    rw [hw, List.any_append]
    have : ((words b).map (shw (a.size + 1))).any (fun w => decide (w.1 = i)) = false := by
      rw [List.any_eq_false]
      intro w hw
      obtain ⟨q, _, rfl⟩ := List.mem_map.1 hw
      show ¬ decide (q.1 + (a.size + 1) = i) = true
      rw [decide_eq_true_eq]
      omega
    rw [this, Bool.or_false]
  have g2 : ∀ i, capG (words (a ++ nl ++ b)) (a.size + 1 + i) = capG (words b) i := fun i => by
    funext c
    unfold capG
    rw [hw, List.any_append]
    have h1 : (words a).any (fun w => decide (w.1 = a.size + 1 + i)) = false := by
      rw [List.any_eq_false]
      intro w hw
      have := words_mem hw
      simp only [decide_eq_true_eq]
      omega
    have h2 : ((words b).map (shw (a.size + 1))).any (fun w => decide (w.1 = a.size + 1 + i)) = (words b).any (fun w => decide (w.1 = i)) := by
      rw [List.any_map]
      congr 1
      funext w
      show decide (w.1 + (a.size + 1) = a.size + 1 + i) = decide (w.1 = i)
      rw [decide_eq_decide]
      omega
    rw [h1, h2, Bool.false_or]
  have p1 : fs (capG (words (a ++ nl ++ b))) (a ++ nl ++ b) 0 a.size = fs (capG (words a)) a 0 a.size := by
    have := fs_at (g := capG (words a)) (h := capG (words (a ++ nl ++ b))) (s := a ++ nl ++ b) (a := 0) (b := a.size) B1 (fun i hi => by rw [Nat.zero_add]; exact g1 i (by omega)) a.size 0 (by omega) (by omega)
    have e : (a ++ nl ++ b).extract 0 a.size = a := by rw [ByteArray.append_assoc]; exact extract_left a (nl ++ b)
    rw [e] at this
    exact this.symm
  have p3 : fs (capG (words (a ++ nl ++ b))) (a ++ nl ++ b) (a.size + 1) (a ++ nl ++ b).size = fs (capG (words b)) b 0 b.size := by
    have := fs_at (g := capG (words b)) (h := capG (words (a ++ nl ++ b))) (s := a ++ nl ++ b) (a := a.size + 1) (b := (a ++ nl ++ b).size) (B_end _) (fun i _ => g2 i) (a ++ nl ++ b).size 0 (by omega) (by omega)
    have e : (a ++ nl ++ b).extract (a.size + 1) (a ++ nl ++ b).size = b := by rw [← hsA]; exact extract_right (a ++ nl) b
    rw [e] at this
    exact this.symm
  have p2 : pc (capG (words (a ++ nl ++ b))) (a ++ nl ++ b) a.size = [10] := by
    unfold pc
    rw [c1, if_neg (by omega)]
    have : capG (words (a ++ nl ++ b)) a.size 10 = 10 := by
      rcases gd_cap (words (a ++ nl ++ b)) a.size 10 with e | e <;> rw [e]
      · exact (up_eq (by omega)).2 rfl
      · exact (low_eq (by omega)).2 rfl
    rw [this]
    decide
  apply ByteArray.ext
  apply Array.ext'
  rw [fm_at B1 (by omega), c2, data_app, data_app, p1, p2, p3]
  rfl
end Go.Proofs.YtoijjkbnmicadabDoor
