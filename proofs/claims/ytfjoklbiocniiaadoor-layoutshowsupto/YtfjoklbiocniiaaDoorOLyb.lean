/-
  Package layout's (*grid).lay of a text's cluster is what the plain state does. Conditions: the tables of unicode/utf8 lie as their text lays them; no more than 2^31 rows.
-/
import Derived.Test.YtfjoklbiocniiaaDoorOLya
namespace Go.Proofs.YtfjoklbiocniiaaDoor
open Go.RowKit Go.Shelf Bod Wid
/-- no row is longer than the width -/
def Nar (W : Nat) (s : Lst) : Prop := ∀ r ∈ s.all, r.length ≤ W
theorem lst0_nar (W : Nat) : Nar W lst0 := fun r hr => by simp [Lst.all, lst0] at hr; subst hr; exact Nat.zero_le _
theorem dwn_nar {W : Nat} {s : Lst} (h : Nar W s) : Nar W (dwn s) := fun r hr => by
  simp only [Lst.all, dwn, List.mem_append, List.mem_singleton] at hr
  rcases hr with hr | rfl
  · exact h r (by simp only [Lst.all, List.mem_append, List.mem_singleton]; exact hr)
  · exact Nat.zero_le _
theorem stpL_nar {W : Nat} (hW : 1 ≤ W) {s : Lst} {u : Cu} (hu : u.n ≤ 2) (h : s.Ok W) (hn : Nar W s) : Nar W (stpL W s u) := by
  unfold stpL
  split
  · exact dwn_nar hn
  · rename_i h0
    have hf := fitS_ok (n := min u.n W) hW h
    have hle := fitS_le (W := W) (n := min u.n W) (by omega) (s := s)
    have hp := putC_len hW hu h0
    have hfn : Nar W (fitS W (min u.n W) s) := by
      unfold fitS
      split
      · exact dwn_nar hn
      · exact hn
    simp only
    generalize fitS W (min u.n W) s = t at hf hle hfn
    have ht : Nar W ⟨t.rows, t.cur ++ putC W u, t.col + min u.n W⟩ := fun r hr => by
      simp only [Lst.all, List.mem_append, List.mem_singleton] at hr
      rcases hr with hr | rfl
      · exact hfn r (by simp only [Lst.all, List.mem_append]; exact .inl hr)
      · rw [List.length_append, hp, hf.len]; omega
    unfold fulS
    split
    · exact dwn_nar ht
    · exact ht
/-- a step adds two rows at most -/
theorem stpL_rows {W : Nat} {s : Lst} {u : Cu} : s.rows.length ≤ (stpL W s u).rows.length ∧ (stpL W s u).rows.length ≤ s.rows.length + 2 := by
  unfold stpL
  split
  · simp [dwn]
  · simp only
    have hf : s.rows.length ≤ (fitS W (min u.n W) s).rows.length ∧ (fitS W (min u.n W) s).rows.length ≤ s.rows.length + 1 := by
      unfold fitS
      split <;> simp [dwn]
    generalize fitS W (min u.n W) s = t at hf
    unfold fulS
    split <;> simp [dwn] <;> omega
theorem layL_rows {W : Nat} : ∀ {l : List Cu} {s : Lst}, (layL W s l).rows.length ≤ s.rows.length + 2 * l.length
  | [], _ => Nat.le_refl _
  | u :: l, s => by
    have h1 := (stpL_rows (W := W) (s := s) (u := u)).2
    have h2 := layL_rows (W := W) (l := l) (s := stpL W s u)
    show (layL W (stpL W s u) l).rows.length ≤ _
    simp only [List.length_cons]
    omega
theorem layL_nar {W : Nat} (hW : 1 ≤ W) : ∀ {l : List Cu} {s : Lst}, (∀ u ∈ l, u.n ≤ 2) → s.Ok W → Nar W s → Nar W (layL W s l)
  | [], _, _, _, h => h
  | u :: l, s, hl, h, hn => by
    show Nar W (layL W (stpL W s u) l)
    exact layL_nar hW (fun v hv => hl v (List.mem_cons_of_mem _ hv)) (stpL_ok hW (hl u List.mem_cons_self) h) (stpL_nar hW (hl u List.mem_cons_self) h hn)
/-- what lay makes of the rows is what the step makes of them -/
theorem rows_step {W : Nat} (s : Lst) (u : Cu) {R' : List (List Cel)} (h : RowsTo s.all (if u.n = 0 then s.rows.length else (fitS W (min u.n W) s).rows.length) (stpL W s u).rows.length (putC W u) R') : R' = (stpL W s u).all := by
  obtain ⟨R0, l, h1, h2, h3⟩ := h
  have last : ∀ {A B : List (List Cel)} {x y : List Cel}, A ++ [x] = B ++ [y] → A = B ∧ x = y := fun h => by
    have := List.append_inj' h rfl
    exact ⟨this.1, by simpa using this.2⟩
  by_cases hn : u.n = 0
  · rw [if_pos hn] at h1 h2 h3
    have e : stpL W s u = dwn s := by unfold stpL; rw [if_pos hn]
    rw [e] at h3 ⊢
    have hp : putC W u = [] := by unfold putC; rw [if_pos hn]
    rw [hp] at h3
    rcases h1 with ⟨_, h1⟩ | ⟨h1, _⟩
    · obtain ⟨a, b⟩ := last h1
      subst a; subst b
      rcases h3 with ⟨h3, _⟩ | ⟨_, h3⟩
      · simp [dwn] at h3
      · simpa [dwn, Lst.all] using h3
    · simp [Lst.all] at h1
  · rw [if_neg hn] at h1 h2 h3
    unfold stpL at h3 ⊢
    rw [if_neg hn] at h3 ⊢
    simp only at h3 ⊢
    obtain ⟨t, ht⟩ : ∃ t, fitS W (min u.n W) s = t := ⟨_, rfl⟩
    rw [ht] at h1 h2 h3 ⊢
    have hR : R0 = t.rows ∧ l = t.cur := by
      unfold fitS at ht
      split at ht
      · subst ht
        rcases h1 with ⟨h1, _⟩ | ⟨_, h1, h4⟩
        · simp [dwn, Lst.all] at h1
        · subst h4; subst h1; simp [dwn, Lst.all]
      · subst ht
        rcases h1 with ⟨_, h1⟩ | ⟨h1, _⟩
        · obtain ⟨a, b⟩ := last h1
          exact ⟨a.symm, b.symm⟩
        · simp [Lst.all] at h1
    obtain ⟨rfl, rfl⟩ := hR
    unfold fulS at h3 ⊢
    split at h3 <;> split <;> rename_i x y
    · rcases h3 with ⟨h3, _⟩ | ⟨_, h3⟩
      · simp [dwn] at h3
      · simpa [dwn, Lst.all] using h3
    · exact absurd x y
    · exact absurd y x
    · rcases h3 with ⟨_, h3⟩ | ⟨h3, _⟩
      · simpa [Lst.all] using h3
      · simp at h3
theorem lay_any (hM : Tryd.prog.follows .mixedOrders = true) {w X : World} {lo hi gb W : Nat} (st : Lst) (hst : st.Ok W) (hna : Nar W st) (hW : 1 ≤ W) (hW2 : W ≤ 65535) {ov : Value} {vs : List (List Cel × Value)} (h : Gd w lo hi W st.rows.length st.col gb ov vs X) (hvs : vs.map Prod.fst = st.all) (hX : hi ≤ X.heap.size) {s : ByteArray} {cc : Clu} (hcc : cc ∈ cl s) (hsz : s.size ≤ 4398046511104) (hrows : st.rows.length ≤ 2147483000)
    (hT : Lib.Utf8Tabs 0 1 w) (hlo0 : 0 < w.heap.size) (hlo1 : 1 < w.heap.size) :
    Calls Tryd.prog 27 #[.pointer (some ⟨gb, 0, none⟩), .string s, cv cc] X fun e Y => (∃ u, e = .returned u) ∧ ∃ ov' vs', Hid (Gd w lo hi W (stpL W st (cuOf s cc)).rows.length (stpL W st (cuOf s cc)).col gb ov' vs' Y ∧ vs'.map Prod.fst = (stpL W st (cuOf s cc)).all ∧ Fg lo hi X Y ∧ hi ≤ Y.heap.size) := by
  obtain ⟨hn2, hn⟩ := cuOf_n hcc
  have hsp := cl_span hcc
  have hlen : vs.length = st.rows.length + 1 := by have := congrArg List.length hvs; simpa [Lst.all] using this
  have he := stpI_L W st (cuOf s cc)
  obtain ⟨S, hS⟩ : ∃ S, stpI W st.rows.length st.col (cuOf s cc).n = S := ⟨_, rfl⟩
  obtain ⟨⟨ar, ac⟩, nr, nc⟩ := S
  rw [hS] at he
  simp only [Prod.mk.injEq] at he
  obtain ⟨ha, hnr, hnc⟩ := he
  obtain ⟨p, hp⟩ : ∃ p : Nat, (if (cuOf s cc).n = 0 then st.rows.length else (fitS W (min (cuOf s cc).n W) st).rows.length) = p := ⟨_, rfl⟩
  have hap : ar = p := by
    rw [← hp]
    split at ha
    · rename_i q; rw [if_pos q]; simp only [Prod.mk.injEq] at ha; exact ha.1
    · rename_i q; rw [if_neg q]; simp only [Prod.mk.injEq] at ha; exact ha.1
  have hpb : st.rows.length ≤ p ∧ p ≤ st.rows.length + 1 := by
    rw [← hp]
    split
    · omega
    · unfold fitS; split <;> simp [dwn]
  have hrow := stpL_rows (W := W) (s := st) (u := cuOf s cc)
  have hqb : (stpL W st (cuOf s cc)).rows.length ≤ p + 1 := by
    rw [← hp]
    unfold stpL
    split
    · rename_i q; simp [dwn]
    · rename_i q
      simp only
      generalize fitS W (min (cuOf s cc).n W) st = t
      unfold fulS
      split <;> simp [dwn]
  have hdp : 1 ≤ (cuOf s cc).dr.size ∨ cc.n = 0 := by
    by_cases q : cc.n = 0
    · exact .inr q
    · exact .inl (drC_pos hcc q)
  have hk4 : (cuOf s cc).wide = decide (cc.k = 4) := rfl
  refine (lay_head hM (n := cc.n) (ar := ar) (ac := ac) (nr := nr) (nc := nc) (p := p) (q := (stpL W st (cuOf s cc)).rows.length) (new := putC W (cuOf s cc)) (dr := (cuOf s cc).dr) rfl h hX hap hnr (by omega) (by omega) hqb (by omega) (fun o ho => by
      have := hna o.1 (by rw [← hvs]; exact List.mem_map_of_mem ho)
      omega) ⟨by omega, hsp.2⟩ hsz (fun Y => ?_) (fun Y hY => ?_) (fun Y a m k l hw hb hr hl hm => ?_)).mono ?_
  · have := stp_any st.rows.length st.col (cuOf s cc).n W (by omega) (by omega) (by omega) (by have := hst.lt; omega) (by omega) (by omega) (by omega) Y
    rw [hS] at this
    rw [hn]
    exact this
  · have := drawn_any (s.extract cc.fr cc.to) (by simp; unfold maxLen; omega) (by simp; omega) Y (tabs_below hT hY) (Nat.lt_of_lt_of_le hlo0 hY.size) (Nat.lt_of_lt_of_le hlo1 hY.size)
    rw [drawn_one hcc] at this
    exact this
  · have h012 : (cuOf s cc).n = 0 ∨ (cuOf s cc).n = 1 ∨ (cuOf s cc).n = 2 := by omega
    rw [hn]
    rcases h012 with e | e | e
    · have hp0 : putC W (cuOf s cc) = [] := by unfold putC; rw [if_pos e]
      rw [hp0, e]
      exact put_0 hr hl
    · have hp1 : putC W (cuOf s cc) = [⟨(cuOf s cc).dr, 1⟩] := by unfold putC; rw [if_neg (by omega), if_pos e]
      rw [hp1, e]
      exact put_1 hb hr hl hm
    · have hd1 : 1 ≤ (cuOf s cc).dr.size := by rcases hdp with q | q; exact q; omega
      rw [e]
      by_cases hw1 : W = 1
      · have hp2 : putC W (cuOf s cc) = [⟨fffd, 1⟩] := by unfold putC; rw [if_neg (by omega), if_neg (by omega), if_pos hw1]
        rw [hp2]
        exact put_w (by rw [hw, hw1]; rfl) hb hr hl hm
      · have hW1 : ((W : Int) == 1) = false := by simp; omega
        by_cases hk : cc.k = 4
        · have hp2 : putC W (cuOf s cc) = [⟨(cuOf s cc).dr, 2⟩, ⟨⟨#[]⟩, 0⟩] := by unfold putC; rw [if_neg (by omega), if_neg (by omega), if_neg hw1, hk4, if_pos (by simp [hk])]
          rw [hp2, hk]
          exact put_4 hw hW1 hb hr hl hm
        · have hp2 : putC W (cuOf s cc) = [⟨(cuOf s cc).dr.extract 0 1, 1⟩, ⟨(cuOf s cc).dr.extract 1 (cuOf s cc).dr.size, 1⟩] := by unfold putC; rw [if_neg (by omega), if_neg (by omega), if_neg hw1, hk4, if_neg (by simp [hk])]
          rw [hp2]
          exact put_c hw hW1 (by simp [hk]) hd1 hb hr hl hm
  · rintro e Y ⟨hu, ov', vs', HR⟩
    refine ⟨hu, ov', vs', ?_⟩
    obtain ⟨h1, h2, h3, h4⟩ := HR.out
    rw [hnr, hnc] at h1
    rw [hvs, ← hp] at h4
    exact ⟨h1, rows_step st _ h4, h2, h3⟩
end Go.Proofs.YtfjoklbiocniiaaDoor
