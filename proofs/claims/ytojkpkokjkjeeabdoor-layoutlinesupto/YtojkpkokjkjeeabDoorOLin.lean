/-
  A line's end between two texts: their clusters, how they are laid, where the cursor stands. No program is walked in this text; no conditions.
-/
import Derived.Test.YtojkpkokjkjeeabDoorOClu
import Derived.Test.YtojkpkokjkjeeabDoorOLw
namespace Go.Proofs.YtojkpkokjkjeeabDoor
open Bod Wid
def nlo : ByteArray := ⟨#[10]⟩
theorem o_bt_nl {a b : ByteArray} : bt (a ++ nlo ++ b) a.size = 10 := by
  rw [bt_append, if_pos (by rw [size_app]; show a.size < a.size + 1; omega), bt_append, if_neg (by omega), Nat.sub_self]
  rfl
theorem o_nl_B {a b : ByteArray} : B (a ++ nlo ++ b) a.size := by
  refine ⟨by rw [size_app, size_app]; omega, fun i hi => ?_⟩
  by_cases h : i + sz (a ++ nlo ++ b) i ≤ a.size
  · exact h
  · have := cont (s := a ++ nlo ++ b) (i := i) (k := a.size) hi (by omega)
    rw [o_bt_nl] at this
    omega
theorem o_nl_un {a b : ByteArray} : ch (a ++ nlo ++ b) a.size = 10 ∧ sz (a ++ nlo ++ b) a.size = 1 := by
  have h := ch_ascii (s := a ++ nlo ++ b) (i := a.size) (by rw [o_bt_nl]; decide)
  rw [o_bt_nl] at h
  exact h
theorem o_jn_ten (c : Int) : jn 10 c = false := by
  unfold jn
  split
  · decide
  · have : cls 10 = 1 := by decide
    simp [this]
theorem o_cb_nl {a b : ByteArray} : cbZ (a ++ nlo ++ b) (a ++ nlo).size = true := by
  have hs : (a ++ nlo).size = a.size + 1 := size_app a nlo
  obtain ⟨h1, h2⟩ := o_nl_un (a := a) (b := b)
  by_cases e : b.size = 0
  · have : (a ++ nlo).size = (a ++ nlo ++ b).size := by rw [size_app (a ++ nlo) b]; omega
    rw [this]
    exact cb_end _
  · have hlt : a.size < (a ++ nlo ++ b).size := by rw [size_app, hs]; omega
    have := cb_at (o_nl_B (a := a) (b := b)) hlt (by rw [h2, size_app, hs]; omega)
    rw [h1, h2, o_jn_ten] at this
    rw [hs]
    exact this
theorem o_dec_small {n b0 b1 b2 b3 : Nat} (h : (Lib.decodeN n b0 b1 b2 b3).1 < 128) : b0 = (Lib.decodeN n b0 b1 b2 b3).1 := by
  unfold Lib.decodeN at h ⊢
  repeat' split at h
  all_goals (simp only at h; first | omega | simp_all)
theorem o_ch_small {s : ByteArray} {i : Nat} {c : Nat} (h : ch s i = c) (hc : c < 128) : bt s i = c := by
  have hg : ¬ ((un s i).1 = 65533 ∧ (un s i).2 = 1) := fun e => by unfold ch at h; rw [if_pos e] at h; omega
  have h1 : ch s i = ((un s i).1 : Int) := by unfold ch; rw [if_neg hg]
  have h2 : (un s i).1 = c := by omega
  have := o_dec_small (n := s.size - i) (b0 := bt s i) (b1 := bt s (i + 1)) (b2 := bt s (i + 2)) (b3 := bt s (i + 3)) (show (un s i).1 < 128 by omega)
  show bt s i = c
  rw [← h2]
  exact this
/-- ahead of a line's end a cluster ends, where no return stands -/
theorem o_cb_pre {a b : ByteArray} (h13 : a.size ≠ 0 → bt a (a.size - 1) ≠ 13) : cbZ (a ++ nlo ++ b) a.size = true := by
  by_cases h0 : a.size = 0
  · rw [h0]; exact cb_zero _
  · have hlt : a.size < (a ++ nlo ++ b).size := by rw [size_app, size_app]; show _ < a.size + 1 + _; omega
    have h0B : B (a ++ nlo ++ b) 0 := ⟨Nat.zero_le _, fun i hi => by omega⟩
    obtain ⟨P, -, hp⟩ := us_to (o_nl_B (a := a) (b := b)) a.size 0 0 h0B (Nat.zero_le _) (by omega)
    obtain ⟨p, hB, hps, hpe, -⟩ := hp (by omega)
    have hc := cb_at hB hps (by omega)
    rw [hpe, (o_nl_un (a := a) (b := b)).1] at hc
    rw [hc]
    unfold jn
    rw [if_pos rfl]
    have : ch (a ++ nlo ++ b) p ≠ 13 := fun e => by
      have hb := o_ch_small (c := 13) e (by decide)
      have hs := (ch_ascii (s := a ++ nlo ++ b) (i := p) (by rw [hb]; decide)).2
      have hpa : p = a.size - 1 := by omega
      rw [bt_append, if_pos (by rw [size_app]; show p < a.size + 1; omega), bt_append, if_pos (by omega), hpa] at hb
      exact h13 h0 hb
    simp [this]
theorem o_cl_nl : cl nlo = [⟨0, 1, 1, 0⟩] := by kernel_rfl
theorem o_nil (a : ByteArray) : a ++ nlo ++ (⟨#[]⟩ : ByteArray) = a ++ nlo := by
  apply ByteArray.ext
  apply Array.ext'
  rw [data_app]
  simp
/-- the clusters of two texts with a line's end between -/
theorem cl_lines {a b : ByteArray} (h13 : a.size ≠ 0 → bt a (a.size - 1) ≠ 13) : cl (a ++ nlo ++ b) = cl a ++ [⟨a.size, a.size + 1, 1, 0⟩] ++ (cl b).map (sh (a.size + 1)) := by
  have h1 := cl_cut (o_cb_nl (a := a) (b := b))
  have h2 := o_cb_pre (a := a) (b := ⟨#[]⟩) h13
  rw [o_nil] at h2
  have h3 := cl_cut h2
  have hs : (a ++ nlo).size = a.size + 1 := size_app a nlo
  rw [h1, h3, o_cl_nl, hs]
  simp [sh]
  omega
theorem cu_left {x y : ByteArray} {c : Clu} (hc : c ∈ cl x) : cuOf (x ++ y) c = cuOf x c := by
  unfold cuOf drC
  rw [sub_left (cl_span hc).2]
theorem cu_right {x y : ByteArray} (c : Clu) : cuOf (x ++ y) (sh x.size c) = cuOf y c := by
  unfold cuOf drC
  have : sub (x ++ y) (sh x.size c).fr (sh x.size c).to = sub y c.fr c.to := sub_right
  rw [this]
  rfl
/-- rows ahead make no difference -/
def preL (A : List (List Cel)) (s : Lst) : Lst := ⟨A ++ s.rows, s.cur, s.col⟩
theorem pre_dwn (A : List (List Cel)) (s : Lst) : dwn (preL A s) = preL A (dwn s) := by simp [dwn, preL]
theorem pre_step (W : Nat) (A : List (List Cel)) (s : Lst) (u : Cu) : stpL W (preL A s) u = preL A (stpL W s u) := by
  unfold stpL
  split
  · exact pre_dwn A s
  · have hf : fitS W (min u.n W) (preL A s) = preL A (fitS W (min u.n W) s) := by
      unfold fitS
      show (if W < s.col + min u.n W then _ else _) = _
      split
      · exact pre_dwn A s
      · rfl
    simp only [hf]
    generalize fitS W (min u.n W) s = t
    unfold fulS
    show (if t.col + min u.n W = W then _ else _) = _
    simp only
    split
    · exact pre_dwn A ⟨t.rows, t.cur ++ putC W u, t.col + min u.n W⟩
    · rfl
theorem pre_lay (W : Nat) (A : List (List Cel)) : ∀ (l : List Cu) (s : Lst), layL W (preL A s) l = preL A (layL W s l)
  | [], _ => rfl
  | u :: l, s => by
    show layL W (stpL W (preL A s) u) l = preL A (layL W (stpL W s u) l)
    rw [pre_step, pre_lay W A l]
theorem dwn_pre (s : Lst) : dwn s = preL s.all lst0 := by simp [dwn, preL, Lst.all, lst0]
theorem pre_all (A : List (List Cel)) (s : Lst) : (preL A s).all = A ++ s.all := by simp [preL, Lst.all]
/-- what is laid of two texts with a line's end between -/
theorem lay_lines {a b : ByteArray} (h13 : a.size ≠ 0 → bt a (a.size - 1) ≠ 13) (W : Nat) (st : Lst) : (layL W st (cus (a ++ nlo ++ b) (cl (a ++ nlo ++ b)))).all = (layL W st (cus a (cl a))).all ++ (layL W lst0 (cus b (cl b))).all := by
  have e1 : cus (a ++ nlo ++ b) (cl (a ++ nlo ++ b)) = cus a (cl a) ++ ([cuOf (a ++ nlo ++ b) ⟨a.size, a.size + 1, 1, 0⟩] ++ cus b (cl b)) := by
    rw [cl_lines h13]
    unfold cus
    rw [List.map_append, List.map_append, List.map_map, List.append_assoc]
    congr 1
    · refine List.map_congr_left fun c hc => ?_
      rw [show a ++ nlo ++ b = a ++ (nlo ++ b) from ByteArray.append_assoc]
      exact cu_left hc
    · congr 1
      refine List.map_congr_left fun c _ => ?_
      have : a.size + 1 = (a ++ nlo).size := (size_app a nlo).symm
      show cuOf (a ++ nlo ++ b) (sh (a.size + 1) c) = cuOf b c
      rw [this]
      exact cu_right c
  rw [e1]
  unfold layL
  rw [List.foldl_append, List.foldl_append]
  show (layL W (stpL W (layL W st (cus a (cl a))) (cuOf (a ++ nlo ++ b) ⟨a.size, a.size + 1, 1, 0⟩)) (cus b (cl b))).all = _
  have e2 : ∀ s : Lst, stpL W s (cuOf (a ++ nlo ++ b) ⟨a.size, a.size + 1, 1, 0⟩) = dwn s := fun s => by
    have hn0 : (cuOf (a ++ nlo ++ b) ⟨a.size, a.size + 1, 1, 0⟩).n = 0 := rfl
    unfold stpL
    rw [if_pos hn0]
  rw [e2, dwn_pre, pre_lay, pre_all]
  rfl
theorem cur_left {x y T : ByteArray} (hT : T = x ++ y) (W : Nat) (cur : Int) : ∀ (l : List Clu) (s : Lst × (Nat × Nat)), (∀ c ∈ l, c ∈ cl x) → l.foldl (curF W T cur) s = l.foldl (curF W x cur) s
  | [], s, _ => by rw [List.foldl_nil, List.foldl_nil]
  | c :: l, s, h => by
    have hcu : cuOf T c = cuOf x c := by rw [hT]; exact cu_left (h c List.mem_cons_self)
    have e : curF W T cur s c = curF W x cur s c := by
      unfold curF
      rw [hcu]
    rw [List.foldl_cons, List.foldl_cons, e]
    exact cur_left hT W cur l _ (fun d hd => h d (List.mem_cons_of_mem _ hd))
theorem cl_to {s : ByteArray} {c : Clu} (hc : c ∈ cl s) : 0 < c.to ∧ c.to ≤ s.size := ⟨by have := (cl_span hc).1; omega, (cl_span hc).2⟩
/-- the cursor stands where it stood -/
theorem cur_lines {a b : ByteArray} (h13 : a.size ≠ 0 → bt a (a.size - 1) ≠ 13) (W : Nat) (st : Lst) {cur : Int} (hc : cur ≤ a.size) : (curL W st (a ++ nlo ++ b) cur (cl (a ++ nlo ++ b))).2 = (curL W st a cur (cl a)).2 := by
  have stay : ∀ (T : ByteArray) (l : List Clu) (x : Lst × (Nat × Nat)), (∀ c ∈ l, cur < c.to) → (l.foldl (curF W T cur) x).2 = x.2 := by
    intro T l
    induction l with
    | nil => intro x _; rfl
    | cons c l ih =>
      intro x h
      rw [List.foldl_cons, ih _ (fun d hd => h d (List.mem_cons_of_mem _ hd))]
      unfold curF
      simp only
      rw [if_neg (by have := h c List.mem_cons_self; omega)]
  have same : ∀ (l : List Clu) (x : Lst × (Nat × Nat)), (∀ c ∈ l, c ∈ cl a) → l.foldl (curF W (a ++ nlo ++ b) cur) x = l.foldl (curF W a cur) x := fun l x h => cur_left (y := nlo ++ b) (by rw [ByteArray.append_assoc]) W cur l x h
  unfold curL
  obtain ⟨T, hT⟩ : ∃ T, a ++ nlo ++ b = T := ⟨_, rfl⟩
  obtain ⟨tl, htl⟩ : ∃ tl, [(⟨a.size, a.size + 1, 1, 0⟩ : Clu)] ++ (cl b).map (sh (a.size + 1)) = tl := ⟨_, rfl⟩
  have hcl : cl T = cl a ++ tl := by rw [← hT, cl_lines h13, List.append_assoc, htl]
  rw [hT] at same ⊢
  rw [hcl, List.foldl_append, same (cl a) _ (fun _ h => h)]
  generalize (cl a).foldl (curF W a cur) (st, st.pen) = x
  refine stay T tl x (fun c hcm => ?_)
  rw [← htl] at hcm
  rcases List.mem_append.1 hcm with q | q
  · simp only [List.mem_singleton] at q; subst q; show cur < ((a.size + 1 : Nat) : Int); omega
  · obtain ⟨d, _, rfl⟩ := List.mem_map.1 q
    show cur < ((d.to + (a.size + 1) : Nat) : Int)
    omega
end Go.Proofs.YtojkpkokjkjeeabDoor
