/-
  Plain facts on the cursor's places: the boundaries of a text, the pens behind its clusters, and Lay's cursor at a boundary. No program is walked in this text; no conditions.
-/
import Derived.Test.YtfjoklbiocniiaaDoorPkOQ
namespace Go.Proofs.YtfjoklbiocniiaaDoor
open Go.RowKit Go.Shelf Bod Wid
/-- the text's boundaries, in order -/
def bdF (s : ByteArray) (i : Nat) : Nat := match (cl s)[i]? with | some c => c.fr | none => s.size
theorem tiled_at : ∀ {l : List Clu} {i j k : Nat} {c : Clu}, tiled i l j → l[k]? = some c → (∀ d, l[k + 1]? = some d → d.fr = c.to) ∧ (l[k + 1]? = none → c.to = j)
  | [], _, _, _, _, _, h => by simp at h
  | c0 :: r, i, j, 0, c, ⟨_, _, h⟩, hc => by
    have hc : c0 = c := by simpa using hc
    subst hc
    cases r with
    | nil => exact ⟨fun d hd => by simp at hd, fun _ => h⟩
    | cons d0 r => exact ⟨fun d hd => by have : d0 = d := by simpa using hd
                                         subst this; exact h.1, fun hd => by simp at hd⟩
  | c0 :: r, i, j, k + 1, c, ⟨_, _, h⟩, hc => by
    have := tiled_at (k := k) h (by simpa using hc)
    simpa using this
theorem bdF_at {s : ByteArray} {i : Nat} {c : Clu} (h : (cl s)[i]? = some c) : bdF s i = c.fr ∧ bdF s (i + 1) = c.to := by
  have h1 := tiled_at (cl_tile s) h
  refine ⟨by unfold bdF; rw [h], ?_⟩
  unfold bdF
  cases e : (cl s)[i + 1]? with
  | none => exact (h1.2 e).symm
  | some d => exact h1.1 d e
theorem bdF_zero (s : ByteArray) : bdF s 0 = 0 := by
  have h := cl_tile s
  unfold bdF
  cases e : (cl s) with
  | nil => rw [e] at h; exact h.symm
  | cons c r => rw [e] at h; exact h.1
theorem bdF_end (s : ByteArray) {i : Nat} (h : (cl s).length ≤ i) : bdF s i = s.size := by unfold bdF; rw [List.getElem?_eq_none h]
theorem bdF_lt {s : ByteArray} {i : Nat} (h : i < (cl s).length) : bdF s i < bdF s (i + 1) ∧ bdF s (i + 1) ≤ s.size ∧ IsNext s (bdF s i : Int) (bdF s (i + 1)) := by
  obtain ⟨c, hc⟩ : ∃ c, (cl s)[i]? = some c := ⟨(cl s)[i], List.getElem?_eq_getElem h⟩
  obtain ⟨h1, h2⟩ := bdF_at hc
  have hm := List.mem_of_getElem? hc
  have hs := cl_span hm
  have hb := cl_cb s c hm
  rw [h1, h2]
  exact ⟨hs.1, hs.2, hb.1, .inl (by omega), hb.2⟩
theorem bdF_last (s : ByteArray) : IsNext s (s.size : Int) s.size := ⟨cb_end s, .inr ⟨rfl, Int.le_refl _⟩, fun j h1 h2 => by omega⟩
theorem bdF_mono {s : ByteArray} {i j : Nat} (h : i ≤ j) : bdF s i ≤ bdF s j := by
  induction j with
  | zero => have : i = 0 := by omega
            subst this; exact Nat.le_refl _
  | succ j ih =>
    by_cases e : i = j + 1
    · subst e; exact Nat.le_refl _
    · have h1 := ih (by omega)
      by_cases hj : j < (cl s).length
      · have := (bdF_lt hj).1; omega
      · have e1 := bdF_end s (i := j) (by omega)
        have e2 := bdF_end s (i := j + 1) (by omega)
        omega
/-- Lay's cursor, where it lies behind i clusters and ahead of the next one's end -/
theorem curL_at {W : Nat} {st : Lst} {s : ByteArray} {cur : Int} {i : Nat} (hi : i ≤ (cl s).length) (h1 : i = 0 ∨ (bdF s i : Int) ≤ cur) (h2 : i = (cl s).length ∨ cur < bdF s (i + 1)) : (curL W st s cur (cl s)).2 = (layL W st (cus s ((cl s).take i))).pen := by
  have hA : ∀ k, k ≤ i → (curL W st s cur ((cl s).take k)) = (layL W st (cus s ((cl s).take k)), (layL W st (cus s ((cl s).take k))).pen) := fun k => by
    induction k with
    | zero => intro _; rfl
    | succ k ih =>
      intro hk
      have ih := ih (by omega)
      obtain ⟨c, hc⟩ : ∃ c, (cl s)[k]? = some c := ⟨(cl s)[k]'(by omega), List.getElem?_eq_getElem _⟩
      have e : (cl s).take (k + 1) = (cl s).take k ++ [c] := by rw [List.take_add_one, hc]; rfl
      have hto := (bdF_at hc).2
      have hm := bdF_mono (s := s) (i := k + 1) (j := i) (by omega)
      have hle : (c.to : Int) ≤ cur := by
        rcases h1 with h1 | h1
        · omega
        · omega
      rw [e, curL_snoc, ih]
      have el : layL W st (cus s ((cl s).take k ++ [c])) = stpL W (layL W st (cus s ((cl s).take k))) (cuOf s c) := by simp only [cus, List.map_append, List.map_cons, List.map_nil]; exact layL_snoc _ _ _ _
      rw [el]
      simp [curF, hle]
  have hB : ∀ k, i ≤ k → k ≤ (cl s).length → (curL W st s cur ((cl s).take k)).2 = (layL W st (cus s ((cl s).take i))).pen := fun k => by
    induction k with
    | zero => intro hk _; have : i = 0 := by omega
              subst this; rfl
    | succ k ih =>
      intro hk hl
      by_cases ek : i = k + 1
      · rw [← ek, hA i (Nat.le_refl _)]
      · have ih := ih (by omega) (by omega)
        obtain ⟨c, hc⟩ : ∃ c, (cl s)[k]? = some c := ⟨(cl s)[k]'(by omega), List.getElem?_eq_getElem _⟩
        have e : (cl s).take (k + 1) = (cl s).take k ++ [c] := by rw [List.take_add_one, hc]; rfl
        have hto := (bdF_at hc).2
        have hm := bdF_mono (s := s) (i := i + 1) (j := k + 1) (by omega)
        have hle : ¬ (c.to : Int) ≤ cur := by
          rcases h2 with h2 | h2
          · omega
          · omega
        rw [e, curL_snoc]
        unfold curF
        rw [if_neg hle]
        exact ih
  have := hB (cl s).length hi (Nat.le_refl _)
  rwa [List.take_length] at this
/-- a cluster moves the pen on -/
theorem stp_rise {W : Nat} (hW : 1 ≤ W) (st : Lst) (u : Cu) : st.rows.length < (stpL W st u).rows.length ∨ (st.rows.length = (stpL W st u).rows.length ∧ st.col < (stpL W st u).col) := by
  unfold stpL
  split
  · left; simp [dwn]
  · rename_i h0
    simp only
    have hf : st.rows.length < (fitS W (min u.n W) st).rows.length ∨ (st.rows.length = (fitS W (min u.n W) st).rows.length ∧ st.col = (fitS W (min u.n W) st).col) := by
      unfold fitS
      split
      · left; simp [dwn]
      · exact .inr ⟨rfl, rfl⟩
    generalize fitS W (min u.n W) st = t at hf
    unfold fulS
    split
    · left
      simp only [dwn, List.length_append, List.length_singleton]
      omega
    · simp only
      omega
theorem layL_take {W : Nat} {st : Lst} {s : ByteArray} {i : Nat} {c : Clu} (h : (cl s)[i]? = some c) : layL W st (cus s ((cl s).take (i + 1))) = stpL W (layL W st (cus s ((cl s).take i))) (cuOf s c) := by
  rw [List.take_add_one, h]
  show layL W st (cus s (_ ++ [c])) = _
  simp only [cus, List.map_append, List.map_cons, List.map_nil]
  exact layL_snoc _ _ _ _
/-- the pens, by number -/
def pnF (W : Nat) (st : Lst) (s : ByteArray) (i : Nat) : Nat × Nat := (layL W st (cus s ((cl s).take i))).pen
theorem plL_get {W : Nat} {st : Lst} {s : ByteArray} {i : Nat} (h : i ≤ (cl s).length) : (plL W st s (cl s))[i]? = some (pnF W st s i) := by
  unfold plL pnF
  rw [List.getElem?_map, List.getElem?_range (by omega)]
  rfl
theorem pn_ok {W : Nat} (hW : 1 ≤ W) {st : Lst} (hst : st.Ok W) (s : ByteArray) (i : Nat) : (layL W st (cus s ((cl s).take i))).Ok W := layL_ok hW (cus_n (fun _ hc => List.mem_of_mem_take hc)) hst
theorem pn_rise {W : Nat} (hW : 1 ≤ W) {st : Lst} {s : ByteArray} {i : Nat} (h : i < (cl s).length) : (pnF W st s i).1 < (pnF W st s (i + 1)).1 ∨ ((pnF W st s i).1 = (pnF W st s (i + 1)).1 ∧ (pnF W st s i).2 < (pnF W st s (i + 1)).2) := by
  obtain ⟨c, hc⟩ : ∃ c, (cl s)[i]? = some c := ⟨(cl s)[i], List.getElem?_eq_getElem h⟩
  unfold pnF
  rw [layL_take hc]
  exact stp_rise hW _ _
theorem pn_le {W : Nat} (hW : 1 ≤ W) {st : Lst} {s : ByteArray} {i j : Nat} (h : i ≤ j) (hj : j ≤ (cl s).length) : (pnF W st s i).1 ≤ (pnF W st s j).1 := by
  induction j with
  | zero => have : i = 0 := by omega
            subst this; exact Nat.le_refl _
  | succ j ih =>
    by_cases e : i = j + 1
    · subst e; exact Nat.le_refl _
    · have := ih (by omega) (by omega)
      have := pn_rise hW (st := st) (s := s) (i := j) (by omega)
      omega
theorem pn_end {W : Nat} {st : Lst} {s : ByteArray} : pnF W st s (cl s).length = (layL W st (cus s (cl s))).pen := by unfold pnF; rw [List.take_length]
theorem pn_col {W : Nat} (hW : 1 ≤ W) {st : Lst} (hst : st.Ok W) (s : ByteArray) (i : Nat) : (pnF W st s i).2 < W := (pn_ok hW hst s i).lt
end Go.Proofs.YtfjoklbiocniiaaDoor
