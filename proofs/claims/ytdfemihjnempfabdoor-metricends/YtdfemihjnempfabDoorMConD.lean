/-
  What joined and then Join of package metric answer in plain words: of summaries of texts that of the texts laid together. Conditions: the two tables of unicode/utf8 lie as their text lays them; the texts are not too long.
-/
import Derived.Test.YtdfemihjnempfabDoorMConC
namespace Go.Proofs.YtdfemihjnempfabDoor
open Go.RowKit Go.Shelf Bod Wid

theorem hd_long (a b : ByteArray) : hd (a ++ hd b) = hd (a ++ b) := by
  apply ext_data
  rw [hd_data, hd_data, data_app, data_app, hd_data, List.take_append, List.take_append, List.take_take]
  congr 2
  omega
theorem hd_hd2 (a b : ByteArray) : hd (hd a ++ hd b) = hd (a ++ b) := by
  rw [hd_long]
  apply ext_data
  rw [hd_data, hd_data, data_app, data_app, hd_data, List.take_append, List.take_append, List.take_take, List.length_take]
  congr 1
  by_cases h : a.data.toList.length ≤ 16
  · rw [Nat.min_eq_right h]
  · rw [Nat.min_eq_left (by omega), show 16 - 16 = 0 by rfl, show 16 - a.data.toList.length = 0 by omega]
theorem tl_tl2 (a b : ByteArray) : tl (tl a ++ tl b) = tl (a ++ b) := by
  rw [tl_app a b]
  split
  · rfl
  · rename_i h
    have := tl_size b
    have e := tl_app (tl a) (tl b)
    rw [tl_tl, if_neg h] at e
    exact e
/-- of summaries of texts the join is that of the texts laid together -/
theorem jnt_smr (a b : ByteArray) (h : a.size + b.size ≤ 288230376151711744) : jnt (smr a) (smr b) = smr (a ++ b) := by
  have hab : (a ++ b).size ≤ 288230376151711744 := by rw [size_app]; omega
  obtain ⟨a1, a2, a3⟩ := cnt_bd a
  obtain ⟨b1, b2, b3⟩ := cnt_bd b
  obtain ⟨c1, c2, c3⟩ := cnt_bd (tl a ++ hd b)
  obtain ⟨d1, d2, d3⟩ := cnt_bd (tl a)
  obtain ⟨e1, e2, e3⟩ := cnt_bd (hd b)
  have z1 := tl_size a
  have z2 := hd_size b
  have z3 := size_app (tl a) (hd b)
  have n1 := nls_le a
  have n2 := nls_le b
  unfold jnt smr
  simp only [tl_tl, hd_hd]
  refine sum_ext ?_ ?_ ?_ ?_ ?_ ?_ ?_
  · show wrap64 _ = ((a ++ b).size : Int)
    rw [size_app, IntWalk.wrap64_in _ (by omega)]; omega
  · show wrap64 _ = kU.of (a ++ b)
    rw [of_app kU a b, IntWalk.wrap64_in (kU.of a + kU.of b) (by omega), IntWalk.wrap64_in (kU.of a + kU.of b + _) (by omega), IntWalk.wrap64_in (kU.of a + kU.of b + _ - _) (by omega), IntWalk.wrap64_in _ (by omega)]
  · show wrap64 _ = kC.of (a ++ b)
    rw [of_app kC a b, IntWalk.wrap64_in (kC.of a + kC.of b) (by omega), IntWalk.wrap64_in (kC.of a + kC.of b + _) (by omega), IntWalk.wrap64_in (kC.of a + kC.of b + _ - _) (by omega), IntWalk.wrap64_in _ (by omega)]
  · show wrap64 _ = kN.of (a ++ b)
    rw [of_app kN a b, IntWalk.wrap64_in (kN.of a + kN.of b) (by omega), IntWalk.wrap64_in (kN.of a + kN.of b + _) (by omega), IntWalk.wrap64_in (kN.of a + kN.of b + _ - _) (by omega), IntWalk.wrap64_in _ (by omega)]
  · show wrap64 _ = (nls (a ++ b) : Int)
    rw [nls_app, IntWalk.wrap64_in _ (by omega)]; omega
  · exact hd_hd2 a b
  · exact tl_tl2 a b
theorem smr_smallB {s : ByteArray} (hs : s.size ≤ 288230376151711744) : Small (smr s) := by
  obtain ⟨h1, h2, h3⟩ := cnt_bd s
  have h4 := nls_le s
  refine ⟨?_, ?_, ?_, ?_, ?_, ?_, ?_⟩
  · show _ ≤ (s.size : Int) ∧ (s.size : Int) ≤ _; omega
  · show _ ≤ kU.of s ∧ kU.of s ≤ _; omega
  · show _ ≤ kC.of s ∧ kC.of s ≤ _; omega
  · show _ ≤ kN.of s ∧ kN.of s ≤ _; omega
  · show _ ≤ (nls s : Int) ∧ (nls s : Int) ≤ _; omega
  · show (hd s).size ≤ 16; rw [hd_size]; omega
  · show (tl s).size ≤ 16; rw [tl_size]; omega
theorem smr_zero' {a : ByteArray} (h : smr a = sm0) : a = ByteArray.empty := by
  have e : (a.size : Int) = 0 := congrArg Sum.by' h
  have e2 : a.size = 0 := by omega
  exact ByteArray.ext (Array.eq_empty_of_size_eq_zero e2)
/-- what joined answers: one of the two, or the join -/
def Jn (x y z : Sum) : Prop := (x = sm0 ∧ z = y) ∨ (y = sm0 ∧ z = x) ∨ z = jnt x y
theorem joined_all (x y : Sum) (h1 : x.hd.size ≤ 1152921504606846976) (h2 : x.tl.size ≤ 1152921504606846976) (h3 : y.hd.size ≤ 1152921504606846976) (h4 : y.tl.size ≤ 1152921504606846976) (w : World) (hT : Lib.Utf8Tabs 1 2 w) (hlo0 : 1 < w.heap.size) (hlo1 : 2 < w.heap.size) :
    Calls Tryd.prog 13 #[sv x, sv y] w fun e W' => ∃ z, Jn x y z ∧ e = .returned (sv z) ∧ Below w.heap.size w W' := by
  by_cases hx : x = sm0
  · exact (joined_l x y hx w).mono fun e W' h => ⟨y, .inl ⟨hx, rfl⟩, h⟩
  · by_cases hy : y = sm0
    · exact (joined_r x y hx hy w).mono fun e W' h => ⟨x, .inr (.inl ⟨hy, rfl⟩), h⟩
    · exact (callsIn_wide.1 (joined_t 8 (Nat.le_refl _) x y hx hy h1 h2 h3 h4 w hT hlo0 hlo1)).mono fun e W' h => ⟨jnt x y, .inr (.inr rfl), h⟩
theorem Jn_smr {a b : ByteArray} {z : Sum} (h : Jn (smr a) (smr b) z) (hs : a.size + b.size ≤ 288230376151711744) : z = smr (a ++ b) := by
  rcases h with ⟨h0, h1⟩ | ⟨h0, h1⟩ | h1
  · rw [h1, smr_zero' h0]; simp
  · rw [h1, smr_zero' h0]; simp
  · rw [h1, jnt_smr a b hs]
/-- the ends' texts are no longer than n bytes -/
def Ends (n : Nat) (x : Sum) : Prop := x.hd.size ≤ n ∧ x.tl.size ≤ n
theorem Jn.ends {n : Nat} (hn : 16 ≤ n) {x y z : Sum} (h : Jn x y z) (hx : Ends n x) (hy : Ends n y) : Ends n z := by
  rcases h with ⟨_, h1⟩ | ⟨_, h1⟩ | h1
  · rw [h1]; exact hy
  · rw [h1]; exact hx
  · rw [h1]
    have e1 := hd_size (x.hd ++ hd y.hd)
    have e2 := tl_size (tl x.tl ++ y.tl)
    exact ⟨by show (hd (x.hd ++ hd y.hd)).size ≤ n; omega, by show (tl (tl x.tl ++ y.tl)).size ≤ n; omega⟩
/-- joined one behind the other -/
def JR (m : Sum) : List Sum → Sum → Prop
  | [], z => z = m
  | x :: r, z => ∃ m', Jn m x m' ∧ JR m' r z
theorem JR.snoc : ∀ {l : List Sum} {m m' x z : Sum}, JR m l m' → Jn m' x z → JR m (l ++ [x]) z
  | [], _, _, _, _, h, hj => by
    have h : _ = _ := h
    subst h
    exact ⟨_, hj, rfl⟩
  | _ :: _, _, _, _, _, ⟨m1, h1, h2⟩, hj => ⟨m1, h1, JR.snoc h2 hj⟩
theorem JR.ends {n : Nat} (hn : 16 ≤ n) : ∀ {l : List Sum} {m z : Sum}, JR m l z → Ends n m → (∀ x ∈ l, Ends n x) → Ends n z
  | [], _, _, h, hm, _ => by
    have h : _ = _ := h
    subst h
    exact hm
  | _ :: _, _, _, ⟨_, h1, h2⟩, hm, hl => JR.ends hn h2 (h1.ends hn hm (hl _ (.head _))) (fun x hx => hl x (.tail _ hx))
theorem JR_smr : ∀ {ss : List ByteArray} {a : ByteArray} {z : Sum}, JR (smr a) (ss.map smr) z → (ss.foldl (· ++ ·) a).size ≤ 288230376151711744 → z = smr (ss.foldl (· ++ ·) a)
  | [], _, _, h, _ => h
  | s :: r, a, z, ⟨m1, h1, h2⟩, hs => by
    have hle : a.size + s.size ≤ (r.foldl (· ++ ·) (a ++ s)).size := by
      have : ∀ (r : List ByteArray) (x : ByteArray), x.size ≤ (r.foldl (· ++ ·) x).size := fun r => by
        induction r with
        | nil => intro x; exact Nat.le_refl _
        | cons c r ih => intro x; have := ih (x ++ c); have := size_app x c; simp only [List.foldl_cons]; omega
      have := this r (a ++ s)
      rw [size_app] at this
      exact this
    rw [List.foldl_cons] at hs ⊢
    have e := Jn_smr h1 (by omega)
    subst e
    exact JR_smr h2 hs
end Go.Proofs.YtdfemihjnempfabDoor
