/-
  Package layout's step of any cluster; and how it moves the pen of a state in plain words. Conditions: those of stp_n.
-/
import Derived.Test.YtoopbccpclgciaaDoorOStq
namespace Go.Proofs.YtoopbccpclgciaaDoor
open Go.RowKit
theorem stp_any (r c n W : Int) (hr0 : 0 ≤ r) (hr1 : r ≤ 1099511627770) (hc0 : 0 ≤ c) (hcW : c < W) (hn0 : 0 ≤ n) (hn2 : n ≤ 2) (hW : W ≤ 65535) (w : World) : Calls Tryd.prog 35 #[plv r c, .int .i64 n, .int .i64 W] w fun e w' => e = .returned (.tuple #[plv (stpI W r c n).1.1 (stpI W r c n).1.2, plv (stpI W r c n).2.1 (stpI W r c n).2.2]) ∧ Below w.heap.size w w' := by
  by_cases h : n = 0
  · subst h
    have := stp_0 r c W hr0 (by omega) w
    unfold stpI
    rw [if_pos rfl]
    exact this
  · exact stp_n r c n W hr0 hr1 hc0 hcW (by omega) hn2 hW w
/-- step is what the plain state does with its pen -/
theorem stpI_L (W : Nat) (s : Lst) (u : Cu) : stpI W s.rows.length s.col u.n = (if u.n = 0 then ((s.rows.length : Int), (s.col : Int)) else (((fitS W (min u.n W) s).rows.length : Int), ((fitS W (min u.n W) s).col : Int)), (((stpL W s u).rows.length : Int), ((stpL W s u).col : Int))) := by
  unfold stpI stpL
  by_cases h : u.n = 0
  · rw [if_pos (by omega), if_pos h, if_pos h]
    simp [dwn]
  · rw [if_neg (by omega), if_neg h, if_neg h]
    have hm : min (u.n : Int) W = ((min u.n W : Nat) : Int) := by omega
    rw [hm]
    generalize min u.n W = m
    have hf : fitI W s.rows.length s.col m = (((fitS W m s).rows.length : Int), ((fitS W m s).col : Int)) := by
      unfold fitI fitS
      by_cases hA : W < s.col + m
      · rw [if_pos (by omega), if_pos hA]
        simp [dwn]
      · rw [if_neg (by omega), if_neg hA]
    rw [hf]
    generalize fitS W m s = t
    simp only [Prod.mk.injEq, true_and]
    unfold fulI fulS
    by_cases hB : t.col + m = W
    · rw [if_pos (by omega), if_pos hB]
      simp [dwn]
    · rw [if_neg (by omega), if_neg hB]
      simp
end Go.Proofs.YtoopbccpclgciaaDoor
