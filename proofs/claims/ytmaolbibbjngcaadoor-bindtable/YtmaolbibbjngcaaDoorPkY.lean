/-
  The document's own copy of package unit. Conditions: those of each theorem.
-/
import Derived.Test.YtmaolbibbjngcaaDoorKBase
import Derived.Test.YtmaolbibbjngcaaDoorPkA
namespace Go.Proofs.YtmaolbibbjngcaaDoor
open Go.RowKit Bod

set_option maxHeartbeats 1000000 in
theorem rscalar_any (r : Int) (w : World) : Calls Tryd.prog 61 #[.int .i32 r] w fun e w' => e = .returned (.bool (Lib.validRune r)) ∧ w = w' := by
  by_cases h1 : 0 ≤ r
  · by_cases h2 : r ≤ 1114111
    · by_cases h3 : r < 55296
      · rw [show Lib.validRune r = true from (valid_iff r).2 (by omega)]
        go_enter Tryd.func61, Tryd.ntmps61
        go_wp2
        go_ret
        exact ⟨rfl, rfl⟩
      · by_cases h4 : 57343 < r
        · rw [show Lib.validRune r = true from (valid_iff r).2 (by omega)]
          go_enter Tryd.func61, Tryd.ntmps61
          go_wp2
          go_ret
          exact ⟨rfl, rfl⟩
        · rw [show Lib.validRune r = false from by rw [← Bool.not_eq_true, valid_iff]; omega]
          go_enter Tryd.func61, Tryd.ntmps61
          go_wp2
          go_ret
          exact ⟨rfl, rfl⟩
    · rw [show Lib.validRune r = false from by rw [← Bool.not_eq_true, valid_iff]; omega]
      go_enter Tryd.func61, Tryd.ntmps61
      go_wp2
      go_ret
      exact ⟨rfl, rfl⟩
  · rw [show Lib.validRune r = false from by rw [← Bool.not_eq_true, valid_iff]; omega]
    go_enter Tryd.func61, Tryd.ntmps61
    go_wp2
    go_ret
    exact ⟨rfl, rfl⟩

set_option maxHeartbeats 1000000 in
theorem size_any (r : Int) (w : World) : Calls Tryd.prog 64 #[.int .i32 r] w fun e w' => e = .returned (.int .i64 (sizeN r)) ∧ w = w' := by
  unfold sizeN
  by_cases h1 : r < 128
  · rw [if_pos h1]
    go_enter Tryd.func64, Tryd.ntmps64
    go_wp2
    go_ret
    exact ⟨rfl, rfl⟩
  · rw [if_neg h1]
    by_cases h2 : r < 2048
    · rw [if_pos h2]
      go_enter Tryd.func64, Tryd.ntmps64
      go_wp2
      go_ret
      exact ⟨rfl, rfl⟩
    · rw [if_neg h2]
      by_cases h3 : r < 65536
      · rw [if_pos h3]
        go_enter Tryd.func64, Tryd.ntmps64
        go_wp2
        go_ret
        exact ⟨rfl, rfl⟩
      · rw [if_neg h3]
        go_enter Tryd.func64, Tryd.ntmps64
        go_wp2
        go_ret
        exact ⟨rfl, rfl⟩


end Go.Proofs.YtmaolbibbjngcaaDoor
namespace Go.Proofs.YtmaolbibbjngcaaDoor
open Go.RowKit Bod

end Go.Proofs.YtmaolbibbjngcaaDoor
