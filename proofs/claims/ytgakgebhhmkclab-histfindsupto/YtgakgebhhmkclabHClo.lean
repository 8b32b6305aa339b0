/-
  strings.Clone and strings.LastIndex. Conditions: those of each theorem.
-/
import Derived.Test.YtgakgebhhmkclabHSet
import Derived.Test.YtgakgebhhmkclabShelf
namespace Go.Proofs.Ytgakgebhhmkclab
open Go.RowKit

set_option maxRecDepth 100000 in
theorem sclone_any (s : ByteArray) (h : s.size ≤ 281474976710656) (w : World) : Calls Try.prog 16 #[.string s] w fun e w' => e = .returned (.string s) ∧ Below w.heap.size w w' := by
  have C1 := Try.stringslite_Clone s w h
  go_enter Try.func16, Try.ntmps16
  go_wp2_with (go_at_call 23; refine C1.mono ?_; rintro e w1 ⟨rfl, hb⟩)
  go_ret
  exact ⟨rfl, hb⟩
end Go.Proofs.Ytgakgebhhmkclab
