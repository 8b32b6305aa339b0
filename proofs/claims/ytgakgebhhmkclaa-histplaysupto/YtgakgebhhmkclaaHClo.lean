/-
  strings.Clone and strings.LastIndex. Conditions: those of each theorem.
-/
import Derived.Test.YtgakgebhhmkclaaHSet
import Derived.Test.YtgakgebhhmkclaaShelf
namespace Go.Proofs.Ytgakgebhhmkclaa
open Go.RowKit

set_option maxRecDepth 100000 in
theorem sclone_any (s : ByteArray) (h : s.size ≤ 281474976710656) (w : World) : Calls Try.prog 42 #[.string s] w fun e w' => e = .returned (.string s) ∧ Below w.heap.size w w' := by
  have C1 := Try.stringslite_Clone s w h
  go_enter Try.func42, Try.ntmps42
  go_wp2_with (go_at_call 48; refine C1.mono ?_; rintro e w1 ⟨rfl, hb⟩)
  go_ret
  exact ⟨rfl, hb⟩
end Go.Proofs.Ytgakgebhhmkclaa
