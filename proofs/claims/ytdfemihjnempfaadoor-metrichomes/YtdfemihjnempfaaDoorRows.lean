/-
  NARROWER THAN 'FOR EVERY INPUT', by the rows' own cells (each row's printed sentence says how): MetricMeasures: laid · MetricRanges: laid · MetricJoins: laid · MetricHomes: laid · MetricCuts: laid · MetricTells: laid.
  DERIVED. THE GIVEN ROWS OF THIS SEAT. 6 by the template 'for every input the law returns true; each argument reads behind the call as it read before'; 0 by the template 'total and deterministic' (their statements: YtdfemihjnempfaaDoorTotals.lean).
  GIVEN WITH THE SEED: the statements are not yours to turn. If you find one false, say at which input.
  Laid BY PROGRAM, IN A SANDBOX (cutbox-rows.mjs): the forced cells as the released guide's own fill.sh prints them over the translation 557e164f2905d7b9… (all of the seat's roots in one cut). By AI agents, Wed Nov 11 2026. No macro, syntax, notation, axiom, sorry.
-/
import Derived.Test.YtdfemihjnempfaaDoorChecked
import GoSem.PinnedTables
import GoSem.Claim
import GoSem.ClaimJoined
import GoSem.ClaimMapViews
import Derived.JoinedTies
import Derived.KernelRfl
namespace Go.Proofs.YtdfemihjnempfaaDoor
/- THE CELL 'sum', in the pinned program and in every row, IS THE sha256 OF THE DUMP (.gsa) THAT YtdfemihjnempfaaDoorProg.lean LOADS. Nothing in Lean hashes anything: it is a label: what it is worth is what the hold of that sum in a sandbox is worth. -/
noncomputable def Tryd.pinned : Pinned := { name := "ytdfemihjnempfaadoor", sum := "557e164f2905d7b904dfc6d4898b899e8ba22bd1ee95834037bc714a30ada12e", checked := Tryd.checked }
namespace Rows
def none {H : Type} : Left H := { results := [], args := [] }

/- WHAT THE LISTED PACKAGE-LEVEL VARIABLES READ AS WHEN THE CALL BEGINS. Each datum BY PROGRAM (the guide's laid-datum.mjs) off the statement by which the dump's own 'gosem.cut.vars' lays the variable. In a bare row this is a premise. The card (YtdfemihjnempfaaDoorCards.lean) ties it to the program's text. -/
def laid_unicode_utf8_acceptRanges {H : Type} : DataW H := .agg [.agg [.lit (.int .u8 128), .lit (.int .u8 191)], .agg [.lit (.int .u8 160), .lit (.int .u8 191)], .agg [.lit (.int .u8 128), .lit (.int .u8 159)], .agg [.lit (.int .u8 144), .lit (.int .u8 191)], .agg [.lit (.int .u8 128), .lit (.int .u8 143)], .agg [.lit (.int .u8 0), .lit (.int .u8 0)], .agg [.lit (.int .u8 0), .lit (.int .u8 0)], .agg [.lit (.int .u8 0), .lit (.int .u8 0)], .agg [.lit (.int .u8 0), .lit (.int .u8 0)], .agg [.lit (.int .u8 0), .lit (.int .u8 0)], .agg [.lit (.int .u8 0), .lit (.int .u8 0)], .agg [.lit (.int .u8 0), .lit (.int .u8 0)], .agg [.lit (.int .u8 0), .lit (.int .u8 0)], .agg [.lit (.int .u8 0), .lit (.int .u8 0)], .agg [.lit (.int .u8 0), .lit (.int .u8 0)], .agg [.lit (.int .u8 0), .lit (.int .u8 0)]]
/-- One of Go's own tables, pinned by name: the form's constant. -/
def laid_unicode_utf8_first : DataW Unit := Go.Pinned.utf8First

/-- 'bodkinlaw04.MetricMeasures': WHATEVER THE INPUT: true; the input reads as it did. -/
def metricMeasuresSpec : ChangeSpec := { name := "metricMeasures", fn := fun _ => fun
  | [d] => { results := [.lit (.bool true)], args := [d] }
  | _ => none }
def metricMeasuresRow : OpenClaim := { program := "ytdfemihjnempfaadoor", sum := "557e164f2905d7b904dfc6d4898b899e8ba22bd1ee95834037bc714a30ada12e", func := "bodkin/bodkinlaw04.MetricMeasures", spec := "metricMeasures", inPlace := ["internal/bytealg.CountString", "internal/bytealg.IndexByteString", "internal/bytealg.IndexString"], unfollowed := true, recurses := true, named := ["unicode/utf8.first", "unicode/utf8.acceptRanges", "internal/bytealg.MaxLen"], apart := false, laid := [("unicode/utf8.acceptRanges", laid_unicode_utf8_acceptRanges), ("unicode/utf8.first", laid_unicode_utf8_first)] }
def MetricMeasuresSaid : Prop := metricMeasuresRow.holds Tryd.pinned (OpenSpec.ofChange metricMeasuresSpec)

/-- ITS FALSE NEIGHBOUR: 'it returns false'. Refute it at one input. -/
def metricMeasuresWrong : ChangeSpec := { name := "metricMeasures", fn := fun _ => fun
  | [d] => { results := [.lit (.bool false)], args := [d] }
  | _ => none }
def MetricMeasuresWrongFalsely : Prop := metricMeasuresRow.holds Tryd.pinned (OpenSpec.ofChange metricMeasuresWrong)

/-- 'bodkinlaw04.MetricRanges': WHATEVER THE INPUT: true; the input reads as it did. -/
def metricRangesSpec : ChangeSpec := { name := "metricRanges", fn := fun _ => fun
  | [d1, d2, d3] => { results := [.lit (.bool true)], args := [d1, d2, d3] }
  | _ => none }
def metricRangesRow : OpenClaim := { program := "ytdfemihjnempfaadoor", sum := "557e164f2905d7b904dfc6d4898b899e8ba22bd1ee95834037bc714a30ada12e", func := "bodkin/bodkinlaw04.MetricRanges", spec := "metricRanges", inPlace := ["internal/bytealg.CountString", "internal/bytealg.IndexByteString", "internal/bytealg.IndexString"], unfollowed := true, recurses := true, named := ["unicode/utf8.first", "unicode/utf8.acceptRanges", "internal/bytealg.MaxLen"], apart := false, laid := [("unicode/utf8.acceptRanges", laid_unicode_utf8_acceptRanges), ("unicode/utf8.first", laid_unicode_utf8_first)] }
def MetricRangesSaid : Prop := metricRangesRow.holds Tryd.pinned (OpenSpec.ofChange metricRangesSpec)

/-- ITS FALSE NEIGHBOUR: 'it returns false'. Refute it at one input. -/
def metricRangesWrong : ChangeSpec := { name := "metricRanges", fn := fun _ => fun
  | [d1, d2, d3] => { results := [.lit (.bool false)], args := [d1, d2, d3] }
  | _ => none }
def MetricRangesWrongFalsely : Prop := metricRangesRow.holds Tryd.pinned (OpenSpec.ofChange metricRangesWrong)

/-- 'bodkinlaw04.MetricJoins': WHATEVER THE INPUT: true; the input reads as it did. -/
def metricJoinsSpec : ChangeSpec := { name := "metricJoins", fn := fun _ => fun
  | [d] => { results := [.lit (.bool true)], args := [d] }
  | _ => none }
def metricJoinsRow : OpenClaim := { program := "ytdfemihjnempfaadoor", sum := "557e164f2905d7b904dfc6d4898b899e8ba22bd1ee95834037bc714a30ada12e", func := "bodkin/bodkinlaw04.MetricJoins", spec := "metricJoins", inPlace := ["internal/bytealg.CountString", "internal/bytealg.IndexByteString", "internal/bytealg.IndexString"], unfollowed := true, recurses := true, named := ["unicode/utf8.first", "unicode/utf8.acceptRanges", "internal/bytealg.MaxLen"], apart := false, laid := [("unicode/utf8.acceptRanges", laid_unicode_utf8_acceptRanges), ("unicode/utf8.first", laid_unicode_utf8_first)] }
def MetricJoinsSaid : Prop := metricJoinsRow.holds Tryd.pinned (OpenSpec.ofChange metricJoinsSpec)

/-- ITS FALSE NEIGHBOUR: 'it returns false'. Refute it at one input. -/
def metricJoinsWrong : ChangeSpec := { name := "metricJoins", fn := fun _ => fun
  | [d] => { results := [.lit (.bool false)], args := [d] }
  | _ => none }
def MetricJoinsWrongFalsely : Prop := metricJoinsRow.holds Tryd.pinned (OpenSpec.ofChange metricJoinsWrong)

/-- 'bodkinlaw04.MetricHomes': WHATEVER THE INPUT: true; the input reads as it did. -/
def metricHomesSpec : ChangeSpec := { name := "metricHomes", fn := fun _ => fun
  | [d1, d2, d3] => { results := [.lit (.bool true)], args := [d1, d2, d3] }
  | _ => none }
def metricHomesRow : OpenClaim := { program := "ytdfemihjnempfaadoor", sum := "557e164f2905d7b904dfc6d4898b899e8ba22bd1ee95834037bc714a30ada12e", func := "bodkin/bodkinlaw04.MetricHomes", spec := "metricHomes", inPlace := ["internal/bytealg.CountString", "internal/bytealg.IndexByteString", "internal/bytealg.IndexString"], unfollowed := true, recurses := true, named := ["unicode/utf8.first", "unicode/utf8.acceptRanges", "internal/bytealg.MaxLen"], apart := false, laid := [("unicode/utf8.acceptRanges", laid_unicode_utf8_acceptRanges), ("unicode/utf8.first", laid_unicode_utf8_first)] }
def MetricHomesSaid : Prop := metricHomesRow.holds Tryd.pinned (OpenSpec.ofChange metricHomesSpec)

/-- ITS FALSE NEIGHBOUR: 'it returns false'. Refute it at one input. -/
def metricHomesWrong : ChangeSpec := { name := "metricHomes", fn := fun _ => fun
  | [d1, d2, d3] => { results := [.lit (.bool false)], args := [d1, d2, d3] }
  | _ => none }
def MetricHomesWrongFalsely : Prop := metricHomesRow.holds Tryd.pinned (OpenSpec.ofChange metricHomesWrong)

/-- 'bodkinlaw04.MetricCuts': WHATEVER THE INPUT: true; the input reads as it did. -/
def metricCutsSpec : ChangeSpec := { name := "metricCuts", fn := fun _ => fun
  | [d1, d2] => { results := [.lit (.bool true)], args := [d1, d2] }
  | _ => none }
def metricCutsRow : OpenClaim := { program := "ytdfemihjnempfaadoor", sum := "557e164f2905d7b904dfc6d4898b899e8ba22bd1ee95834037bc714a30ada12e", func := "bodkin/bodkinlaw04.MetricCuts", spec := "metricCuts", inPlace := ["internal/bytealg.CountString", "internal/bytealg.IndexByteString", "internal/bytealg.IndexString"], unfollowed := true, recurses := true, named := ["unicode/utf8.first", "unicode/utf8.acceptRanges", "internal/bytealg.MaxLen"], apart := false, laid := [("unicode/utf8.acceptRanges", laid_unicode_utf8_acceptRanges), ("unicode/utf8.first", laid_unicode_utf8_first)] }
def MetricCutsSaid : Prop := metricCutsRow.holds Tryd.pinned (OpenSpec.ofChange metricCutsSpec)

/-- ITS FALSE NEIGHBOUR: 'it returns false'. Refute it at one input. -/
def metricCutsWrong : ChangeSpec := { name := "metricCuts", fn := fun _ => fun
  | [d1, d2] => { results := [.lit (.bool false)], args := [d1, d2] }
  | _ => none }
def MetricCutsWrongFalsely : Prop := metricCutsRow.holds Tryd.pinned (OpenSpec.ofChange metricCutsWrong)

/-- 'bodkinlaw04.MetricTells': WHATEVER THE INPUT: true; the input reads as it did. -/
def metricTellsSpec : ChangeSpec := { name := "metricTells", fn := fun _ => fun
  | [d] => { results := [.lit (.bool true)], args := [d] }
  | _ => none }
def metricTellsRow : OpenClaim := { program := "ytdfemihjnempfaadoor", sum := "557e164f2905d7b904dfc6d4898b899e8ba22bd1ee95834037bc714a30ada12e", func := "bodkin/bodkinlaw04.MetricTells", spec := "metricTells", inPlace := ["internal/bytealg.CountString", "internal/bytealg.IndexByteString", "internal/bytealg.IndexString"], unfollowed := true, recurses := true, named := ["unicode/utf8.first", "unicode/utf8.acceptRanges", "internal/bytealg.MaxLen"], apart := false, laid := [("unicode/utf8.acceptRanges", laid_unicode_utf8_acceptRanges), ("unicode/utf8.first", laid_unicode_utf8_first)] }
def MetricTellsSaid : Prop := metricTellsRow.holds Tryd.pinned (OpenSpec.ofChange metricTellsSpec)

/-- ITS FALSE NEIGHBOUR: 'it returns false'. Refute it at one input. -/
def metricTellsWrong : ChangeSpec := { name := "metricTells", fn := fun _ => fun
  | [d] => { results := [.lit (.bool false)], args := [d] }
  | _ => none }
def MetricTellsWrongFalsely : Prop := metricTellsRow.holds Tryd.pinned (OpenSpec.ofChange metricTellsWrong)

/- THE SECOND FORM. 'bulk': how many values and letters a reading holds, each counted each time it is reached (what is shared counts as often as it is met; a slice's spare places count too). A statement '..UptoSaid' is the law's where the arguments, and the package variables that the reading takes, are together of bulk at most 1048576: NARROWER than '..Said'. Prove '..Said' where nothing that the law and all that it calls make is longer than what came in: it says more and counts as full. Else prove '..UptoSaid'. A law counts once. -/
mutual
def uptoBulk {H : Type} : DataW H → Nat
  | .lit (.string bytes) => bytes.length + 1
  | .lit _ => 1
  | .nil => 1
  | .ptr d => uptoBulk d + 1
  | .slice elems spare => uptoBulkAll elems + uptoBulkAll spare + 1
  | .agg parts => uptoBulkAll parts + 1
  | .iface _ d => uptoBulk d + 1
  | .map entries => uptoBulkEntries entries + 1
  | .held _ => 1
def uptoBulkAll {H : Type} : List (DataW H) → Nat
  | [] => 0
  | d :: r => uptoBulk d + uptoBulkAll r
def uptoBulkEntries {H : Type} : List (Lit × DataW H) → Nat
  | [] => 0
  | x :: r => uptoBulkEntry x + uptoBulkEntries r
def uptoBulkEntry {H : Type} : Lit × DataW H → Nat
  | (.string bytes, d) => bytes.length + uptoBulk d + 1
  | (_, d) => uptoBulk d + 1
 end
def uptoSmall : (H : Type) → List (DataW H) → Bool := fun _ ds => decide (uptoBulkAll ds ≤ 1048576)
def OpenSpec.upto (s : _root_.Go.ChangeSpec) : _root_.Go.OpenSpec := { _root_.Go.OpenSpec.ofChange s with cond := some uptoSmall }

/-- 'bodkinlaw04.MetricMeasures', WHERE WHAT IT READS IS OF BULK AT MOST 1048576: true; the input reads as it did. -/
def metricMeasuresUptoRow : OpenClaim := { program := "ytdfemihjnempfaadoor", sum := "557e164f2905d7b904dfc6d4898b899e8ba22bd1ee95834037bc714a30ada12e", func := "bodkin/bodkinlaw04.MetricMeasures", spec := "metricMeasures", inPlace := ["internal/bytealg.CountString", "internal/bytealg.IndexByteString", "internal/bytealg.IndexString"], unfollowed := true, recurses := true, named := ["unicode/utf8.first", "unicode/utf8.acceptRanges", "internal/bytealg.MaxLen"], apart := false, laid := [("unicode/utf8.acceptRanges", laid_unicode_utf8_acceptRanges), ("unicode/utf8.first", laid_unicode_utf8_first)], narrowed := true }
def MetricMeasuresUptoSaid : Prop := metricMeasuresUptoRow.holds Tryd.pinned (OpenSpec.upto metricMeasuresSpec)

/-- 'bodkinlaw04.MetricRanges', WHERE WHAT IT READS IS OF BULK AT MOST 1048576: true; the input reads as it did. -/
def metricRangesUptoRow : OpenClaim := { program := "ytdfemihjnempfaadoor", sum := "557e164f2905d7b904dfc6d4898b899e8ba22bd1ee95834037bc714a30ada12e", func := "bodkin/bodkinlaw04.MetricRanges", spec := "metricRanges", inPlace := ["internal/bytealg.CountString", "internal/bytealg.IndexByteString", "internal/bytealg.IndexString"], unfollowed := true, recurses := true, named := ["unicode/utf8.first", "unicode/utf8.acceptRanges", "internal/bytealg.MaxLen"], apart := false, laid := [("unicode/utf8.acceptRanges", laid_unicode_utf8_acceptRanges), ("unicode/utf8.first", laid_unicode_utf8_first)], narrowed := true }
def MetricRangesUptoSaid : Prop := metricRangesUptoRow.holds Tryd.pinned (OpenSpec.upto metricRangesSpec)

/-- 'bodkinlaw04.MetricJoins', WHERE WHAT IT READS IS OF BULK AT MOST 1048576: true; the input reads as it did. -/
def metricJoinsUptoRow : OpenClaim := { program := "ytdfemihjnempfaadoor", sum := "557e164f2905d7b904dfc6d4898b899e8ba22bd1ee95834037bc714a30ada12e", func := "bodkin/bodkinlaw04.MetricJoins", spec := "metricJoins", inPlace := ["internal/bytealg.CountString", "internal/bytealg.IndexByteString", "internal/bytealg.IndexString"], unfollowed := true, recurses := true, named := ["unicode/utf8.first", "unicode/utf8.acceptRanges", "internal/bytealg.MaxLen"], apart := false, laid := [("unicode/utf8.acceptRanges", laid_unicode_utf8_acceptRanges), ("unicode/utf8.first", laid_unicode_utf8_first)], narrowed := true }
def MetricJoinsUptoSaid : Prop := metricJoinsUptoRow.holds Tryd.pinned (OpenSpec.upto metricJoinsSpec)

/-- 'bodkinlaw04.MetricHomes', WHERE WHAT IT READS IS OF BULK AT MOST 1048576: true; the input reads as it did. -/
def metricHomesUptoRow : OpenClaim := { program := "ytdfemihjnempfaadoor", sum := "557e164f2905d7b904dfc6d4898b899e8ba22bd1ee95834037bc714a30ada12e", func := "bodkin/bodkinlaw04.MetricHomes", spec := "metricHomes", inPlace := ["internal/bytealg.CountString", "internal/bytealg.IndexByteString", "internal/bytealg.IndexString"], unfollowed := true, recurses := true, named := ["unicode/utf8.first", "unicode/utf8.acceptRanges", "internal/bytealg.MaxLen"], apart := false, laid := [("unicode/utf8.acceptRanges", laid_unicode_utf8_acceptRanges), ("unicode/utf8.first", laid_unicode_utf8_first)], narrowed := true }
def MetricHomesUptoSaid : Prop := metricHomesUptoRow.holds Tryd.pinned (OpenSpec.upto metricHomesSpec)

/-- 'bodkinlaw04.MetricCuts', WHERE WHAT IT READS IS OF BULK AT MOST 1048576: true; the input reads as it did. -/
def metricCutsUptoRow : OpenClaim := { program := "ytdfemihjnempfaadoor", sum := "557e164f2905d7b904dfc6d4898b899e8ba22bd1ee95834037bc714a30ada12e", func := "bodkin/bodkinlaw04.MetricCuts", spec := "metricCuts", inPlace := ["internal/bytealg.CountString", "internal/bytealg.IndexByteString", "internal/bytealg.IndexString"], unfollowed := true, recurses := true, named := ["unicode/utf8.first", "unicode/utf8.acceptRanges", "internal/bytealg.MaxLen"], apart := false, laid := [("unicode/utf8.acceptRanges", laid_unicode_utf8_acceptRanges), ("unicode/utf8.first", laid_unicode_utf8_first)], narrowed := true }
def MetricCutsUptoSaid : Prop := metricCutsUptoRow.holds Tryd.pinned (OpenSpec.upto metricCutsSpec)

/-- 'bodkinlaw04.MetricTells', WHERE WHAT IT READS IS OF BULK AT MOST 1048576: true; the input reads as it did. -/
def metricTellsUptoRow : OpenClaim := { program := "ytdfemihjnempfaadoor", sum := "557e164f2905d7b904dfc6d4898b899e8ba22bd1ee95834037bc714a30ada12e", func := "bodkin/bodkinlaw04.MetricTells", spec := "metricTells", inPlace := ["internal/bytealg.CountString", "internal/bytealg.IndexByteString", "internal/bytealg.IndexString"], unfollowed := true, recurses := true, named := ["unicode/utf8.first", "unicode/utf8.acceptRanges", "internal/bytealg.MaxLen"], apart := false, laid := [("unicode/utf8.acceptRanges", laid_unicode_utf8_acceptRanges), ("unicode/utf8.first", laid_unicode_utf8_first)], narrowed := true }
def MetricTellsUptoSaid : Prop := metricTellsUptoRow.holds Tryd.pinned (OpenSpec.upto metricTellsSpec)

end Rows
end Go.Proofs.YtdfemihjnempfaaDoor
