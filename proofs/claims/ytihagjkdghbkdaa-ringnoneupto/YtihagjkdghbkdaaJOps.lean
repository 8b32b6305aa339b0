/-
  A piece of a list of calls, and the cells of one. No program is walked in this text; no conditions.
-/
import Derived.Test.YtihagjkdghbkdaaUJop
namespace Go.Proofs.Ytihagjkdghbkdaa
open Go.RowKit

theorem unLO : Try.prog.underlying 22 = some (.slice (Try.prog.elem 22)) := by kernel_rfl
theorem szLO (W : World) : (sizeOf (Try.prog.elem 22)).run Try.prog W = .ok 2 W := by kernel_rfl
/-- a piece of a list of calls -/
theorem run_ops {w : World} {a : Option Addr} {n c lo hi : Nat} {os : List (Nat × ByteArray)} (h : RdO w (.slice a n c) os) (h0 : os ≠ []) (h1 : lo ≤ hi) (h2 : hi ≤ n) :
    ∃ a3 c3, (∀ W, (Instr.sliceAt 22 (.slice a n c) (some (.int .i64 (lo : Int))) (some (.int .i64 (hi : Int))) none).run Try.prog W = .ok (.slice a3 (hi - lo) c3) W) ∧ RdO w (.slice a3 (hi - lo) c3) ((os.drop lo).take (hi - lo)) := by
  obtain ⟨_, _, e, hr⟩ := id h
  obtain ⟨ea, en, ec⟩ := Value.slice.inj e
  obtain ⟨hle, g, o, eg, hg, hc⟩ := hr h0
  rw [← ea] at eg
  subst eg ea en ec
  refine ⟨if c = lo then some ⟨g, o, none⟩ else some ⟨g, o + lo * 2, none⟩, c - lo, fun W => ?_, ?_⟩
  · rw [run_sliceAt_slice _ _ _ _ _ _ unLO, run_slice_lh _ _ _ _ _ unLO _ _ _ _ (by omega) (by omega) (by omega), szLO]
    simp only [Result.andThen, sliced, Int.toNat_natCast, Option.map_some]
    split
    · rfl
    · rw [Go.WideShapes.add_plain]
  · have hlen : ((os.drop lo).take (hi - lo)).length = hi - lo := by rw [List.length_take, List.length_drop]; omega
    refine ⟨_, c - lo, by rw [hlen], fun h3 => ⟨by rw [hlen]; omega, g, o + lo * 2, ?_, hg, fun k q hk => ?_⟩⟩
    · rw [if_neg]
      intro e
      apply h3
      exact List.eq_nil_of_length_eq_zero (by rw [hlen]; omega)
    · have hk2 : k < hi - lo := by rw [← hlen]; exact (List.getElem?_eq_some_iff.1 hk).1
      rw [List.getElem?_take_of_lt hk2, List.getElem?_drop] at hk
      have := hc _ q hk
      rw [show o + (lo + k) * 2 = o + lo * 2 + k * 2 by omega] at this
      exact this
/-- the cells of a call, whoever reads them -/
theorem RdO.at {w W : World} {a : Option Addr} {n c : Nat} {os : List (Nat × ByteArray)} (h : RdO w (.slice a n c) os) (hb : Below w.heap.size w W) {k : Nat} {q : Nat × ByteArray} (hk : os[k]? = some q) : ∃ g o, a = some ⟨g, o, none⟩ ∧ W.cell? ⟨g, o + k * 2, none⟩ = some (.int .u8 (q.1 : Int)) ∧ W.cell? ⟨g, o + k * 2 + 1, none⟩ = some (.string q.2) := by
  obtain ⟨_, _, e, hr⟩ := h.below (Nat.le_refl _) hb
  cases e
  obtain ⟨_, g, o, e, hg, hc⟩ := hr (fun e => by rw [e] at hk; cases hk)
  exact ⟨g, o, e, hc k q hk⟩
end Go.Proofs.Ytihagjkdghbkdaa
