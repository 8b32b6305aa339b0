/-
  The document's own Key of layer 19: any key. Conditions: the binder's block holds what waits.
-/
import Derived.Test.YtmaolbibbjngcaaDoorIRkd
import Derived.Test.YtmaolbibbjngcaaDoorIRkp
import Derived.Test.YtmaolbibbjngcaaDoorIRkz
import Derived.Test.YtmaolbibbjngcaaDoorIRkw
import Derived.Test.YtmaolbibbjngcaaDoorIRkv
namespace Go.Proofs.YtmaolbibbjngcaaDoor
open Go.RowKit
section
set_option maxRecDepth 100000
set_option maxHeartbeats 2000000
theorem rky_any (b : Nat) (s : Bs) (hs : s.Ok) (k : Ky) (hk : k.Ok) (w : World) (h : Rn b s w) : Calls Tryd.prog 16 #[.pointer (some ⟨b, 0, none⟩), kyv k] w fun e w' => e = .returned (.tuple #[.agg (cmc (keyP s k).1), .bool (keyP s k).2.1]) ∧ Rn b (keyP s k).2.2 w' ∧ w.grownBy w' (some b) := by
  have hd := digR_eq k s.has
  have hp := preR_eq k
  unfold keyP waiP
  rcases hs.p with e | e
  · rw [if_pos e]
    cases hx : digR k s.has with
    | true =>
      rw [hx] at hd
      rw [← hd, if_pos rfl]
      exact rky_dg b s hs k w h e hx
    | false =>
      rw [hx] at hd
      rw [← hd, if_neg (fun e => Bool.noConfusion e), ← hp]
      by_cases hq : preR k = ⟨#[]⟩
      · rw [if_pos hq]
        exact rky_sg b s k hk w h e hx hq
      · rw [if_neg hq]
        exact rky_pf b s k w h e hx hq
  · rw [if_neg (by rcases e with e | e | e | e <;> rw [e] <;> decide)]
    rcases e with e | e | e | e
    · exact rky_qu b s k hk w h e
    · exact rky_se b s k w h (.inl e)
    · exact rky_se b s k w h (.inr (.inl e))
    · exact rky_se b s k w h (.inr (.inr e))
end
end Go.Proofs.YtmaolbibbjngcaaDoor
