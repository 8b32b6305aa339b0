/-
  The document's SameMarks of two lists that are the same. No conditions beyond.
-/
import Derived.Test.YtolafffpgkgadaaELoad
import Derived.Test.YtolafffpgkgadaaEIns
namespace Go.Proofs.Ytolafffpgkgadaa
open Go.RowKit

theorem mark_eq (x : Nat) (y : Int) (w : World) : (binOp .neq 26 (.agg #[.int .u8 (x : Int), .int .i64 y]) (.agg #[.int .u8 (x : Int), .int .i64 y])).run Try.prog w = .ok (.bool false) w := by simp [go_sem]
theorem drewN_below (n : Nat) (W : World) (m : Nat) : Below n W (W.drewN m) := ⟨rfl, rfl, rfl, Nat.le_refl _, fun _ _ => rfl⟩
set_option maxRecDepth 100000 in
set_option maxHeartbeats 1000000 in
theorem same_any {w : World} {a b : Option Addr} {N c1 c2 : Nat} {l : Ml} (hN : l.length = N) (hl : N ≤ 140737488351232) (h1 : RdK w (.slice a N c1) l) (h2 : RdK w (.slice b N c2) l) :
    Calls Try.prog 30 #[.slice a N c1, .slice b N c2] w fun e w' => e = .returned (.bool true) ∧ Below w.heap.size w w' := by
  have HR : Hid (∀ W', Below w.heap.size w W' → RdK W' (.slice a N c1) l ∧ RdK W' (.slice b N c2) l) := fun W' hb => ⟨h1.below (Nat.le_refl _) hb, h2.below (Nat.le_refl _) hb⟩
  have HF : Hid (l.length = N) := hN
  clear h1 h2 hN
  go_enter Try.func30, Try.ntmps30
  go_wp2
  go_loopw [5] (fun t5 wr => ∃ k : Nat, k ≤ N ∧ t5 = .int .i64 k ∧ Hid (Below w.heap.size w wr)) (fun t5 _ => N - (intOf t5).toNat)
  case atStart => exact ⟨0, Nat.zero_le _, rfl, Below.refl _ _⟩
  case round =>
    obtain ⟨k, hk, rfl, HB⟩ := hrel
    by_cases hlt : k < N
    · obtain ⟨p, hp⟩ : ∃ p, l[k]? = some p := ⟨l[k]'(by rw [HF.out]; exact hlt), List.getElem?_eq_getElem _⟩
      obtain ⟨⟨a', cap', ev, hrd⟩, ⟨b', cap2, ev2, hrd2⟩⟩ := HR.out _ HB.out
      cases ev
      cases ev2
      obtain ⟨g, o, rfl, hg, hcs⟩ := hrd (fun e => by rw [e] at hp; cases hp)
      obtain ⟨g2, o2, rfl, hg2, hcs2⟩ := hrd2 (fun e => by rw [e] at hp; cases hp)
      obtain ⟨y0, y1⟩ := hcs k p hp
      obtain ⟨z0, z1⟩ := hcs2 k p hp
      have he := mark_eq p.1 p.2
      have hlt' : (k : Int) < (l.length : Int) := by omega
      clear hrd hcs hrd2 hcs2 hp
      go_wp2
      go_quiet (fail)
      go_wp2
      exact ⟨⟨k + 1, by omega, by go_num, HB.out.trans (drewN_below _ _ _)⟩, by simp [intOf]; omega⟩
    · go_wp2
      go_ret
      exact ⟨rfl, HB.out⟩
end Go.Proofs.Ytolafffpgkgadaa
