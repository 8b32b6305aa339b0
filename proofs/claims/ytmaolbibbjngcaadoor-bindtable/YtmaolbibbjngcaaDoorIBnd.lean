/-
  Package bind's New, Prefix, Count, Reset, Clone and kindOf over a binder in memory. Conditions: the binder's block holds what waits; for kindOf those of single and behind.
-/
import Derived.Test.YtmaolbibbjngcaaDoorICmd
import Derived.Test.YtmaolbibbjngcaaDoorIBeh
namespace Go.Proofs.YtmaolbibbjngcaaDoor
open Go.RowKit

/-- a binder's block -/
def Bn (b : Nat) (s : Bs) (W : World) : Prop := W.heap[b]? = some (.cells (bsc s) 53 (0, 0))
theorem box3 {W : World} {b : Nat} {v0 v1 v2 : Value} {t : TypeId} (h : W.heap[b]? = some (.cells #[v0, v1, v2] t (0, 0))) :
    (W.cell? ⟨b, 0, none⟩ = some v0 ∧ W.cell? ⟨b, 1, none⟩ = some v1 ∧ W.cell? ⟨b, 2, none⟩ = some v2) ∧
    (W.frozen? ⟨b, 0, none⟩ = false ∧ W.frozen? ⟨b, 1, none⟩ = false ∧ W.frozen? ⟨b, 2, none⟩ = false) ∧ b < W.heap.size :=
  ⟨⟨by simp [World.cell?, h], by simp [World.cell?, h], by simp [World.cell?, h]⟩, ⟨by simp [World.frozen?, h], by simp [World.frozen?, h], by simp [World.frozen?, h]⟩, (Array.getElem?_eq_some_iff.1 h).1⟩
section
set_option maxRecDepth 100000
set_option maxHeartbeats 1000000
theorem pfx_any (b : Nat) (s : Bs) (w : World) (h : Bn b s w) : Calls Tryd.prog 18 #[.pointer (some ⟨b, 0, none⟩)] w fun e w' => e = .returned (.string s.px) ∧ w' = w := by
  obtain ⟨⟨c0, -, -⟩, -⟩ := box3 h
  clear h
  obtain ⟨px, n, has⟩ := s
  simp only at c0 ⊢
  go_enter Tryd.func18, Tryd.ntmps18
  go_wp2
  go_ret
  exact ⟨rfl, rfl⟩
theorem pfx_nil (w : World) : Calls Tryd.prog 18 #[.pointer none] w fun e w' => e = .returned (.string ⟨#[]⟩) ∧ w' = w := by
  go_enter Tryd.func18, Tryd.ntmps18
  go_wp2
  go_ret
  exact ⟨rfl, rfl⟩
theorem cnt_any (b : Nat) (s : Bs) (w : World) (h : Bn b s w) : Calls Tryd.prog 26 #[.pointer (some ⟨b, 0, none⟩)] w fun e w' => e = .returned (.tuple #[.int .i64 s.count, .bool s.has]) ∧ w' = w := by
  obtain ⟨⟨-, c1, c2⟩, -⟩ := box3 h
  clear h
  obtain ⟨px, n, has⟩ := s
  simp only [Bs.count] at c1 c2 ⊢
  cases has
  · go_enter Tryd.func26, Tryd.ntmps26
    go_wp2
    exact bodyPost_ret (v := .tuple #[.int .i64 1, .bool false]) (by simp [results, Tryd.results26, go_sem]) rfl ⟨rfl, rfl⟩
  · obtain ⟨x, hx⟩ : ∃ x, max n 1 = x := ⟨_, rfl⟩
    rw [if_pos rfl, hx]
    go_enter Tryd.func26, Tryd.ntmps26
    go_wp2
    exact bodyPost_ret (v := .tuple #[.int .i64 x, .bool true]) (by simp [results, Tryd.results26, go_sem]) rfl ⟨rfl, rfl⟩
theorem cnt_nil (w : World) : Calls Tryd.prog 26 #[.pointer none] w fun e w' => e = .returned (.tuple #[.int .i64 1, .bool false]) ∧ w' = w := by
  go_enter Tryd.func26, Tryd.ntmps26
  go_wp2
  exact bodyPost_ret (v := .tuple #[.int .i64 1, .bool false]) (by simp [results, Tryd.results26, go_sem]) rfl ⟨rfl, rfl⟩
theorem new_any (w : World) : Calls Tryd.prog 10 #[] w fun e w' => e = .returned (.pointer (some ⟨w.heap.size, 0, none⟩)) ∧ w' = w.alloc (.cells (bsc bsz) 53) := by
  go_enter Tryd.func10, Tryd.ntmps10
  go_wp2
  go_ret
  exact ⟨rfl, rfl⟩
theorem rst_nil (w : World) : Calls Tryd.prog 17 #[.pointer none] w fun e w' => e = .returned (.tuple #[]) ∧ w' = w := by
  go_enter Tryd.func17, Tryd.ntmps17
  go_wp2
  exact bodyPost_end (by simp [results, Tryd.results17, go_sem]) rfl ⟨rfl, rfl⟩
theorem rst_any (b : Nat) (s : Bs) (w : World) (h : Bn b s w) : Calls Tryd.prog 17 #[.pointer (some ⟨b, 0, none⟩)] w fun e w' => e = .returned (.tuple #[]) ∧ Bn b bsz w' ∧ w.grownBy w' (some b) := by
  obtain ⟨⟨c0, c1, c2⟩, ⟨f0, f1, f2⟩, -⟩ := box3 h
  have H : Hid (Bn b bsz (((w.setCell ⟨b, 0, none⟩ (.string ⟨#[]⟩)).setCell ⟨b, 1, none⟩ (.int .i64 0)).setCell ⟨b, 2, none⟩ (.bool false))) := set1 (.bool false) (set1 (.int .i64 0) (set1 (.string ⟨#[]⟩) h))
  clear h
  obtain ⟨px, n, has⟩ := s
  simp only at c0 c1 c2
  go_enter Tryd.func17, Tryd.ntmps17
  go_wp2
  exact bodyPost_end (v := .tuple #[]) (by simp [results, Tryd.results17, go_sem]) rfl ⟨rfl, H.out, grown2 (grown2 (gcell _ _ _ _) (gcell _ _ _ _)) (gcell _ _ _ _)⟩
theorem cln_any (b : Nat) (s : Bs) (w : World) (h : Bn b s w) : Calls Tryd.prog 12 #[.pointer (some ⟨b, 0, none⟩)] w fun e w' => e = .returned (.pointer (some ⟨w.heap.size, 0, none⟩)) ∧ w' = w.alloc (.cells (bsc s) 53) := by
  obtain ⟨⟨c0, c1, c2⟩, -, -⟩ := box3 h
  clear h
  obtain ⟨px, n, has⟩ := s
  simp only [bsc] at c0 c1 c2 ⊢
  go_enter Tryd.func12, Tryd.ntmps12
  go_wp2
  go_ret
  exact ⟨rfl, rfl⟩
theorem cln_nil (w : World) : Calls Tryd.prog 12 #[.pointer none] w fun e w' => e = .returned (.pointer none) ∧ w' = w := by
  go_enter Tryd.func12, Tryd.ntmps12
  go_wp2
  go_ret
  exact ⟨rfl, rfl⟩
theorem below_drew {w W : World} (h : Below w.heap.size w W) : Below w.heap.size w W.drew := ⟨h.os, h.tape, h.output, h.size, h.block⟩
theorem knd_any (b : Nat) (s : Bs) (k : Ky) (hk : k.Ok) (w : World) (hT : Tb w) (h : Bn b s w) (hp : s.px = ⟨#[]⟩ ∨ Pn s.px) : Calls Tryd.prog 31 #[.pointer (some ⟨b, 0, none⟩), kyv k] w fun e w' => e = .returned (.int .i64 (kinP s k)) ∧ Below w.heap.size w w' := by
  obtain ⟨⟨c0, -, -⟩, -, hb⟩ := box3 h
  have H0 : Hid (Kx w k (w.alloc (.cells (kyc k) 30))) := kx0 w k
  have HT : Hid (Tb w) := hT
  have HK : Hid k.Ok := hk
  clear h hT hk
  obtain ⟨px, n, has⟩ := s
  simp only at c0 hp
  obtain ⟨R, hR⟩ : ∃ R, kinP ⟨px, n, has⟩ k = R := ⟨_, rfl⟩
  rw [hR]
  rcases hp with rfl | hp
  · have CS : Hid (∀ W : World, Below w.heap.size w W → Calls Tryd.prog 41 #[kyv k] W fun e w' => e = .returned (.int .i64 R) ∧ Below W.heap.size W w') := fun W hW => by
      have := sin_any k HK.out W (HT.out.below hW)
      rw [show sinP k = R from hR] at this; exact this
    clear hR HT HK
    obtain ⟨a, c, ct, m, sh, tx⟩ := k
    unfold kyv at CS ⊢
    unfold kyc at H0
    go_enter Tryd.func31, Tryd.ntmps31
    go_wp2_with (go_at_call 41; refine (CS.out _ H0.out.bel).mono ?_; rintro e w1 ⟨rfl, hb1⟩)
    go_ret
    exact ⟨rfl, (H0.out.below hb1).bel⟩
  · have hne : ¬ px = ⟨#[]⟩ := by rcases hp with rfl | rfl | rfl | rfl <;> decide
    have CB : Hid (∀ W : World, Below w.heap.size w W → Calls Tryd.prog 42 #[.string px, kyv k] W fun e w' => e = .returned (.int .i64 R) ∧ Below W.heap.size W w') := fun W hW => by
      have := beh_any px hp k HK.out W (HT.out.below hW)
      rw [show behP px k = R by rw [← hR]; unfold kinP; rw [if_neg hne]] at this; exact this
    have n1 := inot_emp hne
    have n2 := inot_nil hne
    clear hR HT HK hp hne
    obtain ⟨a, c, ct, m, sh, tx⟩ := k
    unfold kyv at CB ⊢
    unfold kyc at H0
    go_enter Tryd.func31, Tryd.ntmps31
    go_wp2_with (fail)
    go_region_with (go_at_call 42; refine (CB.out _ (below_drew H0.out.bel)).mono ?_; rintro e w1 ⟨rfl, hb1⟩)
    all_goals
      go_wp2
      go_ret
      exact ⟨rfl, ibelow_on (below_drew H0.out.bel) hb1⟩
end
end Go.Proofs.YtmaolbibbjngcaaDoor
