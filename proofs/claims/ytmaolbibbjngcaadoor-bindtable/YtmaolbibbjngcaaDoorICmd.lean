/-
  Package bind's command: what IMath tells of a key. Conditions: the key's Char is a number of 32 bits, its Text no longer than a text may be.
-/
import Derived.Test.YtmaolbibbjngcaaDoorITbl
namespace Go.Proofs.YtmaolbibbjngcaaDoor
open Go.RowKit

theorem ret_agg {a b : Array Value} (h : a = b) : Ending.returned (.agg a) = .returned (.agg b) := by rw [h]
/-- command's boxes: the answer's, still zero, and the one of the command under way -/
structure Cx (w : World) (k : Ky) (c : Cm) (W : World) : Prop where
  kx : Kx w k W
  rs : W.heap[w.heap.size + 1]? = some (.cells (cmc cmz) 34 (0, 0))
  bx : W.heap[w.heap.size + 1 + 1]? = some (.cells (cmc c) 34 (0, 0))
theorem Cx.below {w W X : World} {k : Ky} {c : Cm} (h : Cx w k c W) (hb : Below W.heap.size W X) : Cx w k c X :=
  ⟨h.kx.below hb, (hb.block _ (Array.getElem?_eq_some_iff.1 h.rs).1).trans h.rs, (hb.block _ (Array.getElem?_eq_some_iff.1 h.bx).1).trans h.bx⟩
theorem cx0 (w : World) (k : Ky) (c : Cm) : Cx w k c (((w.alloc (.cells (kyc k) 30)).alloc (.cells (cmc cmz) 34)).alloc (.cells (cmc c) 34)) := by
  have e1 : (w.alloc (.cells (kyc k) 30)).heap.size = w.heap.size + 1 := by simp
  have e2 : ((w.alloc (.cells (kyc k) 30)).alloc (.cells (cmc cmz) 34)).heap.size = w.heap.size + 1 + 1 := by simp
  refine ⟨((kx0 w k).alloc _).alloc _, ?_, ?_⟩
  · rw [Below.heap_alloc _ _ _ (by simp)]
    have := World.alloc_heap_new (w.alloc (.cells (kyc k) 30)) (.cells (cmc cmz) 34)
    rwa [e1] at this
  · have := World.alloc_heap_new ((w.alloc (.cells (kyc k) 30)).alloc (.cells (cmc cmz) 34)) (.cells (cmc c) 34)
    rwa [e2] at this
theorem Cx.fin {w W : World} {k : Ky} {c : Cm} (h : Cx w k c W) (u0 u1 u2 u3 : Value) : let W' := (((W.setCell ⟨w.heap.size + 1, 0, none⟩ u0).setCell ⟨w.heap.size + 1, 1, none⟩ u1).setCell ⟨w.heap.size + 1, 2, none⟩ u2).setCell ⟨w.heap.size + 1, 3, none⟩ u3
    Below w.heap.size w W' ∧ (W'.cell? ⟨w.heap.size + 1, 0, none⟩ = some u0 ∧ W'.cell? ⟨w.heap.size + 1, 1, none⟩ = some u1 ∧ W'.cell? ⟨w.heap.size + 1, 2, none⟩ = some u2 ∧ W'.cell? ⟨w.heap.size + 1, 3, none⟩ = some u3) :=
  ⟨(((h.kx.bel.setCell (Nat.le_succ _) _).setCell (Nat.le_succ _) _).setCell (Nat.le_succ _) _).setCell (Nat.le_succ _) _, (box4 (set4 h.rs)).1⟩
theorem iset_ne {W : World} {b i c : Nat} {u : Value} (h : b ≠ c) : (W.setCell ⟨b, i, none⟩ u).heap[c]? = W.heap[c]? := by
  unfold World.setCell; simp only; rw [Array.getElem?_modify, if_neg h]
theorem Cx.set2 {w W : World} {k : Ky} {c : Cm} (h : Cx w k c W) (s : ByteArray) : Cx w k ⟨c.kd, c.n, s, c.mr⟩ (W.setCell ⟨w.heap.size + 1 + 1, 2, none⟩ (.string s)) :=
  ⟨⟨h.kx.bel.setCell (by show _ ≤ w.heap.size + 1 + 1; omega) _, (iset_ne (by omega)).trans h.kx.bx⟩, (iset_ne (by omega)).trans h.rs, set1 (.string s) h.bx⟩
theorem Cx.set3 {w W : World} {k : Ky} {c : Cm} (h : Cx w k c W) (x : Int) : Cx w k ⟨c.kd, c.n, c.tx, x⟩ (W.setCell ⟨w.heap.size + 1 + 1, 3, none⟩ (.int .u8 x)) :=
  ⟨⟨h.kx.bel.setCell (by show _ ≤ w.heap.size + 1 + 1; omega) _, (iset_ne (by omega)).trans h.kx.bx⟩, (iset_ne (by omega)).trans h.rs, set1 (.int .u8 x) h.bx⟩
section
set_option maxRecDepth 100000
set_option maxHeartbeats 2000000
theorem cmd_ta (k : Ky) (hk : k.Ok) (w : World) : Calls Tryd.prog 30 #[.int .i64 1, kyv k] w fun e w' => e = .returned (.agg (cmc ⟨1, 1, ownP k, 0⟩)) ∧ Below w.heap.size w w' := by
  have H0 : Hid (Cx w k ⟨1, 1, ⟨#[]⟩, 0⟩ (((w.alloc (.cells (kyc k) 30)).alloc (.cells (cmc cmz) 34)).alloc (.cells (cmc ⟨1, 1, ⟨#[]⟩, 0⟩) 34))) := cx0 w k _
  obtain ⟨S, hS⟩ : ∃ S, ownP k = S := ⟨_, rfl⟩
  rw [hS]
  have CO : Hid (∀ W : World, Calls Tryd.prog 40 #[kyv k] W fun e w' => e = .returned (.string S) ∧ Below W.heap.size W w') := fun W => by have := own_any k hk W; rw [hS] at this; exact this
  clear hS hk
  obtain ⟨a, c, ct, m, sh, tx⟩ := k
  unfold kyv at CO ⊢
  unfold kyc cmc cmz at H0
  unfold cmc
  go_enter Tryd.func30, Tryd.ntmps30
  go_wp2_with (go_at_call 40; refine (CO.out _).mono ?_; clear CO; rintro e w1 ⟨rfl, hb⟩; have H1 : Hid (Cx w _ _ w1) := H0.out.below hb; clear hb H0; obtain ⟨⟨z0, z1, z2, z3⟩, ⟨f0, f1, f2, f3⟩⟩ := box4 H1.out.bx; obtain ⟨⟨r0, r1, r2, r3⟩, ⟨s0, s1, s2, s3⟩⟩ := box4 H1.out.rs)
  obtain ⟨q, q0, q1, q2, q3⟩ := (H1.out.set2 S).fin (.int .i64 1) (.int .i64 1) (.string S) (.int .u8 0)
  exact bodyPost_ret (v := .agg #[.int .i64 1, .int .i64 1, .string S, .int .u8 0]) (by simp [results, Tryd.results30, go_sem, q0, q1, q2, q3]) rfl ⟨rfl, q⟩
theorem cmd_tb (k : Ky) (hk : k.Ok) (w : World) : Calls Tryd.prog 30 #[.int .i64 39, kyv k] w fun e w' => e = .returned (.agg (cmc ⟨39, 1, ownP k, 0⟩)) ∧ Below w.heap.size w w' := by
  have H0 : Hid (Cx w k ⟨39, 1, ⟨#[]⟩, 0⟩ (((w.alloc (.cells (kyc k) 30)).alloc (.cells (cmc cmz) 34)).alloc (.cells (cmc ⟨39, 1, ⟨#[]⟩, 0⟩) 34))) := cx0 w k _
  obtain ⟨S, hS⟩ : ∃ S, ownP k = S := ⟨_, rfl⟩
  rw [hS]
  have CO : Hid (∀ W : World, Calls Tryd.prog 40 #[kyv k] W fun e w' => e = .returned (.string S) ∧ Below W.heap.size W w') := fun W => by have := own_any k hk W; rw [hS] at this; exact this
  clear hS hk
  obtain ⟨a, c, ct, m, sh, tx⟩ := k
  unfold kyv at CO ⊢
  unfold kyc cmc cmz at H0
  unfold cmc
  go_enter Tryd.func30, Tryd.ntmps30
  go_wp2_with (go_at_call 40; refine (CO.out _).mono ?_; clear CO; rintro e w1 ⟨rfl, hb⟩; have H1 : Hid (Cx w _ _ w1) := H0.out.below hb; clear hb H0; obtain ⟨⟨z0, z1, z2, z3⟩, ⟨f0, f1, f2, f3⟩⟩ := box4 H1.out.bx; obtain ⟨⟨r0, r1, r2, r3⟩, ⟨s0, s1, s2, s3⟩⟩ := box4 H1.out.rs)
  obtain ⟨q, q0, q1, q2, q3⟩ := (H1.out.set2 S).fin (.int .i64 39) (.int .i64 1) (.string S) (.int .u8 0)
  exact bodyPost_ret (v := .agg #[.int .i64 39, .int .i64 1, .string S, .int .u8 0]) (by simp [results, Tryd.results30, go_sem, q0, q1, q2, q3]) rfl ⟨rfl, q⟩
theorem cmd_ma (k : Ky) (w : World) : Calls Tryd.prog 30 #[.int .i64 29, kyv k] w fun e w' => e = .returned (.agg (cmc ⟨29, 1, ⟨#[]⟩, IntKind.u8.wrap k.ch⟩)) ∧ Below w.heap.size w w' := by
  obtain ⟨a, c, ct, m, sh, tx⟩ := k
  unfold kyv
  simp only
  obtain ⟨x, hx⟩ : ∃ x, IntKind.u8.wrap c = x := ⟨_, rfl⟩
  rw [hx]
  unfold cmc
  go_enter Tryd.func30, Tryd.ntmps30
  go_wp2
  exact bodyPost_ret (v := .agg #[.int .i64 29, .int .i64 1, .string ⟨#[]⟩, .int .u8 x]) (by simp [results, Tryd.results30, go_sem]) rfl ⟨rfl, (((Below.refl _ w).alloc (Nat.le_refl _) _).alloc (by simp) _).alloc (by simp; omega) _⟩
theorem cmd_mb (k : Ky) (w : World) : Calls Tryd.prog 30 #[.int .i64 30, kyv k] w fun e w' => e = .returned (.agg (cmc ⟨30, 1, ⟨#[]⟩, IntKind.u8.wrap k.ch⟩)) ∧ Below w.heap.size w w' := by
  obtain ⟨a, c, ct, m, sh, tx⟩ := k
  unfold kyv
  simp only
  obtain ⟨x, hx⟩ : ∃ x, IntKind.u8.wrap c = x := ⟨_, rfl⟩
  rw [hx]
  unfold cmc
  go_enter Tryd.func30, Tryd.ntmps30
  go_wp2
  exact bodyPost_ret (v := .agg #[.int .i64 30, .int .i64 1, .string ⟨#[]⟩, .int .u8 x]) (by simp [results, Tryd.results30, go_sem]) rfl ⟨rfl, (((Below.refl _ w).alloc (Nat.le_refl _) _).alloc (by simp) _).alloc (by simp; omega) _⟩
theorem cmd_n (k : Ky) (w : World) (kd : Int) (h1 : ¬ kd = 1) (h2 : ¬ kd = 39) (h3 : ¬ kd = 29) (h4 : ¬ kd = 30) : Calls Tryd.prog 30 #[.int .i64 kd, kyv k] w fun e w' => e = .returned (.agg (cmc ⟨kd, 1, ⟨#[]⟩, 0⟩)) ∧ Below w.heap.size w w' := by
  have e1 : (kd == 1) = false := by simp [h1]
  have e2 : (kd == 39) = false := by simp [h2]
  have e3 : (kd == 29) = false := by simp [h3]
  have e4 : (kd == 30) = false := by simp [h4]
  obtain ⟨a, c, ct, m, sh, tx⟩ := k
  unfold kyv cmc
  go_enter Tryd.func30, Tryd.ntmps30
  go_wp2
  exact bodyPost_ret (v := .agg #[.int .i64 kd, .int .i64 1, .string ⟨#[]⟩, .int .u8 0]) (by simp [results, Tryd.results30, go_sem]) rfl ⟨rfl, (((Below.refl _ w).alloc (Nat.le_refl _) _).alloc (by simp) _).alloc (by simp; omega) _⟩
end
theorem cmd_any (k : Ky) (hk : k.Ok) (w : World) (kd : Int) : Calls Tryd.prog 30 #[.int .i64 kd, kyv k] w fun e w' => e = .returned (.agg (cmc (cmdP kd k))) ∧ Below w.heap.size w w' := by
  unfold cmdP
  by_cases h1 : kd = 1
  · subst h1; exact cmd_ta k hk w
  by_cases h2 : kd = 39
  · subst h2; exact cmd_tb k hk w
  by_cases h3 : kd = 29
  · subst h3; exact cmd_ma k w
  by_cases h4 : kd = 30
  · subst h4; exact cmd_mb k w
  rw [if_neg (by omega), if_neg (by omega)]
  exact cmd_n k w kd h1 h2 h3 h4
end Go.Proofs.YtmaolbibbjngcaaDoor
