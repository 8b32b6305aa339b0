/-
  The walk of the law StoreClones: a clone in the midst is like its store, and goes its own way. Conditions: the two tables of unicode/utf8 lie as their text lays them; what is read holds together at most 1048576 values and letters.
-/
import Derived.Test.YtkmihnjmchfopaaGreatDoorPkTI
import Derived.Test.YtkmihnjmchfopaaGreatDoorPkTG
namespace Go.Proofs.YtkmihnjmchfopaaGreatDoor.Sto
open Go.RowKit Go.Shelf Bod Wid
open Gap (Gp lim)

/-- what the two pairs have gone through: the calls and the letters of each -/
def Dz (w : World) (n z n2 z2 : Nat) (b rb b2 rb2 : Nat) (W : World) : Prop := ∃ p p2, Dd w b rb p n z b2 rb2 p2 n2 z2 W
set_option maxRecDepth 100000 in
set_option maxHeartbeats 2000000 in
theorem clones_walk (m : Mk) (l l2 : List Oc) (v v2 : Value) (hm : m.fit) (hl : ∀ x ∈ l, x.fit) (hl2 : ∀ x ∈ l2, x.fit) (hz : m.s.size + obk l + obk l2 ≤ 1048576) (w : World) (hE : Ev w) (hr : RdC w v l) (hr2 : RdC w v2 l2) :
    Calls Tryz.prog 6 #[.agg (mkv m), v, v2] w fun e W' => e = .returned (.bool true) ∧ Below w.heap.size w W' := by
  obtain ⟨W0, hW0⟩ : ∃ W0, w.alloc (.cells (mkv m) 44) = W0 := ⟨_, rfl⟩
  have hb0 : Below w.heap.size w W0 ∧ W0.heap[w.heap.size]? = some (.cells (mkv m) 44 (0, 0)) := by rw [← hW0]; exact ⟨(Below.refl _ w).alloc (Nat.le_refl _) _, World.alloc_heap_new w _⟩
  have HX : Hid (∀ W, Below W0.heap.size W0 W → W.cell? ⟨w.heap.size, 0, none⟩ = some (.int .i64 m.kd) ∧ W.cell? ⟨w.heap.size, 1, none⟩ = some (.int .i64 m.lo) ∧ W.cell? ⟨w.heap.size, 2, none⟩ = some (.int .i64 m.hi) ∧ W.cell? ⟨w.heap.size, 3, none⟩ = some (.int .i64 m.lm) ∧ W.cell? ⟨w.heap.size, 4, none⟩ = some (.string m.s)) := fun W hW => box5 ((hW.block _ (Array.getElem?_eq_some_iff.1 hb0.2).1).trans hb0.2)
  have HEnd : Hid (∀ W, Below W0.heap.size W0 W → Below w.heap.size w W) := fun W hW => Below.on hb0.1 hW
  have CF : Hid (Calls Tryz.prog 20 #[] W0 fun e W' => e = .returned (.bool true) ∧ Hid (Below W0.heap.size W0 W')) := fixed_any W0 (hE.below hb0.1)
  have on1 := obk_len l
  have on2 := obk_len l2
  by_cases hs : m.s.size ≤ lim m.lm
  · have CM : Hid (∀ W, Hid (Below W0.heap.size W0 W) → Calls Tryz.prog 21 #[.agg #[.int .i64 m.kd, .int .i64 m.lo, .int .i64 m.hi, .int .i64 m.lm, .string m.s]] W fun e W' => ∃ b rb, e = .returned (.tuple #[.pointer (some ⟨b, 0, none⟩), .pointer (some ⟨rb, 0, none⟩), .bool true]) ∧ Hid (∃ X p, Below w.heap.size w X ∧ Pq X b rb p 0 m.s.size W')) := fun W hW => by
      refine ((made_any W (hE.below (HEnd.out _ hW.out)) m hm).1 hs).mono ?_
      rintro e W' ⟨b, rb, q1, q2⟩
      obtain ⟨p, q3⟩ := md_pq hm q2
      exact ⟨b, rb, q1, W, p, HEnd.out _ hW.out, q3⟩
    obtain ⟨N, hN⟩ : ∃ N, 0 + l.length = N := ⟨_, rfl⟩
    obtain ⟨Z, hZ⟩ : ∃ Z, m.s.size + obk l = Z := ⟨_, rfl⟩
    have CP : Hid (∀ W b rb, Hid (∃ X p, Below w.heap.size w X ∧ Pq X b rb p 0 m.s.size W) → Calls Tryz.prog 23 #[.pointer (some ⟨b, 0, none⟩), .pointer (some ⟨rb, 0, none⟩), v] W fun e W' => e = .returned (.bool true) ∧ Hid (∃ X p, Below w.heap.size w X ∧ Pq X b rb p N Z W')) := fun W b rb ⟨X, p, q1, q2⟩ => by
      refine (play_pq q2 (hE.below q1) l (by omega) (by omega) hl v (hr.below (Nat.le_refl _) q1)).mono fun e W' ⟨e1, e2⟩ => ⟨e1, X, p, q1, ?_⟩
      rw [hN, hZ] at e2
      exact e2
    have C1 : Hid (∀ W b rb, Hid (∃ X p, Below w.heap.size w X ∧ Pq X b rb p N Z W) → Calls Tryz.prog 24 #[.pointer (some ⟨b, 0, none⟩)] W fun e W' => ∃ b2, e = .returned (.pointer (some ⟨b2, 0, none⟩)) ∧ Hid (∃ p, Md2 w b rb p N Z b2 W')) := fun W b rb ⟨X, p, q1, q2⟩ => (clone_pq q1 q2).mono fun e W' ⟨b2, e1, e2⟩ => ⟨b2, e1, p, e2⟩
    have C2 : Hid (∀ W b rb b2, Hid (∃ p, Md2 w b rb p N Z b2 W) → Calls Tryz.prog 25 #[.pointer (some ⟨rb, 0, none⟩)] W fun e W' => ∃ rb2, e = .returned (.pointer (some ⟨rb2, 0, none⟩)) ∧ Hid (Dz w N Z N Z b rb b2 rb2 W')) := fun W b rb b2 ⟨p, q⟩ => (clone_dd q).mono fun e W' ⟨rb2, p2, e1, e2⟩ => ⟨rb2, e1, p, p2, e2⟩
    have L1 : ∀ n z n2 z2 W b rb b2 rb2, Hid (Dz w n z n2 z2 b rb b2 rb2 W) → Calls Tryz.prog 22 #[.pointer (some ⟨b, 0, none⟩), .pointer (some ⟨rb, 0, none⟩)] W fun e W' => e = .returned (.bool true) ∧ Hid (Dz w n z n2 z2 b rb b2 rb2 W') := fun n z n2 z2 W b rb b2 rb2 ⟨p, p2, q⟩ => (looks_dd q hE).mono fun e W' ⟨e1, e2⟩ => ⟨e1, p, p2, e2⟩
    have L2 : ∀ n z n2 z2 W b rb b2 rb2, Hid (Dz w n z n2 z2 b rb b2 rb2 W) → Calls Tryz.prog 22 #[.pointer (some ⟨b2, 0, none⟩), .pointer (some ⟨rb2, 0, none⟩)] W fun e W' => e = .returned (.bool true) ∧ Hid (Dz w n z n2 z2 b rb b2 rb2 W') := fun n z n2 z2 W b rb b2 rb2 ⟨p, p2, q⟩ => (looks_dd q.symm hE).mono fun e W' ⟨e1, e2⟩ => ⟨e1, p, p2, e2.symm⟩
    obtain ⟨S0, hS0⟩ : ∃ S : Nat → Nat → Nat → Nat → World → Prop, S = Dz w N Z N Z := ⟨_, rfl⟩
    obtain ⟨S1, hS1⟩ : ∃ S : Nat → Nat → Nat → Nat → World → Prop, S = Dz w (N + l2.length) (Z + obk l2) N Z := ⟨_, rfl⟩
    obtain ⟨S2, hS2⟩ : ∃ S : Nat → Nat → Nat → Nat → World → Prop, S = Dz w (N + l2.length) (Z + obk l2) (N + l.length) (Z + obk l) := ⟨_, rfl⟩
    obtain ⟨S3, hS3⟩ : ∃ S : Nat → Nat → Nat → Nat → World → Prop, S = Dz w (N + l2.length) (Z + obk l2) (N + l.length + l2.length) (Z + obk l + obk l2) := ⟨_, rfl⟩
    have K0 : Hid (∀ W b rb b2 rb2, Hid (S0 b rb b2 rb2 W) → Calls Tryz.prog 22 #[.pointer (some ⟨b2, 0, none⟩), .pointer (some ⟨rb2, 0, none⟩)] W fun e W' => e = .returned (.bool true) ∧ Hid (S0 b rb b2 rb2 W')) := by rw [hS0]; exact L2 _ _ _ _
    have K1 : Hid (∀ W b rb b2 rb2, Hid (S1 b rb b2 rb2 W) → Calls Tryz.prog 22 #[.pointer (some ⟨b2, 0, none⟩), .pointer (some ⟨rb2, 0, none⟩)] W fun e W' => e = .returned (.bool true) ∧ Hid (S1 b rb b2 rb2 W')) := by rw [hS1]; exact L2 _ _ _ _
    have K2 : Hid (∀ W b rb b2 rb2, Hid (S2 b rb b2 rb2 W) → Calls Tryz.prog 22 #[.pointer (some ⟨b, 0, none⟩), .pointer (some ⟨rb, 0, none⟩)] W fun e W' => e = .returned (.bool true) ∧ Hid (S2 b rb b2 rb2 W')) := by rw [hS2]; exact L1 _ _ _ _
    have K3 : Hid (∀ W b rb b2 rb2, Hid (S3 b rb b2 rb2 W) → Calls Tryz.prog 22 #[.pointer (some ⟨b, 0, none⟩), .pointer (some ⟨rb, 0, none⟩)] W fun e W' => e = .returned (.bool true) ∧ Hid (S3 b rb b2 rb2 W')) := by rw [hS3]; exact L1 _ _ _ _
    have P0 : Hid (∀ W b rb b2 rb2, Hid (S0 b rb b2 rb2 W) → Calls Tryz.prog 23 #[.pointer (some ⟨b, 0, none⟩), .pointer (some ⟨rb, 0, none⟩), v2] W fun e W' => e = .returned (.bool true) ∧ Hid (S1 b rb b2 rb2 W')) := by
      rw [hS0, hS1]
      rintro W b rb b2 rb2 ⟨p, p2, q⟩
      exact (play_dd q hE l2 (by omega) (by omega) (by omega) hl2 v2 hr2).mono fun e W' ⟨e1, e2⟩ => ⟨e1, p, p2, e2⟩
    have P1 : Hid (∀ W b rb b2 rb2, Hid (S1 b rb b2 rb2 W) → Calls Tryz.prog 23 #[.pointer (some ⟨b2, 0, none⟩), .pointer (some ⟨rb2, 0, none⟩), v] W fun e W' => e = .returned (.bool true) ∧ Hid (S2 b rb b2 rb2 W')) := by
      rw [hS1, hS2]
      rintro W b rb b2 rb2 ⟨p, p2, q⟩
      exact (play_dd q.symm hE l (by omega) (by omega) (by omega) hl v hr).mono fun e W' ⟨e1, e2⟩ => ⟨e1, p, p2, e2.symm⟩
    have P2 : Hid (∀ W b rb b2 rb2, Hid (S2 b rb b2 rb2 W) → Calls Tryz.prog 23 #[.pointer (some ⟨b2, 0, none⟩), .pointer (some ⟨rb2, 0, none⟩), v2] W fun e W' => e = .returned (.bool true) ∧ Hid (S3 b rb b2 rb2 W')) := by
      rw [hS2, hS3]
      rintro W b rb b2 rb2 ⟨p, p2, q⟩
      exact (play_dd q.symm hE l2 (by omega) (by omega) (by omega) hl2 v2 hr2).mono fun e W' ⟨e1, e2⟩ => ⟨e1, p, p2, e2.symm⟩
    have HF : Hid (∀ W b rb b2 rb2, Hid (S3 b rb b2 rb2 W) → Below w.heap.size w W) := by
      rw [hS3]
      rintro W b rb b2 rb2 ⟨p, p2, q⟩
      exact q.bel
    rw [← hS0] at C2
    obtain ⟨c0, c1, c2, c3, c4⟩ := HX.out W0 (Below.refl _ _)
    unfold mkv at hW0 ⊢
    clear hb0 hE hm hs hl hl2 hz hr hr2 HEnd L1 L2 hS0 hS1 hS2 hS3 hN hZ on1 on2
    go_enter Tryz.func6, Tryz.ntmps6
    go_wp2_with (first
      | (go_at_call 20; refine CF.out.mono ?_; clear CF c0 c1 c2 c3 c4 hW0; rintro e w1 ⟨rfl, HB⟩; obtain ⟨c0, c1, c2, c3, c4⟩ := HX.out _ HB.out)
      | (go_at_call 21; refine (CM.out _ HB).mono ?_; clear CM HB c0 c1 c2 c3 c4 HX; rintro e w2 ⟨b, rb, rfl, HM⟩)
      | (go_at_call 23; refine (CP.out _ _ _ HM).mono ?_; clear CP HM; rintro e w3 ⟨rfl, HM2⟩)
      | (go_at_call 24; refine (C1.out _ _ _ HM2).mono ?_; clear C1 HM2; rintro e w4 ⟨b2, rfl, HM3⟩)
      | (go_at_call 25; refine (C2.out _ _ _ _ HM3).mono ?_; clear C2 HM3; rintro e w5 ⟨rb2, rfl, H0⟩)
      | (go_at_call 22; refine (K0.out _ _ _ _ _ H0).mono ?_; clear K0 H0; rintro e w6 ⟨rfl, H0⟩)
      | (go_at_call 23; refine (P0.out _ _ _ _ _ H0).mono ?_; clear P0 H0; rintro e w7 ⟨rfl, H1⟩)
      | (go_at_call 22; refine (K1.out _ _ _ _ _ H1).mono ?_; clear K1 H1; rintro e w8 ⟨rfl, H1⟩)
      | (go_at_call 23; refine (P1.out _ _ _ _ _ H1).mono ?_; clear P1 H1; rintro e w9 ⟨rfl, H2⟩)
      | (go_at_call 22; refine (K2.out _ _ _ _ _ H2).mono ?_; clear K2 H2; rintro e w10 ⟨rfl, H2⟩)
      | (go_at_call 23; refine (P2.out _ _ _ _ _ H2).mono ?_; clear P2 H2; rintro e w11 ⟨rfl, H3⟩)
      | (go_at_call 22; refine (K3.out _ _ _ _ _ H3).mono ?_; clear K3 H3; rintro e w12 ⟨rfl, H3⟩))
    go_ret
    exact ⟨rfl, HF.out _ _ _ _ _ H3⟩
  · have CM : Hid (∀ W, Hid (Below W0.heap.size W0 W) → Calls Tryz.prog 21 #[.agg #[.int .i64 m.kd, .int .i64 m.lo, .int .i64 m.hi, .int .i64 m.lm, .string m.s]] W fun e W' => e = .returned (.tuple #[.pointer none, .pointer none, .bool true]) ∧ Hid (Below w.heap.size w W')) := fun W hW => by
      refine ((made_any W (hE.below (HEnd.out _ hW.out)) m hm).2 hs).mono ?_
      rintro e W' ⟨q1, q2⟩
      exact ⟨q1, Below.on (HEnd.out _ hW.out) q2⟩
    obtain ⟨c0, c1, c2, c3, c4⟩ := HX.out W0 (Below.refl _ _)
    unfold mkv at hW0 ⊢
    clear hb0 hE hm hs hl hl2 hz hr hr2 HEnd on1 on2
    go_enter Tryz.func6, Tryz.ntmps6
    go_wp2_with (first
      | (go_at_call 20; refine CF.out.mono ?_; clear CF c0 c1 c2 c3 c4 hW0; rintro e w1 ⟨rfl, HB⟩; obtain ⟨c0, c1, c2, c3, c4⟩ := HX.out _ HB.out)
      | (go_at_call 21; refine (CM.out _ HB).mono ?_; clear CM HB c0 c1 c2 c3 c4 HX; rintro e w2 ⟨rfl, HB⟩))
    go_ret
    exact ⟨rfl, HB.out⟩
end Go.Proofs.YtkmihnjmchfopaaGreatDoor.Sto
namespace Go.Proofs.YtkmihnjmchfopaaGreatDoor.storeClones
open Go.RowKit Go.Shelf Sto
theorem walk_of {H : Type} {d0 d1 d2 : DataW H} (m : Sto.Mk) (a1 : Option Addr) (len1 cap1 : Nat) (a2 : Option Addr) (len2 cap2 : Nat) (w : World) (hT : Lib.Utf8Tabs 1 2 w) (hlo0 : 1 < w.heap.size) (hlo1 : 2 < w.heap.size) (hm : m.fit ∧ m.s.size + 5 ≤ Rows.uptoBulk d0) (l : List Oc) (hr : RdC w (.slice a1 len1 cap1) l) (hl : obk l ≤ Rows.uptoBulk d1 ∧ ∀ x ∈ l, x.fit) (l2 : List Oc) (hr2 : RdC w (.slice a2 len2 cap2) l2) (hl2 : obk l2 ≤ Rows.uptoBulk d2 ∧ ∀ x ∈ l2, x.fit) (hk : Rows.uptoSmall H ([d0, d1, d2] ++ []) = true) :
    Calls Tryz.prog 6 #[.agg (mkv m), .slice a1 len1 cap1, .slice a2 len2 cap2] w fun e W' => e = .returned (.bool true) ∧ Below w.heap.size w W' := by
  have h : Rows.uptoBulkAll ([d0, d1, d2] ++ []) ≤ 1048576 := of_decide_eq_true hk
  simp only [List.append_nil, Rows.uptoBulkAll] at h
  exact clones_walk m l l2 _ _ hm.1 hl.2 hl2.2 (by have := hm.2; have := hl.1; have := hl2.1; omega) w ⟨hT, hlo0, hlo1⟩ hr hr2
end Go.Proofs.YtkmihnjmchfopaaGreatDoor.storeClones
