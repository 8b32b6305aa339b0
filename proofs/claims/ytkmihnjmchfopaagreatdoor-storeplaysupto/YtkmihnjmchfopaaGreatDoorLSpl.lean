/-
  The walk of the law StorePlays: every call on a store of any make, in every order, as the document says. Conditions: the two tables of unicode/utf8 lie as their text lays them; what is read holds together at most 1048576 values and letters.
-/
import Derived.Test.YtkmihnjmchfopaaGreatDoorPkTG
import Derived.Test.YtkmihnjmchfopaaGreatDoorPkTE
namespace Go.Proofs.YtkmihnjmchfopaaGreatDoor.Sto
open Go.RowKit Go.Shelf Bod Wid
open Gap (Gp lim)

theorem lim_le (n : Int) : lim n ≤ 1073741824 := by unfold lim; omega
/-- the document's numbers of a new store are the store's own -/
theorem rnw_of (kd lo hi : Int) (l z : Nat) : rnwK kd lo hi z = rkOf (nwB kd lo hi l z) (nwK kd lo hi l) := by
  unfold rnwK rkOf nwB misK
  have e1 : kdK (nwK kd lo hi l) = if kd = 1 ∨ kd = 2 then kd else 3 := rfl
  have e2 : loK (nwK kd lo hi l) = min (max lo 0) 1073741824 := rfl
  have e3 : hiK (nwK kd lo hi l) = max hi (min (max lo 0) 1073741824 + 1) := rfl
  have e4 : (Tx.or none).bk = 1 := rfl
  rw [e1, e2, e3, e4, if_pos rfl]
  generalize max hi (min (max lo 0) 1073741824 + 1) = H
  by_cases c1 : kd = 1
  · subst c1; simp [nwK]
  · by_cases c2 : kd = 2
    · subst c2; simp [nwK]
    · have c3 : ¬ (kd = 1 ∨ kd = 2) := by omega
      rw [if_neg c3]
      by_cases c4 : H ≤ (z : Int)
      · simp [c1, c2, c4, nwK]
      · simp [c2, c4, nwK]
theorem md_pq {w W : World} {m : Mk} {b rb : Nat} (hm : m.fit) (h : Md w m b rb W) : ∃ p, Pq w b rb p 0 m.s.size W := by
  obtain ⟨h1, p, h2, h3, h4⟩ := h
  have e := rnw_of m.kd m.lo m.hi (lim m.lm) m.s.size
  refine ⟨p, m.s, _, _, _, _, ⟨rfl, by simp [nwK], e, ⟨⟨hm.2.2.1.2, hm.2.2.1.1, hm.2.1.2, hm.2.1.1⟩, Int.le_refl _, by simp [nwK], Int.le_refl _, by simp [nwK], Int.le_refl _, by simp [nwK]⟩, Nat.le_refl _, h1.bk12⟩, h2.ok, h1, h2, h3, h4, .refl W⟩
set_option maxRecDepth 100000 in
set_option maxHeartbeats 1000000 in
theorem plays_walk (m : Mk) (l : List Oc) (v : Value) (hm : m.fit) (hl : ∀ x ∈ l, x.fit) (hz : m.s.size + obk l ≤ 1048576) (w : World) (hE : Ev w) (hr : RdC w v l) :
    Calls Tryz.prog 5 #[.agg (mkv m), v] w fun e W' => e = .returned (.bool true) ∧ Below w.heap.size w W' := by
  obtain ⟨W0, hW0⟩ : ∃ W0, w.alloc (.cells (mkv m) 44) = W0 := ⟨_, rfl⟩
  have hb0 : Below w.heap.size w W0 ∧ W0.heap[w.heap.size]? = some (.cells (mkv m) 44 (0, 0)) := by rw [← hW0]; exact ⟨(Below.refl _ w).alloc (Nat.le_refl _) _, World.alloc_heap_new w _⟩
  have HX : Hid (∀ W, Below W0.heap.size W0 W → W.cell? ⟨w.heap.size, 0, none⟩ = some (.int .i64 m.kd) ∧ W.cell? ⟨w.heap.size, 1, none⟩ = some (.int .i64 m.lo) ∧ W.cell? ⟨w.heap.size, 2, none⟩ = some (.int .i64 m.hi) ∧ W.cell? ⟨w.heap.size, 3, none⟩ = some (.int .i64 m.lm) ∧ W.cell? ⟨w.heap.size, 4, none⟩ = some (.string m.s)) := fun W hW => box5 ((hW.block _ (Array.getElem?_eq_some_iff.1 hb0.2).1).trans hb0.2)
  have HEnd : Hid (∀ W, Below W0.heap.size W0 W → Below w.heap.size w W) := fun W hW => Below.on hb0.1 hW
  have CF : Hid (Calls Tryz.prog 20 #[] W0 fun e W' => e = .returned (.bool true) ∧ Hid (Below W0.heap.size W0 W')) := fixed_any W0 (hE.below hb0.1)
  by_cases hs : m.s.size ≤ lim m.lm
  · have CM : Hid (∀ W, Hid (Below W0.heap.size W0 W) → Calls Tryz.prog 21 #[.agg #[.int .i64 m.kd, .int .i64 m.lo, .int .i64 m.hi, .int .i64 m.lm, .string m.s]] W fun e W' => ∃ b rb, e = .returned (.tuple #[.pointer (some ⟨b, 0, none⟩), .pointer (some ⟨rb, 0, none⟩), .bool true]) ∧ Hid (∃ X p, Below w.heap.size w X ∧ Pq X b rb p 0 m.s.size W')) := fun W hW => by
      refine ((made_any W (hE.below (HEnd.out _ hW.out)) m hm).1 hs).mono ?_
      rintro e W' ⟨b, rb, q1, q2⟩
      obtain ⟨p, q3⟩ := md_pq hm q2
      exact ⟨b, rb, q1, W, p, HEnd.out _ hW.out, q3⟩
    have CL : Hid (∀ W b rb, Hid (∃ X p, Below w.heap.size w X ∧ Pq X b rb p 0 m.s.size W) → Calls Tryz.prog 22 #[.pointer (some ⟨b, 0, none⟩), .pointer (some ⟨rb, 0, none⟩)] W fun e W' => e = .returned (.bool true) ∧ Hid (∃ X p, Below w.heap.size w X ∧ Pq X b rb p 0 m.s.size W')) := fun W b rb ⟨X, p, q1, q2⟩ => (looks_pq q2).mono fun e W' ⟨e1, e2⟩ => ⟨e1, X, p, q1, e2⟩
    have CP : Hid (∀ W b rb, Hid (∃ X p, Below w.heap.size w X ∧ Pq X b rb p 0 m.s.size W) → Calls Tryz.prog 23 #[.pointer (some ⟨b, 0, none⟩), .pointer (some ⟨rb, 0, none⟩), v] W fun e W' => e = .returned (.bool true) ∧ Hid (Below w.heap.size w W')) := fun W b rb ⟨X, p, q1, q2⟩ => by
      refine (play_pq q2 (hE.below q1) l (by have := obk_len l; omega) hz hl v (hr.below (Nat.le_refl _) q1)).mono fun e W' ⟨e1, e2⟩ => ⟨e1, ?_⟩
      exact Below.on q1 e2.bel
    obtain ⟨c0, c1, c2, c3, c4⟩ := HX.out W0 (Below.refl _ _)
    unfold mkv at hW0 ⊢
    clear hb0 hE hm hs hl hz hr HEnd
    go_enter Tryz.func5, Tryz.ntmps5
    go_wp2_with (first
      | (go_at_call 20; refine CF.out.mono ?_; clear CF c0 c1 c2 c3 c4 hW0; rintro e w1 ⟨rfl, HB⟩; obtain ⟨c0, c1, c2, c3, c4⟩ := HX.out _ HB.out)
      | (go_at_call 21; refine (CM.out _ HB).mono ?_; clear CM HB c0 c1 c2 c3 c4 HX; rintro e w2 ⟨b, rb, rfl, HB⟩)
      | (go_at_call 22; refine (CL.out _ _ _ HB).mono ?_; clear CL HB; rintro e w3 ⟨rfl, HB⟩)
      | (go_at_call 23; refine (CP.out _ _ _ HB).mono ?_; clear CP HB; rintro e w4 ⟨rfl, HB⟩))
    go_ret
    exact ⟨rfl, HB.out⟩
  · have CM : Hid (∀ W, Hid (Below W0.heap.size W0 W) → Calls Tryz.prog 21 #[.agg #[.int .i64 m.kd, .int .i64 m.lo, .int .i64 m.hi, .int .i64 m.lm, .string m.s]] W fun e W' => e = .returned (.tuple #[.pointer none, .pointer none, .bool true]) ∧ Hid (Below w.heap.size w W')) := fun W hW => by
      refine ((made_any W (hE.below (HEnd.out _ hW.out)) m hm).2 hs).mono ?_
      rintro e W' ⟨q1, q2⟩
      exact ⟨q1, Below.on (HEnd.out _ hW.out) q2⟩
    obtain ⟨c0, c1, c2, c3, c4⟩ := HX.out W0 (Below.refl _ _)
    unfold mkv at hW0 ⊢
    clear hb0 hE hm hs hl hz hr HEnd
    go_enter Tryz.func5, Tryz.ntmps5
    go_wp2_with (first
      | (go_at_call 20; refine CF.out.mono ?_; clear CF c0 c1 c2 c3 c4 hW0; rintro e w1 ⟨rfl, HB⟩; obtain ⟨c0, c1, c2, c3, c4⟩ := HX.out _ HB.out)
      | (go_at_call 21; refine (CM.out _ HB).mono ?_; clear CM HB c0 c1 c2 c3 c4 HX; rintro e w2 ⟨rfl, HB⟩))
    go_ret
    exact ⟨rfl, HB.out⟩
end Go.Proofs.YtkmihnjmchfopaaGreatDoor.Sto
namespace Go.Proofs.YtkmihnjmchfopaaGreatDoor.storePlays
open Go.RowKit Go.Shelf Sto
theorem walk_of {H : Type} {d0 d1 : DataW H} (m : Sto.Mk) (a1 : Option Addr) (len1 cap1 : Nat) (w : World) (hT : Lib.Utf8Tabs 1 2 w) (hlo0 : 1 < w.heap.size) (hlo1 : 2 < w.heap.size) (hm : m.fit ∧ m.s.size + 5 ≤ Rows.uptoBulk d0) (l : List Oc) (hr : RdC w (.slice a1 len1 cap1) l) (hl : obk l ≤ Rows.uptoBulk d1 ∧ ∀ x ∈ l, x.fit) (hk : Rows.uptoSmall H ([d0, d1] ++ []) = true) :
    Calls Tryz.prog 5 #[.agg (mkv m), .slice a1 len1 cap1] w fun e W' => e = .returned (.bool true) ∧ Below w.heap.size w W' := by
  have h : Rows.uptoBulkAll ([d0, d1] ++ []) ≤ 1048576 := of_decide_eq_true hk
  simp only [List.append_nil, Rows.uptoBulkAll] at h
  exact plays_walk m l _ hm.1 hl.2 (by have := hm.2; have := hl.1; omega) w ⟨hT, hlo0, hlo1⟩ hr
end Go.Proofs.YtkmihnjmchfopaaGreatDoor.storePlays
