/-
  What package gap's Insert, Delete, Reset and New do, to a buffer or to none. No conditions beyond.
-/
import Derived.Test.YtgagpmeknpjkpaaGreatDoorGWork
namespace Go.Proofs.YtgagpmeknpjkpaaGreatDoor
open Go.RowKit Bod

set_option maxRecDepth 100000 in
set_option maxHeartbeats 1000000 in
theorem ins_is {w : World} {v : Value} {o : Option (Nat × Option Nat)} {g : Gp} {n : Nat} (h : Is w v o g n) (a : Int) (ha : -9223372036854775808 ≤ a ∧ a ≤ 9223372036854775807) (put : ByteArray) :
    Calls Tryz.prog 20 #[v, .int .i64 a, .string put] w fun x w' => x = .returned (.int .i64 (gRep g a 0 put).2.2) ∧ Wk w v o n (gRep g a 0 put).1 (gRep g a 0 put).2.2 w' := by
  have CR : Hid (Calls Tryz.prog 22 #[v, .int .i64 a, .int .i64 0, .string put] w fun x w' => x = .returned (.tuple #[.string (gRep g a 0 put).2.1, .int .i64 (gRep g a 0 put).2.2]) ∧ Wk w v o n (gRep g a 0 put).1 (gRep g a 0 put).2.2 w') := rep_is h a 0 ha put
  clear h
  go_enter Tryz.func20, Tryz.ntmps20
  go_wp2_with (go_at_call 22; refine CR.out.mono ?_; clear CR; rintro x w1 ⟨rfl, hk⟩)
  go_ret
  exact ⟨rfl, hk⟩

set_option maxRecDepth 100000 in
set_option maxHeartbeats 1000000 in
theorem del_is {w : World} {v : Value} {o : Option (Nat × Option Nat)} {g : Gp} {n : Nat} (h : Is w v o g n) (a c : Int) (ha : -9223372036854775808 ≤ a ∧ a ≤ 9223372036854775807) :
    Calls Tryz.prog 28 #[v, .int .i64 a, .int .i64 c] w fun x w' => x = .returned (.tuple #[.string (gRep g a c eBA).2.1, .int .i64 (gRep g a c eBA).2.2]) ∧ Wk w v o n (gRep g a c eBA).1 (gRep g a c eBA).2.2 w' := by
  have CR : Hid (Calls Tryz.prog 22 #[v, .int .i64 a, .int .i64 c, .string ⟨#[]⟩] w fun x w' => x = .returned (.tuple #[.string (gRep g a c eBA).2.1, .int .i64 (gRep g a c eBA).2.2]) ∧ Wk w v o n (gRep g a c eBA).1 (gRep g a c eBA).2.2 w') := rep_is h a c ha eBA
  clear h
  go_enter Tryz.func28, Tryz.ntmps28
  go_wp2_with (go_at_call 22; refine CR.out.mono ?_; clear CR; rintro x w1 ⟨rfl, hk⟩)
  exact bodyPost_ret (v := .tuple #[.string (gRep g a c eBA).2.1, .int .i64 (gRep g a c eBA).2.2]) (by simp [results, Tryz.results28, go_sem]) rfl ⟨rfl, hk⟩

theorem gPut_all {g : Gp} (s : ByteArray) : gPut g 0 g.s.size s = ⟨s, s.size, g.l⟩ := by
  unfold gPut
  have e1 : g.s.extract 0 0 = eBA := size0 (by simp)
  have e2 : g.s.extract (0 + g.s.size) g.s.size = eBA := size0 (by simp)
  have e3 : eBA ++ s ++ eBA = s := by
    apply ByteArray.ext
    simp [eBA, ByteArray.data_append]
  rw [e1, e2, e3, Nat.zero_add]

set_option maxRecDepth 100000 in
set_option maxHeartbeats 1000000 in
theorem reset_is {w : World} {v : Value} {o : Option (Nat × Option Nat)} {g : Gp} {n : Nat} (h : Is w v o g n) (s : ByteArray) :
    Calls Tryz.prog 24 #[v, .string s] w fun x w' => x = .returned (.int .i64 (gReset g s).2) ∧ Wk w v o n (gReset g s).1 (gReset g s).2 w' := by
  have CO := ore_is h
  have HX : Hid (∀ w1 b r, Od w v o g n b r w1 → ∀ k, Wk w v o n g 2 (w1.drewN k)) := fun w1 b r hO k => by
    obtain ⟨o2, i1, i2, i3⟩ := hO.fin (w1.drewN k) r g n (Ch.drewN _ _ _ _) (Nw.refl _ _) (hO.pb.drewN k) id
    exact ⟨o2, n, i1, i2, i3, fun _ => rfl⟩
  have CL : Hid (∀ w1 b r, PB w1 b r g n → Calls Tryz.prog 15 #[.pointer (some ⟨b, 0, none⟩)] w1 fun x w' => x = .returned (.int .i64 g.s.size) ∧ ∃ k, w' = w1.drewN k) := fun w1 b r hp => len_pb hp
  have CF : Hid (∀ w1 b r, PB w1 b r g n → Calls Tryz.prog 47 #[.pointer (some ⟨b, 0, none⟩), .int .i64 g.s.size, .string s] w1 fun x w' => x = .returned (.bool (decide (g.s.size - g.s.size + s.size ≤ g.l))) ∧ ∃ k, w' = w1.drewN k) := fun w1 b r hp => fits_pb hp g.s.size (Nat.le_refl _) s
  rw [Nat.sub_self, Nat.zero_add] at CF
  unfold gReset
  clear h
  by_cases h1 : s.size ≤ g.l
  · rw [if_pos h1]
    rw [decide_eq_true h1] at CF
    have CE : Hid (∀ w1 b r, PB w1 b r g n → Calls Tryz.prog 48 #[.pointer (some ⟨b, 0, none⟩), .int .i64 0, .int .i64 g.s.size, .string s] w1 fun z w' => z = .returned (.tuple #[]) ∧ ∃ r' n', PB w' b r' ⟨s, s.size, g.l⟩ n' ∧ Ch b r w1 w' ∧ Nw w1 r r') := fun w1 b r hp => by
      have := exch_pb hp (x := 0) (y := g.s.size) (by omega) s (by omega)
      rw [gPut_all] at this
      exact this
    have HZ : Hid (g = g0 → (⟨s, s.size, g.l⟩ : Gp) = g0) := fun e => by
      have := gPut_g0 (g := g) (x := 0) (y := g.s.size) (by omega) s (by omega) e
      rw [gPut_all] at this
      exact this
    go_enter Tryz.func24, Tryz.ntmps24
    go_wp2_with (first | (go_at_call 42; refine CO.mono ?_; clear CO; rintro x w1 ⟨b, r, rfl, hO⟩; have HO : Hid (Od w v o g n b r w1) := hO; clear hO) | (go_at_call 47; refine (CF.out _ _ _ (HO.out.pb.drewN k2)).mono ?_; clear CF; rintro x w3 ⟨rfl, k3, rfl⟩) | (go_at_call 48; refine (CE.out _ _ _ (HO.out.pb.drewN _)).mono ?_; clear CE; rintro x w5 ⟨rfl, r5, n5, p5, c5, q5⟩) | (go_at_call 15; refine (CL.out _ _ _ HO.out.pb).mono ?_; rintro x w2 ⟨rfl, k2, rfl⟩) | (go_at_call 15; refine (CL.out _ _ _ (HO.out.pb.drewN _)).mono ?_; rintro x w2 ⟨rfl, k4, rfl⟩))
    go_ret
    obtain ⟨o2, i1, i2, i3⟩ := HO.out.fin w5 r5 _ n5 ((Ch.drewN _ _ _ _).trans (Nw.refl _ _) c5) ((Nw.refl _ _).trans (Nat.le_refl _) q5) p5 HZ.out
    exact ⟨rfl, o2, n5, i1, i2, i3, fun h0 => absurd rfl h0⟩
  · rw [if_neg h1]
    rw [decide_eq_false h1] at CF
    go_enter Tryz.func24, Tryz.ntmps24
    go_wp2_with (first | (go_at_call 42; refine CO.mono ?_; clear CO; rintro x w1 ⟨b, r, rfl, hO⟩; have HO : Hid (Od w v o g n b r w1) := hO; clear hO) | (go_at_call 47; refine (CF.out _ _ _ (HO.out.pb.drewN k2)).mono ?_; clear CF; rintro x w3 ⟨rfl, k3, rfl⟩) | (go_at_call 15; refine (CL.out _ _ _ HO.out.pb).mono ?_; rintro x w2 ⟨rfl, k2, rfl⟩))
    go_ret
    exact ⟨rfl, HX.out _ _ _ HO.out _⟩

/-- what New leaves where it answers a buffer -/
def Nb (w : World) (g : Gp) (w' : World) : Prop := ∃ r n, PB w' w.heap.size r g n ∧ Below w.heap.size w w' ∧ ∀ k, r = some k → w.heap.size < k
set_option maxRecDepth 100000 in
set_option maxHeartbeats 1000000 in
theorem new_any (s : ByteArray) (m : Int) (w : World) :
    Calls Tryz.prog 7 #[.string s, .int .i64 m] w fun e w' => match gNew s m with
      | none => e = .returned (.tuple #[.pointer none, .int .i64 2]) ∧ Below w.heap.size w w'
      | some g => e = .returned (.tuple #[.pointer (some ⟨w.heap.size, 0, none⟩), .int .i64 0]) ∧ Nb w g w' := by
  have e0 := lim_eq m
  obtain ⟨l, hl⟩ : ∃ l, lim m = l := ⟨_, rfl⟩
  rw [hl] at e0
  have hl' := lim_le m
  rw [hl] at hl'
  obtain ⟨W0, hW0⟩ : ∃ W0, w.alloc (.cells #[.slice none 0 0, .int .i64 0, .int .i64 0, .int .i64 l] 41) = W0 := ⟨_, rfl⟩
  have hnew : W0.heap[w.heap.size]? = some (.cells #[.slice none 0 0, .int .i64 0, .int .i64 0, .int .i64 l] 41 (0, 0)) := by rw [← hW0]; exact World.alloc_heap_new w _
  have hB : Below w.heap.size w W0 := by rw [← hW0]; exact (Below.refl _ w).alloc (Nat.le_refl _) _
  have hsz : w.heap.size < W0.heap.size := (Array.getElem?_eq_some_iff.1 hnew).1
  have hP : PB W0 w.heap.size none ⟨eBA, 0, l⟩ 0 := ⟨⟨[], 0, ⟨hnew, fun k hk => (by cases hk), fun _ => rfl⟩, ⟨Nat.le_refl _, Nat.le_refl _, rfl⟩, rfl⟩, by omega, Nat.zero_le _, ⟨Nat.le_refl _, Nat.zero_le _, hl'⟩⟩
  have CR := reset_is (w := W0) (v := .pointer (some ⟨w.heap.size, 0, none⟩)) (o := some (w.heap.size, none)) ⟨rfl, hP⟩ s
  have HB2 : Hid (∀ w2, Ch w.heap.size none W0 w2 → Below w.heap.size w w2) := fun w2 q => ⟨q.1.trans hB.os, q.2.1.trans hB.tape, q.2.2.1.trans hB.output, Nat.le_trans hB.size q.2.2.2.1, fun k hk => by
    rw [q.2.2.2.2 k (by omega) (by omega) (fun e => by cases e)]
    exact hB.block k hk⟩
  have HS : Hid (w.heap.size < W0.heap.size) := hsz
  unfold gNew
  rw [hl]
  unfold gReset at CR
  dsimp only at CR
  clear hnew hB hP hl hl' hsz
  have hm : min (max m 0) 1073741824 = l := e0.symm
  clear e0
  by_cases h1 : s.size ≤ l
  · rw [if_pos h1] at CR ⊢
    go_enter Tryz.func7, Tryz.ntmps7
    go_wp2_with (go_at_call 24; refine CR.mono ?_; clear CR; rintro x w1 ⟨rfl, hk⟩)
    refine bodyPost_ret (v := .tuple #[.pointer (some ⟨w.heap.size, 0, none⟩), .int .i64 0]) (by simp [results, Tryz.results7, go_sem]) rfl ⟨rfl, ?_⟩
    obtain ⟨o2, n2, i1, i2, ⟨r2, rfl, i3⟩, _⟩ := hk
    refine ⟨r2, n2, i1.2, HB2.out _ i2, fun k hk => ?_⟩
    rcases i3 with rfl | ⟨j, rfl, hj⟩
    · cases hk
    · cases hk; have := HS.out; omega
  · rw [if_neg h1] at CR ⊢
    go_enter Tryz.func7, Tryz.ntmps7
    go_wp2_with (go_at_call 24; refine CR.mono ?_; clear CR; rintro x w1 ⟨rfl, hk⟩)
    refine bodyPost_ret (v := .tuple #[.pointer none, .int .i64 2]) (by simp [results, Tryz.results7, go_sem]) rfl ⟨rfl, ?_⟩
    obtain ⟨o2, n2, i1, i2, _⟩ := hk
    exact HB2.out _ i2
end Go.Proofs.YtgagpmeknpjkpaaGreatDoor
