/-
  The walks of the document's own copy of package gap: a buffer in one block; New, Range, Slice, Byte, Halves, Move, Replace, Insert, Delete, Reset, Clone. Conditions: the buffer keeps its bounds; a text that is handed in can be read.
-/
import Derived.Test.YtgagpmeknpjkpaaGreatDoorGMath
import Derived.Test.YtgagpmeknpjkpaaGreatDoorKBase
import Derived.Test.YtgagpmeknpjkpaaGreatDoorUThenB
namespace Go.Proofs.YtgagpmeknpjkpaaGreatDoor
open Go.RowKit Bod

/-- the block b is the buffer g -/
def RB (W : World) (b : Nat) (g : Gp) : Prop := W.heap[b]? = some (.cells #[.string g.s, .int .i64 g.p, .int .i64 g.l] 43 (0, 0))
theorem RB.cells {W : World} {b : Nat} {g : Gp} (h : RB W b g) : (W.cell? ⟨b, 0, none⟩ = some (.string g.s) ∧ W.cell? ⟨b, 1, none⟩ = some (.int .i64 g.p) ∧ W.cell? ⟨b, 2, none⟩ = some (.int .i64 g.l)) ∧ W.frozen? ⟨b, 0, none⟩ = false ∧ W.frozen? ⟨b, 1, none⟩ = false ∧ b < W.heap.size := by
  unfold RB at h
  exact ⟨by simp [World.cell?, h], by simp [World.frozen?, h], by simp [World.frozen?, h], (Array.getElem?_eq_some_iff.1 h).1⟩
theorem gr_refl (W : World) (r : Option Nat) : W.grownBy W r := ⟨rfl, rfl, rfl, Nat.le_refl _, fun _ _ _ => rfl⟩

set_option maxRecDepth 100000 in
set_option maxHeartbeats 1000000 in
theorem rmove_any {b : Nat} {g : Gp} (a : Int) (w : World) (h : RB w b g) :
    Calls Tryz.prog 32 #[.pointer (some ⟨b, 0, none⟩), .int .i64 a] w fun e w' => e = .returned (.int .i64 (gMove g a).2) ∧ RB w' b (gMove g a).1 ∧ w.grownBy w' (some b) := by
  obtain ⟨⟨c0, c1, c2⟩, f0, f1, hb⟩ := h.cells
  unfold gMove
  by_cases h1 : a < 0
  · rw [if_pos (.inl h1)]
    have HR : Hid (RB w b g) := h
    clear h
    go_enter Tryz.func32, Tryz.ntmps32
    go_wp2
    go_ret
    exact ⟨rfl, HR.out, gr_refl _ _⟩
  · by_cases h2 : (g.s.size : Int) < a
    · rw [if_pos (.inr h2)]
      have HR : Hid (RB w b g) := h
      clear h
      go_enter Tryz.func32, Tryz.ntmps32
      go_wp2
      go_ret
      exact ⟨rfl, HR.out, gr_refl _ _⟩
    · rw [if_neg (by omega)]
      obtain ⟨m, rfl⟩ := Int.eq_ofNat_of_zero_le (show 0 ≤ a by omega)
      have HR : Hid (RB (w.setCell ⟨b, 1, none⟩ (.int .i64 m)) b { g with p := m } ∧ w.grownBy (w.setCell ⟨b, 1, none⟩ (.int .i64 m)) (some b)) := ⟨set1 (i := 1) _ h, gcell _ _ _ _⟩
      clear h
      go_enter Tryz.func32, Tryz.ntmps32
      go_wp2
      go_ret
      exact ⟨rfl, HR.out.1, HR.out.2⟩

set_option maxRecDepth 100000 in
set_option maxHeartbeats 1000000 in
theorem rreset_any {b : Nat} {g : Gp} (s : ByteArray) (w : World) (h : RB w b g) :
    Calls Tryz.prog 33 #[.pointer (some ⟨b, 0, none⟩), .string s] w fun e w' => e = .returned (.int .i64 (gReset g s).2) ∧ RB w' b (gReset g s).1 ∧ w.grownBy w' (some b) := by
  obtain ⟨⟨c0, c1, c2⟩, f0, f1, hb⟩ := h.cells
  unfold gReset
  by_cases h1 : s.size ≤ g.l
  · rw [if_pos h1]
    have h1' : ¬ ((g.l : Int) < s.size) := by omega
    have HR : Hid (RB ((w.setCell ⟨b, 0, none⟩ (.string s)).setCell ⟨b, 1, none⟩ (.int .i64 s.size)) b ⟨s, s.size, g.l⟩ ∧ w.grownBy ((w.setCell ⟨b, 0, none⟩ (.string s)).setCell ⟨b, 1, none⟩ (.int .i64 s.size)) (some b)) := ⟨set1 (i := 1) _ (set1 (i := 0) _ h), grown2 (gcell _ _ _ _) (gcell _ _ _ _)⟩
    clear h
    go_enter Tryz.func33, Tryz.ntmps33
    go_wp2
    go_ret
    exact ⟨rfl, HR.out.1, HR.out.2⟩
  · rw [if_neg h1]
    have h1' : (g.l : Int) < s.size := by omega
    have HR : Hid (RB w b g) := h
    clear h
    go_enter Tryz.func33, Tryz.ntmps33
    go_wp2
    go_ret
    exact ⟨rfl, HR.out, gr_refl _ _⟩

theorem grn {W W' : World} {r : Option Nat} (h : W.grownBy W' r) (n : Nat) : W.grownBy (W'.drewN n) r := ⟨h.os, h.tape, h.output, h.size, h.block⟩
theorem RB.drewN {W : World} {b : Nat} {g : Gp} (h : RB W b g) (n : Nat) : RB (W.drewN n) b g := h
theorem bln (W : World) (n : Nat) : Below W.heap.size W (W.drewN n) := ⟨rfl, rfl, rfl, Nat.le_refl _, fun _ _ => rfl⟩

set_option maxRecDepth 100000 in
set_option maxHeartbeats 1000000 in
theorem rrange_any (f t n : Int) (w : World) :
    Calls Tryz.prog 50 #[.int .i64 f, .int .i64 t, .int .i64 n] w fun e w' => e = .returned (.bool (decide (f < 0 ∨ t < f ∨ n < t))) ∧ w' = w := by
  by_cases h1 : f < 0
  · go_enter Tryz.func50, Tryz.ntmps50
    go_wp2
    go_ret
    exact ⟨by simp [h1], rfl⟩
  · by_cases h2 : t < f
    · go_enter Tryz.func50, Tryz.ntmps50
      go_wp2
      go_ret
      exact ⟨by simp, rfl⟩
    · go_enter Tryz.func50, Tryz.ntmps50
      go_wp2
      go_ret
      exact ⟨by simp [show ¬ f < 0 by omega, show ¬ t < f by omega], rfl⟩

set_option maxRecDepth 100000 in
set_option maxHeartbeats 1000000 in
theorem rslice_any {b : Nat} {g : Gp} (f t : Int) (w : World) (h : RB w b g) :
    Calls Tryz.prog 35 #[.pointer (some ⟨b, 0, none⟩), .int .i64 f, .int .i64 t] w fun e w' => e = .returned (.tuple #[.string (gSlice g.s f t).1, .int .i64 (gSlice g.s f t).2]) ∧ Below w.heap.size w w' := by
  obtain ⟨⟨c0, c1, c2⟩, f0, f1, hb⟩ := h.cells
  have CR := fun W => rrange_any f t g.s.size W
  unfold gSlice gRng
  by_cases h1 : f < 0 ∨ t < f ∨ (g.s.size : Int) < t
  · rw [decide_eq_true h1] at CR ⊢
    rw [if_pos rfl]
    have CR : Hid (∀ W, Calls Tryz.prog 50 #[.int .i64 f, .int .i64 t, .int .i64 g.s.size] W fun e w' => e = .returned (.bool true) ∧ w' = W) := CR
    clear h h1
    go_enter Tryz.func35, Tryz.ntmps35
    go_wp2_with (go_at_call 50; refine (CR.out _).mono ?_; rintro e w1 ⟨rfl, rfl⟩)
    exact bodyPost_ret (v := .tuple #[.string eBA, .int .i64 1]) (by simp [results, Tryz.results35, go_sem, eBA]) rfl ⟨rfl, Below.refl _ _⟩
  · rw [decide_eq_false h1] at CR ⊢
    rw [if_neg (by simp)]
    have CR : Hid (∀ W, Calls Tryz.prog 50 #[.int .i64 f, .int .i64 t, .int .i64 g.s.size] W fun e w' => e = .returned (.bool false) ∧ w' = W) := CR
    obtain ⟨x, rfl⟩ := Int.eq_ofNat_of_zero_le (show 0 ≤ f by omega)
    obtain ⟨y, rfl⟩ := Int.eq_ofNat_of_zero_le (show 0 ≤ t by omega)
    have i1 : x ≤ y := by omega
    have i2 : y ≤ g.s.size := by omega
    clear h h1
    go_enter Tryz.func35, Tryz.ntmps35
    go_wp2_with (go_at_call 50; refine (CR.out _).mono ?_; rintro e w1 ⟨rfl, rfl⟩)
    exact bodyPost_ret (v := .tuple #[.string (g.s.extract x y), .int .i64 0]) (by simp [results, Tryz.results35, go_sem]) rfl ⟨rfl, Below.refl _ _⟩

set_option maxRecDepth 100000 in
set_option maxHeartbeats 1000000 in
theorem rbyte_any {b : Nat} {g : Gp} (a : Int) (w : World) (h : RB w b g) :
    Calls Tryz.prog 37 #[.pointer (some ⟨b, 0, none⟩), .int .i64 a] w fun e w' => e = .returned (.tuple #[.int .u8 (gByte g.s a).1, .int .i64 (gByte g.s a).2]) ∧ w' = w := by
  obtain ⟨⟨c0, c1, c2⟩, f0, f1, hb⟩ := h.cells
  unfold gByte
  clear h
  by_cases h1 : a < 0
  · rw [if_pos (.inl h1)]
    go_enter Tryz.func37, Tryz.ntmps37
    go_wp2
    exact bodyPost_ret (v := .tuple #[.int .u8 0, .int .i64 1]) (by simp [results, Tryz.results37, go_sem]) rfl ⟨rfl, rfl⟩
  · by_cases h2 : (g.s.size : Int) ≤ a
    · rw [if_pos (.inr h2)]
      go_enter Tryz.func37, Tryz.ntmps37
      go_wp2
      exact bodyPost_ret (v := .tuple #[.int .u8 0, .int .i64 1]) (by simp [results, Tryz.results37, go_sem]) rfl ⟨rfl, rfl⟩
    · rw [if_neg (by omega)]
      obtain ⟨m, rfl⟩ := Int.eq_ofNat_of_zero_le (show 0 ≤ a by omega)
      go_enter Tryz.func37, Tryz.ntmps37
      go_wp2
      exact bodyPost_ret (v := .tuple #[.int .u8 (bt g.s m), .int .i64 0]) (by simp [results, Tryz.results37, go_sem, bt, Utf8W.get!_of_lt g.s m (by omega)]) rfl ⟨rfl, rfl⟩

set_option maxRecDepth 100000 in
set_option maxHeartbeats 1000000 in
theorem rhalves_any {b : Nat} {g : Gp} (hg : g.ok) (w : World) (h : RB w b g) :
    Calls Tryz.prog 25 #[.pointer (some ⟨b, 0, none⟩)] w fun e w' => e = .returned (.tuple #[.string (g.s.extract 0 g.p), .string (g.s.extract g.p g.s.size)]) ∧ Below w.heap.size w w' := by
  obtain ⟨⟨c0, c1, c2⟩, f0, f1, hb⟩ := h.cells
  obtain ⟨g1, g2, g3⟩ := hg
  clear h
  go_enter Tryz.func25, Tryz.ntmps25
  go_wp2
  go_quiet (fail)
  go_wp2
  exact bodyPost_ret (v := .tuple #[.string (g.s.extract 0 g.p), .string (g.s.extract g.p g.s.size)]) (by simp [results, Tryz.results25, go_sem]) rfl ⟨rfl, bln _ _⟩

set_option maxRecDepth 100000 in
set_option maxHeartbeats 4000000 in
theorem rrep_works {b : Nat} {g : Gp} (hg : g.ok) (x y : Nat) (put : ByteArray) (hp : put.size ≤ 140737488355328) (i1 : x + y ≤ g.s.size) (h2 : (g.s.size : Int) - y + put.size ≤ g.l) (w : World) (h : RB w b g) :
    CallsIn .wide 0 Tryz.prog 30 #[.pointer (some ⟨b, 0, none⟩), .int .i64 x, .int .i64 y, .string put] w fun e w' => e = .returned (.tuple #[.string (g.s.extract x (x + y)), .int .i64 0]) ∧ RB w' b ⟨g.s.extract 0 x ++ put ++ g.s.extract (x + y) g.s.size, x + put.size, g.l⟩ ∧ w.grownBy w' (some b) := by
  obtain ⟨⟨c0, c1, c2⟩, f0, f1, hb⟩ := h.cells
  obtain ⟨g1, g2, g3⟩ := hg
  have i5 : y ≤ g.s.size := by omega
  have i6 : x ≤ g.s.size := by omega
  have k1 : IntKind.i64.wrap ((g.s.size : Int) - y) = (g.s.size : Int) - y := by rw [IntKind.wrap_i64]; omega
  have k2 : IntKind.i64.wrap ((g.s.size : Int) - y + put.size) = (g.s.size : Int) - y + put.size := by rw [IntKind.wrap_i64]; omega
  have HR : Hid (RB w b g) := h
  clear h
  refine callsIn_of_wp_marks Tryz.func30 rfl trivial ?_ rfl
  simp only [Tryz.ntmps30, List.size_toArray, List.length_cons, List.length_nil, Nat.reduceAdd, Nat.reduceSub, Array.replicate_succ, Array.replicate_zero, List.push_toArray, List.append_toArray, List.nil_append, List.cons_append]
  gi_wp2
  refine wpIn_region_quiet_lit rfl (by kernel_rfl) (by kernel_rfl) ?_
  repeat (gi_big_quiet_step (fail))
  refine wpQuietIn_nil ?_
  intro _ hw'
  obtain ⟨nq, hw''⟩ := hw'
  subst hw''
  gi_wp2
  refine region_thenB (by kernel_rfl) (by kernel_rfl) (by kernel_rfl) (by kernel_rfl) rfl rfl ?_
  dsimp only [List.dropLast, List.getLast]
  repeat (gi_big_quiet_step (fail))
  refine wpQuietIn_nil ?_
  intro _ hw'
  obtain ⟨nr, hw''⟩ := hw'
  subst hw''
  gi_wp2
  refine ⟨.tuple #[.string (g.s.extract x (x + y)), .int .i64 0], by simp [results, Tryz.results30, go_sem], rfl, ?_, ?_⟩
  · exact set1 (i := 1) _ (set1 (i := 0) _ (HR.out.drewN _))
  · exact grown2 (grn (gr_refl _ _) _) (grown2 (gcell _ _ _ _) (gcell _ _ _ _))

set_option maxRecDepth 100000 in
set_option maxHeartbeats 1000000 in
theorem rrep_any {b : Nat} {g : Gp} (hg : g.ok) (a c : Int) (put : ByteArray) (hp : put.size ≤ 140737488355328) (w : World) (h : RB w b g) :
    Calls Tryz.prog 30 #[.pointer (some ⟨b, 0, none⟩), .int .i64 a, .int .i64 c, .string put] w fun e w' => e = .returned (.tuple #[.string (gRep g a c put).2.1, .int .i64 (gRep g a c put).2.2]) ∧ RB w' b (gRep g a c put).1 ∧ w.grownBy w' (some b) := by
  obtain ⟨⟨c0, c1, c2⟩, f0, f1, hb⟩ := h.cells
  obtain ⟨g1, g2, g3⟩ := hg
  unfold gRep
  have HR : Hid (RB w b g) := h
  by_cases h0 : gOut g a c
  · rw [if_pos h0]
    clear h
    have fin : Hid (∀ n, RB (w.drewN n) b g ∧ w.grownBy (w.drewN n) (some b)) := fun n => ⟨HR.out.drewN n, grn (gr_refl _ _) n⟩
    by_cases i1 : a < 0
    · clear h0
      go_enter Tryz.func30, Tryz.ntmps30
      go_wp2
      exact bodyPost_ret (v := .tuple #[.string eBA, .int .i64 1]) (by simp [results, Tryz.results30, go_sem, eBA]) rfl ⟨rfl, fin.out 0⟩
    · by_cases i2 : c < 0
      · clear h0
        go_enter Tryz.func30, Tryz.ntmps30
        go_wp2
        exact bodyPost_ret (v := .tuple #[.string eBA, .int .i64 1]) (by simp [results, Tryz.results30, go_sem, eBA]) rfl ⟨rfl, fin.out 0⟩
      · by_cases i3 : (g.s.size : Int) < a
        · clear h0
          obtain ⟨x, rfl⟩ := Int.eq_ofNat_of_zero_le (show 0 ≤ a by omega)
          go_enter Tryz.func30, Tryz.ntmps30
          go_wp2
          exact bodyPost_ret (v := .tuple #[.string eBA, .int .i64 1]) (by simp [results, Tryz.results30, go_sem, eBA]) rfl ⟨rfl, fin.out 0⟩
        · have i4 : (g.s.size : Int) - a < c := by unfold gOut at h0; omega
          clear h0
          obtain ⟨x, rfl⟩ := Int.eq_ofNat_of_zero_le (show 0 ≤ a by omega)
          obtain ⟨y, rfl⟩ := Int.eq_ofNat_of_zero_le (show 0 ≤ c by omega)
          go_enter Tryz.func30, Tryz.ntmps30
          go_wp2
          exact bodyPost_ret (v := .tuple #[.string eBA, .int .i64 1]) (by simp [results, Tryz.results30, go_sem, eBA]) rfl ⟨rfl, fin.out 0⟩
  · rw [if_neg h0]
    unfold gOut at h0
    obtain ⟨x, rfl⟩ := Int.eq_ofNat_of_zero_le (show 0 ≤ a by omega)
    obtain ⟨y, rfl⟩ := Int.eq_ofNat_of_zero_le (show 0 ≤ c by omega)
    have i1 : x + y ≤ g.s.size := by omega
    have i5 : y ≤ g.s.size := by omega
    have k1 : IntKind.i64.wrap ((g.s.size : Int) - y) = (g.s.size : Int) - y := by rw [IntKind.wrap_i64]; omega
    have k2 : IntKind.i64.wrap ((g.s.size : Int) - y + put.size) = (g.s.size : Int) - y + put.size := by rw [IntKind.wrap_i64]; omega
    by_cases h2 : (g.l : Int) < (g.s.size : Int) - y + put.size
    · rw [if_pos h2]
      clear h h0
      go_enter Tryz.func30, Tryz.ntmps30
      go_wp2
      go_quiet (fail)
      go_wp2
      exact bodyPost_ret (v := .tuple #[.string eBA, .int .i64 2]) (by simp [results, Tryz.results30, go_sem, eBA]) rfl ⟨rfl, HR.out.drewN _, grn (gr_refl _ _) _⟩
    · rw [if_neg h2]
      exact callsIn_wide.1 (rrep_works ⟨g1, g2, g3⟩ x y put hp i1 (by omega) w h)
end Go.Proofs.YtgagpmeknpjkpaaGreatDoor
