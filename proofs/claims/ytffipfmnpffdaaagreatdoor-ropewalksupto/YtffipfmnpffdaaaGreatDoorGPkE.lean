/-
  The walks of the document's own copy of package gap. Conditions: those of each theorem.
-/
import Derived.Test.YtffipfmnpffdaaaGreatDoorGPkA
import Derived.Test.YtffipfmnpffdaaaGreatDoorKBase
import Derived.Test.YtffipfmnpffdaaaGreatDoorPkU
namespace Go.Proofs.YtffipfmnpffdaaaGreatDoor.Gap
open Go.RowKit Bod

/-- the block b is the buffer g -/
def RB (W : World) (b : Nat) (g : Gp) : Prop := W.heap[b]? = some (.cells #[.string g.s, .int .i64 g.p, .int .i64 g.l] 185 (0, 0))
theorem RB.cells {W : World} {b : Nat} {g : Gp} (h : RB W b g) : (W.cell? ⟨b, 0, none⟩ = some (.string g.s) ∧ W.cell? ⟨b, 1, none⟩ = some (.int .i64 g.p) ∧ W.cell? ⟨b, 2, none⟩ = some (.int .i64 g.l)) ∧ W.frozen? ⟨b, 0, none⟩ = false ∧ W.frozen? ⟨b, 1, none⟩ = false ∧ b < W.heap.size := by
  unfold RB at h
  exact ⟨by simp [World.cell?, h], by simp [World.frozen?, h], by simp [World.frozen?, h], (Array.getElem?_eq_some_iff.1 h).1⟩
theorem gr_refl (W : World) (r : Option Nat) : W.grownBy W r := ⟨rfl, rfl, rfl, Nat.le_refl _, fun _ _ _ => rfl⟩


set_option maxRecDepth 100000 in
set_option maxHeartbeats 1000000 in
theorem rreset_any {b : Nat} {g : Gp} (s : ByteArray) (w : World) (h : RB w b g) :
    Calls Tryz.prog 150 #[.pointer (some ⟨b, 0, none⟩), .string s] w fun e w' => e = .returned (.int .i64 (gReset g s).2) ∧ RB w' b (gReset g s).1 ∧ w.grownBy w' (some b) := by
  obtain ⟨⟨c0, c1, c2⟩, f0, f1, hb⟩ := h.cells
  unfold gReset
  by_cases h1 : s.size ≤ g.l
  · rw [if_pos h1]
    have h1' : ¬ ((g.l : Int) < s.size) := by omega
    have HR : Hid (RB ((w.setCell ⟨b, 0, none⟩ (.string s)).setCell ⟨b, 1, none⟩ (.int .i64 s.size)) b ⟨s, s.size, g.l⟩ ∧ w.grownBy ((w.setCell ⟨b, 0, none⟩ (.string s)).setCell ⟨b, 1, none⟩ (.int .i64 s.size)) (some b)) := ⟨set1 (i := 1) _ (set1 (i := 0) _ h), grown2 (gcell _ _ _ _) (gcell _ _ _ _)⟩
    clear h
    go_enter Tryz.func150, Tryz.ntmps150
    go_wp2
    go_ret
    exact ⟨rfl, HR.out.1, HR.out.2⟩
  · rw [if_neg h1]
    have h1' : (g.l : Int) < s.size := by omega
    have HR : Hid (RB w b g) := h
    clear h
    go_enter Tryz.func150, Tryz.ntmps150
    go_wp2
    go_ret
    exact ⟨rfl, HR.out, gr_refl _ _⟩

theorem grn {W W' : World} {r : Option Nat} (h : W.grownBy W' r) (n : Nat) : W.grownBy (W'.drewN n) r := ⟨h.os, h.tape, h.output, h.size, h.block⟩
theorem RB.drewN {W : World} {b : Nat} {g : Gp} (h : RB W b g) (n : Nat) : RB (W.drewN n) b g := h
theorem bln (W : World) (n : Nat) : Below W.heap.size W (W.drewN n) := ⟨rfl, rfl, rfl, Nat.le_refl _, fun _ _ => rfl⟩

set_option maxRecDepth 100000 in
set_option maxHeartbeats 1000000 in
theorem rrange_any (f t n : Int) (w : World) :
    Calls Tryz.prog 197 #[.int .i64 f, .int .i64 t, .int .i64 n] w fun e w' => e = .returned (.bool (decide (f < 0 ∨ t < f ∨ n < t))) ∧ w' = w := by
  by_cases h1 : f < 0
  · go_enter Tryz.func197, Tryz.ntmps197
    go_wp2
    go_ret
    exact ⟨by simp [h1], rfl⟩
  · by_cases h2 : t < f
    · go_enter Tryz.func197, Tryz.ntmps197
      go_wp2
      go_ret
      exact ⟨by simp, rfl⟩
    · go_enter Tryz.func197, Tryz.ntmps197
      go_wp2
      go_ret
      exact ⟨by simp [show ¬ f < 0 by omega, show ¬ t < f by omega], rfl⟩

set_option maxRecDepth 100000 in
set_option maxHeartbeats 1000000 in
theorem rslice_any {b : Nat} {g : Gp} (f t : Int) (w : World) (h : RB w b g) :
    Calls Tryz.prog 151 #[.pointer (some ⟨b, 0, none⟩), .int .i64 f, .int .i64 t] w fun e w' => e = .returned (.tuple #[.string (gSlice g.s f t).1, .int .i64 (gSlice g.s f t).2]) ∧ Below w.heap.size w w' := by
  obtain ⟨⟨c0, c1, c2⟩, f0, f1, hb⟩ := h.cells
  have CR := fun W => rrange_any f t g.s.size W
  unfold gSlice gRng
  by_cases h1 : f < 0 ∨ t < f ∨ (g.s.size : Int) < t
  · rw [decide_eq_true h1] at CR ⊢
    rw [if_pos rfl]
    have CR : Hid (∀ W, Calls Tryz.prog 197 #[.int .i64 f, .int .i64 t, .int .i64 g.s.size] W fun e w' => e = .returned (.bool true) ∧ w' = W) := CR
    clear h h1
    go_enter Tryz.func151, Tryz.ntmps151
    go_wp2_with (go_at_call 197; refine (CR.out _).mono ?_; rintro e w1 ⟨rfl, rfl⟩)
    exact bodyPost_ret (v := .tuple #[.string eBA, .int .i64 1]) (by simp [results, Tryz.results151, go_sem, eBA]) rfl ⟨rfl, Below.refl _ _⟩
  · rw [decide_eq_false h1] at CR ⊢
    rw [if_neg (by simp)]
    have CR : Hid (∀ W, Calls Tryz.prog 197 #[.int .i64 f, .int .i64 t, .int .i64 g.s.size] W fun e w' => e = .returned (.bool false) ∧ w' = W) := CR
    obtain ⟨x, rfl⟩ := Int.eq_ofNat_of_zero_le (show 0 ≤ f by omega)
    obtain ⟨y, rfl⟩ := Int.eq_ofNat_of_zero_le (show 0 ≤ t by omega)
    have i1 : x ≤ y := by omega
    have i2 : y ≤ g.s.size := by omega
    clear h h1
    go_enter Tryz.func151, Tryz.ntmps151
    go_wp2_with (go_at_call 197; refine (CR.out _).mono ?_; rintro e w1 ⟨rfl, rfl⟩)
    exact bodyPost_ret (v := .tuple #[.string (g.s.extract x y), .int .i64 0]) (by simp [results, Tryz.results151, go_sem]) rfl ⟨rfl, Below.refl _ _⟩



set_option maxRecDepth 100000 in
set_option maxHeartbeats 4000000 in
theorem rrep_works {b : Nat} {g : Gp} (hg : g.ok) (x y : Nat) (put : ByteArray) (hp : put.size ≤ 140737488355328) (i1 : x + y ≤ g.s.size) (h2 : (g.s.size : Int) - y + put.size ≤ g.l) (w : World) (h : RB w b g) :
    CallsIn .wide 0 Tryz.prog 148 #[.pointer (some ⟨b, 0, none⟩), .int .i64 x, .int .i64 y, .string put] w fun e w' => e = .returned (.tuple #[.string (g.s.extract x (x + y)), .int .i64 0]) ∧ RB w' b ⟨g.s.extract 0 x ++ put ++ g.s.extract (x + y) g.s.size, x + put.size, g.l⟩ ∧ w.grownBy w' (some b) := by
  obtain ⟨⟨c0, c1, c2⟩, f0, f1, hb⟩ := h.cells
  obtain ⟨g1, g2, g3⟩ := hg
  have i5 : y ≤ g.s.size := by omega
  have i6 : x ≤ g.s.size := by omega
  have k1 : IntKind.i64.wrap ((g.s.size : Int) - y) = (g.s.size : Int) - y := by rw [IntKind.wrap_i64]; omega
  have k2 : IntKind.i64.wrap ((g.s.size : Int) - y + put.size) = (g.s.size : Int) - y + put.size := by rw [IntKind.wrap_i64]; omega
  have HR : Hid (RB w b g) := h
  clear h
  refine callsIn_of_wp_marks Tryz.func148 rfl trivial ?_ rfl
  simp only [Tryz.ntmps148, List.size_toArray, List.length_cons, List.length_nil, Nat.reduceAdd, Nat.reduceSub, Array.replicate_succ, Array.replicate_zero, List.push_toArray, List.append_toArray, List.nil_append, List.cons_append]
  gi_wp2
  refine wpIn_region_quiet_lit rfl (by kernel_rfl) (by kernel_rfl) ?_
  repeat (gi_big_quiet_step (fail))
  refine wpQuietIn_nil ?_
  intro _ hw'
  obtain ⟨nq, hw''⟩ := hw'
  subst hw''
  gi_wp2
  refine region_thenB (by kernel_rfl) (by kernel_rfl) (by kernel_rfl) (by kernel_rfl) rfl rfl ?_
  dsimp only [List.dropLast, List.getLast]
  repeat (gi_big_quiet_step (fail))
  refine wpQuietIn_nil ?_
  intro _ hw'
  obtain ⟨nr, hw''⟩ := hw'
  subst hw''
  gi_wp2
  refine ⟨.tuple #[.string (g.s.extract x (x + y)), .int .i64 0], by simp [results, Tryz.results148, go_sem], rfl, ?_, ?_⟩
  · exact set1 (i := 1) _ (set1 (i := 0) _ (HR.out.drewN _))
  · exact grown2 (grn (gr_refl _ _) _) (grown2 (gcell _ _ _ _) (gcell _ _ _ _))

set_option maxRecDepth 100000 in
set_option maxHeartbeats 1000000 in
theorem rrep_any {b : Nat} {g : Gp} (hg : g.ok) (a c : Int) (put : ByteArray) (hp : put.size ≤ 140737488355328) (w : World) (h : RB w b g) :
    Calls Tryz.prog 148 #[.pointer (some ⟨b, 0, none⟩), .int .i64 a, .int .i64 c, .string put] w fun e w' => e = .returned (.tuple #[.string (gRep g a c put).2.1, .int .i64 (gRep g a c put).2.2]) ∧ RB w' b (gRep g a c put).1 ∧ w.grownBy w' (some b) := by
  obtain ⟨⟨c0, c1, c2⟩, f0, f1, hb⟩ := h.cells
  obtain ⟨g1, g2, g3⟩ := hg
  unfold gRep
  have HR : Hid (RB w b g) := h
  by_cases h0 : gOut g a c
  · rw [if_pos h0]
    clear h
    have fin : Hid (∀ n, RB (w.drewN n) b g ∧ w.grownBy (w.drewN n) (some b)) := fun n => ⟨HR.out.drewN n, grn (gr_refl _ _) n⟩
    by_cases i1 : a < 0
    · clear h0
      go_enter Tryz.func148, Tryz.ntmps148
      go_wp2
      exact bodyPost_ret (v := .tuple #[.string eBA, .int .i64 1]) (by simp [results, Tryz.results148, go_sem, eBA]) rfl ⟨rfl, fin.out 0⟩
    · by_cases i2 : c < 0
      · clear h0
        go_enter Tryz.func148, Tryz.ntmps148
        go_wp2
        exact bodyPost_ret (v := .tuple #[.string eBA, .int .i64 1]) (by simp [results, Tryz.results148, go_sem, eBA]) rfl ⟨rfl, fin.out 0⟩
      · by_cases i3 : (g.s.size : Int) < a
        · clear h0
          obtain ⟨x, rfl⟩ := Int.eq_ofNat_of_zero_le (show 0 ≤ a by omega)
          go_enter Tryz.func148, Tryz.ntmps148
          go_wp2
          exact bodyPost_ret (v := .tuple #[.string eBA, .int .i64 1]) (by simp [results, Tryz.results148, go_sem, eBA]) rfl ⟨rfl, fin.out 0⟩
        · have i4 : (g.s.size : Int) - a < c := by unfold gOut at h0; omega
          clear h0
          obtain ⟨x, rfl⟩ := Int.eq_ofNat_of_zero_le (show 0 ≤ a by omega)
          obtain ⟨y, rfl⟩ := Int.eq_ofNat_of_zero_le (show 0 ≤ c by omega)
          go_enter Tryz.func148, Tryz.ntmps148
          go_wp2
          exact bodyPost_ret (v := .tuple #[.string eBA, .int .i64 1]) (by simp [results, Tryz.results148, go_sem, eBA]) rfl ⟨rfl, fin.out 0⟩
  · rw [if_neg h0]
    unfold gOut at h0
    obtain ⟨x, rfl⟩ := Int.eq_ofNat_of_zero_le (show 0 ≤ a by omega)
    obtain ⟨y, rfl⟩ := Int.eq_ofNat_of_zero_le (show 0 ≤ c by omega)
    have i1 : x + y ≤ g.s.size := by omega
    have i5 : y ≤ g.s.size := by omega
    have k1 : IntKind.i64.wrap ((g.s.size : Int) - y) = (g.s.size : Int) - y := by rw [IntKind.wrap_i64]; omega
    have k2 : IntKind.i64.wrap ((g.s.size : Int) - y + put.size) = (g.s.size : Int) - y + put.size := by rw [IntKind.wrap_i64]; omega
    by_cases h2 : (g.l : Int) < (g.s.size : Int) - y + put.size
    · rw [if_pos h2]
      clear h h0
      go_enter Tryz.func148, Tryz.ntmps148
      go_wp2
      go_quiet (fail)
      go_wp2
      exact bodyPost_ret (v := .tuple #[.string eBA, .int .i64 2]) (by simp [results, Tryz.results148, go_sem, eBA]) rfl ⟨rfl, HR.out.drewN _, grn (gr_refl _ _) _⟩
    · rw [if_neg h2]
      exact callsIn_wide.1 (rrep_works ⟨g1, g2, g3⟩ x y put hp i1 (by omega) w h)
end Go.Proofs.YtffipfmnpffdaaaGreatDoor.Gap
namespace Go.Proofs.YtffipfmnpffdaaaGreatDoor.Gap
open Go.RowKit Bod



theorem rb_new (w : World) (g : Gp) : RB (w.alloc (.cells #[.string g.s, .int .i64 g.p, .int .i64 g.l] 185)) w.heap.size g := by
  show (w.heap.push _)[w.heap.size]? = _
  exact Array.getElem?_push_size

set_option maxRecDepth 100000 in
set_option maxHeartbeats 1000000 in
theorem rnew_any (s : ByteArray) (n : Int) (w : World) :
    Calls Tryz.prog 71 #[.string s, .int .i64 n] w fun e w' => match gNew s n with
      | none => e = .returned (.tuple #[.pointer none, .int .i64 2]) ∧ Below w.heap.size w w'
      | some g => e = .returned (.tuple #[.pointer (some ⟨w.heap.size, 0, none⟩), .int .i64 0]) ∧ RB w' w.heap.size g ∧ Below w.heap.size w w' := by
  have e0 := lim_eq n
  unfold gNew
  by_cases h1 : n < 0
  · have e1 : lim n = 0 := by omega
    rw [e1]
    clear e0 e1
    by_cases h3 : s.size ≤ 0
    · rw [if_pos h3]
      go_enter Tryz.func71, Tryz.ntmps71
      go_wp2
      exact bodyPost_ret (v := .tuple #[.pointer (some ⟨w.heap.size, 0, none⟩), .int .i64 0]) (by simp [results, Tryz.results71, go_sem]) rfl ⟨rfl, rb_new w ⟨_, _, _⟩, (Below.refl _ w).alloc (Nat.le_refl _) _⟩
    · rw [if_neg h3]
      go_enter Tryz.func71, Tryz.ntmps71
      go_wp2
      exact bodyPost_ret (v := .tuple #[.pointer none, .int .i64 2]) (by simp [results, Tryz.results71, go_sem]) rfl ⟨rfl, Below.refl _ _⟩
  · by_cases h2 : (1073741824 : Int) < n
    · have e1 : lim n = 1073741824 := by omega
      rw [e1]
      clear e0 e1
      by_cases h3 : s.size ≤ 1073741824
      · rw [if_pos h3]
        go_enter Tryz.func71, Tryz.ntmps71
        go_wp2
        exact bodyPost_ret (v := .tuple #[.pointer (some ⟨w.heap.size, 0, none⟩), .int .i64 0]) (by simp [results, Tryz.results71, go_sem]) rfl ⟨rfl, rb_new w ⟨_, _, _⟩, (Below.refl _ w).alloc (Nat.le_refl _) _⟩
      · rw [if_neg h3]
        go_enter Tryz.func71, Tryz.ntmps71
        go_wp2
        exact bodyPost_ret (v := .tuple #[.pointer none, .int .i64 2]) (by simp [results, Tryz.results71, go_sem]) rfl ⟨rfl, Below.refl _ _⟩
    · obtain ⟨m, rfl⟩ := Int.eq_ofNat_of_zero_le (show 0 ≤ n by omega)
      have e1 : lim m = m := by omega
      rw [e1]
      clear e0 e1
      by_cases h3 : s.size ≤ m
      · rw [if_pos h3]
        go_enter Tryz.func71, Tryz.ntmps71
        go_wp2
        exact bodyPost_ret (v := .tuple #[.pointer (some ⟨w.heap.size, 0, none⟩), .int .i64 0]) (by simp [results, Tryz.results71, go_sem]) rfl ⟨rfl, rb_new w ⟨_, _, _⟩, (Below.refl _ w).alloc (Nat.le_refl _) _⟩
      · rw [if_neg h3]
        go_enter Tryz.func71, Tryz.ntmps71
        go_wp2
        exact bodyPost_ret (v := .tuple #[.pointer none, .int .i64 2]) (by simp [results, Tryz.results71, go_sem]) rfl ⟨rfl, Below.refl _ _⟩
end Go.Proofs.YtffipfmnpffdaaaGreatDoor.Gap
namespace Go.Proofs.YtffipfmnpffdaaaGreatDoor.Gap
open Go.RowKit Bod

theorem ba_inj {a b : ByteArray} (h : a.toList = b.toList) : a = b := by
  rw [Lib.toList_data, Lib.toList_data] at h
  exact ByteArray.ext (Array.toList_inj.1 h)
theorem gAt_le {s part : ByteArray} {i : Nat} (h : gAt s part i = true) : i + part.size ≤ s.size := by
  simp [gAt] at h
  exact h.1
theorem gIdx_hit {s part : ByteArray} {f : Int} {i : Nat} (h : gAt s part i = true) (hf : f ≤ i) (hn : ∀ j, j < i → f ≤ (j : Int) → gAt s part j = false) : gIdx s part f = i := by
  have hl := gAt_le h
  unfold gIdx
  have : (List.range (s.size + 1)).find? (fun (i : Nat) => decide (f ≤ (i : Int)) && gAt s part i) = some i := by
    rw [List.find?_range_eq_some]
    refine ⟨by simp [h, hf], by simp; omega, fun j hj => ?_⟩
    by_cases hfj : f ≤ (j : Int)
    · simp [hn j hj hfj]
    · simp [hfj]
  rw [this]
theorem gIdx_none {s part : ByteArray} {f : Int} (hn : ∀ j : Nat, f ≤ (j : Int) → gAt s part j = false) : gIdx s part f = -1 := by
  unfold gIdx
  have : (List.range (s.size + 1)).find? (fun (i : Nat) => decide (f ≤ (i : Int)) && gAt s part i) = none := by
    rw [List.find?_eq_none]
    intro j _
    by_cases hfj : f ≤ (j : Int)
    · simp [hn j hfj]
    · simp [hfj]
  rw [this]
theorem gIdx_low {s part : ByteArray} {f : Int} (h : f < 0) : gIdx s part f = gIdx s part 0 := by
  unfold gIdx
  have : (fun (i : Nat) => decide (f ≤ (i : Int)) && gAt s part i) = (fun (i : Nat) => decide ((0 : Int) ≤ (i : Int)) && gAt s part i) := by
    funext i
    rw [decide_eq_true (show f ≤ (i : Int) by omega), decide_eq_true (show (0 : Int) ≤ (i : Int) by omega)]
  rw [this]



end Go.Proofs.YtffipfmnpffdaaaGreatDoor.Gap