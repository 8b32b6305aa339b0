/-
  The walks of the document's own copy of package gap, on: New, Insert, Delete, Index. Conditions: those of each theorem.
-/
import Derived.Test.YtgagpmeknpjkpaaGreatDoorGRef
namespace Go.Proofs.YtgagpmeknpjkpaaGreatDoor
open Go.RowKit Bod

set_option maxRecDepth 100000 in
set_option maxHeartbeats 1000000 in
theorem rins_any {b : Nat} {g : Gp} (hg : g.ok) (a : Int) (put : ByteArray) (hp : put.size ≤ 140737488355328) (w : World) (h : RB w b g) :
    Calls Tryz.prog 27 #[.pointer (some ⟨b, 0, none⟩), .int .i64 a, .string put] w fun e w' => e = .returned (.int .i64 (gRep g a 0 put).2.2) ∧ RB w' b (gRep g a 0 put).1 ∧ w.grownBy w' (some b) := by
  have CR : Hid (Calls Tryz.prog 30 #[.pointer (some ⟨b, 0, none⟩), .int .i64 a, .int .i64 0, .string put] w fun e w' => e = .returned (.tuple #[.string (gRep g a 0 put).2.1, .int .i64 (gRep g a 0 put).2.2]) ∧ RB w' b (gRep g a 0 put).1 ∧ w.grownBy w' (some b)) := rrep_any hg a 0 put hp w h
  clear h
  go_enter Tryz.func27, Tryz.ntmps27
  go_wp2_with (go_at_call 30; refine (Hid.out CR).mono ?_; rintro e w1 ⟨rfl, h1, h2⟩)
  go_ret
  exact ⟨rfl, h1, h2⟩

set_option maxRecDepth 100000 in
set_option maxHeartbeats 1000000 in
theorem rdel_any {b : Nat} {g : Gp} (hg : g.ok) (a n : Int) (w : World) (h : RB w b g) :
    Calls Tryz.prog 29 #[.pointer (some ⟨b, 0, none⟩), .int .i64 a, .int .i64 n] w fun e w' => e = .returned (.tuple #[.string (gRep g a n eBA).2.1, .int .i64 (gRep g a n eBA).2.2]) ∧ RB w' b (gRep g a n eBA).1 ∧ w.grownBy w' (some b) := by
  have CR : Hid (Calls Tryz.prog 30 #[.pointer (some ⟨b, 0, none⟩), .int .i64 a, .int .i64 n, .string ⟨#[]⟩] w fun e w' => e = .returned (.tuple #[.string (gRep g a n eBA).2.1, .int .i64 (gRep g a n eBA).2.2]) ∧ RB w' b (gRep g a n eBA).1 ∧ w.grownBy w' (some b)) := rrep_any hg a n eBA (by show 0 ≤ _; omega) w h
  clear h
  go_enter Tryz.func29, Tryz.ntmps29
  go_wp2_with (go_at_call 30; refine (Hid.out CR).mono ?_; rintro e w1 ⟨rfl, h1, h2⟩)
  exact bodyPost_ret (v := .tuple #[.string (gRep g a n eBA).2.1, .int .i64 (gRep g a n eBA).2.2]) (by simp [results, Tryz.results29, go_sem]) rfl ⟨rfl, h1, h2⟩

theorem rb_new (w : World) (g : Gp) : RB (w.alloc (.cells #[.string g.s, .int .i64 g.p, .int .i64 g.l] 43)) w.heap.size g := by
  show (w.heap.push _)[w.heap.size]? = _
  exact Array.getElem?_push_size

set_option maxRecDepth 100000 in
set_option maxHeartbeats 1000000 in
theorem rnew_any (s : ByteArray) (n : Int) (w : World) :
    Calls Tryz.prog 8 #[.string s, .int .i64 n] w fun e w' => match gNew s n with
      | none => e = .returned (.tuple #[.pointer none, .int .i64 2]) ∧ Below w.heap.size w w'
      | some g => e = .returned (.tuple #[.pointer (some ⟨w.heap.size, 0, none⟩), .int .i64 0]) ∧ RB w' w.heap.size g ∧ Below w.heap.size w w' := by
  have e0 := lim_eq n
  unfold gNew
  by_cases h1 : n < 0
  · have e1 : lim n = 0 := by omega
    rw [e1]
    clear e0 e1
    by_cases h3 : s.size ≤ 0
    · rw [if_pos h3]
      go_enter Tryz.func8, Tryz.ntmps8
      go_wp2
      exact bodyPost_ret (v := .tuple #[.pointer (some ⟨w.heap.size, 0, none⟩), .int .i64 0]) (by simp [results, Tryz.results8, go_sem]) rfl ⟨rfl, rb_new w ⟨_, _, _⟩, (Below.refl _ w).alloc (Nat.le_refl _) _⟩
    · rw [if_neg h3]
      go_enter Tryz.func8, Tryz.ntmps8
      go_wp2
      exact bodyPost_ret (v := .tuple #[.pointer none, .int .i64 2]) (by simp [results, Tryz.results8, go_sem]) rfl ⟨rfl, Below.refl _ _⟩
  · by_cases h2 : (1073741824 : Int) < n
    · have e1 : lim n = 1073741824 := by omega
      rw [e1]
      clear e0 e1
      by_cases h3 : s.size ≤ 1073741824
      · rw [if_pos h3]
        go_enter Tryz.func8, Tryz.ntmps8
        go_wp2
        exact bodyPost_ret (v := .tuple #[.pointer (some ⟨w.heap.size, 0, none⟩), .int .i64 0]) (by simp [results, Tryz.results8, go_sem]) rfl ⟨rfl, rb_new w ⟨_, _, _⟩, (Below.refl _ w).alloc (Nat.le_refl _) _⟩
      · rw [if_neg h3]
        go_enter Tryz.func8, Tryz.ntmps8
        go_wp2
        exact bodyPost_ret (v := .tuple #[.pointer none, .int .i64 2]) (by simp [results, Tryz.results8, go_sem]) rfl ⟨rfl, Below.refl _ _⟩
    · obtain ⟨m, rfl⟩ := Int.eq_ofNat_of_zero_le (show 0 ≤ n by omega)
      have e1 : lim m = m := by omega
      rw [e1]
      clear e0 e1
      by_cases h3 : s.size ≤ m
      · rw [if_pos h3]
        go_enter Tryz.func8, Tryz.ntmps8
        go_wp2
        exact bodyPost_ret (v := .tuple #[.pointer (some ⟨w.heap.size, 0, none⟩), .int .i64 0]) (by simp [results, Tryz.results8, go_sem]) rfl ⟨rfl, rb_new w ⟨_, _, _⟩, (Below.refl _ w).alloc (Nat.le_refl _) _⟩
      · rw [if_neg h3]
        go_enter Tryz.func8, Tryz.ntmps8
        go_wp2
        exact bodyPost_ret (v := .tuple #[.pointer none, .int .i64 2]) (by simp [results, Tryz.results8, go_sem]) rfl ⟨rfl, Below.refl _ _⟩
end Go.Proofs.YtgagpmeknpjkpaaGreatDoor
namespace Go.Proofs.YtgagpmeknpjkpaaGreatDoor
open Go.RowKit Bod

theorem ba_inj {a b : ByteArray} (h : a.toList = b.toList) : a = b := by
  rw [Lib.toList_data, Lib.toList_data] at h
  exact ByteArray.ext (Array.toList_inj.1 h)
theorem gAt_le {s part : ByteArray} {i : Nat} (h : gAt s part i = true) : i + part.size ≤ s.size := by
  simp [gAt] at h
  exact h.1
theorem gIdx_hit {s part : ByteArray} {f : Int} {i : Nat} (h : gAt s part i = true) (hf : f ≤ i) (hn : ∀ j, j < i → f ≤ (j : Int) → gAt s part j = false) : gIdx s part f = i := by
  have hl := gAt_le h
  unfold gIdx
  have : (List.range (s.size + 1)).find? (fun (i : Nat) => decide (f ≤ (i : Int)) && gAt s part i) = some i := by
    rw [List.find?_range_eq_some]
    refine ⟨by simp [h, hf], by simp; omega, fun j hj => ?_⟩
    by_cases hfj : f ≤ (j : Int)
    · simp [hn j hj hfj]
    · simp [hfj]
  rw [this]
theorem gIdx_none {s part : ByteArray} {f : Int} (hn : ∀ j : Nat, f ≤ (j : Int) → gAt s part j = false) : gIdx s part f = -1 := by
  unfold gIdx
  have : (List.range (s.size + 1)).find? (fun (i : Nat) => decide (f ≤ (i : Int)) && gAt s part i) = none := by
    rw [List.find?_eq_none]
    intro j _
    by_cases hfj : f ≤ (j : Int)
    · simp [hn j hfj]
    · simp [hfj]
  rw [this]
theorem gIdx_low {s part : ByteArray} {f : Int} (h : f < 0) : gIdx s part f = gIdx s part 0 := by
  unfold gIdx
  have : (fun (i : Nat) => decide (f ≤ (i : Int)) && gAt s part i) = (fun (i : Nat) => decide ((0 : Int) ≤ (i : Int)) && gAt s part i) := by
    funext i
    rw [decide_eq_true (show f ≤ (i : Int) by omega), decide_eq_true (show (0 : Int) ≤ (i : Int) by omega)]
  rw [this]

set_option maxRecDepth 100000 in
set_option maxHeartbeats 1000000 in
theorem ridx_nat {b : Nat} {g : Gp} (hg : g.ok) (part : ByteArray) (hp : part.size ≤ 140737488355328) (f : Nat) (w : World) (h : RB w b g) :
    Calls Tryz.prog 39 #[.pointer (some ⟨b, 0, none⟩), .string part, .int .i64 f] w fun e w' => e = .returned (.int .i64 (gIdx g.s part f)) ∧ Below w.heap.size w w' := by
  obtain ⟨⟨c0, c1, c2⟩, f0, f1, hb⟩ := h.cells
  obtain ⟨g1, g2, g3⟩ := hg
  have k1 : IntKind.i64.wrap ((g.s.size : Int) - part.size) = (g.s.size : Int) - part.size := by rw [IntKind.wrap_i64]; omega
  clear h
  go_enter Tryz.func39, Tryz.ntmps39
  go_wp2
  go_loopw [7] (fun t wr => ∃ k m : Nat, f ≤ k ∧ (∀ j : Nat, j < k → (f : Int) ≤ (j : Int) → gAt g.s part j = false) ∧ t = .int .i64 k ∧ wr = w.drewN m) (fun t _ => g.s.size + 1 - (intOf t).toNat)
  case atStart => exact ⟨f, 0, Nat.le_refl _, fun j h1 h2 => by omega, rfl, rfl⟩
  case round =>
    obtain ⟨k, m, hk, hn, rfl, rfl⟩ := hrel
    have HN : Hid (∀ j : Nat, j < k → (f : Int) ≤ (j : Int) → gAt g.s part j = false) := hn
    clear hn
    by_cases hlt : (k : Int) ≤ (g.s.size : Int) - part.size
    · have hl : k + part.size ≤ g.s.size := by omega
      by_cases hat : g.s.extract k (k + part.size) = part
      · have HE : Hid (gIdx g.s part f = k) := gIdx_hit (by simp [gAt, hl, hat]) (by omega) HN.out
        have ht : ((g.s.extract k (k + part.size)).toList == part.toList) = true := by rw [hat]; simp
        clear hat
        go_wp2
        go_ret
        exact ⟨by rw [HE.out]; rfl, bln _ _⟩
      · have HE : Hid (∀ j : Nat, j < k + 1 → (f : Int) ≤ (j : Int) → gAt g.s part j = false) := fun j h1 h2 => by
          rcases Nat.lt_or_ge j k with h | h
          · exact HN.out j h h2
          · obtain rfl : j = k := by omega
            simp [gAt, hat]
        have ht : ((g.s.extract k (k + part.size)).toList == part.toList) = false := by
          rw [beq_eq_false_iff_ne]
          intro e
          exact hat (ba_inj e)
        clear hat
        go_wp2
        exact ⟨⟨k + 1, m, by omega, HE.out, by go_num, rfl⟩, by simp [intOf]; omega⟩
    · have HE : Hid (gIdx g.s part f = -1) := gIdx_none fun j hj => by
        rcases Nat.lt_or_ge j k with h | h
        · exact HN.out j h hj
        · simp [gAt]
          intro h'
          omega
      have hlt' : (g.s.size : Int) - part.size < k := by omega
      clear hlt
      go_wp2
      go_ret
      exact ⟨by rw [HE.out]; rfl, bln _ _⟩

set_option maxRecDepth 100000 in
set_option maxHeartbeats 1000000 in
theorem ridx_low {b : Nat} {g : Gp} (hg : g.ok) (part : ByteArray) (hp : part.size ≤ 140737488355328) (f : Int) (hf : f < 0) (w : World) (h : RB w b g) :
    Calls Tryz.prog 39 #[.pointer (some ⟨b, 0, none⟩), .string part, .int .i64 f] w fun e w' => e = .returned (.int .i64 (gIdx g.s part 0)) ∧ Below w.heap.size w w' := by
  obtain ⟨⟨c0, c1, c2⟩, f0, f1, hb⟩ := h.cells
  obtain ⟨g1, g2, g3⟩ := hg
  have k1 : IntKind.i64.wrap ((g.s.size : Int) - part.size) = (g.s.size : Int) - part.size := by rw [IntKind.wrap_i64]; omega
  clear h
  go_enter Tryz.func39, Tryz.ntmps39
  go_wp2
  go_loopw [7] (fun t wr => ∃ k m : Nat, (∀ j : Nat, j < k → (0 : Int) ≤ (j : Int) → gAt g.s part j = false) ∧ t = .int .i64 k ∧ wr = w.drewN m) (fun t _ => g.s.size + 1 - (intOf t).toNat)
  case atStart => exact ⟨0, 0, fun j h1 h2 => by omega, rfl, rfl⟩
  case round =>
    obtain ⟨k, m, hn, rfl, rfl⟩ := hrel
    have HN : Hid (∀ j : Nat, j < k → (0 : Int) ≤ (j : Int) → gAt g.s part j = false) := hn
    clear hn
    by_cases hlt : (k : Int) ≤ (g.s.size : Int) - part.size
    · have hl : k + part.size ≤ g.s.size := by omega
      by_cases hat : g.s.extract k (k + part.size) = part
      · have HE : Hid (gIdx g.s part 0 = k) := gIdx_hit (by simp [gAt, hl, hat]) (by omega) HN.out
        have ht : ((g.s.extract k (k + part.size)).toList == part.toList) = true := by rw [hat]; simp
        clear hat
        go_wp2
        go_ret
        exact ⟨by rw [HE.out]; rfl, bln _ _⟩
      · have HE : Hid (∀ j : Nat, j < k + 1 → (0 : Int) ≤ (j : Int) → gAt g.s part j = false) := fun j h1 h2 => by
          rcases Nat.lt_or_ge j k with h | h
          · exact HN.out j h h2
          · obtain rfl : j = k := by omega
            simp [gAt, hat]
        have ht : ((g.s.extract k (k + part.size)).toList == part.toList) = false := by
          rw [beq_eq_false_iff_ne]
          intro e
          exact hat (ba_inj e)
        clear hat
        go_wp2
        exact ⟨⟨k + 1, m, HE.out, by go_num, rfl⟩, by simp [intOf]; omega⟩
    · have HE : Hid (gIdx g.s part 0 = -1) := gIdx_none fun j hj => by
        rcases Nat.lt_or_ge j k with h | h
        · exact HN.out j h hj
        · simp [gAt]
          intro h'
          omega
      have hlt' : (g.s.size : Int) - part.size < k := by omega
      clear hlt
      go_wp2
      go_ret
      exact ⟨by rw [HE.out]; rfl, bln _ _⟩

theorem ridx_any {b : Nat} {g : Gp} (hg : g.ok) (part : ByteArray) (hp : part.size ≤ 140737488355328) (f : Int) (w : World) (h : RB w b g) :
    Calls Tryz.prog 39 #[.pointer (some ⟨b, 0, none⟩), .string part, .int .i64 f] w fun e w' => e = .returned (.int .i64 (gIdx g.s part f)) ∧ Below w.heap.size w w' := by
  by_cases hf : f < 0
  · rw [gIdx_low hf]
    exact ridx_low hg part hp f hf w h
  · obtain ⟨m, rfl⟩ := Int.eq_ofNat_of_zero_le (show 0 ≤ f by omega)
    exact ridx_nat hg part hp m w h
end Go.Proofs.YtgagpmeknpjkpaaGreatDoor
