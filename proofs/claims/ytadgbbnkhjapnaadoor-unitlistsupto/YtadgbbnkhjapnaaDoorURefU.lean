/-
  The walk of the document's list of units: Units: a new list of a text's units. Conditions: the text is so short that its list can be made.
-/
import Derived.Test.YtadgbbnkhjapnaaDoorURefB
import Derived.Test.YtadgbbnkhjapnaaDoorUAlike
import Derived.OwnWalk
namespace Go.Proofs.YtadgbbnkhjapnaaDoor
open Go.RowKit Bod

theorem row_below' {base e size n : Nat} {v : Value} {xs : List Value} {W W' : World} (h : W.ownsRow base e size v n xs) (hb : Below W.heap.size W W') : W'.ownsRow base e size v n xs :=
  h.kept (row := none) ⟨hb.os, hb.tape, hb.output, hb.size, fun k hk _ => hb.block k hk⟩ (by cases hv : v.ownBlock with
    | none => exact .inl rfl
    | some _ => exact .inr (by simp))
theorem ch_tail (s : ByteArray) (i : Nat) (hi : i < s.size) : ch (s.extract i s.size) 0 = ch s i := by
  have := ch_extract s i s.size 0 (Nat.le_refl _) (by omega) (.inr rfl)
  simpa using this
theorem ucells_snoc (s : ByteArray) (pre : List Nat) (i : Nat) : ucells s (pre ++ [i]) = ucells s pre ++ [.int .i32 (ch s i), .int .i64 (sz s i)] := by simp [ucells]
/-- an own row of units is read -/
theorem Rd.of_own {W : World} {base : Nat} {v : Value} {s : ByteArray} {xs : List Nat} (h : W.ownsRow base 36 2 v xs.length (ucells s xs)) : Rd W v xs.length (chAt s xs) (szAt s xs) := by
  have h' := h
  rcases h.2 with ⟨rfl, h0⟩ | ⟨g, cap, cur, rfl, _⟩
  · rw [h0]; exact ⟨none, 0, rfl, fun q => absurd rfl q⟩
  · exact Rd.of_row h'

theorem grown_cell {W W' : World} {row : Option Nat} {a : Addr} (h : W.grownBy W' row) (hlt : a.block < W.heap.size) (hne : row ≠ some a.block) : W'.cell? a = W.cell? a :=
  World.cell?_of_block (h.block a.block hlt (fun e => hne e.symm))
theorem cell_two_new2 (w : World) (o : Obj) (a b : Value) (t : TypeId) : ∀ j u, [a, b][j]? = some u → ((w.alloc o).alloc (.cells #[a, b] t)).cell? ((⟨w.heap.size + 1, 0, none⟩ : Addr).add j) = some u := by
  have := cell_two_new (w.alloc o) a b t
  rwa [World.size_alloc] at this

set_option maxRecDepth 100000 in
set_option maxHeartbeats 2000000 in
theorem runits_any (s : ByteArray) (hs : s.size * 16 ≤ 140737488355328) (w : World) :
    Calls Tryd.prog 10 #[.string s] w fun e W' => ∃ v, e = .returned v ∧ W'.ownsRow w.heap.size 36 2 v (offs s 0).length (ucells s (offs s 0)) ∧ Below w.heap.size w W' := by
  obtain ⟨i0, hi, hz0, hz1, hz2⟩ := info_parts infoU
  have hl0 := offs_len_le s
  go_enter Tryd.func10, Tryd.ntmps10
  go_wp2
  go_loopw [3, 4] (fun v t wr => ∃ (pre : List Nat) (i : Nat), t = .int .i64 i ∧ i ≤ s.size ∧ pre ++ offs s i = offs s 0 ∧ wr.ownsRow w.heap.size 36 2 v pre.length (ucells s pre) ∧ Below w.heap.size w wr) (fun _ t _ => s.size - (intOf t).toNat)
  case atStart => exact ⟨[], 0, rfl, by omega, rfl, World.ownsRow_nil _ _ _ _, Below.refl _ _⟩
  case round =>
    obtain ⟨pre, i, rfl, his, hpre, hrow, hB⟩ := hrel
    by_cases hlt : i < s.size
    · have cB := begins_any (s.extract i s.size) (by simp; omega) wr
      rw [ch_tail s i hlt] at cB
      have hpos := sz_pos hlt
      have hzi := sz_in hlt
      have hplen : pre.length + 1 ≤ s.size := by
        have := congrArg List.length hpre
        rw [offs_step hlt, List.length_append, List.length_cons] at this
        omega
      have HP : Hid (pre ++ [i] ++ offs s (i + sz s i) = offs s 0) := by
        show pre ++ [i] ++ offs s (i + sz s i) = offs s 0
        rw [← hpre, offs_step hlt]; simp
      have HU := ucells_snoc s pre i
      clear hpre
      have hBs := hB.size
      by_cases hc : 0 ≤ ch s i
      · have cS := fun W : World => size_any (ch s i) W
        rw [← sz_good hc hlt] at cS
        have HR : Hid (((wr.alloc (.cells #[.int .i32 (ch s i), .int .i64 (sz s i)] 36)).alloc (.cells #[.int .i32 (ch s i), .int .i64 (sz s i)] 36)).ownsRow w.heap.size 36 2 _ pre.length (ucells s pre)) := (hrow.alloc _).alloc _
        go_wp2_with (first | (go_at_call 25; refine cB.mono ?_; clear cB; rintro e w1 ⟨rfl, rfl⟩) | (go_at_call 26; refine (cS _).mono ?_; clear cS; rintro e w2 ⟨rfl, rfl⟩) | (at_builtin; refine wpList_append_own _ rfl _ _ 24 rfl w.heap.size 36 i0 _ 2 16 Tryd.underlying24 hi hz0 hz1 hz2 rfl (by decide) _ pre.length _ rfl HR.out ⟨wr.heap.size + 1, 0, none⟩ 1 1 [.int .i32 (ch s i), .int .i64 (sz s i)] rfl rfl (cell_two_new2 _ _ _ _ _) (by simp [Value.oneCell']) (by unfold maxLen; omega) (by omega) (by simp; omega) ?_; intro v3 w3 hrow3 hg3 _; have hu3 : w3.cell? ⟨wr.heap.size, 1, none⟩ = some (.int .i64 (sz s i)) := by rw [grown_cell hg3 (by simp; omega) (fun e => by have := (hrow.lt _ e).2; simp at this)]; simp))
        exact ⟨⟨pre ++ [i], i + sz s i, by go_num, by omega, HP.out, by rw [HU]; simpa using hrow3, ((hB.alloc hBs _).alloc (by simp; omega) _).grown hg3 (by simp; omega) (fun j e => (hrow.lt j e).1)⟩, by simp [intOf]; omega⟩
      · obtain ⟨hcm, hz⟩ := ch_neg (s := s) (i := i) (by omega)
        rw [hz] at HP hzi HU
        rw [hcm] at HU cB
        clear hz hcm hc hpos
        have HR : Hid (((wr.alloc (.cells #[.int .i32 (-1), .int .i64 1] 36)).alloc (.cells #[.int .i32 (-1), .int .i64 1] 36)).ownsRow w.heap.size 36 2 _ pre.length (ucells s pre)) := (hrow.alloc _).alloc _
        go_wp2_with (first | (go_at_call 25; refine cB.mono ?_; clear cB; rintro e w1 ⟨rfl, rfl⟩) | (at_builtin; refine wpList_append_own _ rfl _ _ 24 rfl w.heap.size 36 i0 _ 2 16 Tryd.underlying24 hi hz0 hz1 hz2 rfl (by decide) _ pre.length _ rfl HR.out ⟨wr.heap.size + 1, 0, none⟩ 1 1 [.int .i32 (-1), .int .i64 1] rfl rfl (cell_two_new2 _ _ _ _ _) (by simp [Value.oneCell']) (by unfold maxLen; omega) (by omega) (by simp; omega) ?_; intro v3 w3 hrow3 hg3 _; have hu3 : w3.cell? ⟨wr.heap.size, 1, none⟩ = some (.int .i64 1) := by rw [grown_cell hg3 (by simp; omega) (fun e => by have := (hrow.lt _ e).2; simp at this)]; simp))
        exact ⟨⟨pre ++ [i], i + 1, by go_num, by omega, HP.out, by rw [HU]; simpa using hrow3, ((hB.alloc hBs _).alloc (by simp; omega) _).grown hg3 (by simp; omega) (fun j e => (hrow.lt j e).1)⟩, by simp [intOf]; omega⟩
    · go_wp2
      go_ret
      have : offs s i = [] := offs_end (by omega)
      rw [this, List.append_nil] at hpre
      subst hpre
      exact ⟨_, rfl, hrow, hB⟩
end Go.Proofs.YtadgbbnkhjapnaaDoor
