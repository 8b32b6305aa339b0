/-
  The walk of the document's list of units: Units: a new list of a text's units. Conditions: the text is so short that its list can be made.
-/
import Derived.Test.YtgagpmeknpjkpaaGreatDoorYRefB
import Derived.Test.YtgagpmeknpjkpaaGreatDoorPkA
namespace Go.Proofs.YtgagpmeknpjkpaaGreatDoor
open Go.RowKit Bod

theorem infoU : (Tryz.prog.info? 93).map (fun i => (i.zero, i.size, i.bytes)) = some (some (.agg #[.int .i32 0, .int .i64 0]), 2, 16) := by kernel_rfl
/-- the cells of a list of units -/
def ucells (s : ByteArray) (xs : List Nat) : List Value := xs.flatMap fun i => [Value.int .i32 (ch s i), Value.int .i64 (sz s i)]
theorem ucells_get (s : ByteArray) : ∀ (xs : List Nat) (j x : Nat), xs[j]? = some x → (ucells s xs)[j * 2]? = some (.int .i32 (ch s x)) ∧ (ucells s xs)[j * 2 + 1]? = some (.int .i64 (sz s x))
  | [], _, _, h => by simp at h
  | y :: xs, 0, x, h => by
    have : y = x := by simpa using h
    subst this
    simp [ucells]
  | y :: xs, j + 1, x, h => by
    have := ucells_get s xs j x (by simpa using h)
    simp only [ucells, List.flatMap_cons] at this ⊢
    rw [show (j + 1) * 2 = j * 2 + 2 by omega]
    simpa using this
theorem ucells_len (s : ByteArray) : ∀ xs : List Nat, (ucells s xs).length = xs.length * 2
  | [] => rfl
  | x :: xs => by
    have := ucells_len s xs
    simp only [ucells, List.flatMap_cons, List.length_append, List.length_cons, List.length_nil] at this ⊢
    omega
theorem row_below' {base e size n : Nat} {v : Value} {xs : List Value} {W W' : World} (h : W.ownsRow base e size v n xs) (hb : Below W.heap.size W W') : W'.ownsRow base e size v n xs :=
  h.kept (row := none) ⟨hb.os, hb.tape, hb.output, hb.size, fun k hk _ => hb.block k hk⟩ (by cases hv : v.ownBlock with
    | none => exact .inl rfl
    | some _ => exact .inr (by simp))
theorem ch_tail (s : ByteArray) (i : Nat) (hi : i < s.size) : ch (s.extract i s.size) 0 = ch s i := by
  have := ch_extract s i s.size 0 (Nat.le_refl _) (by omega) (.inr rfl)
  simpa using this
theorem ucells_snoc (s : ByteArray) (pre : List Nat) (i : Nat) : ucells s (pre ++ [i]) = ucells s pre ++ [.int .i32 (ch s i), .int .i64 (sz s i)] := by simp [ucells]
theorem grown_cell {W W' : World} {row : Option Nat} {a : Addr} (h : W.grownBy W' row) (hlt : a.block < W.heap.size) (hne : row ≠ some a.block) : W'.cell? a = W.cell? a :=
  World.cell?_of_block (h.block a.block hlt (fun e => hne e.symm))
theorem cell_two_new2 (w : World) (o : Obj) (a b : Value) (t : TypeId) : ∀ j u, [a, b][j]? = some u → ((w.alloc o).alloc (.cells #[a, b] t)).cell? ((⟨w.heap.size + 1, 0, none⟩ : Addr).add j) = some u := by
  have := cell_two_new (w.alloc o) a b t
  rwa [World.size_alloc] at this

set_option maxRecDepth 100000 in
set_option maxHeartbeats 2000000 in
theorem runits_any (s : ByteArray) (hs : s.size * 16 ≤ 140737488355328) (w : World) :
    Calls Tryz.prog 91 #[.string s] w fun e W' => ∃ v, e = .returned v ∧ W'.ownsRow w.heap.size 93 2 v (offs s 0).length (ucells s (offs s 0)) ∧ Below w.heap.size w W' := by
  obtain ⟨i0, hi, hz0, hz1, hz2⟩ := info_parts infoU
  have hl0 := offs_len_le s
  go_enter Tryz.func91, Tryz.ntmps91
  go_wp2
  go_loopw [3, 4] (fun v t wr => ∃ (pre : List Nat) (i : Nat), t = .int .i64 i ∧ i ≤ s.size ∧ pre ++ offs s i = offs s 0 ∧ wr.ownsRow w.heap.size 93 2 v pre.length (ucells s pre) ∧ Below w.heap.size w wr) (fun _ t _ => s.size - (intOf t).toNat)
  case atStart => exact ⟨[], 0, rfl, by omega, rfl, World.ownsRow_nil _ _ _ _, Below.refl _ _⟩
  case round =>
    obtain ⟨pre, i, rfl, his, hpre, hrow, hB⟩ := hrel
    by_cases hlt : i < s.size
    · have cB := begins_any (s.extract i s.size) (by simp; omega) wr
      rw [ch_tail s i hlt] at cB
      have hpos := sz_pos hlt
      have hzi := sz_in hlt
      have hplen : pre.length + 1 ≤ s.size := by
        have := congrArg List.length hpre
        rw [offs_step hlt, List.length_append, List.length_cons] at this
        omega
      have HP : Hid (pre ++ [i] ++ offs s (i + sz s i) = offs s 0) := by
        show pre ++ [i] ++ offs s (i + sz s i) = offs s 0
        rw [← hpre, offs_step hlt]; simp
      have HU := ucells_snoc s pre i
      clear hpre
      have hBs := hB.size
      by_cases hc : 0 ≤ ch s i
      · have cS := fun W : World => size_any (ch s i) W
        rw [← sz_good hc hlt] at cS
        have HR : Hid (((wr.alloc (.cells #[.int .i32 (ch s i), .int .i64 (sz s i)] 93)).alloc (.cells #[.int .i32 (ch s i), .int .i64 (sz s i)] 93)).ownsRow w.heap.size 93 2 _ pre.length (ucells s pre)) := (hrow.alloc _).alloc _
        go_wp2_with (first | (go_at_call 107; refine cB.mono ?_; clear cB; rintro e w1 ⟨rfl, rfl⟩) | (go_at_call 108; refine (cS _).mono ?_; clear cS; rintro e w2 ⟨rfl, rfl⟩) | (at_builtin; refine wpList_append_own _ rfl _ _ 112 rfl w.heap.size 93 i0 _ 2 16 Tryz.underlying112 hi hz0 hz1 hz2 rfl (by decide) _ pre.length _ rfl HR.out ⟨wr.heap.size + 1, 0, none⟩ 1 1 [.int .i32 (ch s i), .int .i64 (sz s i)] rfl rfl (cell_two_new2 _ _ _ _ _) (by simp [Value.oneCell']) (by unfold maxLen; omega) (by omega) (by simp; omega) ?_; intro v3 w3 hrow3 hg3 _; have hu3 : w3.cell? ⟨wr.heap.size, 1, none⟩ = some (.int .i64 (sz s i)) := by rw [grown_cell hg3 (by simp; omega) (fun e => by have := (hrow.lt _ e).2; simp at this)]; simp))
        exact ⟨⟨pre ++ [i], i + sz s i, by go_num, by omega, HP.out, by rw [HU]; simpa using hrow3, ((hB.alloc hBs _).alloc (by simp; omega) _).grown hg3 (by simp; omega) (fun j e => (hrow.lt j e).1)⟩, by simp [intOf]; omega⟩
      · obtain ⟨hcm, hz⟩ := ch_neg (s := s) (i := i) (by omega)
        rw [hz] at HP hzi HU
        rw [hcm] at HU cB
        clear hz hcm hc hpos
        have HR : Hid (((wr.alloc (.cells #[.int .i32 (-1), .int .i64 1] 93)).alloc (.cells #[.int .i32 (-1), .int .i64 1] 93)).ownsRow w.heap.size 93 2 _ pre.length (ucells s pre)) := (hrow.alloc _).alloc _
        go_wp2_with (first | (go_at_call 107; refine cB.mono ?_; clear cB; rintro e w1 ⟨rfl, rfl⟩) | (at_builtin; refine wpList_append_own _ rfl _ _ 112 rfl w.heap.size 93 i0 _ 2 16 Tryz.underlying112 hi hz0 hz1 hz2 rfl (by decide) _ pre.length _ rfl HR.out ⟨wr.heap.size + 1, 0, none⟩ 1 1 [.int .i32 (-1), .int .i64 1] rfl rfl (cell_two_new2 _ _ _ _ _) (by simp [Value.oneCell']) (by unfold maxLen; omega) (by omega) (by simp; omega) ?_; intro v3 w3 hrow3 hg3 _; have hu3 : w3.cell? ⟨wr.heap.size, 1, none⟩ = some (.int .i64 1) := by rw [grown_cell hg3 (by simp; omega) (fun e => by have := (hrow.lt _ e).2; simp at this)]; simp))
        exact ⟨⟨pre ++ [i], i + 1, by go_num, by omega, HP.out, by rw [HU]; simpa using hrow3, ((hB.alloc hBs _).alloc (by simp; omega) _).grown hg3 (by simp; omega) (fun j e => (hrow.lt j e).1)⟩, by simp [intOf]; omega⟩
    · go_wp2
      go_ret
      have : offs s i = [] := offs_end (by omega)
      rw [this, List.append_nil] at hpre
      subst hpre
      exact ⟨_, rfl, hrow, hB⟩
end Go.Proofs.YtgagpmeknpjkpaaGreatDoor
