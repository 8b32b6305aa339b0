/-
  The document's own packages unit, width and cluster: the list of clusters; all boundaries. Conditions: those of each theorem.
-/
import Derived.Test.YtenkmidlipjobaaGreatDoorKBase
import Derived.Test.YtenkmidlipjobaaGreatDoorPkA
import Derived.Test.YtenkmidlipjobaaGreatDoorPkVW
import Derived.Lib.Strings
import Derived.Lib.IndexBytes
import Derived.Test.YtenkmidlipjobaaGreatDoorCRd
import Derived.Deep.RegionHeld3
import Derived.BigQuiet
import Derived.Test.YtenkmidlipjobaaGreatDoorPkB
namespace Go.Proofs.YtenkmidlipjobaaGreatDoor
open Go.RowKit Bod

set_option maxHeartbeats 1000000 in
theorem rscalar_any (r : Int) (w : World) : Calls Tryz.prog 166 #[.int .i32 r] w fun e w' => e = .returned (.bool (Lib.validRune r)) ∧ w = w' := by
  by_cases h1 : 0 ≤ r
  · by_cases h2 : r ≤ 1114111
    · by_cases h3 : r < 55296
      · rw [show Lib.validRune r = true from (valid_iff r).2 (by omega)]
        go_enter Tryz.func166, Tryz.ntmps166
        go_wp2
        go_ret
        exact ⟨rfl, rfl⟩
      · by_cases h4 : 57343 < r
        · rw [show Lib.validRune r = true from (valid_iff r).2 (by omega)]
          go_enter Tryz.func166, Tryz.ntmps166
          go_wp2
          go_ret
          exact ⟨rfl, rfl⟩
        · rw [show Lib.validRune r = false from by rw [← Bool.not_eq_true, valid_iff]; omega]
          go_enter Tryz.func166, Tryz.ntmps166
          go_wp2
          go_ret
          exact ⟨rfl, rfl⟩
    · rw [show Lib.validRune r = false from by rw [← Bool.not_eq_true, valid_iff]; omega]
      go_enter Tryz.func166, Tryz.ntmps166
      go_wp2
      go_ret
      exact ⟨rfl, rfl⟩
  · rw [show Lib.validRune r = false from by rw [← Bool.not_eq_true, valid_iff]; omega]
    go_enter Tryz.func166, Tryz.ntmps166
    go_wp2
    go_ret
    exact ⟨rfl, rfl⟩

set_option maxHeartbeats 1000000 in
theorem size_any (r : Int) (w : World) : Calls Tryz.prog 140 #[.int .i32 r] w fun e w' => e = .returned (.int .i64 (sizeN r)) ∧ w = w' := by
  unfold sizeN
  by_cases h1 : r < 128
  · rw [if_pos h1]
    go_enter Tryz.func140, Tryz.ntmps140
    go_wp2
    go_ret
    exact ⟨rfl, rfl⟩
  · rw [if_neg h1]
    by_cases h2 : r < 2048
    · rw [if_pos h2]
      go_enter Tryz.func140, Tryz.ntmps140
      go_wp2
      go_ret
      exact ⟨rfl, rfl⟩
    · rw [if_neg h2]
      by_cases h3 : r < 65536
      · rw [if_pos h3]
        go_enter Tryz.func140, Tryz.ntmps140
        go_wp2
        go_ret
        exact ⟨rfl, rfl⟩
      · rw [if_neg h3]
        go_enter Tryz.func140, Tryz.ntmps140
        go_wp2
        go_ret
        exact ⟨rfl, rfl⟩


set_option maxRecDepth 100000 in
set_option maxHeartbeats 1000000 in
theorem lead_0 (b : Nat) (hh : b < 128) (w : World) : Calls Tryz.prog 165 #[.int .u8 b] w fun e w' => e = .returned (.tuple #[.int .i32 (b : Int), .int .i64 0]) ∧ w = w' := by
  go_enter Tryz.func165, Tryz.ntmps165
  go_wp2
  go_ret2
  exact ⟨rfl, rfl⟩
set_option maxRecDepth 100000 in
set_option maxHeartbeats 1000000 in
theorem lead_1 (b : Nat) (hl : 128 ≤ b) (hh : b < 192) (w : World) : Calls Tryz.prog 165 #[.int .u8 b] w fun e w' => e = .returned (.tuple #[.int .i32 0, .int .i64 (-1)]) ∧ w = w' := by
  go_enter Tryz.func165, Tryz.ntmps165
  go_wp2
  go_ret2
  exact ⟨rfl, rfl⟩
set_option maxRecDepth 100000 in
set_option maxHeartbeats 1000000 in
theorem lead_2 (b : Nat) (hl : 192 ≤ b) (hh : b < 224) (w : World) : Calls Tryz.prog 165 #[.int .u8 b] w fun e w' => e = .returned (.tuple #[.int .i32 ((b : Int) - 192), .int .i64 1]) ∧ w = w' := by
  go_enter Tryz.func165, Tryz.ntmps165
  go_wp2
  go_ret2
  exact ⟨rfl, rfl⟩
set_option maxRecDepth 100000 in
set_option maxHeartbeats 1000000 in
theorem lead_3 (b : Nat) (hl : 224 ≤ b) (hh : b < 240) (w : World) : Calls Tryz.prog 165 #[.int .u8 b] w fun e w' => e = .returned (.tuple #[.int .i32 ((b : Int) - 224), .int .i64 2]) ∧ w = w' := by
  go_enter Tryz.func165, Tryz.ntmps165
  go_wp2
  go_ret2
  exact ⟨rfl, rfl⟩
set_option maxRecDepth 100000 in
set_option maxHeartbeats 1000000 in
theorem lead_4 (b : Nat) (hl : 240 ≤ b) (hh : b < 248) (w : World) : Calls Tryz.prog 165 #[.int .u8 b] w fun e w' => e = .returned (.tuple #[.int .i32 ((b : Int) - 240), .int .i64 3]) ∧ w = w' := by
  go_enter Tryz.func165, Tryz.ntmps165
  go_wp2
  go_ret2
  exact ⟨rfl, rfl⟩
set_option maxRecDepth 100000 in
set_option maxHeartbeats 1000000 in
theorem lead_5 (b : Nat) (hl : 248 ≤ b) (hh : b < 256) (w : World) : Calls Tryz.prog 165 #[.int .u8 b] w fun e w' => e = .returned (.tuple #[.int .i32 0, .int .i64 (-1)]) ∧ w = w' := by
  go_enter Tryz.func165, Tryz.ntmps165
  go_wp2
  go_ret2
  exact ⟨rfl, rfl⟩
theorem lead_any (b : Nat) (hb : b < 256) (w : World) : Calls Tryz.prog 165 #[.int .u8 b] w fun e w' => e = .returned (.tuple #[.int .i32 (leadC b), .int .i64 (leadM b)]) ∧ w = w' := by
  unfold leadC leadM
  by_cases h1 : b < 128
  · simp only [if_pos h1]; exact lead_0 b h1 w
  · simp only [if_neg h1]
    by_cases h2 : b < 192
    · simp only [if_pos h2]; exact lead_1 b (by omega) h2 w
    · simp only [if_neg h2]
      by_cases h3 : b < 224
      · simp only [if_pos h3]; exact lead_2 b (by omega) h3 w
      · simp only [if_neg h3]
        by_cases h4 : b < 240
        · simp only [if_pos h4]; exact lead_3 b (by omega) h4 w
        · simp only [if_neg h4]
          by_cases h5 : b < 248
          · simp only [if_pos h5]; exact lead_4 b (by omega) h5 w
          · simp only [if_neg h5]; exact lead_5 b (by omega) hb w

set_option maxRecDepth 100000 in
set_option maxHeartbeats 2000000 in
theorem begins_core (s : ByteArray) (c0 : Int) (m : Nat) (r : Int) (h1 : 1 ≤ s.size) (hm : m < s.size) (hm3 : m ≤ 3) (h0 : 0 ≤ c0) (hc : (c0 + 1) * 64 ^ m ≤ 2097152) (hA : Ans s c0 m r) (w : World)
    (cL : Calls Tryz.prog 165 #[.int .u8 (bt s 0)] w fun e w' => e = .returned (.tuple #[.int .i32 c0, .int .i64 m]) ∧ w = w') :
    Calls Tryz.prog 139 #[.string s] w fun e w' => e = .returned (.int .i32 r) ∧ w = w' := by
  obtain ⟨x0, hx0⟩ : ∃ x0, s.get! 0 = x0 := ⟨_, rfl⟩
  have hs0 : s[0]'(by omega) = x0 := by rw [← hx0]; exact (Utf8W.get!_of_lt s 0 (by omega)).symm
  unfold bt at cL
  rw [hx0] at cL
  have gx := x0.toNat_lt
  clear hx0
  have HA : Hid (Ans s c0 m r) := hA
  have HC : Hid ((c0 + 1) * 64 ^ m ≤ 2097152) := hc
  clear hA hc
  go_enter Tryz.func139, Tryz.ntmps139
  go_wp2_with (go_at_call 165; refine cL.mono ?_; rintro e w1 ⟨rfl, rfl⟩)
  go_loopw [3, 5] (fun c t wr => ∃ k : Nat, k ≤ m ∧ t = .int .i64 ((k : Int) + 1) ∧ c = .int .i32 (accC s c0 k) ∧ contAll s k ∧ wr = w) (fun _ t _ => m + 1 - (intOf t).toNat)
  case atStart => exact ⟨0, by omega, by go_num, rfl, fun j a b => by omega, rfl⟩
  case round =>
    obtain ⟨k, hk, rfl, rfl, hcont, rfl⟩ := hrel
    have HK : Hid (contAll s k) := hcont
    clear hcont
    by_cases hlt : k < m
    · obtain ⟨x, hx⟩ : ∃ x, s[k + 1]'(by omega) = x := ⟨_, rfl⟩
      have hbx : bt s (k + 1) = x.toNat := by unfold bt; rw [Utf8W.get!_of_lt s (k + 1) (by omega), hx]
      have HX : Hid (bt s (k + 1) = x.toNat) := hbx
      have hbd := accC_le HC.out h0 HK.out hlt
      have gy := x.toNat_lt
      clear hbx
      by_cases c1 : (x.toNat : Int) < 128
      · clear hbd
        go_wp2
        go_ret
        exact ⟨ret_int (HA.out.bad1 (k + 1) (by omega) (by omega) (by rw [HX.out]; omega)).symm, rfl⟩
      · by_cases c2 : 191 < (x.toNat : Int)
        · clear hbd
          go_wp2
          go_ret
          exact ⟨ret_int (HA.out.bad1 (k + 1) (by omega) (by omega) (by rw [HX.out]; omega)).symm, rfl⟩
        · have hacc : Hid (accC s c0 (k + 1) = accC s c0 k * 64 + (x.toNat : Int) - 128) := by
            show accC s c0 (k + 1) = _
            rw [← HX.out]; rfl
          obtain ⟨A, hA⟩ : ∃ A, accC s c0 k = A := ⟨_, rfl⟩
          rw [hA] at hbd ⊢
          have HA2 : Hid (accC s c0 k = A) := hA
          clear hA
          obtain ⟨g1, g2⟩ := hbd
          go_wp2
          exact ⟨⟨k + 1, by omega, by go_num, by rw [hacc.out, HA2.out], contAll_succ HK.out (by rw [HX.out]; omega) (by rw [HX.out]; omega), trivial⟩, by simp [intOf]; omega⟩
    · obtain rfl : k = m := by omega
      cases hv : Lib.validRune (accC s c0 k) with
      | false =>
        have cV := rscalar_any (accC s c0 k) wr
        rw [hv] at cV
        have hr := HA.out.bad2 HK.out hv
        go_wp2_with (go_at_call 166; refine cV.mono ?_; clear cV; rintro e w1 ⟨rfl, rfl⟩)
        go_ret
        exact ⟨ret_int hr.symm, rfl⟩
      | true =>
        have cV := rscalar_any (accC s c0 k) wr
        rw [hv] at cV
        have cS := size_any (accC s c0 k) wr
        by_cases hz : sizeN (accC s c0 k) = k + 1
        · have hr := HA.out.good HK.out hv hz
          rw [hz] at cS
          go_wp2_with (first | (go_at_call 166; refine cV.mono ?_; clear cV; rintro e w1 ⟨rfl, rfl⟩) | (go_at_call 140; refine cS.mono ?_; clear cS; rintro e w1 ⟨rfl, rfl⟩))
          go_ret
          exact ⟨ret_int hr.symm, rfl⟩
        · have hr := HA.out.bad3 HK.out hz
          go_wp2_with (first | (go_at_call 166; refine cV.mono ?_; clear cV; rintro e w1 ⟨rfl, rfl⟩) | (go_at_call 140; refine cS.mono ?_; clear cS; rintro e w1 ⟨rfl, rfl⟩))
          go_ret
          exact ⟨ret_int hr.symm, rfl⟩

set_option maxHeartbeats 1000000 in
/-- BEGINS: the text's first unit's character. -/
theorem begins_any (s : ByteArray) (h1 : 1 ≤ s.size) (w : World) : Calls Tryz.prog 139 #[.string s] w fun e w' => e = .returned (.int .i32 (ch s 0)) ∧ w = w' := by
  have cL := lead_any (bt s 0) (bt_lt s 0) w
  have hb := bt_lt s 0
  by_cases hn : leadM (bt s 0) < 0 ∨ (s.size : Int) ≤ leadM (bt s 0)
  · have h128 : 128 ≤ bt s 0 := by
      by_cases c : bt s 0 < 128
      · unfold leadM at hn; rw [if_pos c] at hn; omega
      · omega
    rw [ch_nolead h128 hn]
    obtain ⟨x0, hx0⟩ : ∃ x0, s.get! 0 = x0 := ⟨_, rfl⟩
    have hs0 : s[0]'(by omega) = x0 := by rw [← hx0]; exact (Utf8W.get!_of_lt s 0 (by omega)).symm
    unfold bt at cL hn
    rw [hx0] at cL hn
    have gx := x0.toNat_lt
    clear hx0 h128 hb
    obtain ⟨m, hm⟩ : ∃ m, leadM x0.toNat = m := ⟨_, rfl⟩
    obtain ⟨c, hc⟩ : ∃ c, leadC x0.toNat = c := ⟨_, rfl⟩
    rw [hm] at hn cL
    rw [hc] at cL
    clear hm hc
    by_cases hneg : m < 0
    · clear hn
      go_enter Tryz.func139, Tryz.ntmps139
      go_wp2_with (go_at_call 165; refine cL.mono ?_; rintro e w1 ⟨rfl, rfl⟩)
      go_ret
      exact ⟨rfl, rfl⟩
    · have hle : (s.size : Int) ≤ m := by omega
      clear hn
      go_enter Tryz.func139, Tryz.ntmps139
      go_wp2_with (go_at_call 165; refine cL.mono ?_; rintro e w1 ⟨rfl, rfl⟩)
      go_ret
      exact ⟨rfl, rfl⟩
  · by_cases c1 : bt s 0 < 128
    · have e1 : leadC (bt s 0) = bt s 0 := by unfold leadC; rw [if_pos c1]
      have e2 : leadM (bt s 0) = (0 : Nat) := by unfold leadM; rw [if_pos c1]; rfl
      rw [e1, e2] at cL
      exact begins_core s _ 0 _ h1 (by omega) (by omega) (by omega) (by simp; omega) (ans_one c1) w cL
    · by_cases c2 : bt s 0 < 192
      · exfalso; apply hn; left; unfold leadM; rw [if_neg c1, if_pos c2]; omega
      · by_cases c3 : bt s 0 < 224
        · have e1 : leadC (bt s 0) = (bt s 0 : Int) - 192 := by unfold leadC; rw [if_neg c1, if_neg c2, if_pos c3]
          have e2 : leadM (bt s 0) = (1 : Nat) := by unfold leadM; rw [if_neg c1, if_neg c2, if_pos c3]; rfl
          rw [e2] at hn
          rw [e1, e2] at cL
          exact begins_core s _ 1 _ h1 (by omega) (by omega) (by omega) (by simp; omega) (ans_two (by omega) c3 (by omega)) w cL
        · by_cases c4 : bt s 0 < 240
          · have e1 : leadC (bt s 0) = (bt s 0 : Int) - 224 := by unfold leadC; rw [if_neg c1, if_neg c2, if_neg c3, if_pos c4]
            have e2 : leadM (bt s 0) = (2 : Nat) := by unfold leadM; rw [if_neg c1, if_neg c2, if_neg c3, if_pos c4]; rfl
            rw [e2] at hn
            rw [e1, e2] at cL
            exact begins_core s _ 2 _ h1 (by omega) (by omega) (by omega) (by simp; omega) (ans_three (by omega) c4 (by omega)) w cL
          · by_cases c5 : bt s 0 < 248
            · have e1 : leadC (bt s 0) = (bt s 0 : Int) - 240 := by unfold leadC; rw [if_neg c1, if_neg c2, if_neg c3, if_neg c4, if_pos c5]
              have e2 : leadM (bt s 0) = (3 : Nat) := by unfold leadM; rw [if_neg c1, if_neg c2, if_neg c3, if_neg c4, if_pos c5]; rfl
              rw [e2] at hn
              rw [e1, e2] at cL
              exact begins_core s _ 3 _ h1 (by omega) (by omega) (by omega) (by simp; omega) (ans_four (by omega) c5 (by omega)) w cL
            · exfalso; apply hn; left; unfold leadM; rw [if_neg c1, if_neg c2, if_neg c3, if_neg c4, if_neg c5]; omega
end Go.Proofs.YtenkmidlipjobaaGreatDoor
namespace Go.Proofs.YtenkmidlipjobaaGreatDoor
open Go.RowKit Bod

theorem infoU : (Tryz.prog.info? 86).map (fun i => (i.zero, i.size, i.bytes)) = some (some (.agg #[.int .i32 0, .int .i64 0]), 2, 16) := by kernel_rfl
/-- the cells of a list of units -/
def ucells (s : ByteArray) (xs : List Nat) : List Value := xs.flatMap fun i => [Value.int .i32 (ch s i), Value.int .i64 (sz s i)]
theorem ucells_get (s : ByteArray) : ∀ (xs : List Nat) (j x : Nat), xs[j]? = some x → (ucells s xs)[j * 2]? = some (.int .i32 (ch s x)) ∧ (ucells s xs)[j * 2 + 1]? = some (.int .i64 (sz s x))
  | [], _, _, h => by simp at h
  | y :: xs, 0, x, h => by
    have : y = x := by simpa using h
    subst this
    simp [ucells]
  | y :: xs, j + 1, x, h => by
    have := ucells_get s xs j x (by simpa using h)
    simp only [ucells, List.flatMap_cons] at this ⊢
    rw [show (j + 1) * 2 = j * 2 + 2 by omega]
    simpa using this
theorem ucells_len (s : ByteArray) : ∀ xs : List Nat, (ucells s xs).length = xs.length * 2
  | [] => rfl
  | x :: xs => by
    have := ucells_len s xs
    simp only [ucells, List.flatMap_cons, List.length_append, List.length_cons, List.length_nil] at this ⊢
    omega
theorem row_below' {base e size n : Nat} {v : Value} {xs : List Value} {W W' : World} (h : W.ownsRow base e size v n xs) (hb : Below W.heap.size W W') : W'.ownsRow base e size v n xs :=
  h.kept (row := none) ⟨hb.os, hb.tape, hb.output, hb.size, fun k hk _ => hb.block k hk⟩ (by cases hv : v.ownBlock with
    | none => exact .inl rfl
    | some _ => exact .inr (by simp))
theorem ch_tail (s : ByteArray) (i : Nat) (hi : i < s.size) : ch (s.extract i s.size) 0 = ch s i := by
  have := ch_extract s i s.size 0 (Nat.le_refl _) (by omega) (.inr rfl)
  simpa using this
theorem ucells_snoc (s : ByteArray) (pre : List Nat) (i : Nat) : ucells s (pre ++ [i]) = ucells s pre ++ [.int .i32 (ch s i), .int .i64 (sz s i)] := by simp [ucells]
theorem grown_cell {W W' : World} {row : Option Nat} {a : Addr} (h : W.grownBy W' row) (hlt : a.block < W.heap.size) (hne : row ≠ some a.block) : W'.cell? a = W.cell? a :=
  World.cell?_of_block (h.block a.block hlt (fun e => hne e.symm))
theorem cell_two_new2 (w : World) (o : Obj) (a b : Value) (t : TypeId) : ∀ j u, [a, b][j]? = some u → ((w.alloc o).alloc (.cells #[a, b] t)).cell? ((⟨w.heap.size + 1, 0, none⟩ : Addr).add j) = some u := by
  have := cell_two_new (w.alloc o) a b t
  rwa [World.size_alloc] at this

set_option maxRecDepth 100000 in
set_option maxHeartbeats 2000000 in
theorem runits_any (s : ByteArray) (hs : s.size * 16 ≤ 140737488355328) (w : World) :
    Calls Tryz.prog 102 #[.string s] w fun e W' => ∃ v, e = .returned v ∧ W'.ownsRow w.heap.size 86 2 v (offs s 0).length (ucells s (offs s 0)) ∧ Below w.heap.size w W' := by
  obtain ⟨i0, hi, hz0, hz1, hz2⟩ := info_parts infoU
  have hl0 := offs_len_le s
  go_enter Tryz.func102, Tryz.ntmps102
  go_wp2
  go_loopw [3, 4] (fun v t wr => ∃ (pre : List Nat) (i : Nat), t = .int .i64 i ∧ i ≤ s.size ∧ pre ++ offs s i = offs s 0 ∧ wr.ownsRow w.heap.size 86 2 v pre.length (ucells s pre) ∧ Below w.heap.size w wr) (fun _ t _ => s.size - (intOf t).toNat)
  case atStart => exact ⟨[], 0, rfl, by omega, rfl, World.ownsRow_nil _ _ _ _, Below.refl _ _⟩
  case round =>
    obtain ⟨pre, i, rfl, his, hpre, hrow, hB⟩ := hrel
    by_cases hlt : i < s.size
    · have cB := begins_any (s.extract i s.size) (by simp; omega) wr
      rw [ch_tail s i hlt] at cB
      have hpos := sz_pos hlt
      have hzi := sz_in hlt
      have hplen : pre.length + 1 ≤ s.size := by
        have := congrArg List.length hpre
        rw [offs_step hlt, List.length_append, List.length_cons] at this
        omega
      have HP : Hid (pre ++ [i] ++ offs s (i + sz s i) = offs s 0) := by
        show pre ++ [i] ++ offs s (i + sz s i) = offs s 0
        rw [← hpre, offs_step hlt]; simp
      have HU := ucells_snoc s pre i
      clear hpre
      have hBs := hB.size
      by_cases hc : 0 ≤ ch s i
      · have cS := fun W : World => size_any (ch s i) W
        rw [← sz_good hc hlt] at cS
        have HR : Hid (((wr.alloc (.cells #[.int .i32 (ch s i), .int .i64 (sz s i)] 86)).alloc (.cells #[.int .i32 (ch s i), .int .i64 (sz s i)] 86)).ownsRow w.heap.size 86 2 _ pre.length (ucells s pre)) := (hrow.alloc _).alloc _
        go_wp2_with (first | (go_at_call 139; refine cB.mono ?_; clear cB; rintro e w1 ⟨rfl, rfl⟩) | (go_at_call 140; refine (cS _).mono ?_; clear cS; rintro e w2 ⟨rfl, rfl⟩) | (at_builtin; refine wpList_append_own _ rfl _ _ 129 rfl w.heap.size 86 i0 _ 2 16 Tryz.underlying129 hi hz0 hz1 hz2 rfl (by decide) _ pre.length _ rfl HR.out ⟨wr.heap.size + 1, 0, none⟩ 1 1 [.int .i32 (ch s i), .int .i64 (sz s i)] rfl rfl (cell_two_new2 _ _ _ _ _) (by simp [Value.oneCell']) (by unfold maxLen; omega) (by omega) (by simp; omega) ?_; intro v3 w3 hrow3 hg3 _; have hu3 : w3.cell? ⟨wr.heap.size, 1, none⟩ = some (.int .i64 (sz s i)) := by rw [grown_cell hg3 (by simp; omega) (fun e => by have := (hrow.lt _ e).2; simp at this)]; simp))
        exact ⟨⟨pre ++ [i], i + sz s i, by go_num, by omega, HP.out, by rw [HU]; simpa using hrow3, ((hB.alloc hBs _).alloc (by simp; omega) _).grown hg3 (by simp; omega) (fun j e => (hrow.lt j e).1)⟩, by simp [intOf]; omega⟩
      · obtain ⟨hcm, hz⟩ := ch_neg (s := s) (i := i) (by omega)
        rw [hz] at HP hzi HU
        rw [hcm] at HU cB
        clear hz hcm hc hpos
        have HR : Hid (((wr.alloc (.cells #[.int .i32 (-1), .int .i64 1] 86)).alloc (.cells #[.int .i32 (-1), .int .i64 1] 86)).ownsRow w.heap.size 86 2 _ pre.length (ucells s pre)) := (hrow.alloc _).alloc _
        go_wp2_with (first | (go_at_call 139; refine cB.mono ?_; clear cB; rintro e w1 ⟨rfl, rfl⟩) | (at_builtin; refine wpList_append_own _ rfl _ _ 129 rfl w.heap.size 86 i0 _ 2 16 Tryz.underlying129 hi hz0 hz1 hz2 rfl (by decide) _ pre.length _ rfl HR.out ⟨wr.heap.size + 1, 0, none⟩ 1 1 [.int .i32 (-1), .int .i64 1] rfl rfl (cell_two_new2 _ _ _ _ _) (by simp [Value.oneCell']) (by unfold maxLen; omega) (by omega) (by simp; omega) ?_; intro v3 w3 hrow3 hg3 _; have hu3 : w3.cell? ⟨wr.heap.size, 1, none⟩ = some (.int .i64 1) := by rw [grown_cell hg3 (by simp; omega) (fun e => by have := (hrow.lt _ e).2; simp at this)]; simp))
        exact ⟨⟨pre ++ [i], i + 1, by go_num, by omega, HP.out, by rw [HU]; simpa using hrow3, ((hB.alloc hBs _).alloc (by simp; omega) _).grown hg3 (by simp; omega) (fun j e => (hrow.lt j e).1)⟩, by simp [intOf]; omega⟩
    · go_wp2
      go_ret
      have : offs s i = [] := offs_end (by omega)
      rw [this, List.append_nil] at hpre
      subst hpre
      exact ⟨_, rfl, hrow, hB⟩
end Go.Proofs.YtenkmidlipjobaaGreatDoor
namespace Go.Proofs.YtenkmidlipjobaaGreatDoor
open Go.RowKit Wid

def dg (c : Nat) : Int := if 48 ≤ c ∧ c ≤ 57 then (c : Int) - 48 else if 65 ≤ c ∧ c ≤ 70 then (c : Int) - 65 + 10 else -1
/-- the numbers of a text, read on from n -/
def scan : List UInt8 → Int → Bool → List Int
  | [], n, inn => if inn then [n] else []
  | c :: r, n, inn => if 0 ≤ dg c.toNat then scan r (n * 16 + dg c.toNat) true else (if inn then [n] else []) ++ scan r 0 false
def fits : List UInt8 → Int → Bool
  | [], _ => true
  | c :: r, n => if 0 ≤ dg c.toNat then decide (n * 16 + dg c.toNat < 16777216) && fits r (n * 16 + dg c.toNat) else fits r 0

set_option maxHeartbeats 1000000 in
set_option maxRecDepth 100000 in
theorem digit_any (x : Nat) (hx : x < 256) (w : World) : Calls Tryz.prog 167 #[.int .u8 x] w fun e w' => e = .returned (.int .i32 (dg x)) ∧ w = w' := by
  unfold dg
  by_cases h1 : 48 ≤ x
  · by_cases h2 : x ≤ 57
    · rw [if_pos ⟨h1, h2⟩]
      go_enter Tryz.func167, Tryz.ntmps167
      go_wp2
      go_ret
      exact ⟨rfl, rfl⟩
    · rw [if_neg (by omega)]
      by_cases h3 : 65 ≤ x
      · by_cases h4 : x ≤ 70
        · rw [if_pos ⟨h3, h4⟩]
          go_enter Tryz.func167, Tryz.ntmps167
          go_wp2
          go_ret
          exact ⟨rfl, rfl⟩
        · rw [if_neg (by omega)]
          go_enter Tryz.func167, Tryz.ntmps167
          go_wp2
          go_ret
          exact ⟨rfl, rfl⟩
      · rw [if_neg (by omega)]
        go_enter Tryz.func167, Tryz.ntmps167
        go_wp2
        go_ret
        exact ⟨rfl, rfl⟩
  · rw [if_neg (by omega), if_neg (by omega)]
    have h3 : ¬ 65 ≤ x := by omega
    go_enter Tryz.func167, Tryz.ntmps167
    go_wp2
    go_ret
    exact ⟨rfl, rfl⟩

theorem dg_le (x : Nat) : -1 ≤ dg x ∧ dg x ≤ 15 := by unfold dg; split <;> (try split) <;> omega
theorem infoI : (Tryz.prog.info? 21).map (fun i => (i.zero, i.size, i.bytes)) = some (some (.int .i32 0), 1, 4) := by kernel_rfl
theorem cell_new1 (w : World) (a : Value) (t : TypeId) : ∀ j u, [a][j]? = some u → (w.alloc (.cells #[a] t)).cell? ((⟨w.heap.size, 0, none⟩ : Addr).add j) = some u := by
  intro j u h
  rw [Go.WideShapes.add_plain, Nat.zero_add]
  unfold World.cell?
  rw [heap_one]
  simpa using h

/-- what stands between two rounds of Table's first loop -/
structure Tst (bs : List UInt8) (T xs : List Int) (n : Int) (inn : Bool) (i : Nat) : Prop where
  len : xs.length ≤ i
  lo : 0 ≤ n
  hi : n < 16777216
  rest : i ≤ bs.length ∧ xs ++ scan (bs.drop i) n inn = T ∧ fits (bs.drop i) n = true ∨ i = bs.length + 1 ∧ xs = T
theorem Tst.more {bs : List UInt8} {T xs : List Int} {n : Int} {inn : Bool} {i : Nat} {x : UInt8} (h : Tst bs T xs n inn i) (hi : i < bs.length) (hx : bs[i] = x) (hd : 0 ≤ dg x.toNat) : Tst bs T xs (n * 16 + dg x.toNat) true (i + 1) := by
  rcases h.rest with ⟨_, h2, h3⟩ | ⟨h2, _⟩
  · rw [List.drop_eq_getElem_cons hi, hx] at h2 h3
    simp only [scan, fits, if_pos hd, Bool.and_eq_true, decide_eq_true_eq] at h2 h3
    exact ⟨by have := h.len; omega, by have := h.lo; omega, h3.1, .inl ⟨by omega, h2, h3.2⟩⟩
  · omega
theorem Tst.cut {bs : List UInt8} {T xs : List Int} {n : Int} {inn : Bool} {i : Nat} {x : UInt8} (h : Tst bs T xs n inn i) (hi : i < bs.length) (hx : bs[i] = x) (hd : ¬ 0 ≤ dg x.toNat) : Tst bs T (xs ++ if inn then [n] else []) 0 false (i + 1) := by
  rcases h.rest with ⟨_, h2, h3⟩ | ⟨h2, _⟩
  · rw [List.drop_eq_getElem_cons hi, hx] at h2 h3
    simp only [scan, fits, if_neg hd] at h2 h3
    exact ⟨by have := h.len; cases inn <;> simp <;> omega, by omega, by omega, .inl ⟨by omega, by rw [List.append_assoc]; exact h2, h3⟩⟩
  · omega
theorem Tst.last {bs : List UInt8} {T xs : List Int} {n : Int} {inn : Bool} {i : Nat} (h : Tst bs T xs n inn i) (hi : i = bs.length) : Tst bs T (xs ++ if inn then [n] else []) 0 false (i + 1) := by
  rcases h.rest with ⟨_, h2, _⟩ | ⟨h2, _⟩
  · subst hi
    rw [List.drop_length] at h2
    exact ⟨by have := h.len; cases inn <;> simp <;> omega, by omega, by omega, .inr ⟨rfl, h2⟩⟩
  · omega
def ints (xs : List Int) : List Value := xs.map (Value.int .i32)
theorem ints_snoc (xs : List Int) (n : Int) : ints (xs ++ [n]) = ints xs ++ [.int .i32 n] := by simp [ints]

set_option maxHeartbeats 4000000 in
set_option maxRecDepth 100000 in
theorem table_any (s : ByteArray) (l : List (Int × Int)) (hs : s.size ≤ 1000) (hl0 : l ≠ []) (hl : l.length ≤ 1000) (hT : scan s.data.toList 0 false = flat l) (hf : fits s.data.toList 0 = true) (w : World) : Calls Tryz.prog 142 #[.string s] w (Made w l) := by
  obtain ⟨i0, hi, hz0, hz1, hz2⟩ := info_parts infoI
  obtain ⟨j0, ji, jz0, jz1, jz2⟩ := info_parts infoR
  obtain ⟨T, hTT⟩ : ∃ T, flat l = T := ⟨_, rfl⟩
  rw [hTT] at hT
  have HTT : Hid (flat l = T) := hTT
  have H0 : Hid (Tst s.data.toList T [] 0 false 0) := ⟨Nat.le_refl _, Int.le_refl _, by decide, .inl ⟨Nat.zero_le _, hT, hf⟩⟩
  have HL0 : Hid (l ≠ []) := hl0
  have HL : Hid (l.length ≤ 1000) := hl
  have hsz : s.data.toList.length = s.size := rfl
  have HS : Hid (s.data.toList.length = s.size) := hsz
  clear hl0 hl hT hf hTT hsz
  go_enter Tryz.func142, Tryz.ntmps142
  go_wp2
  go_loopw [3, 4, 5, 6] (fun v n b t wr => ∃ (i : Nat) (xs : List Int) (nn : Int) (bb : Bool), Hid (Tst s.data.toList T xs nn bb i) ∧ n = .int .i32 nn ∧ b = .bool bb ∧ t = .int .i64 i ∧ i ≤ s.size + 1 ∧ wr.ownsRow w.heap.size 21 1 v xs.length (ints xs) ∧ Below w.heap.size w wr) (fun _ _ _ t _ => s.size + 1 - (intOf t).toNat)
  case atStart => exact ⟨0, [], 0, false, H0, rfl, rfl, rfl, by omega, World.ownsRow_nil _ _ _ _, Below.refl _ _⟩
  case round =>
    obtain ⟨i, xs, nn, bb, HST, rfl, rfl, rfl, hi1, hrow, hB⟩ := hrel
    have hBs := hB.size
    have hxl : xs.length ≤ 1001 := by have := HST.out.len; omega
    have hlo := HST.out.lo
    have hhi := HST.out.hi
    by_cases hlt : i < s.size
    · obtain ⟨x, hx⟩ : ∃ x, s[i]'hlt = x := ⟨_, rfl⟩
      have HX : Hid (s.data.toList[i]'(by rw [HS.out]; exact hlt) = x) := by show _ = _; rw [← hx]; simp [ByteArray.getElem_eq_getElem_data]
      have cD := digit_any x.toNat x.toNat_lt wr
      obtain ⟨dl, dh⟩ := dg_le x.toNat
      by_cases hd : 0 ≤ dg x.toNat
      · have HN := Tst.more HST.out (by rw [HS.out]; exact hlt) HX.out hd
        have HN2 : Hid _ := HN
        clear HN
        generalize dg x.toNat = d at *
        go_wp2_with (go_at_call 167; refine cD.mono ?_; clear cD; rintro e w1 ⟨rfl, rfl⟩)
        exact ⟨⟨i + 1, xs, nn * 16 + d, true, HN2, rfl, rfl, by go_num, by omega, hrow, hB⟩, by simp [intOf]; omega⟩
      · have HN := Tst.cut HST.out (by rw [HS.out]; exact hlt) HX.out hd
        clear HST
        have hd2 : dg x.toNat = -1 := by omega
        rw [hd2] at cD
        clear hd hd2 dl dh
        cases bb with
        | true =>
          have HN2 : Hid (Tst s.data.toList T (xs ++ [nn]) 0 false (i + 1)) := HN
          clear HN
          go_wp2_with (first | (go_at_call 167; refine cD.mono ?_; clear cD; rintro e w1 ⟨rfl, rfl⟩) | (at_builtin; refine wpList_append_own _ rfl _ _ 150 rfl w.heap.size 21 i0 (.int .i32 0) 1 4 Tryz.underlying150 hi hz0 hz1 hz2 rfl (by decide) _ xs.length _ rfl (hrow.alloc _) ⟨wr.heap.size, 0, none⟩ 1 1 [.int .i32 nn] rfl rfl (cell_new1 _ _ _) (by simp [Value.oneCell']) (by unfold maxLen; omega) (by omega) (by simp; omega) ?_; intro v3 w3 hrow3 hg3 _))
          exact ⟨⟨i + 1, xs ++ [nn], 0, false, HN2, rfl, rfl, by go_num, by omega, by rw [ints_snoc, List.length_append]; exact hrow3, (hB.alloc hBs _).grown hg3 (by simp; omega) (fun j e => (hrow.lt j e).1)⟩, by simp [intOf]; omega⟩
        | false =>
          have HN2 : Hid (Tst s.data.toList T xs 0 false (i + 1)) := by have h := HN; simp only [Bool.false_eq_true, if_false, List.append_nil] at h; exact h
          clear HN
          go_wp2_with (go_at_call 167; refine cD.mono ?_; clear cD; rintro e w1 ⟨rfl, rfl⟩)
          exact ⟨⟨i + 1, xs, 0, false, HN2, rfl, rfl, by go_num, by omega, hrow, hB⟩, by simp [intOf]; omega⟩
    · by_cases heq : i = s.size
      · have HN := Tst.last HST.out (by rw [HS.out]; exact heq)
        clear HST
        have hle : i ≤ s.size := by omega
        have HQ : Hid (i = s.size) := heq
        clear heq
        cases bb with
        | true =>
          have HN2 : Hid (Tst s.data.toList T (xs ++ [nn]) 0 false (i + 1)) := HN
          clear HN
          go_wp2_with (at_builtin; refine wpList_append_own _ rfl _ _ 150 rfl w.heap.size 21 i0 (.int .i32 0) 1 4 Tryz.underlying150 hi hz0 hz1 hz2 rfl (by decide) _ xs.length _ rfl (hrow.alloc _) ⟨wr.heap.size, 0, none⟩ 1 1 [.int .i32 nn] rfl rfl (cell_new1 _ _ _) (by simp [Value.oneCell']) (by unfold maxLen; omega) (by omega) (by simp; omega) ?_; intro v3 w3 hrow3 hg3 _)
          exact ⟨⟨i + 1, xs ++ [nn], 0, false, HN2, rfl, rfl, by go_num, by omega, by rw [ints_snoc, List.length_append]; exact hrow3, (hB.alloc hBs _).grown hg3 (by simp; omega) (fun j e => (hrow.lt j e).1)⟩, by simp [intOf]; omega⟩
        | false =>
          have HN2 : Hid (Tst s.data.toList T xs 0 false (i + 1)) := by have h := HN; simp only [Bool.false_eq_true, if_false, List.append_nil] at h; exact h
          clear HN
          go_wp2
          exact ⟨⟨i + 1, xs, 0, false, HN2, rfl, rfl, by go_num, by omega, hrow, hB⟩, by simp [intOf]; omega⟩
      · have hxT : xs = T := by
          rcases HST.out.rest with ⟨h1, _⟩ | ⟨_, h2⟩
          · rw [HS.out] at h1; omega
          · exact h2
        clear HST
        have hTl : xs.length = 2 * l.length := by rw [hxT, ← HTT.out, flat_len]
        have hpos : 0 < l.length := List.length_pos_iff.2 HL0.out
        have HXT : Hid (xs = flat l) := by show xs = flat l; rw [hxT, HTT.out]
        clear hxT
        obtain ⟨g, cap, hg⟩ : ∃ g cap, u3 = .slice (some ⟨g, 0, none⟩) xs.length cap := by
          rcases hrow.2 with ⟨_, h2⟩ | ⟨g, cap, _, h2, _⟩
          · omega
          · exact ⟨g, cap, h2⟩
        subst hg
        have HC : Hid (∀ j, j < (flat l).length → wr.cell? ⟨g, j, none⟩ = some (.int .i32 ((flat l).getD j 0))) := fun j hj => by
          rw [hrow.cellAt j (by rw [HXT.out]; omega), HXT.out]
          simp [ints, hj]
        have hgl : g < wr.heap.size := (hrow.lt g rfl).2
        obtain ⟨N, hN⟩ : ∃ N, l.length = N := ⟨_, rfl⟩
        have HLN : Hid (l.length = N) := hN
        obtain ⟨m, hm⟩ : ∃ m, xs.length = m := ⟨_, rfl⟩
        have HM : Hid (m = 2 * N) := by show m = 2 * N; omega
        have hm2 : m ≤ 2000 := by have := HL.out; omega
        rw [hm]
        clear hrow hTl hpos hN hm
        generalize hW : wr = W1 at *
        clear hW
        have hdec : decide (i ≤ s.size) = false := decide_eq_false (by omega)
        go_wp2
        clear hdec
        clear hs H0 HS HTT hlt heq hi1 hlo hhi hxl HXT HL0
        go_loopw [8, 9] (fun v t wr => ∃ k i : Nat, k ≤ N ∧ Hid (i = 2 * k) ∧ t = .int .i64 i ∧ i ≤ m ∧ wr.ownsRow W1.heap.size 199 2 v k (rcells (l.take k)) ∧ Below W1.heap.size W1 wr) (fun _ t _ => m - (intOf t).toNat)
        case atStart => exact ⟨0, 0, Nat.zero_le _, rfl, rfl, Nat.zero_le _, World.ownsRow_nil _ _ _ _, Below.refl _ _⟩
        case round =>
          obtain ⟨k, i, hk, HI, rfl, him, hrow, hB2⟩ := hrel
          by_cases hlt : i < m
          · have hkN : k < N := by have := HM.out; have := HI.out; omega
            obtain ⟨f1, f2⟩ := flat_get l k (by have := HLN.out; omega)
            have hfl := flat_len l
            have c1 : wr.cell? ⟨g, i, none⟩ = some (.int .i32 (l.getD k (0, 0)).1) := by
              rw [← f1, ← HI.out]; exact (hB2.cell (p := ⟨g, i, none⟩) hgl).trans (HC.out i (by have := HM.out; have := HLN.out; omega))
            have c2 : wr.cell? ⟨g, i + 1, none⟩ = some (.int .i32 (l.getD k (0, 0)).2) := by
              rw [← f2, ← HI.out]; exact (hB2.cell (p := ⟨g, i + 1, none⟩) hgl).trans (HC.out (i + 1) (by have := HM.out; have := HLN.out; have := HI.out; omega))
            have HT : Hid (rcells (l.take (k + 1)) = rcells (l.take k) ++ [.int .i32 (l.getD k (0, 0)).1, .int .i32 (l.getD k (0, 0)).2]) := by
              show rcells (l.take (k + 1)) = _
              rw [take_snoc l k (by have := HLN.out; omega), rcells_snoc]
            have hi1 : (i : Int) + 1 < m := by have := HM.out; have := HI.out; omega
            have hi0 : (i : Int) < m := by omega
            have hBs2 := hB2.size
            have hk2 : k ≤ 1000 := by have := HLN.out; have := HL.out; omega
            have HK : Hid (k + 1 ≤ N) := hkN
            clear f1 f2 hfl hk hlt hkN
            generalize (l.getD k (0, 0)).1 = x1 at c1 HT
            generalize (l.getD k (0, 0)).2 = x2 at c2 HT
            have hwr : IntKind.i64.wrap ((i : Int) + 1) = (i : Int) + 1 := by rw [IntKind.wrap_i64]; omega
            have htn : ((i : Int) + 1).toNat = i + 1 := by omega
            have hge : (0 : Int) ≤ (i : Int) + 1 := by omega
            go_wp2
            go_region_law (refine step_append_own rfl (.tmp 42) (.tmp 53) 174 rfl W1.heap.size 199 j0 _ 2 8 Tryz.underlying174 ji jz0 jz1 jz2 rfl (by decide) _ k _ rfl (hrow.drew.alloc _) ⟨wr.heap.size, 0, none⟩ 1 1 [.int .i32 x1, .int .i32 x2] rfl rfl (cell_two_new _ _ _ _) (by simp [Value.oneCell']) (by unfold maxLen; omega) (by omega) (by simp; omega) ?_; intro v3 w3 hrow3 hg3)
            all_goals go_wp2
            all_goals go_roundw
            case rel => exact ⟨k + 1, i + 2, HK.out, by have := HI.out; show i + 2 = 2 * (k + 1); omega, by go_num, by have := HM.out; have := HI.out; have := HK.out; omega, by rw [HT.out]; exact hrow3, ((below_drew hB2).alloc hBs2 _).grown hg3 (by simp; omega) (fun j e => (hrow.lt j e).1)⟩
            case measure => simp [intOf]; omega
            case rel => exact ⟨k + 1, i + 2, HK.out, by have := HI.out; show i + 2 = 2 * (k + 1); omega, by go_num, by have := HM.out; have := HI.out; have := HK.out; omega, by rw [HT.out]; exact hrow3, ((below_drew hB2).alloc hBs2 _).grown hg3 (by simp; omega) (fun j e => (hrow.lt j e).1)⟩
            case measure => simp [intOf]; omega
          · have hkN : k = N := by have := HM.out; have := HI.out; omega
            have hrow2 : wr.ownsRow W1.heap.size 199 2 u8 l.length (rcells l) := by
              have h := hrow
              rw [show l.take k = l by rw [hkN, ← HLN.out, List.take_length], hkN, ← HLN.out] at h
              exact h
            have HR : Hid _ := hrow2
            have hnl : ¬ (i : Int) + 1 < m := by omega
            clear hrow hrow2 hkN
            go_wp2
            go_ret
            exact ⟨_, rfl, row_mono HR.out hBs, hB.trans (hB2.mono hBs)⟩
end Go.Proofs.YtenkmidlipjobaaGreatDoor
namespace Go.Proofs.YtenkmidlipjobaaGreatDoor
open Go.RowKit Wid

/-- a slice value that reads as the ranges l -/
def Rg (W : World) (v : Value) (l : List (Int × Int)) : Prop :=
  ∃ a cap, v = .slice a l.length cap ∧ (l.length ≠ 0 → ∃ b, a = some ⟨b, 0, none⟩ ∧ ∀ j, j < l.length → W.cell? ⟨b, j * 2, none⟩ = some (.int .i32 (l.getD j (0, 0)).1) ∧ W.cell? ⟨b, j * 2 + 1, none⟩ = some (.int .i32 (l.getD j (0, 0)).2))
theorem rcells_get : ∀ (l : List (Int × Int)) (j : Nat), j < l.length → (rcells l)[j * 2]? = some (.int .i32 (l.getD j (0, 0)).1) ∧ (rcells l)[j * 2 + 1]? = some (.int .i32 (l.getD j (0, 0)).2)
  | [], _, h => by simp at h
  | p :: r, 0, _ => by simp [rcells]
  | p :: r, j + 1, h => by
    have := rcells_get r j (by simpa using h)
    simp only [rcells, List.flatMap_cons, List.getD_cons_succ] at this ⊢
    rw [show (j + 1) * 2 = j * 2 + 2 by omega]
    simpa using this
theorem Rg.of_own {W : World} {base : Nat} {v : Value} {l : List (Int × Int)} (h : W.ownsRow base 199 2 v l.length (rcells l)) : Rg W v l := by
  rcases h.2 with ⟨rfl, h0⟩ | ⟨g, cap, cur, rfl, _⟩
  · exact ⟨none, 0, by rw [h0], fun q => absurd h0 q⟩
  · refine ⟨_, cap, rfl, fun _ => ⟨g, rfl, fun j hj => ?_⟩⟩
    obtain ⟨e1, e2⟩ := rcells_get l j hj
    exact ⟨(h.cellAt (j * 2) (by omega)).trans e1, (h.cellAt (j * 2 + 1) (by omega)).trans e2⟩

theorem inR_take (l : List (Int × Int)) (c : Int) (k : Nat) (hk : k < l.length) : inR (l.take (k + 1)) c = (inR (l.take k) c || (decide ((l.getD k (0, 0)).1 ≤ c) && decide (c ≤ (l.getD k (0, 0)).2))) := by
  rw [take_snoc l k hk]; simp [inR]
theorem inR_hit (l : List (Int × Int)) (c : Int) (k : Nat) (hk : k < l.length) (h1 : (l.getD k (0, 0)).1 ≤ c) (h2 : c ≤ (l.getD k (0, 0)).2) : inR l c = true := by
  unfold inR
  rw [List.any_eq_true]
  refine ⟨l.getD k (0, 0), ?_, by rw [decide_eq_true h1, decide_eq_true h2]; rfl⟩
  simp [List.getD, hk]
theorem ret_b {a b : Bool} (h : a = b) : Ending.returned (.bool a) = Ending.returned (.bool b) := by rw [h]

set_option maxRecDepth 100000 in
set_option maxHeartbeats 1000000 in
theorem within_core (l : List (Int × Int)) (c : Int) (b cap n : Nat) (w : World) (hn : n = l.length) (hl : n ≤ 1000) (h : ∀ j, j < l.length → w.cell? ⟨b, j * 2, none⟩ = some (.int .i32 (l.getD j (0, 0)).1) ∧ w.cell? ⟨b, j * 2 + 1, none⟩ = some (.int .i32 (l.getD j (0, 0)).2)) :
    Calls Tryz.prog 141 #[.slice (some ⟨b, 0, none⟩) n cap, .int .i32 c] w fun e w' => e = .returned (.bool (inR l c)) ∧ w = w' := by
  have HC : Hid _ := h
  have HN : Hid (n = l.length) := hn
  clear h hn
  go_enter Tryz.func141, Tryz.ntmps141
  go_wp2
  go_loopw [5] (fun t wr => ∃ k : Nat, k ≤ n ∧ t = .int .i64 k ∧ Hid (inR (l.take k) c = false) ∧ w = wr) (fun t _ => n - (intOf t).toNat)
  case atStart => exact ⟨0, Nat.zero_le _, rfl, rfl, rfl⟩
  case round =>
    obtain ⟨k, hk, rfl, HF, rfl⟩ := hrel
    by_cases hlt : k < n
    · obtain ⟨c1, c2⟩ := HC.out k (by rw [← HN.out]; exact hlt)
      have HT := inR_take l c k (by rw [← HN.out]; exact hlt)
      have HI := inR_hit l c k (by rw [← HN.out]; exact hlt)
      rw [HF.out, Bool.false_or] at HT
      have HT2 : Hid _ := HT
      have HI2 : Hid _ := HI
      clear HT HI HF
      generalize (l.getD k (0, 0)).1 = x1 at c1 HT2 HI2
      generalize (l.getD k (0, 0)).2 = x2 at c2 HT2 HI2
      by_cases g1 : x1 ≤ c
      · by_cases g2 : c ≤ x2
        · go_wp2
          go_ret
          exact ⟨ret_b (HI2.out g1 g2).symm, rfl⟩
        · go_wp2
          exact ⟨⟨k + 1, by omega, by go_num, by show _ = false; rw [HT2.out]; simp; omega, trivial⟩, by simp [intOf]; omega⟩
      · go_wp2
        exact ⟨⟨k + 1, by omega, by go_num, by show _ = false; rw [HT2.out]; simp; omega, trivial⟩, by simp [intOf]; omega⟩
    · have HE : Hid (inR l c = false) := by
        have h2 := HF.out
        rw [List.take_of_length_le (by rw [← HN.out]; omega)] at h2
        exact h2
      clear HF
      go_wp2
      go_ret
      exact ⟨ret_b HE.out.symm, rfl⟩
set_option maxRecDepth 100000 in
set_option maxHeartbeats 1000000 in
theorem within_none (a : Option Addr) (c : Int) (cap : Nat) (w : World) : Calls Tryz.prog 141 #[.slice a 0 cap, .int .i32 c] w fun e w' => e = .returned (.bool false) ∧ w = w' := by
  go_enter Tryz.func141, Tryz.ntmps141
  go_wp2
  go_loopw [5] (fun t wr => t = .int .i64 0 ∧ w = wr) (fun _ _ => 0)
  case atStart => exact ⟨rfl, rfl⟩
  case round =>
    obtain ⟨rfl, rfl⟩ := hrel
    go_wp2
    go_ret
    exact ⟨rfl, rfl⟩
theorem within_list (l : List (Int × Int)) (c : Int) (v : Value) (w : World) (hl : l.length ≤ 1000) (h : Rg w v l) : Calls Tryz.prog 141 #[v, .int .i32 c] w fun e w' => e = .returned (.bool (inR l c)) ∧ w = w' := by
  obtain ⟨a, cap, rfl, hr⟩ := h
  by_cases h0 : l.length = 0
  · rw [List.length_eq_zero_iff.1 h0]; exact within_none a c cap w
  · obtain ⟨b, rfl, hc⟩ := hr h0
    exact within_core l c b cap l.length w rfl hl hc

/-- what is known of the tables' texts -/
theorem mk_ne : mk ≠ [] := by decide
theorem wd_ne : wd ≠ [] := by decide

set_option maxHeartbeats 4000000 in
set_option maxRecDepth 100000 in
theorem rclass_high (c : Int) (hv : ¬ bad c) (h0 : 768 ≤ c) (w : World) :
    Calls Tryz.prog 104 #[.int .i32 c] w fun e w' => e = .returned (.int .i64 (if inR mk c = true then 3 else if inR wd c = true then 4 else 0)) ∧ Below w.heap.size w w' := by
  have n0 : ¬ c < 0 := by omega
  have n6 : ¬ 1114111 < c := by unfold bad at hv; omega
  have n7 : c < 55296 ∨ 57343 < c := by unfold bad at hv; omega
  have n1 : ¬ c = 10 := by omega
  have n2 : ¬ c ≤ 31 := by omega
  have n3 : ¬ c ≤ 159 := by omega
  have n4 : ¬ c < 768 := by omega
  have n5 : 127 ≤ c := by omega
  have AM : Hid (∀ (W : World) (v : Value), Rg W v mk → Calls Tryz.prog 141 #[v, .int .i32 c] W fun e w' => e = .returned (.bool (inR mk c)) ∧ W = w') := fun W v h => within_list mk c v W (by decide) h
  have AW : Hid (∀ (W : World) (v : Value), Rg W v wd → Calls Tryz.prog 141 #[v, .int .i32 c] W fun e w' => e = .returned (.bool (inR wd c)) ∧ W = w') := fun W v h => within_list wd c v W (by decide) h
  generalize inR mk c = bm at AM
  generalize inR wd c = bw at AW
  clear hv h0
  rcases n7 with n7 | n7
  · have n8 : ¬ 55296 ≤ c := by omega
    have T1 : True := trivial
    have T2 : True := trivial
    cases bm with
    | true =>
      go_enter Tryz.func104, Tryz.ntmps104
      go_wp2_with (first | (go_at_call 142; have hq := T1; clear hq T1; refine (table_any _ mk (by decide +kernel) mk_ne (by decide) (by kernel_rfl) (by kernel_rfl) _).mono ?_; rintro e w1 ⟨v1, rfl, hrow1, hb1⟩) | (go_at_call 141; have hq := T2; clear hq T2; refine (AM.out _ _ (Rg.of_own hrow1)).mono ?_; rintro e w2 ⟨rfl, rfl⟩))
      all_goals go_ret
      all_goals exact ⟨rfl, hb1⟩
    | false =>
      cases bw with
      | true =>
        go_enter Tryz.func104, Tryz.ntmps104
        go_wp2_with (first | (go_at_call 142; have hq := T1; clear hq T1; refine (table_any _ mk (by decide +kernel) mk_ne (by decide) (by kernel_rfl) (by kernel_rfl) _).mono ?_; rintro e w1 ⟨v1, rfl, hrow1, hb1⟩) | (go_at_call 141; have hq := T2; clear hq T2; refine (AM.out _ _ (Rg.of_own hrow1)).mono ?_; rintro e w2 ⟨rfl, rfl⟩) | (go_at_call 142; refine (table_any _ wd (by decide +kernel) wd_ne (by decide) (by kernel_rfl) (by kernel_rfl) _).mono ?_; rintro e w3 ⟨v3, rfl, hrow3, hb3⟩) | (go_at_call 141; refine (AW.out _ _ (Rg.of_own hrow3)).mono ?_; rintro e w4 ⟨rfl, rfl⟩))
        all_goals go_ret
        all_goals exact ⟨rfl, hb1.trans (hb3.mono hb1.size)⟩
      | false =>
        go_enter Tryz.func104, Tryz.ntmps104
        go_wp2_with (first | (go_at_call 142; have hq := T1; clear hq T1; refine (table_any _ mk (by decide +kernel) mk_ne (by decide) (by kernel_rfl) (by kernel_rfl) _).mono ?_; rintro e w1 ⟨v1, rfl, hrow1, hb1⟩) | (go_at_call 141; have hq := T2; clear hq T2; refine (AM.out _ _ (Rg.of_own hrow1)).mono ?_; rintro e w2 ⟨rfl, rfl⟩) | (go_at_call 142; refine (table_any _ wd (by decide +kernel) wd_ne (by decide) (by kernel_rfl) (by kernel_rfl) _).mono ?_; rintro e w3 ⟨v3, rfl, hrow3, hb3⟩) | (go_at_call 141; refine (AW.out _ _ (Rg.of_own hrow3)).mono ?_; rintro e w4 ⟨rfl, rfl⟩))
        all_goals go_ret
        all_goals exact ⟨rfl, hb1.trans (hb3.mono hb1.size)⟩
  · have n8 : ¬ c ≤ 57343 := by omega
    have T1 : True := trivial
    have T2 : True := trivial
    cases bm with
    | true =>
      go_enter Tryz.func104, Tryz.ntmps104
      go_wp2_with (first | (go_at_call 142; have hq := T1; clear hq T1; refine (table_any _ mk (by decide +kernel) mk_ne (by decide) (by kernel_rfl) (by kernel_rfl) _).mono ?_; rintro e w1 ⟨v1, rfl, hrow1, hb1⟩) | (go_at_call 141; have hq := T2; clear hq T2; refine (AM.out _ _ (Rg.of_own hrow1)).mono ?_; rintro e w2 ⟨rfl, rfl⟩))
      all_goals go_ret
      all_goals exact ⟨rfl, hb1⟩
    | false =>
      cases bw with
      | true =>
        go_enter Tryz.func104, Tryz.ntmps104
        go_wp2_with (first | (go_at_call 142; have hq := T1; clear hq T1; refine (table_any _ mk (by decide +kernel) mk_ne (by decide) (by kernel_rfl) (by kernel_rfl) _).mono ?_; rintro e w1 ⟨v1, rfl, hrow1, hb1⟩) | (go_at_call 141; have hq := T2; clear hq T2; refine (AM.out _ _ (Rg.of_own hrow1)).mono ?_; rintro e w2 ⟨rfl, rfl⟩) | (go_at_call 142; refine (table_any _ wd (by decide +kernel) wd_ne (by decide) (by kernel_rfl) (by kernel_rfl) _).mono ?_; rintro e w3 ⟨v3, rfl, hrow3, hb3⟩) | (go_at_call 141; refine (AW.out _ _ (Rg.of_own hrow3)).mono ?_; rintro e w4 ⟨rfl, rfl⟩))
        all_goals go_ret
        all_goals exact ⟨rfl, hb1.trans (hb3.mono hb1.size)⟩
      | false =>
        go_enter Tryz.func104, Tryz.ntmps104
        go_wp2_with (first | (go_at_call 142; have hq := T1; clear hq T1; refine (table_any _ mk (by decide +kernel) mk_ne (by decide) (by kernel_rfl) (by kernel_rfl) _).mono ?_; rintro e w1 ⟨v1, rfl, hrow1, hb1⟩) | (go_at_call 141; have hq := T2; clear hq T2; refine (AM.out _ _ (Rg.of_own hrow1)).mono ?_; rintro e w2 ⟨rfl, rfl⟩) | (go_at_call 142; refine (table_any _ wd (by decide +kernel) wd_ne (by decide) (by kernel_rfl) (by kernel_rfl) _).mono ?_; rintro e w3 ⟨v3, rfl, hrow3, hb3⟩) | (go_at_call 141; refine (AW.out _ _ (Rg.of_own hrow3)).mono ?_; rintro e w4 ⟨rfl, rfl⟩))
        all_goals go_ret
        all_goals exact ⟨rfl, hb1.trans (hb3.mono hb1.size)⟩
theorem ten_ne : [((10 : Int), (10 : Int))] ≠ [] := by decide
theorem ctl_ne : [((0 : Int), (9 : Int)), (11, 31), (127, 159)] ≠ [] := by decide
set_option maxHeartbeats 2000000 in
set_option maxRecDepth 100000 in
theorem rclass_bad (c : Int) (hv : bad c) (w : World) : Calls Tryz.prog 104 #[.int .i32 c] w fun e w' => e = .returned (.int .i64 5) ∧ w = w' := by
  unfold bad at hv
  by_cases h1 : c < 0
  · clear hv
    go_enter Tryz.func104, Tryz.ntmps104
    go_wp2
    go_ret
    exact ⟨rfl, rfl⟩
  · by_cases h2 : 1114111 < c
    · clear hv
      go_enter Tryz.func104, Tryz.ntmps104
      go_wp2
      go_ret
      exact ⟨rfl, rfl⟩
    · have h3 : 55296 ≤ c := by omega
      have h4 : c ≤ 57343 := by omega
      clear hv
      go_enter Tryz.func104, Tryz.ntmps104
      go_wp2
      go_ret
      exact ⟨rfl, rfl⟩
set_option maxHeartbeats 2000000 in
set_option maxRecDepth 100000 in
theorem rclass_low (c : Int) (hv : ¬ bad c) (h0 : c < 768) (w : World) : Calls Tryz.prog 104 #[.int .i32 c] w fun e w' => e = .returned (.int .i64 (if c = 10 then 1 else if c ≤ 31 ∨ (127 ≤ c ∧ c ≤ 159) then 2 else 0)) ∧ w = w' := by
  have n0 : ¬ c < 0 := by unfold bad at hv; omega
  have n6 : ¬ 1114111 < c := by omega
  have n7 : ¬ 55296 ≤ c := by omega
  clear hv
  have W : ∀ n : Int, c ≠ 10 → (c ≤ 31 ∧ n = 2 ∨ 32 ≤ c ∧ c < 127 ∧ n = 0 ∨ 127 ≤ c ∧ c ≤ 159 ∧ n = 2 ∨ 159 < c ∧ n = 0) → Calls Tryz.prog 104 #[.int .i32 c] w fun e w' => e = .returned (.int .i64 n) ∧ w = w' := by
    rintro n g0 (⟨g1, rfl⟩ | ⟨g1, g2, rfl⟩ | ⟨g1, g2, rfl⟩ | ⟨g1, rfl⟩)
    · go_enter Tryz.func104, Tryz.ntmps104
      go_wp2
      go_ret
      exact ⟨rfl, rfl⟩
    · have g3 : ¬ c ≤ 31 := by omega
      have g4 : ¬ 127 ≤ c := by omega
      go_enter Tryz.func104, Tryz.ntmps104
      go_wp2
      go_ret
      exact ⟨rfl, rfl⟩
    · have g3 : ¬ c ≤ 31 := by omega
      go_enter Tryz.func104, Tryz.ntmps104
      go_wp2
      go_ret
      exact ⟨rfl, rfl⟩
    · have g3 : ¬ c ≤ 31 := by omega
      have g4 : 127 ≤ c := by omega
      have g5 : ¬ c ≤ 159 := by omega
      go_enter Tryz.func104, Tryz.ntmps104
      go_wp2
      go_ret
      exact ⟨rfl, rfl⟩
  by_cases h1 : c = 10
  · subst h1
    clear W
    rw [if_pos rfl]
    go_enter Tryz.func104, Tryz.ntmps104
    go_wp2
    go_ret
    exact ⟨rfl, rfl⟩
  · rw [if_neg h1]
    refine W _ h1 ?_
    split <;> omega
/-- the reference's Class answers the class, whatever the number is -/
theorem rclass_any (c : Int) (w : World) : Calls Tryz.prog 104 #[.int .i32 c] w fun e w' => e = .returned (.int .i64 (cls c)) ∧ Below w.heap.size w w' := by
  by_cases hv : bad c
  · rw [show cls c = 5 from if_pos hv]
    exact (rclass_bad c hv w).mono fun e w' ⟨h1, h2⟩ => ⟨h1, h2 ▸ Below.refl _ _⟩
  · by_cases h0 : c < 768
    · rw [show cls c = (if c = 10 then 1 else if c ≤ 31 ∨ (127 ≤ c ∧ c ≤ 159) then 2 else 0) by unfold cls; rw [if_neg hv, if_pos h0]]
      exact (rclass_low c hv h0 w).mono fun e w' ⟨h1, h2⟩ => ⟨h1, h2 ▸ Below.refl _ _⟩
    · rw [show cls c = (if inR mk c = true then 3 else if inR wd c = true then 4 else 0) by unfold cls; rw [if_neg hv, if_neg (by omega), if_neg (by omega), if_neg h0]]
      exact rclass_high c hv (by omega) w
set_option maxHeartbeats 2000000 in
set_option maxRecDepth 100000 in
/-- the reference's Cells answers the cells, whatever the number is -/
theorem rcells_any (c : Int) (w : World) : Calls Tryz.prog 105 #[.int .i32 c] w fun e w' => e = .returned (.int .i64 (cel c)) ∧ Below w.heap.size w w' := by
  have cC := rclass_any c w
  unfold cel
  have hr := cls_range c
  generalize cls c = k at cC hr
  rcases hr with rfl | rfl | rfl | rfl | rfl | rfl
  case inr.inr.inl =>
    by_cases h : c ≤ 127
    · rw [if_neg (by decide), if_neg (by decide), if_pos ⟨rfl, h⟩]
      go_enter Tryz.func105, Tryz.ntmps105
      go_wp2_with (go_at_call 104; refine cC.mono ?_; clear cC; rintro e w' ⟨rfl, hb⟩)
      go_ret
      exact ⟨rfl, hb⟩
    · rw [if_neg (by decide), if_neg (by decide), if_neg (fun q => h q.2)]
      go_enter Tryz.func105, Tryz.ntmps105
      go_wp2_with (go_at_call 104; refine cC.mono ?_; clear cC; rintro e w' ⟨rfl, hb⟩)
      go_ret
      exact ⟨rfl, hb⟩
  all_goals
    go_enter Tryz.func105, Tryz.ntmps105
    go_wp2_with (go_at_call 104; refine cC.mono ?_; clear cC; rintro e w' ⟨rfl, hb⟩)
    go_ret
    exact ⟨rfl, hb⟩

end Go.Proofs.YtenkmidlipjobaaGreatDoor
namespace Go.Proofs.YtenkmidlipjobaaGreatDoor
open Go.RowKit Go.Sort Bod Wid

theorem jn_eq (a b : Int) : jn a b = ((decide (a = 13) && decide (b = 10)) || (decide (cls b = 3) && (decide (cls a ≠ 1) && decide (cls a ≠ 2)))) := by
  unfold jn
  by_cases h : b = 10
  · subst h
    have : cls 10 = 1 := by decide +kernel
    rw [if_pos rfl, this]
    simp
  · rw [if_neg h]
    rw [Bool.eq_iff_iff]
    simp [h]

set_option maxRecDepth 100000 in
set_option maxHeartbeats 1000000 in
theorem rjoined_any (a b za zb : Int) (w : World) : Calls Tryz.prog 103 #[.agg #[.int .i32 a, .int .i64 za], .agg #[.int .i32 b, .int .i64 zb]] w fun e w' => e = .returned (.bool (jn a b)) ∧ Below w.heap.size w w' := by
  obtain ⟨W0, hW0⟩ : ∃ W0, (w.alloc (.cells #[.int .i32 a, .int .i64 za] 86)).alloc (.cells #[.int .i32 b, .int .i64 zb] 86) = W0 := ⟨_, rfl⟩
  have hB0 : Below w.heap.size w W0 := by rw [← hW0]; exact ((Below.refl _ w).alloc (Nat.le_refl _) _).alloc (by simp) _
  have hS0 : W0.heap.size = w.heap.size + 2 := by rw [← hW0]; simp
  have hc0 : W0.cell? ⟨w.heap.size, 0, none⟩ = some (.int .i32 a) := by rw [← hW0]; simp
  have hc1 : W0.cell? ⟨w.heap.size + 1, 0, none⟩ = some (.int .i32 b) := by rw [← hW0]; simp
  have HA : Hid (Calls Tryz.prog 104 #[.int .i32 a] W0 fun e w' => e = .returned (.int .i64 (cls a)) ∧ w'.cell? ⟨w.heap.size + 1, 0, none⟩ = some (.int .i32 b) ∧ Below w.heap.size w w') := (rclass_any a W0).mono fun e w' ⟨h1, h2⟩ => ⟨h1, (h2.cell (p := ⟨w.heap.size + 1, 0, none⟩) (by show w.heap.size + 1 < _; omega)).trans hc1, hB0.trans (h2.mono hB0.size)⟩
  have HB : Hid (∀ W, Below w.heap.size w W → Calls Tryz.prog 104 #[.int .i32 b] W fun e w' => e = .returned (.int .i64 (cls b)) ∧ Below w.heap.size w w') := fun W hb => (rclass_any b W).mono fun _ _ ⟨h1, h2⟩ => ⟨h1, hb.trans (h2.mono hb.size)⟩
  have HB0 : Hid (Below w.heap.size w W0) := hB0
  clear hS0 hB0
  rw [jn_eq]
  by_cases h1 : a = 13
  · by_cases h2 : b = 10
    · subst h1 h2
      clear HA HB
      go_enter Tryz.func103, Tryz.ntmps103
      go_wp2
      go_ret
      exact ⟨by simp, HB0.out⟩
    · have e2 : (b == 10) = false := by simpa using h2
      have e1 : (a == 13) = true := by simpa using h1
      rw [decide_eq_false h2, Bool.and_false, Bool.false_or]
      clear h1 h2
      generalize cls a = ka at HA
      generalize cls b = kb at HB
      by_cases h3 : kb = 3
      · subst h3
        by_cases h4 : ka = 1
        · subst h4
          go_enter Tryz.func103, Tryz.ntmps103
          go_wp2_with (first | (go_at_call 104; refine (Hid.out HA).mono ?_; clear HA; rintro e w1 ⟨rfl, c1, hb1⟩) | (go_at_call 104; refine (HB.out _ hb1).mono ?_; clear HB; rintro e w2 ⟨rfl, hb2⟩))
          go_ret
          exact ⟨by simp, hb2⟩
        · go_enter Tryz.func103, Tryz.ntmps103
          go_wp2_with (first | (go_at_call 104; refine (Hid.out HA).mono ?_; clear HA; rintro e w1 ⟨rfl, c1, hb1⟩) | (go_at_call 104; refine (HB.out _ hb1).mono ?_; clear HB; rintro e w2 ⟨rfl, hb2⟩))
          go_ret
          exact ⟨ret_bool (by rw [Bool.eq_iff_iff]; simp [h4]), hb2⟩
      · have e3 : (kb == 3) = false := by simpa using h3
        go_enter Tryz.func103, Tryz.ntmps103
        go_wp2_with (first | (go_at_call 104; refine (Hid.out HA).mono ?_; clear HA; rintro e w1 ⟨rfl, c1, hb1⟩) | (go_at_call 104; refine (HB.out _ hb1).mono ?_; clear HB; rintro e w2 ⟨rfl, hb2⟩))
        go_ret
        exact ⟨by simp [h3], hb2⟩
  · have e1 : (a == 13) = false := by simpa using h1
    rw [decide_eq_false h1, Bool.false_and, Bool.false_or]
    clear h1
    generalize cls a = ka at HA
    generalize cls b = kb at HB
    by_cases h3 : kb = 3
    · subst h3
      by_cases h4 : ka = 1
      · subst h4
        go_enter Tryz.func103, Tryz.ntmps103
        go_wp2_with (first | (go_at_call 104; refine (Hid.out HA).mono ?_; clear HA; rintro e w1 ⟨rfl, c1, hb1⟩) | (go_at_call 104; refine (HB.out _ hb1).mono ?_; clear HB; rintro e w2 ⟨rfl, hb2⟩))
        go_ret
        exact ⟨by simp, hb2⟩
      · go_enter Tryz.func103, Tryz.ntmps103
        go_wp2_with (first | (go_at_call 104; refine (Hid.out HA).mono ?_; clear HA; rintro e w1 ⟨rfl, c1, hb1⟩) | (go_at_call 104; refine (HB.out _ hb1).mono ?_; clear HB; rintro e w2 ⟨rfl, hb2⟩))
        go_ret
        exact ⟨ret_bool (by rw [Bool.eq_iff_iff]; simp [h4]), hb2⟩
    · have e3 : (kb == 3) = false := by simpa using h3
      go_enter Tryz.func103, Tryz.ntmps103
      go_wp2_with (first | (go_at_call 104; refine (Hid.out HA).mono ?_; clear HA; rintro e w1 ⟨rfl, c1, hb1⟩) | (go_at_call 104; refine (HB.out _ hb1).mono ?_; clear HB; rintro e w2 ⟨rfl, hb2⟩))
      go_ret
      exact ⟨by simp [h3], hb2⟩

/-- the clusters that have been met, the one under way last -/
def ll (s : ByteArray) (pre : List Nat) : List Clu := if pre = [] then [] else (st s pre).1 ++ [(st s pre).2.1]
theorem ll_all {s : ByteArray} (h : Inv s (offs s 0) s.size) : ll s (offs s 0) = cl s := by
  unfold ll
  by_cases h0 : 0 < s.size
  · rw [if_neg (offs_ne h0), inv_end h (offs_ne h0)]
  · rw [if_pos (offs_nil (by omega)), cl_nil (by omega)]
theorem ll_len {s : ByteArray} {pre : List Nat} : (st s pre).1.length + 1 ≤ pre.length + 1 := by
  have : ∀ (l : List Nat) (t : List Clu × Clu × Int), (l.foldl (step s) t).1.length ≤ l.length + t.1.length := fun l => by
    induction l with
    | nil => intro t; simp
    | cons x r ih =>
      intro t
      rw [List.foldl_cons]
      refine Nat.le_trans (ih _) ?_
      unfold step
      split
      · simp only [List.length_cons]; omega
      · split
        · simp only [List.length_cons]; omega
        · simp only [List.length_append, List.length_cons, List.length_nil]; omega
  have h := this pre ([], ⟨0, 0, 0, 0⟩, 0)
  unfold st
  simp only [List.length_nil] at h
  omega

/-- the last element of an own row is written -/
theorem row_last {W : World} {base g n cap : Nat} {e : TypeId} {xs : List Value} {a0 a1 a2 a3 : Value} (h : W.ownsRow base e 4 (.slice (some ⟨g, 0, none⟩) (n + 1) cap) (n + 1) (xs ++ [a0, a1, a2, a3])) (hn : xs.length = n * 4) (u0 u1 u2 u3 : Value) :
    ((((W.setCell ⟨g, n * 4, none⟩ u0).setCell ⟨g, n * 4 + 1, none⟩ u1).setCell ⟨g, n * 4 + 2, none⟩ u2).setCell ⟨g, n * 4 + 3, none⟩ u3).ownsRow base e 4 (.slice (some ⟨g, 0, none⟩) (n + 1) cap) (n + 1) (xs ++ [u0, u1, u2, u3]) := by
  rcases h.2 with ⟨h0, _⟩ | ⟨g', cap', cur, hv, hb, hg, hc1, hc2, hc3, hc4⟩
  · cases h0
  · cases hv
    refine ⟨by simp; omega, .inr ⟨g, cap, _, rfl, hb, set1 u3 (set1 u2 (set1 u1 (set1 u0 hg))), hc1, hc2, by simpa using hc3, ?_⟩⟩
    have hcur : cur.toList = xs ++ [a0, a1, a2, a3] ++ cur.toList.drop ((n + 1) * 4) := by rw [← hc4, List.take_append_drop]
    simp only [Array.toList_setIfInBounds]
    rw [hcur]
    generalize cur.toList.drop ((n + 1) * 4) = rest
    rw [← hn]
    simp only [List.append_assoc, List.cons_append, List.nil_append]
    rw [List.set_append_right _ _ (by omega), Nat.sub_self, List.set_cons_zero, List.set_append_right _ _ (by omega), show xs.length + 1 - xs.length = 1 by omega, List.set_append_right _ _ (by omega), show xs.length + 2 - xs.length = 2 by omega, List.set_append_right _ _ (by omega), show xs.length + 3 - xs.length = 3 by omega]
    simp only [List.set_cons_succ, List.set_cons_zero]
    rw [List.take_append, List.take_of_length_le (by omega)]
    rw [show (n + 1) * 4 - xs.length = 4 by omega]
    rfl
theorem grown4' (W : World) (b i : Nat) (u0 u1 u2 u3 : Value) : W.grownBy ((((W.setCell ⟨b, i, none⟩ u0).setCell ⟨b, i + 1, none⟩ u1).setCell ⟨b, i + 2, none⟩ u2).setCell ⟨b, i + 3, none⟩ u3) (some b) :=
  grown2 (grown2 (grown2 (gcell _ _ _ _) (gcell _ _ _ _)) (gcell _ _ _ _)) (gcell _ _ _ _)
end Go.Proofs.YtenkmidlipjobaaGreatDoor
namespace Go.Proofs.YtenkmidlipjobaaGreatDoor
open Go.RowKit Go.Sort Bod Wid

/-- what the loop over the units keeps -/
structure YI (s : ByteArray) (w : World) (gu N cu : Nat) (v : Value) (pre : List Nat) (a : Nat) (W : World) : Prop where
  inv : Inv s pre a
  row : W.ownsRow w.heap.size 110 4 v (ll s pre).length (ccl (ll s pre))
  us : W.ownsRow w.heap.size 86 2 (.slice (some ⟨gu, 0, none⟩) N cu) N (ucells s (offs s 0))
  below : Below w.heap.size w W
theorem YI.cells {s : ByteArray} {w W : World} {gu N cu a : Nat} {v : Value} {pre : List Nat} (h : YI s w gu N cu v pre a W) (hN : (offs s 0).length = N) (k x : Nat) (hk : (offs s 0)[k]? = some x) : W.cell? ⟨gu, k * 2, none⟩ = some (.int .i32 (ch s x)) ∧ W.cell? ⟨gu, k * 2 + 1, none⟩ = some (.int .i64 (sz s x)) := by
  have hkl := (List.getElem?_eq_some_iff.1 hk).1
  obtain ⟨e0, e1⟩ := ucells_get s (offs s 0) k x hk
  exact ⟨(h.us.cellAt (k * 2) (by omega)).trans e0, (h.us.cellAt (k * 2 + 1) (by omega)).trans e1⟩
theorem YI.grow {s : ByteArray} {w W W' : World} {gu N cu a : Nat} {v : Value} {pre : List Nat} (h : YI s w gu N cu v pre a W) (hb : Below W.heap.size W W') : YI s w gu N cu v pre a W' :=
  ⟨h.inv, row_below' h.row hb, row_below' h.us hb, h.below.trans (hb.mono h.below.size)⟩
theorem YI.ne {s : ByteArray} {w W : World} {gu N cu a : Nat} {v : Value} {pre : List Nat} (h : YI s w gu N cu v pre a W) : v.ownBlock ≠ some gu := fun e => by
  rcases h.row.2 with ⟨h0, _⟩ | ⟨g', cap', cur, hv, _, hgb, _⟩
  · rw [h0] at e; cases e
  · rw [hv] at e; cases e
    rcases h.us.2 with ⟨h0, _⟩ | ⟨g2, cap2, cur2, hv2, _, hgb2, _⟩
    · cases h0
    · cases hv2
      rw [hgb] at hgb2
      cases hgb2
/-- a cluster was begun -/
theorem YI.push {s : ByteArray} {w W W1 W' : World} {gu N cu a : Nat} {v v' : Value} {pre : List Nat} (h : YI s w gu N cu v pre a W) (has : a < s.size) (hll : ll s (pre ++ [a]) = ll s pre ++ [beg s a]) (hb : Below W.heap.size W W1) (hg : W1.grownBy W' v.ownBlock)
    (hr : W'.ownsRow w.heap.size 110 4 v' ((ll s pre).length + 1) (ccl (ll s pre) ++ [.int .i64 (a : Int), .int .i64 ((a : Int) + sz s a), .int .i64 (cls (ch s a)), .int .i64 (cel (ch s a))])) : YI s w gu N cu v' (pre ++ [a]) (a + sz s a) W' := by
  have h1 := h.grow hb
  refine ⟨inv_step h.inv has, ?_, h1.us.kept hg (.inr (fun e => h1.ne e.symm)), h1.below.grown hg h1.below.size (fun k e => (h1.row.lt k e).1)⟩
  rw [hll, List.length_append, ccl_snoc]
  simpa [beg] using hr
/-- the cluster under way was grown: its cells were written -/
theorem YI.turn {s : ByteArray} {w W W1 W' : World} {gu N cu a g cap : Nat} {pre : List Nat} (h : YI s w gu N cu (.slice (some ⟨g, 0, none⟩) ((st s pre).1.length + 1) cap) pre a W) (has : a < s.size) (hp : pre ≠ []) (hll : ll s (pre ++ [a]) = (st s pre).1 ++ [gro s (st s pre).2.1 a]) (hb : Below W.heap.size W W1)
    (hW : W' = ((((W1.setCell ⟨g, (st s pre).1.length * 4, none⟩ (.int .i64 (st s pre).2.1.fr)).setCell ⟨g, (st s pre).1.length * 4 + 1, none⟩ (.int .i64 ((a : Int) + sz s a))).setCell ⟨g, (st s pre).1.length * 4 + 2, none⟩ (.int .i64 (gro s (st s pre).2.1 a).k)).setCell ⟨g, (st s pre).1.length * 4 + 3, none⟩ (.int .i64 (gro s (st s pre).2.1 a).n))) :
    YI s w gu N cu (.slice (some ⟨g, 0, none⟩) ((st s pre).1.length + 1) cap) (pre ++ [a]) (a + sz s a) W' := by
  have h1 := h.grow hb
  have hg := grown4' W1 g ((st s pre).1.length * 4) (.int .i64 (st s pre).2.1.fr) (.int .i64 ((a : Int) + sz s a)) (.int .i64 (gro s (st s pre).2.1 a).k) (.int .i64 (gro s (st s pre).2.1 a).n)
  rw [← hW] at hg
  have hto : (st s pre).2.1.to = a := by rcases h.inv.2.2 with ⟨h, _⟩ | ⟨_, _, h, _⟩; exact absurd h hp; exact h
  have hrow := h1.row
  have e1 : ll s pre = (st s pre).1 ++ [(st s pre).2.1] := by unfold ll; rw [if_neg hp]
  rw [e1, List.length_append, ccl_snoc] at hrow
  have hr := row_last hrow (ccl_len _) (.int .i64 (st s pre).2.1.fr) (.int .i64 ((a : Int) + sz s a)) (.int .i64 (gro s (st s pre).2.1 a).k) (.int .i64 (gro s (st s pre).2.1 a).n)
  rw [← hW] at hr
  refine ⟨inv_step h.inv has, ?_, h1.us.kept hg (.inr (fun e => h1.ne (by cases e; rfl))), h1.below.grown hg h1.below.size (fun k e => by cases e; exact (h1.row.lt g rfl).1)⟩
  rw [hll, List.length_append, ccl_snoc]
  simpa [gro, hto] using hr
theorem YI.last {s : ByteArray} {w W : World} {gu N cu a g cap : Nat} {pre : List Nat} (h : YI s w gu N cu (.slice (some ⟨g, 0, none⟩) ((st s pre).1.length + 1) cap) pre a W) (hp : pre ≠ []) :
    (W.cell? ⟨g, (st s pre).1.length * 4, none⟩ = some (.int .i64 (st s pre).2.1.fr) ∧ W.cell? ⟨g, (st s pre).1.length * 4 + 1, none⟩ = some (.int .i64 (st s pre).2.1.to) ∧ W.cell? ⟨g, (st s pre).1.length * 4 + 2, none⟩ = some (.int .i64 (st s pre).2.1.k) ∧ W.cell? ⟨g, (st s pre).1.length * 4 + 3, none⟩ = some (.int .i64 (st s pre).2.1.n)) ∧
    W.frozen? ⟨g, (st s pre).1.length * 4, none⟩ = false ∧ W.frozen? ⟨g, (st s pre).1.length * 4 + 1, none⟩ = false ∧ W.frozen? ⟨g, (st s pre).1.length * 4 + 2, none⟩ = false ∧ W.frozen? ⟨g, (st s pre).1.length * 4 + 3, none⟩ = false := by
  have hrow := h.row
  have e1 : ll s pre = (st s pre).1 ++ [(st s pre).2.1] := by unfold ll; rw [if_neg hp]
  obtain ⟨e0, e2, e3, e4⟩ := ccl_get (ll s pre) (st s pre).1.length (st s pre).2.1 (by rw [e1]; simp)
  have hl := ccl_len (ll s pre)
  have hl2 : (ll s pre).length = (st s pre).1.length + 1 := by rw [e1]; simp
  rw [hl2] at hrow
  refine ⟨⟨(hrow.cellAt ((st s pre).1.length * 4) (by omega)).trans e0, (hrow.cellAt ((st s pre).1.length * 4 + 1) (by omega)).trans e2, (hrow.cellAt ((st s pre).1.length * 4 + 2) (by omega)).trans e3, (hrow.cellAt ((st s pre).1.length * 4 + 3) (by omega)).trans e4⟩, ?_⟩
  rcases hrow.2 with ⟨h0, _⟩ | ⟨g', cap', cur, hv, _, hgb, _⟩
  · cases h0
  · cases hv
    simp [World.frozen?, hgb]
theorem ll_zero {s : ByteArray} {pre : List Nat} {a : Nat} (h : Inv s pre a) (hp : pre = []) : ll s (pre ++ [a]) = ll s pre ++ [beg s a] := by
  subst hp
  rcases h.2.2 with ⟨_, rfl⟩ | ⟨h, _⟩
  · simp [ll, st, step]
  · exact absurd rfl h
theorem ll_part {s : ByteArray} {pre : List Nat} {a : Nat} (h : Inv s pre a) (hp : pre ≠ []) (hj : jn (st s pre).2.2 (ch s a) = false) : ll s (pre ++ [a]) = ll s pre ++ [beg s a] := by
  have ha : a ≠ 0 := by rcases h.2.2 with ⟨h, _⟩ | ⟨_, h, _⟩; exact absurd h hp; omega
  unfold ll
  rw [if_neg (by simp), if_neg hp, st_part ha hj]
theorem ll_join {s : ByteArray} {pre : List Nat} {a : Nat} (h : Inv s pre a) (hp : pre ≠ []) (hj : jn (st s pre).2.2 (ch s a) = true) : ll s (pre ++ [a]) = (st s pre).1 ++ [gro s (st s pre).2.1 a] := by
  have ha : a ≠ 0 := by rcases h.2.2 with ⟨h, _⟩ | ⟨_, h, _⟩; exact absurd h hp; omega
  unfold ll
  rw [if_neg (by simp), st_join ha hj]
theorem st_ahead (s : ByteArray) (pre : List Nat) (y : Nat) : (st s (pre ++ [y])).2.2 = ch s y := by
  rw [st_snoc]; unfold step; split
  · rfl
  · split <;> rfl

set_option maxRecDepth 100000 in
set_option maxHeartbeats 2000000 in
theorem rlist_pos (s : ByteArray) (hs : s.size * 32 + 32 ≤ 140737488355328) (h0 : 0 < s.size) (w : World) :
    Calls Tryz.prog 63 #[.string s] w fun e W' => ∃ v, e = .returned v ∧ W'.ownsRow w.heap.size 110 4 v (cl s).length (ccl (cl s)) ∧ Below w.heap.size w W' := by
  obtain ⟨i0, hi0, hz0, hz1, hz2⟩ := info_parts infoC
  obtain ⟨N, hN⟩ : ∃ N, (offs s 0).length = N := ⟨_, rfl⟩
  have hNs : N ≤ s.size := by rw [← hN]; exact offs_len_le s
  have hN0 : 0 < N := by rw [← hN, offs_step h0]; simp
  have cU : Calls Tryz.prog 102 #[.string s] w fun e W' => ∃ g cap, e = .returned (.slice (some ⟨g, 0, none⟩) N cap) ∧ W'.ownsRow w.heap.size 86 2 (.slice (some ⟨g, 0, none⟩) N cap) N (ucells s (offs s 0)) ∧ Below w.heap.size w W' := (runits_any s (by omega) w).mono fun e W' ⟨v, h1, h2, h3⟩ => by
    rw [hN] at h2
    obtain ⟨m, hm⟩ : ∃ m, N = m + 1 := ⟨N - 1, by omega⟩
    have h2' := h2
    rw [hm] at h2'
    obtain ⟨g, cap, rfl⟩ := ownsRow_succ h2'
    rw [← hm] at h1 h2
    exact ⟨g, cap, h1, h2, h3⟩
  have HN : Hid ((offs s 0).length = N) := hN
  have hmx : Tryz.prog.follows .mixedOrders = true := by kernel_rfl
  have HMx : Hid (Tryz.prog.follows .mixedOrders = true) := hmx
  clear hN hmx
  go_enter Tryz.func63, Tryz.ntmps63
  go_wp2_with (go_at_call 102; refine cU.mono ?_; clear cU; rintro e w0 ⟨gu, cu, rfl, hu, hb0⟩)
  go_loopw [3, 5, 6] (fun v t u wr => ∃ (pre : List Nat) (a n : Nat), t = .int .i64 a ∧ u = .int .i64 n ∧ Hid (pre.length = n) ∧ n ≤ N ∧ a ≤ s.size ∧ Hid (YI s w gu N cu v pre a wr)) (fun _ _ u _ => N - (intOf u).toNat)
  case atStart => exact ⟨[], 0, 0, rfl, rfl, rfl, Nat.zero_le _, Nat.zero_le _, ⟨inv_start s, World.ownsRow_nil _ _ _ _, hu, hb0⟩⟩
  case round =>
    clear hu hb0
    obtain ⟨pre, a, n, rfl, rfl, HP, hn, ha, HY⟩ := hrel
    by_cases hlt : n < N
    · have hpl : pre ++ offs s a = offs s 0 := HY.out.inv.2.1
      have has : a < s.size := by
        by_cases h : a < s.size
        · exact h
        · rw [offs_end (by omega), List.append_nil] at hpl
          have h1 := HN.out; have h2 := HP.out; rw [← hpl] at h1; omega
      have hat : (offs s 0)[n]? = some a := by
        rw [← hpl, ← HP.out, List.getElem?_append_right (Nat.le_refl _), Nat.sub_self, offs_step has]; rfl
      obtain ⟨u0, u1⟩ := HY.out.cells HN.out n a hat
      have hin := sz_in has
      have hpos := sz_pos has
      have hinv := inv_step HY.out.inv has
      have hml : (ll s pre).length + 1 ≤ s.size + 1 := by
        have h1 := ll_len (s := s) (pre := pre)
        have h2 := HP.out
        unfold ll
        split
        · simp
        · rw [List.length_append]; simp only [List.length_cons, List.length_nil]; omega
      have HAT : Hid ((offs s 0)[n]? = some a) := hat
      have HPL : Hid (pre ++ offs s a = offs s 0) := hpl
      clear hat hpl
      by_cases hp0 : pre = []
      · have g0 : decide (0 < n) = false := decide_eq_false (by have := HP.out; rw [hp0] at this; simp at this; omega)
        have HP0 : Hid (pre = []) := hp0
        clear hp0
        have r1 := cell_regrown u1
        go_wp2
        refine wp_region_quiet_below HMx.out (by kernel_rfl) ?_
        repeat (go_big_quiet_step (fail))
        refine wpQuiet_nil ?_
        intro _ hw'
        obtain ⟨⟨dq, osq⟩, hw''⟩ := hw'
        subst hw''
        dsimp only
        obtain ⟨W2, hW2⟩ : ∃ W2, grow (redrawn wr dq) osq = W2 := ⟨_, rfl⟩
        have HB2 : Hid (Below wr.heap.size wr W2) := by rw [← hW2]; exact below_regrown wr dq osq
        rw [hW2]
        have HY2 : Hid (YI s w gu N cu u3 pre a W2) := HY.out.grow HB2.out
        clear hW2 r1 u0 u1
        have hat2 : (offs s 0)[n]? = some a := HAT.out
        obtain ⟨x0, x1⟩ := HY2.out.cells HN.out n a hat2
        clear hat2
        go_wp2
        have CC : Hid (∀ W, Below W2.heap.size W2 W → Calls Tryz.prog 104 #[.int .i32 (ch s a)] W fun e w' => e = .returned (.int .i64 (cls (ch s a))) ∧ w'.cell? ⟨gu, n * 2 + 1, none⟩ = some (.int .i64 (sz s a)) ∧ Below W2.heap.size W2 w') := fun W hW => (rclass_any (ch s a) W).mono fun e w' ⟨h1, h2⟩ => (by
          have h3 : Below W2.heap.size W2 w' := hW.trans (h2.mono hW.size)
          exact ⟨h1, (h3.cell (p := ⟨gu, n * 2 + 1, none⟩) (HY2.out.us.lt gu rfl).2).trans x1, h3⟩)
        have CE : Hid (∀ W, Below W2.heap.size W2 W → Calls Tryz.prog 105 #[.int .i32 (ch s a)] W fun e w' => e = .returned (.int .i64 (cel (ch s a))) ∧ w'.cell? ⟨gu, n * 2 + 1, none⟩ = some (.int .i64 (sz s a)) ∧ Below W2.heap.size W2 w') := fun W hW => (rcells_any (ch s a) W).mono fun e w' ⟨h1, h2⟩ => (by
          have h3 : Below W2.heap.size W2 w' := hW.trans (h2.mono hW.size)
          exact ⟨h1, (h3.cell (p := ⟨gu, n * 2 + 1, none⟩) (HY2.out.us.lt gu rfl).2).trans x1, h3⟩)
        have hwr : IntKind.i64.wrap ((a : Int) + (sz s a : Int)) = (a : Int) + (sz s a : Int) := by rw [IntKind.wrap_i64]; omega
        have HBB : Hid (∀ W, Below W2.heap.size W2 W → w.heap.size ≤ W.heap.size) := fun W hW => Nat.le_trans HY2.out.below.size hW.size
        go_region_held3 (fun w' => w'.cell? ⟨gu, n * 2 + 1, none⟩ = some (.int .i64 (sz s a))) (go_keep) (first | (go_at_call 104; refine (CC.out _ ?_).mono ?_; (exact ⟨rfl, rfl, rfl, Nat.le_refl _, fun _ _ => rfl⟩); clear CC; rintro e w5 ⟨rfl, a1, hb5⟩) | (go_at_call 105; refine (CE.out _ hb5).mono ?_; clear CE; rintro e w6 ⟨rfl, b1, hb6⟩) | (refine step_append_own rfl (.tmp 64) (.tmp 78) 75 rfl w.heap.size 110 i0 _ 4 32 Tryz.underlying75 hi0 hz0 hz1 hz2 rfl (by decide) u3 _ _ rfl ((row_below' HY2.out.row hb6).alloc _) ⟨w6.heap.size, 0, none⟩ 1 1 [.int .i64 (a : Int), .int .i64 ((a : Int) + sz s a), .int .i64 (cls (ch s a)), .int .i64 (cel (ch s a))] rfl rfl (World.news_of_block (World.alloc_heap_new w6 _)) (by simp [Value.oneCell']) (by unfold maxLen; omega) (by omega) (by have := HBB.out _ hb6; simp; omega) ?_; intro v3 w3 hrow3 hg3; have d3 : w3.cell? ⟨gu, n * 2 + 1, none⟩ = some (.int .i64 (sz s a)) := (grown_cell hg3 (Nat.lt_of_lt_of_le (HY2.out.us.lt gu rfl).2 (Nat.le_trans hb6.size (by simp))) HY2.out.ne).trans (((Below.refl _ w6).alloc (Nat.le_refl _) _ |>.cell (p := ⟨gu, n * 2 + 1, none⟩) (Nat.lt_of_lt_of_le (HY2.out.us.lt gu rfl).2 hb6.size)).trans b1)))
        go_wp2
        exact ⟨⟨pre ++ [a], a + sz s a, n + 1, by go_num, by go_num, (by show (pre ++ [a]).length = n + 1; rw [List.length_append, HP.out]; rfl), by omega, hin, HY2.out.push has (ll_zero HY2.out.inv HP0.out) (hb6.alloc hb6.size _) hg3 hrow3⟩, by simp [intOf]; omega⟩
      · obtain ⟨m, hm⟩ : ∃ m, n = m + 1 := ⟨n - 1, by
          have := HP.out
          cases pre with
          | nil => exact absurd rfl hp0
          | cons x r => simp at this; omega⟩
        obtain ⟨p', y, hpy⟩ : ∃ p' y, pre = p' ++ [y] := ⟨pre.dropLast, pre.getLast hp0, (List.dropLast_concat_getLast hp0).symm⟩
        have hay : (offs s 0)[m]? = some y := by
          rw [← HPL.out, hpy]
          have h1 := HP.out
          rw [hpy, List.length_append] at h1
          simp only [List.length_cons, List.length_nil] at h1
          rw [List.append_assoc, List.getElem?_append_right (by omega), show m - p'.length = 0 by omega]
          rfl
        have hah : (st s pre).2.2 = ch s y := by rw [hpy]; exact st_ahead s p' y
        obtain ⟨y0, y1⟩ := HY.out.cells HN.out m y hay
        have g0 : decide (0 < n) = true := decide_eq_true (by omega)
        have hwm : IntKind.i64.wrap ((n : Int) - 1) = (m : Int) := by rw [IntKind.wrap_i64]; omega
        have hmN : (m : Int) < N := by omega
        have HNE : Hid (pre ≠ []) := hp0
        have HAY : Hid ((offs s 0)[m]? = some y) := hay
        have HNM : Hid (n = m + 1) := hm
        clear hp0 hay hpy hm
        have r0 := cell_regrown u0
        have r1 := cell_regrown u1
        have s0 := cell_regrown y0
        have s1 := cell_regrown y1
        cases hj : jn (st s pre).2.2 (ch s a) with
        | false =>
          have q1 := regrown (v := .bool false) (W := wr) (fun W _ => by have := rjoined_any (ch s y) (ch s a) (sz s y) (sz s a) W; rw [← hah, hj, hah] at this; exact this)
          have HJ : Hid (jn (st s pre).2.2 (ch s a) = false) := hj
          clear hj hah
          go_wp2
          refine wp_region_quiet_below HMx.out (by kernel_rfl) ?_
          repeat (go_big_quiet_step (fail))
          go_big_quiet_step (exact q1 _ _)
          repeat (go_big_quiet_step (fail))
          refine wpQuiet_nil ?_
          intro _ hw'
          obtain ⟨⟨dq, osq⟩, hw''⟩ := hw'
          subst hw''
          dsimp only
          obtain ⟨W2, hW2⟩ : ∃ W2, grow (redrawn wr dq) osq = W2 := ⟨_, rfl⟩
          have HB2 : Hid (Below wr.heap.size wr W2) := by rw [← hW2]; exact below_regrown wr dq osq
          rw [hW2]
          have HY2 : Hid (YI s w gu N cu u3 pre a W2) := HY.out.grow HB2.out
          clear hW2 r0 r1 s0 s1 u0 u1 y0 y1 q1
          have hat2 : (offs s 0)[n]? = some a := HAT.out
          obtain ⟨x0, x1⟩ := HY2.out.cells HN.out n a hat2
          clear hat2
          go_wp2
          have CC : Hid (∀ W, Below W2.heap.size W2 W → Calls Tryz.prog 104 #[.int .i32 (ch s a)] W fun e w' => e = .returned (.int .i64 (cls (ch s a))) ∧ w'.cell? ⟨gu, n * 2 + 1, none⟩ = some (.int .i64 (sz s a)) ∧ Below W2.heap.size W2 w') := fun W hW => (rclass_any (ch s a) W).mono fun e w' ⟨h1, h2⟩ => (by
            have h3 : Below W2.heap.size W2 w' := hW.trans (h2.mono hW.size)
            exact ⟨h1, (h3.cell (p := ⟨gu, n * 2 + 1, none⟩) (HY2.out.us.lt gu rfl).2).trans x1, h3⟩)
          have CE : Hid (∀ W, Below W2.heap.size W2 W → Calls Tryz.prog 105 #[.int .i32 (ch s a)] W fun e w' => e = .returned (.int .i64 (cel (ch s a))) ∧ w'.cell? ⟨gu, n * 2 + 1, none⟩ = some (.int .i64 (sz s a)) ∧ Below W2.heap.size W2 w') := fun W hW => (rcells_any (ch s a) W).mono fun e w' ⟨h1, h2⟩ => (by
            have h3 : Below W2.heap.size W2 w' := hW.trans (h2.mono hW.size)
            exact ⟨h1, (h3.cell (p := ⟨gu, n * 2 + 1, none⟩) (HY2.out.us.lt gu rfl).2).trans x1, h3⟩)
          have hwr : IntKind.i64.wrap ((a : Int) + (sz s a : Int)) = (a : Int) + (sz s a : Int) := by rw [IntKind.wrap_i64]; omega
          have HBB : Hid (∀ W, Below W2.heap.size W2 W → w.heap.size ≤ W.heap.size) := fun W hW => Nat.le_trans HY2.out.below.size hW.size
          go_region_held3 (fun w' => w'.cell? ⟨gu, n * 2 + 1, none⟩ = some (.int .i64 (sz s a))) (go_keep) (first | (go_at_call 104; refine (CC.out _ ?_).mono ?_; (exact ⟨rfl, rfl, rfl, Nat.le_refl _, fun _ _ => rfl⟩); clear CC; rintro e w5 ⟨rfl, a1, hb5⟩) | (go_at_call 105; refine (CE.out _ hb5).mono ?_; clear CE; rintro e w6 ⟨rfl, b1, hb6⟩) | (refine step_append_own rfl (.tmp 64) (.tmp 78) 75 rfl w.heap.size 110 i0 _ 4 32 Tryz.underlying75 hi0 hz0 hz1 hz2 rfl (by decide) u3 _ _ rfl ((row_below' HY2.out.row hb6).alloc _) ⟨w6.heap.size, 0, none⟩ 1 1 [.int .i64 (a : Int), .int .i64 ((a : Int) + sz s a), .int .i64 (cls (ch s a)), .int .i64 (cel (ch s a))] rfl rfl (World.news_of_block (World.alloc_heap_new w6 _)) (by simp [Value.oneCell']) (by unfold maxLen; omega) (by omega) (by have := HBB.out _ hb6; simp; omega) ?_; intro v3 w3 hrow3 hg3; have d3 : w3.cell? ⟨gu, n * 2 + 1, none⟩ = some (.int .i64 (sz s a)) := (grown_cell hg3 (Nat.lt_of_lt_of_le (HY2.out.us.lt gu rfl).2 (Nat.le_trans hb6.size (by simp))) HY2.out.ne).trans (((Below.refl _ w6).alloc (Nat.le_refl _) _ |>.cell (p := ⟨gu, n * 2 + 1, none⟩) (Nat.lt_of_lt_of_le (HY2.out.us.lt gu rfl).2 hb6.size)).trans b1)))
          go_wp2
          exact ⟨⟨pre ++ [a], a + sz s a, n + 1, by go_num, by go_num, (by show (pre ++ [a]).length = n + 1; rw [List.length_append, HP.out]; rfl), by omega, hin, HY2.out.push has (ll_part HY2.out.inv HNE.out HJ.out) (hb6.alloc hb6.size _) hg3 hrow3⟩, by simp [intOf]; omega⟩
        | true =>
          have q1 := regrown (v := .bool true) (W := wr) (fun W _ => by have := rjoined_any (ch s y) (ch s a) (sz s y) (sz s a) W; rw [← hah, hj, hah] at this; exact this)
          have HJ : Hid (jn (st s pre).2.2 (ch s a) = true) := hj
          clear hj hah
          have e1 : ll s pre = (st s pre).1 ++ [(st s pre).2.1] := by unfold ll; rw [if_neg HNE.out]
          have hrow := HY.out.row
          rw [e1, List.length_append] at hrow
          obtain ⟨g, cap, hu3⟩ := ownsRow_succ hrow
          subst hu3
          clear hrow e1
          go_wp2
          refine wp_region_quiet_below HMx.out (by kernel_rfl) ?_
          repeat (go_big_quiet_step (fail))
          go_big_quiet_step (exact q1 _ _)
          repeat (go_big_quiet_step (fail))
          refine wpQuiet_nil ?_
          intro _ hw'
          obtain ⟨⟨dq, osq⟩, hw''⟩ := hw'
          subst hw''
          dsimp only
          obtain ⟨W2, hW2⟩ : ∃ W2, grow (redrawn wr dq) osq = W2 := ⟨_, rfl⟩
          have HB2 : Hid (Below wr.heap.size wr W2) := by rw [← hW2]; exact below_regrown wr dq osq
          rw [hW2]
          have HY2 : Hid (YI s w gu N cu (.slice (some ⟨g, 0, none⟩) ((st s pre).1.length + 1) cap) pre a W2) := HY.out.grow HB2.out
          clear hW2 r0 r1 s0 s1 u0 u1 y0 y1 q1
          have hat2 : (offs s 0)[n]? = some a := HAT.out
          obtain ⟨x0, x1⟩ := HY2.out.cells HN.out n a hat2
          clear hat2
          obtain ⟨⟨z0, z1, z2, z3⟩, f0, f1, f2, f3⟩ := HY2.out.last HNE.out
          have hgu : g ≠ gu := fun e => HY2.out.ne (by rw [e]; rfl)
          have hgl := (HY2.out.row.lt g rfl).2
          have hgul := (HY2.out.us.lt gu rfl).2
          have HT : Hid (∀ W', W' = _ → YI s w gu N cu (.slice (some ⟨g, 0, none⟩) ((st s pre).1.length + 1) cap) (pre ++ [a]) (a + sz s a) W') := fun W' hW' => HY2.out.turn (W1 := W2) has HNE.out (ll_join HY2.out.inv HNE.out HJ.out) (Below.refl _ W2) hW'
          have hlb : ((st s pre).1.length : Int) + 1 ≤ s.size + 1 := by have := ll_len (s := s) (pre := pre); have := HP.out; omega
          by_cases h10 : ch s a = 10
          · have hk1 : (gro s (st s pre).2.1 a).k = 1 := if_pos h10
            have hk2 : (gro s (st s pre).2.1 a).n = 0 := if_pos h10
            rw [hk1, hk2] at HT
            rw [h10] at x0
            have H10 : Hid (ch s a = 10) := h10
            clear hk1 hk2 h10
            generalize (st s pre).2.1.fr = cf at z0 HT
            generalize (st s pre).2.1.to = ct at z1
            generalize (st s pre).2.1.k = ck at z2
            generalize (st s pre).2.1.n = cn at z3
            generalize (st s pre).1.length = L at z0 z1 z2 z3 f0 f1 f2 f3 HT hlb hgl HY2 HY ⊢
            go_wp2
            exact ⟨⟨pre ++ [a], a + sz s a, n + 1, by go_num, by go_num, (by show (pre ++ [a]).length = n + 1; rw [List.length_append, HP.out]; rfl), by omega, hin, (HT.out _ rfl).grow ((Below.refl _ _).alloc (Nat.le_refl _) _)⟩, by simp [intOf]; omega⟩
          · have hk1 : (gro s (st s pre).2.1 a).k = (st s pre).2.1.k := if_neg h10
            have hk2 : (gro s (st s pre).2.1 a).n = (st s pre).2.1.n := if_neg h10
            rw [hk1, hk2] at HT
            clear hk1 hk2
            generalize (st s pre).2.1.fr = cf at z0 HT
            generalize (st s pre).2.1.to = ct at z1
            generalize (st s pre).2.1.k = ck at z2 HT
            generalize (st s pre).2.1.n = cn at z3 HT
            generalize (st s pre).1.length = L at z0 z1 z2 z3 f0 f1 f2 f3 HT hlb hgl HY2 HY ⊢
            go_wp2
            exact ⟨⟨pre ++ [a], a + sz s a, n + 1, by go_num, by go_num, (by show (pre ++ [a]).length = n + 1; rw [List.length_append, HP.out]; rfl), by omega, hin, (HT.out _ rfl).grow ((Below.refl _ _).alloc (Nat.le_refl _) _)⟩, by simp [intOf]; omega⟩
    · have hpl : pre ++ offs s a = offs s 0 := HY.out.inv.2.1
      have hn2 : n = N := by omega
      have he : offs s a = [] := by
        have h1 := HN.out
        have h2 := HP.out
        rw [← hpl, List.length_append] at h1
        exact List.length_eq_zero_iff.1 (by omega)
      rw [he, List.append_nil] at hpl
      have HR := HY.out.row
      have hai : a = s.size := inv_all HY.out.inv hpl
      rw [show ll s pre = cl s by have h := HY.out.inv; rw [hpl, hai] at h; rw [hpl]; exact ll_all h] at HR
      have HR2 : Hid _ := HR
      clear HR hai hpl he hn2
      go_wp2
      go_ret
      exact ⟨_, rfl, Hid.out HR2, HY.out.below⟩
theorem rlist_any (s : ByteArray) (hs : s.size * 32 + 32 ≤ 140737488355328) (w : World) :
    Calls Tryz.prog 63 #[.string s] w fun e W' => ∃ v, e = .returned v ∧ W'.ownsRow w.heap.size 110 4 v (cl s).length (ccl (cl s)) ∧ Below w.heap.size w W' := by
  by_cases h0 : 0 < s.size
  · exact rlist_pos s hs h0 w
  · have hcl : cl s = [] := cl_nil (by omega)
    have ho : offs s 0 = [] := offs_nil (by omega)
    rw [hcl]
    have cU : Calls Tryz.prog 102 #[.string s] w fun e W' => ∃ ao cap, e = .returned (.slice ao 0 cap) ∧ Below w.heap.size w W' := (runits_any s (by omega) w).mono fun e W' ⟨v, h1, h2, h3⟩ => by
      rw [ho] at h2
      rcases h2.2 with ⟨hv, _⟩ | ⟨g, cap, cur, hv, _⟩
      · exact ⟨none, 0, by rw [h1, hv], h3⟩
      · exact ⟨_, cap, by rw [h1, hv]; rfl, h3⟩
    go_enter Tryz.func63, Tryz.ntmps63
    go_wp2_with (go_at_call 102; refine cU.mono ?_; clear cU; rintro e w0 ⟨ao, cap, rfl, hb0⟩)
    go_loopw [3, 5, 6] (fun v t u wr => v = .slice none 0 0 ∧ t = .int .i64 0 ∧ u = .int .i64 0 ∧ w0 = wr) (fun _ _ _ _ => 0)
    case atStart => exact ⟨rfl, rfl, rfl, rfl⟩
    case round =>
      obtain ⟨rfl, rfl, rfl, rfl⟩ := hrel
      go_wp2
      go_ret
      exact ⟨_, rfl, World.ownsRow_nil _ _ _ _, hb0⟩
end Go.Proofs.YtenkmidlipjobaaGreatDoor
namespace Go.Proofs.YtenkmidlipjobaaGreatDoor
open Bod Wid

/-- all boundaries of a text, rising -/
def bds (s : ByteArray) : List Nat := 0 :: (cl s).map (·.to)
theorem bds_len (s : ByteArray) : (bds s).length = (cl s).length + 1 := by simp [bds]
theorem tiled_rise : ∀ {l : List Clu} {i j : Nat}, tiled i l j → (i :: l.map (·.to)).Pairwise (· < ·) ∧ j ∈ i :: l.map (·.to)
  | [], i, j, h => by have h : i = j := h; subst h; simp
  | c :: r, i, j, h => by
    obtain ⟨h1, h2, h3⟩ := h
    obtain ⟨h4, h5⟩ := tiled_rise h3
    refine ⟨?_, by simp only [List.map_cons]; exact List.mem_cons_of_mem _ h5⟩
    simp only [List.map_cons]
    refine List.pairwise_cons.2 ⟨fun x hx => ?_, h4⟩
    rcases List.mem_cons.1 hx with rfl | hx
    · exact h2
    · have := (List.pairwise_cons.1 h4).1 x hx
      omega
theorem tiled_has {s : ByteArray} : ∀ {l : List Clu} {i j k : Nat}, tiled i l j → (∀ d ∈ l, Sp s d) → i ≤ k → k ≤ j → cbZ s k = true → k ∈ i :: l.map (·.to)
  | [], i, j, k, h, _, h1, h2, _ => by have h : i = j := h; simp; omega
  | c :: r, i, j, k, h, hs, h1, h2, hc => by
    obtain ⟨h3, h4, h5⟩ := h
    by_cases e : k = i
    · simp [e]
    · by_cases e2 : k < c.to
      · have := (hs c (by simp)).2 k (by omega) (by omega)
        rw [hc] at this; cases this
      · simp only [List.map_cons]
        exact List.mem_cons_of_mem _ (tiled_has h5 (fun d hd => hs d (by simp [hd])) (by omega) h2 hc)
theorem bds_cb {s : ByteArray} {k : Nat} (h : k ∈ bds s) : cbZ s k = true := by
  rcases List.mem_cons.1 h with rfl | h
  · exact cb_zero s
  · obtain ⟨c, hc, rfl⟩ := List.mem_map.1 h
    exact (cl_cb s c hc).1
theorem bds_of {s : ByteArray} {i : Int} (h : cbZ s i = true) : ∃ k : Nat, i = k ∧ k ∈ bds s := by
  obtain ⟨k, rfl, hb⟩ := cb_B h
  exact ⟨k, rfl, tiled_has (cl_tile s) (cl_cb s) (Nat.zero_le _) hb.1 h⟩
theorem bds_end (s : ByteArray) : s.size ∈ bds s := (tiled_rise (cl_tile s)).2
theorem bds_lt {s : ByteArray} {i j a b : Nat} (h : i < j) (ha : (bds s)[i]? = some a) (hb : (bds s)[j]? = some b) : a < b := by
  obtain ⟨h1, rfl⟩ := List.getElem?_eq_some_iff.1 ha
  obtain ⟨h2, rfl⟩ := List.getElem?_eq_some_iff.1 hb
  exact List.pairwise_iff_getElem.1 (tiled_rise (cl_tile s)).1 i j h1 h2 h
theorem bds_at {s : ByteArray} {k : Nat} (h : k ∈ bds s) : ∃ j : Nat, (bds s)[j]? = some k := List.getElem?_of_mem h
theorem bds_le {s : ByteArray} {k : Nat} (h : k ∈ bds s) : k ≤ s.size := by
  have h1 := bds_cb h
  by_cases e : k ≤ s.size
  · exact e
  · rw [cb_out (.inr (by omega))] at h1; cases h1

theorem bd_found {s : ByteArray} {i : Int} {n b : Nat} (hb : (bds s)[n]? = some b) (e : (b : Int) = i) : cbZ s i = true := by
  rw [← e]; exact bds_cb (List.mem_of_getElem? hb)
theorem bd_none {s : ByteArray} {i : Int} {n : Nat} (hn : (bds s).length ≤ n) (hall : ∀ j c, j < n → (bds s)[j]? = some c → (c : Int) ≠ i) : cbZ s i = false := by
  cases h : cbZ s i with
  | false => rfl
  | true =>
    obtain ⟨k, rfl, hk⟩ := bds_of h
    obtain ⟨j, hj⟩ := bds_at hk
    exact absurd rfl (hall j k (by have := (List.getElem?_eq_some_iff.1 hj).1; omega) hj)
theorem next_found {s : ByteArray} {i : Int} {n b : Nat} (hb : (bds s)[n]? = some b) (hlt : i < b) (hall : ∀ j c, j < n → (bds s)[j]? = some c → (c : Int) ≤ i) : IsNext s i b :=
  ⟨bds_cb (List.mem_of_getElem? hb), .inl hlt, fun j h1 h2 => by
    cases h : cbZ s j with
    | false => rfl
    | true =>
      obtain ⟨k, rfl, hk⟩ := bds_of h
      obtain ⟨q, hq⟩ := bds_at hk
      rcases Nat.lt_trichotomy q n with h3 | rfl | h3
      · have := hall q k h3 hq; omega
      · rw [hb] at hq; cases hq; omega
      · have := bds_lt h3 hb hq; omega⟩
theorem next_none {s : ByteArray} {i : Int} {n : Nat} (hn : (bds s).length ≤ n) (hall : ∀ j c, j < n → (bds s)[j]? = some c → (c : Int) ≤ i) : IsNext s i s.size := by
  obtain ⟨q, hq⟩ := bds_at (bds_end s)
  have := hall q _ (by have := (List.getElem?_eq_some_iff.1 hq).1; omega) hq
  exact ⟨cb_end s, .inr ⟨rfl, this⟩, fun j h1 h2 => by omega⟩
theorem snap_found {s : ByteArray} {i : Int} {n b : Nat} (hb : (bds s)[n]? = some b) (hlt : i ≤ b) (hall : ∀ j c, j < n → (bds s)[j]? = some c → (c : Int) < i) : IsSnap s i b :=
  ⟨bds_cb (List.mem_of_getElem? hb), .inl hlt, fun j h1 h2 => by
    cases h : cbZ s j with
    | false => rfl
    | true =>
      obtain ⟨k, rfl, hk⟩ := bds_of h
      obtain ⟨q, hq⟩ := bds_at hk
      rcases Nat.lt_trichotomy q n with h3 | rfl | h3
      · have := hall q k h3 hq; omega
      · rw [hb] at hq; cases hq; omega
      · have := bds_lt h3 hb hq; omega⟩
theorem snap_none {s : ByteArray} {i : Int} {n : Nat} (hn : (bds s).length ≤ n) (hall : ∀ j c, j < n → (bds s)[j]? = some c → (c : Int) < i) : IsSnap s i s.size := by
  obtain ⟨q, hq⟩ := bds_at (bds_end s)
  have := hall q _ (by have := (List.getElem?_eq_some_iff.1 hq).1; omega) hq
  exact ⟨cb_end s, .inr ⟨rfl, by omega⟩, fun j h1 h2 => by omega⟩
theorem prev_found {s : ByteArray} {i : Int} {n b : Nat} (hb : (bds s)[n]? = some b) (hlt : (b : Int) < i) (hall : ∀ j c, n < j → (bds s)[j]? = some c → i ≤ (c : Int)) : IsPrev s i b :=
  ⟨bds_cb (List.mem_of_getElem? hb), .inl hlt, fun j h1 h2 => by
    cases h : cbZ s j with
    | false => rfl
    | true =>
      obtain ⟨k, rfl, hk⟩ := bds_of h
      obtain ⟨q, hq⟩ := bds_at hk
      rcases Nat.lt_trichotomy q n with h3 | rfl | h3
      · have := bds_lt h3 hq hb; omega
      · rw [hb] at hq; cases hq; omega
      · have := hall q k h3 hq; omega⟩
theorem prev_none {s : ByteArray} {i : Int} (hall : ∀ j c : Nat, (bds s)[j]? = some c → i ≤ (c : Int)) : IsPrev s i 0 := by
  have := hall 0 0 rfl
  exact ⟨cb_zero s, .inr ⟨rfl, by omega⟩, fun j h1 h2 => by omega⟩
end Go.Proofs.YtenkmidlipjobaaGreatDoor
