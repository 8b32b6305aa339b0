/-
  The document's own copy of package unit. Conditions: those of each theorem.
-/
import Derived.Test.YtfjoklbiocniiaaDoorKBase
import Derived.Test.YtfjoklbiocniiaaDoorPkA
namespace Go.Proofs.YtfjoklbiocniiaaDoor
open Go.RowKit Bod

set_option maxHeartbeats 1000000 in
theorem rscalar_any (r : Int) (w : World) : Calls Tryd.prog 73 #[.int .i32 r] w fun e w' => e = .returned (.bool (Lib.validRune r)) ∧ w = w' := by
  by_cases h1 : 0 ≤ r
  · by_cases h2 : r ≤ 1114111
    · by_cases h3 : r < 55296
      · rw [show Lib.validRune r = true from (valid_iff r).2 (by omega)]
        go_enter Tryd.func73, Tryd.ntmps73
        go_wp2
        go_ret
        exact ⟨rfl, rfl⟩
      · by_cases h4 : 57343 < r
        · rw [show Lib.validRune r = true from (valid_iff r).2 (by omega)]
          go_enter Tryd.func73, Tryd.ntmps73
          go_wp2
          go_ret
          exact ⟨rfl, rfl⟩
        · rw [show Lib.validRune r = false from by rw [← Bool.not_eq_true, valid_iff]; omega]
          go_enter Tryd.func73, Tryd.ntmps73
          go_wp2
          go_ret
          exact ⟨rfl, rfl⟩
    · rw [show Lib.validRune r = false from by rw [← Bool.not_eq_true, valid_iff]; omega]
      go_enter Tryd.func73, Tryd.ntmps73
      go_wp2
      go_ret
      exact ⟨rfl, rfl⟩
  · rw [show Lib.validRune r = false from by rw [← Bool.not_eq_true, valid_iff]; omega]
    go_enter Tryd.func73, Tryd.ntmps73
    go_wp2
    go_ret
    exact ⟨rfl, rfl⟩

set_option maxHeartbeats 1000000 in
theorem size_any (r : Int) (w : World) : Calls Tryd.prog 61 #[.int .i32 r] w fun e w' => e = .returned (.int .i64 (sizeN r)) ∧ w = w' := by
  unfold sizeN
  by_cases h1 : r < 128
  · rw [if_pos h1]
    go_enter Tryd.func61, Tryd.ntmps61
    go_wp2
    go_ret
    exact ⟨rfl, rfl⟩
  · rw [if_neg h1]
    by_cases h2 : r < 2048
    · rw [if_pos h2]
      go_enter Tryd.func61, Tryd.ntmps61
      go_wp2
      go_ret
      exact ⟨rfl, rfl⟩
    · rw [if_neg h2]
      by_cases h3 : r < 65536
      · rw [if_pos h3]
        go_enter Tryd.func61, Tryd.ntmps61
        go_wp2
        go_ret
        exact ⟨rfl, rfl⟩
      · rw [if_neg h3]
        go_enter Tryd.func61, Tryd.ntmps61
        go_wp2
        go_ret
        exact ⟨rfl, rfl⟩


set_option maxRecDepth 100000 in
set_option maxHeartbeats 1000000 in
theorem lead_0 (b : Nat) (hh : b < 128) (w : World) : Calls Tryd.prog 72 #[.int .u8 b] w fun e w' => e = .returned (.tuple #[.int .i32 (b : Int), .int .i64 0]) ∧ w = w' := by
  go_enter Tryd.func72, Tryd.ntmps72
  go_wp2
  go_ret2
  exact ⟨rfl, rfl⟩
set_option maxRecDepth 100000 in
set_option maxHeartbeats 1000000 in
theorem lead_1 (b : Nat) (hl : 128 ≤ b) (hh : b < 192) (w : World) : Calls Tryd.prog 72 #[.int .u8 b] w fun e w' => e = .returned (.tuple #[.int .i32 0, .int .i64 (-1)]) ∧ w = w' := by
  go_enter Tryd.func72, Tryd.ntmps72
  go_wp2
  go_ret2
  exact ⟨rfl, rfl⟩
set_option maxRecDepth 100000 in
set_option maxHeartbeats 1000000 in
theorem lead_2 (b : Nat) (hl : 192 ≤ b) (hh : b < 224) (w : World) : Calls Tryd.prog 72 #[.int .u8 b] w fun e w' => e = .returned (.tuple #[.int .i32 ((b : Int) - 192), .int .i64 1]) ∧ w = w' := by
  go_enter Tryd.func72, Tryd.ntmps72
  go_wp2
  go_ret2
  exact ⟨rfl, rfl⟩
set_option maxRecDepth 100000 in
set_option maxHeartbeats 1000000 in
theorem lead_3 (b : Nat) (hl : 224 ≤ b) (hh : b < 240) (w : World) : Calls Tryd.prog 72 #[.int .u8 b] w fun e w' => e = .returned (.tuple #[.int .i32 ((b : Int) - 224), .int .i64 2]) ∧ w = w' := by
  go_enter Tryd.func72, Tryd.ntmps72
  go_wp2
  go_ret2
  exact ⟨rfl, rfl⟩
set_option maxRecDepth 100000 in
set_option maxHeartbeats 1000000 in
theorem lead_4 (b : Nat) (hl : 240 ≤ b) (hh : b < 248) (w : World) : Calls Tryd.prog 72 #[.int .u8 b] w fun e w' => e = .returned (.tuple #[.int .i32 ((b : Int) - 240), .int .i64 3]) ∧ w = w' := by
  go_enter Tryd.func72, Tryd.ntmps72
  go_wp2
  go_ret2
  exact ⟨rfl, rfl⟩
set_option maxRecDepth 100000 in
set_option maxHeartbeats 1000000 in
theorem lead_5 (b : Nat) (hl : 248 ≤ b) (hh : b < 256) (w : World) : Calls Tryd.prog 72 #[.int .u8 b] w fun e w' => e = .returned (.tuple #[.int .i32 0, .int .i64 (-1)]) ∧ w = w' := by
  go_enter Tryd.func72, Tryd.ntmps72
  go_wp2
  go_ret2
  exact ⟨rfl, rfl⟩
theorem lead_any (b : Nat) (hb : b < 256) (w : World) : Calls Tryd.prog 72 #[.int .u8 b] w fun e w' => e = .returned (.tuple #[.int .i32 (leadC b), .int .i64 (leadM b)]) ∧ w = w' := by
  unfold leadC leadM
  by_cases h1 : b < 128
  · simp only [if_pos h1]; exact lead_0 b h1 w
  · simp only [if_neg h1]
    by_cases h2 : b < 192
    · simp only [if_pos h2]; exact lead_1 b (by omega) h2 w
    · simp only [if_neg h2]
      by_cases h3 : b < 224
      · simp only [if_pos h3]; exact lead_2 b (by omega) h3 w
      · simp only [if_neg h3]
        by_cases h4 : b < 240
        · simp only [if_pos h4]; exact lead_3 b (by omega) h4 w
        · simp only [if_neg h4]
          by_cases h5 : b < 248
          · simp only [if_pos h5]; exact lead_4 b (by omega) h5 w
          · simp only [if_neg h5]; exact lead_5 b (by omega) hb w

set_option maxRecDepth 100000 in
set_option maxHeartbeats 2000000 in
theorem begins_core (s : ByteArray) (c0 : Int) (m : Nat) (r : Int) (h1 : 1 ≤ s.size) (hm : m < s.size) (hm3 : m ≤ 3) (h0 : 0 ≤ c0) (hc : (c0 + 1) * 64 ^ m ≤ 2097152) (hA : Ans s c0 m r) (w : World)
    (cL : Calls Tryd.prog 72 #[.int .u8 (bt s 0)] w fun e w' => e = .returned (.tuple #[.int .i32 c0, .int .i64 m]) ∧ w = w') :
    Calls Tryd.prog 60 #[.string s] w fun e w' => e = .returned (.int .i32 r) ∧ w = w' := by
  obtain ⟨x0, hx0⟩ : ∃ x0, s.get! 0 = x0 := ⟨_, rfl⟩
  have hs0 : s[0]'(by omega) = x0 := by rw [← hx0]; exact (Utf8W.get!_of_lt s 0 (by omega)).symm
  unfold bt at cL
  rw [hx0] at cL
  have gx := x0.toNat_lt
  clear hx0
  have HA : Hid (Ans s c0 m r) := hA
  have HC : Hid ((c0 + 1) * 64 ^ m ≤ 2097152) := hc
  clear hA hc
  go_enter Tryd.func60, Tryd.ntmps60
  go_wp2_with (go_at_call 72; refine cL.mono ?_; rintro e w1 ⟨rfl, rfl⟩)
  go_loopw [3, 5] (fun c t wr => ∃ k : Nat, k ≤ m ∧ t = .int .i64 ((k : Int) + 1) ∧ c = .int .i32 (accC s c0 k) ∧ contAll s k ∧ wr = w) (fun _ t _ => m + 1 - (intOf t).toNat)
  case atStart => exact ⟨0, by omega, by go_num, rfl, fun j a b => by omega, rfl⟩
  case round =>
    obtain ⟨k, hk, rfl, rfl, hcont, rfl⟩ := hrel
    have HK : Hid (contAll s k) := hcont
    clear hcont
    by_cases hlt : k < m
    · obtain ⟨x, hx⟩ : ∃ x, s[k + 1]'(by omega) = x := ⟨_, rfl⟩
      have hbx : bt s (k + 1) = x.toNat := by unfold bt; rw [Utf8W.get!_of_lt s (k + 1) (by omega), hx]
      have HX : Hid (bt s (k + 1) = x.toNat) := hbx
      have hbd := accC_le HC.out h0 HK.out hlt
      have gy := x.toNat_lt
      clear hbx
      by_cases c1 : (x.toNat : Int) < 128
      · clear hbd
        go_wp2
        go_ret
        exact ⟨ret_int (HA.out.bad1 (k + 1) (by omega) (by omega) (by rw [HX.out]; omega)).symm, rfl⟩
      · by_cases c2 : 191 < (x.toNat : Int)
        · clear hbd
          go_wp2
          go_ret
          exact ⟨ret_int (HA.out.bad1 (k + 1) (by omega) (by omega) (by rw [HX.out]; omega)).symm, rfl⟩
        · have hacc : Hid (accC s c0 (k + 1) = accC s c0 k * 64 + (x.toNat : Int) - 128) := by
            show accC s c0 (k + 1) = _
            rw [← HX.out]; rfl
          obtain ⟨A, hA⟩ : ∃ A, accC s c0 k = A := ⟨_, rfl⟩
          rw [hA] at hbd ⊢
          have HA2 : Hid (accC s c0 k = A) := hA
          clear hA
          obtain ⟨g1, g2⟩ := hbd
          go_wp2
          exact ⟨⟨k + 1, by omega, by go_num, by rw [hacc.out, HA2.out], contAll_succ HK.out (by rw [HX.out]; omega) (by rw [HX.out]; omega), trivial⟩, by simp [intOf]; omega⟩
    · obtain rfl : k = m := by omega
      cases hv : Lib.validRune (accC s c0 k) with
      | false =>
        have cV := rscalar_any (accC s c0 k) wr
        rw [hv] at cV
        have hr := HA.out.bad2 HK.out hv
        go_wp2_with (go_at_call 73; refine cV.mono ?_; clear cV; rintro e w1 ⟨rfl, rfl⟩)
        go_ret
        exact ⟨ret_int hr.symm, rfl⟩
      | true =>
        have cV := rscalar_any (accC s c0 k) wr
        rw [hv] at cV
        have cS := size_any (accC s c0 k) wr
        by_cases hz : sizeN (accC s c0 k) = k + 1
        · have hr := HA.out.good HK.out hv hz
          rw [hz] at cS
          go_wp2_with (first | (go_at_call 73; refine cV.mono ?_; clear cV; rintro e w1 ⟨rfl, rfl⟩) | (go_at_call 61; refine cS.mono ?_; clear cS; rintro e w1 ⟨rfl, rfl⟩))
          go_ret
          exact ⟨ret_int hr.symm, rfl⟩
        · have hr := HA.out.bad3 HK.out hz
          go_wp2_with (first | (go_at_call 73; refine cV.mono ?_; clear cV; rintro e w1 ⟨rfl, rfl⟩) | (go_at_call 61; refine cS.mono ?_; clear cS; rintro e w1 ⟨rfl, rfl⟩))
          go_ret
          exact ⟨ret_int hr.symm, rfl⟩

set_option maxHeartbeats 1000000 in
/-- BEGINS: the text's first unit's character. -/
theorem begins_any (s : ByteArray) (h1 : 1 ≤ s.size) (w : World) : Calls Tryd.prog 60 #[.string s] w fun e w' => e = .returned (.int .i32 (ch s 0)) ∧ w = w' := by
  have cL := lead_any (bt s 0) (bt_lt s 0) w
  have hb := bt_lt s 0
  by_cases hn : leadM (bt s 0) < 0 ∨ (s.size : Int) ≤ leadM (bt s 0)
  · have h128 : 128 ≤ bt s 0 := by
      by_cases c : bt s 0 < 128
      · unfold leadM at hn; rw [if_pos c] at hn; omega
      · omega
    rw [ch_nolead h128 hn]
    obtain ⟨x0, hx0⟩ : ∃ x0, s.get! 0 = x0 := ⟨_, rfl⟩
    have hs0 : s[0]'(by omega) = x0 := by rw [← hx0]; exact (Utf8W.get!_of_lt s 0 (by omega)).symm
    unfold bt at cL hn
    rw [hx0] at cL hn
    have gx := x0.toNat_lt
    clear hx0 h128 hb
    obtain ⟨m, hm⟩ : ∃ m, leadM x0.toNat = m := ⟨_, rfl⟩
    obtain ⟨c, hc⟩ : ∃ c, leadC x0.toNat = c := ⟨_, rfl⟩
    rw [hm] at hn cL
    rw [hc] at cL
    clear hm hc
    by_cases hneg : m < 0
    · clear hn
      go_enter Tryd.func60, Tryd.ntmps60
      go_wp2_with (go_at_call 72; refine cL.mono ?_; rintro e w1 ⟨rfl, rfl⟩)
      go_ret
      exact ⟨rfl, rfl⟩
    · have hle : (s.size : Int) ≤ m := by omega
      clear hn
      go_enter Tryd.func60, Tryd.ntmps60
      go_wp2_with (go_at_call 72; refine cL.mono ?_; rintro e w1 ⟨rfl, rfl⟩)
      go_ret
      exact ⟨rfl, rfl⟩
  · by_cases c1 : bt s 0 < 128
    · have e1 : leadC (bt s 0) = bt s 0 := by unfold leadC; rw [if_pos c1]
      have e2 : leadM (bt s 0) = (0 : Nat) := by unfold leadM; rw [if_pos c1]; rfl
      rw [e1, e2] at cL
      exact begins_core s _ 0 _ h1 (by omega) (by omega) (by omega) (by simp; omega) (ans_one c1) w cL
    · by_cases c2 : bt s 0 < 192
      · exfalso; apply hn; left; unfold leadM; rw [if_neg c1, if_pos c2]; omega
      · by_cases c3 : bt s 0 < 224
        · have e1 : leadC (bt s 0) = (bt s 0 : Int) - 192 := by unfold leadC; rw [if_neg c1, if_neg c2, if_pos c3]
          have e2 : leadM (bt s 0) = (1 : Nat) := by unfold leadM; rw [if_neg c1, if_neg c2, if_pos c3]; rfl
          rw [e2] at hn
          rw [e1, e2] at cL
          exact begins_core s _ 1 _ h1 (by omega) (by omega) (by omega) (by simp; omega) (ans_two (by omega) c3 (by omega)) w cL
        · by_cases c4 : bt s 0 < 240
          · have e1 : leadC (bt s 0) = (bt s 0 : Int) - 224 := by unfold leadC; rw [if_neg c1, if_neg c2, if_neg c3, if_pos c4]
            have e2 : leadM (bt s 0) = (2 : Nat) := by unfold leadM; rw [if_neg c1, if_neg c2, if_neg c3, if_pos c4]; rfl
            rw [e2] at hn
            rw [e1, e2] at cL
            exact begins_core s _ 2 _ h1 (by omega) (by omega) (by omega) (by simp; omega) (ans_three (by omega) c4 (by omega)) w cL
          · by_cases c5 : bt s 0 < 248
            · have e1 : leadC (bt s 0) = (bt s 0 : Int) - 240 := by unfold leadC; rw [if_neg c1, if_neg c2, if_neg c3, if_neg c4, if_pos c5]
              have e2 : leadM (bt s 0) = (3 : Nat) := by unfold leadM; rw [if_neg c1, if_neg c2, if_neg c3, if_neg c4, if_pos c5]; rfl
              rw [e2] at hn
              rw [e1, e2] at cL
              exact begins_core s _ 3 _ h1 (by omega) (by omega) (by omega) (by simp; omega) (ans_four (by omega) c5 (by omega)) w cL
            · exfalso; apply hn; left; unfold leadM; rw [if_neg c1, if_neg c2, if_neg c3, if_neg c4, if_neg c5]; omega
end Go.Proofs.YtfjoklbiocniiaaDoor
namespace Go.Proofs.YtfjoklbiocniiaaDoor
open Go.RowKit Bod

theorem infoU : (Tryd.prog.info? 82).map (fun i => (i.zero, i.size, i.bytes)) = some (some (.agg #[.int .i32 0, .int .i64 0]), 2, 16) := by kernel_rfl
/-- the cells of a list of units -/
def ucells (s : ByteArray) (xs : List Nat) : List Value := xs.flatMap fun i => [Value.int .i32 (ch s i), Value.int .i64 (sz s i)]
theorem ucells_get (s : ByteArray) : ∀ (xs : List Nat) (j x : Nat), xs[j]? = some x → (ucells s xs)[j * 2]? = some (.int .i32 (ch s x)) ∧ (ucells s xs)[j * 2 + 1]? = some (.int .i64 (sz s x))
  | [], _, _, h => by simp at h
  | y :: xs, 0, x, h => by
    have : y = x := by simpa using h
    subst this
    simp [ucells]
  | y :: xs, j + 1, x, h => by
    have := ucells_get s xs j x (by simpa using h)
    simp only [ucells, List.flatMap_cons] at this ⊢
    rw [show (j + 1) * 2 = j * 2 + 2 by omega]
    simpa using this
theorem ucells_len (s : ByteArray) : ∀ xs : List Nat, (ucells s xs).length = xs.length * 2
  | [] => rfl
  | x :: xs => by
    have := ucells_len s xs
    simp only [ucells, List.flatMap_cons, List.length_append, List.length_cons, List.length_nil] at this ⊢
    omega
theorem row_below' {base e size n : Nat} {v : Value} {xs : List Value} {W W' : World} (h : W.ownsRow base e size v n xs) (hb : Below W.heap.size W W') : W'.ownsRow base e size v n xs :=
  h.kept (row := none) ⟨hb.os, hb.tape, hb.output, hb.size, fun k hk _ => hb.block k hk⟩ (by cases hv : v.ownBlock with
    | none => exact .inl rfl
    | some _ => exact .inr (by simp))
theorem ch_tail (s : ByteArray) (i : Nat) (hi : i < s.size) : ch (s.extract i s.size) 0 = ch s i := by
  have := ch_extract s i s.size 0 (Nat.le_refl _) (by omega) (.inr rfl)
  simpa using this
theorem ucells_snoc (s : ByteArray) (pre : List Nat) (i : Nat) : ucells s (pre ++ [i]) = ucells s pre ++ [.int .i32 (ch s i), .int .i64 (sz s i)] := by simp [ucells]
theorem grown_cell {W W' : World} {row : Option Nat} {a : Addr} (h : W.grownBy W' row) (hlt : a.block < W.heap.size) (hne : row ≠ some a.block) : W'.cell? a = W.cell? a :=
  World.cell?_of_block (h.block a.block hlt (fun e => hne e.symm))
theorem cell_two_new2 (w : World) (o : Obj) (a b : Value) (t : TypeId) : ∀ j u, [a, b][j]? = some u → ((w.alloc o).alloc (.cells #[a, b] t)).cell? ((⟨w.heap.size + 1, 0, none⟩ : Addr).add j) = some u := by
  have := cell_two_new (w.alloc o) a b t
  rwa [World.size_alloc] at this

set_option maxRecDepth 100000 in
set_option maxHeartbeats 2000000 in
theorem runits_any (s : ByteArray) (hs : s.size * 16 ≤ 140737488355328) (w : World) :
    Calls Tryd.prog 38 #[.string s] w fun e W' => ∃ v, e = .returned v ∧ W'.ownsRow w.heap.size 82 2 v (offs s 0).length (ucells s (offs s 0)) ∧ Below w.heap.size w W' := by
  obtain ⟨i0, hi, hz0, hz1, hz2⟩ := info_parts infoU
  have hl0 := offs_len_le s
  go_enter Tryd.func38, Tryd.ntmps38
  go_wp2
  go_loopw [3, 4] (fun v t wr => ∃ (pre : List Nat) (i : Nat), t = .int .i64 i ∧ i ≤ s.size ∧ pre ++ offs s i = offs s 0 ∧ wr.ownsRow w.heap.size 82 2 v pre.length (ucells s pre) ∧ Below w.heap.size w wr) (fun _ t _ => s.size - (intOf t).toNat)
  case atStart => exact ⟨[], 0, rfl, by omega, rfl, World.ownsRow_nil _ _ _ _, Below.refl _ _⟩
  case round =>
    obtain ⟨pre, i, rfl, his, hpre, hrow, hB⟩ := hrel
    by_cases hlt : i < s.size
    · have cB := begins_any (s.extract i s.size) (by simp; omega) wr
      rw [ch_tail s i hlt] at cB
      have hpos := sz_pos hlt
      have hzi := sz_in hlt
      have hplen : pre.length + 1 ≤ s.size := by
        have := congrArg List.length hpre
        rw [offs_step hlt, List.length_append, List.length_cons] at this
        omega
      have HP : Hid (pre ++ [i] ++ offs s (i + sz s i) = offs s 0) := by
        show pre ++ [i] ++ offs s (i + sz s i) = offs s 0
        rw [← hpre, offs_step hlt]; simp
      have HU := ucells_snoc s pre i
      clear hpre
      have hBs := hB.size
      by_cases hc : 0 ≤ ch s i
      · have cS := fun W : World => size_any (ch s i) W
        rw [← sz_good hc hlt] at cS
        have HR : Hid (((wr.alloc (.cells #[.int .i32 (ch s i), .int .i64 (sz s i)] 82)).alloc (.cells #[.int .i32 (ch s i), .int .i64 (sz s i)] 82)).ownsRow w.heap.size 82 2 _ pre.length (ucells s pre)) := (hrow.alloc _).alloc _
        go_wp2_with (first | (go_at_call 60; refine cB.mono ?_; clear cB; rintro e w1 ⟨rfl, rfl⟩) | (go_at_call 61; refine (cS _).mono ?_; clear cS; rintro e w2 ⟨rfl, rfl⟩) | (at_builtin; refine wpList_append_own _ rfl _ _ 78 rfl w.heap.size 82 i0 _ 2 16 Tryd.underlying78 hi hz0 hz1 hz2 rfl (by decide) _ pre.length _ rfl HR.out ⟨wr.heap.size + 1, 0, none⟩ 1 1 [.int .i32 (ch s i), .int .i64 (sz s i)] rfl rfl (cell_two_new2 _ _ _ _ _) (by simp [Value.oneCell']) (by unfold maxLen; omega) (by omega) (by simp; omega) ?_; intro v3 w3 hrow3 hg3 _; have hu3 : w3.cell? ⟨wr.heap.size, 1, none⟩ = some (.int .i64 (sz s i)) := by rw [grown_cell hg3 (by simp; omega) (fun e => by have := (hrow.lt _ e).2; simp at this)]; simp))
        exact ⟨⟨pre ++ [i], i + sz s i, by go_num, by omega, HP.out, by rw [HU]; simpa using hrow3, ((hB.alloc hBs _).alloc (by simp; omega) _).grown hg3 (by simp; omega) (fun j e => (hrow.lt j e).1)⟩, by simp [intOf]; omega⟩
      · obtain ⟨hcm, hz⟩ := ch_neg (s := s) (i := i) (by omega)
        rw [hz] at HP hzi HU
        rw [hcm] at HU cB
        clear hz hcm hc hpos
        have HR : Hid (((wr.alloc (.cells #[.int .i32 (-1), .int .i64 1] 82)).alloc (.cells #[.int .i32 (-1), .int .i64 1] 82)).ownsRow w.heap.size 82 2 _ pre.length (ucells s pre)) := (hrow.alloc _).alloc _
        go_wp2_with (first | (go_at_call 60; refine cB.mono ?_; clear cB; rintro e w1 ⟨rfl, rfl⟩) | (at_builtin; refine wpList_append_own _ rfl _ _ 78 rfl w.heap.size 82 i0 _ 2 16 Tryd.underlying78 hi hz0 hz1 hz2 rfl (by decide) _ pre.length _ rfl HR.out ⟨wr.heap.size + 1, 0, none⟩ 1 1 [.int .i32 (-1), .int .i64 1] rfl rfl (cell_two_new2 _ _ _ _ _) (by simp [Value.oneCell']) (by unfold maxLen; omega) (by omega) (by simp; omega) ?_; intro v3 w3 hrow3 hg3 _; have hu3 : w3.cell? ⟨wr.heap.size, 1, none⟩ = some (.int .i64 1) := by rw [grown_cell hg3 (by simp; omega) (fun e => by have := (hrow.lt _ e).2; simp at this)]; simp))
        exact ⟨⟨pre ++ [i], i + 1, by go_num, by omega, HP.out, by rw [HU]; simpa using hrow3, ((hB.alloc hBs _).alloc (by simp; omega) _).grown hg3 (by simp; omega) (fun j e => (hrow.lt j e).1)⟩, by simp [intOf]; omega⟩
    · go_wp2
      go_ret
      have : offs s i = [] := offs_end (by omega)
      rw [this, List.append_nil] at hpre
      subst hpre
      exact ⟨_, rfl, hrow, hB⟩
end Go.Proofs.YtfjoklbiocniiaaDoor
