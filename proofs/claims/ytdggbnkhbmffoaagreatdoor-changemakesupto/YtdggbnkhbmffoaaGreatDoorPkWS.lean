/-
  The document's own package word: Upper, Lower and Capital. No program is walked in this text; no conditions.
-/
import Derived.Test.YtdggbnkhbmffoaaGreatDoorPkWR
import Derived.Deep.AppendLies
import Derived.Test.YtdggbnkhbmffoaaGreatDoorKBase
import Derived.Test.YtdggbnkhbmffoaaGreatDoorURefE
import Derived.Test.YtdggbnkhbmffoaaGreatDoorPkWE
import Derived.Sort.QuietIn
import Derived.Lib.QuietBelow
import Derived.BigQuiet
namespace Go.Proofs.YtdggbnkhbmffoaaGreatDoor
open Go.RowKit Bod Wid

theorem prun_succ (a : Int) (n : Nat) (step d : Int) : prun a (n + 1) step d = prun a n step d ++ (if a + n * step ≠ 305 then [(a + n * step, a + n * step - d)] else []) := by
  unfold prun
  rw [List.range_succ, List.map_append, List.filter_append]
  congr 1
  by_cases h : a + n * step = 305
  · simp [h]
  · simp [h]
theorem info_pair : (Tryz.prog.info? 151).map (fun i => (i.zero, i.size, i.bytes)) = some (some (.agg #[.int .i32 0, .int .i32 0]), 2, 8) := by kernel_rfl
/-- pairs that the call owns -/
def Prs (base : Nat) (W : World) (v : Value) (l : List (Int × Int)) : Prop := W.ownsRow base 151 2 v l.length (rcells l)
theorem prs_push {base : Nat} {w wr W1 w3 : World} {v v3 : Value} {l l' : List (Int × Int)} {p : Int × Int} {o : Obj} (he : l' = l ++ [p]) (hr : Prs base wr v l) (hb : Below base w wr) (hw : base ≤ w.heap.size) (hW : wr.alloc o = W1)
    (hrow : w3.ownsRow base 151 2 v3 (l.length + 1) (rcells l ++ [.int .i32 p.1, .int .i32 p.2])) (hg : W1.grownBy w3 v.ownBlock) : Prs base w3 v3 l' ∧ Below base w w3 := by
  subst he
  have hz := hb.size
  have b1 : Below base w W1 := by rw [← hW]; exact hb.alloc (by omega) _
  refine ⟨?_, b1.grown hg (by have := b1.size; omega) (fun j e => (World.ownsRow.lt hr j e).1)⟩
  unfold Prs
  rw [List.length_append, rcells_snoc]
  exact hrow
set_option maxHeartbeats 2000000 in
set_option maxRecDepth 100000 in
theorem rrun_any (base : Nat) (v : Value) (xs : List (Int × Int)) (a last step d : Int) (n : Nat) (hn : n ≤ 100) (hx : xs.length ≤ 1000) (ha : 0 ≤ a ∧ a ≤ 100000) (hs : 1 ≤ step ∧ step ≤ 2) (hd : 0 ≤ d ∧ d ≤ 100)
    (h1 : ∀ k : Nat, k < n → a + k * step ≤ last) (h2 : last < a + n * step) (hl : last ≤ 100000) (w : World) (hb : base ≤ w.heap.size) (hr : Prs base w v xs) :
    Calls Tryz.prog 139 #[v, .int .i32 a, .int .i32 last, .int .i32 step, .int .i32 d] w fun e W' => ∃ v', e = .returned v' ∧ Prs base W' v' (xs ++ prun a n step d) ∧ Below base w W' := by
  obtain ⟨i0, hi, hz0, hz1, hz2⟩ := info_parts info_pair
  have HR : Hid (Prs base w v (xs ++ prun a 0 step d)) := by show Prs _ _ _ _; simpa [prun] using hr
  have HP : Hid (∀ k : Nat, (xs ++ prun a k step d).length ≤ 1000 + k) := fun k => by
    have : (prun a k step d).length ≤ k := by
      unfold prun
      exact Nat.le_trans (List.length_filter_le _ _) (by simp)
    rw [List.length_append]; omega
  have H1 : Hid (∀ k : Nat, k < n → a + k * step ≤ last) := h1
  clear hr h1
  go_enter Tryz.func139, Tryz.ntmps139
  go_wp2
  go_loopw [0, 11] (fun y t wr => ∃ k : Nat, t = .int .i32 (a + k * step) ∧ k ≤ n ∧ Hid (Prs base wr y (xs ++ prun a k step d) ∧ Below base w wr)) (fun _ t _ => (last + step - intOf t).toNat)
  case atStart => exact ⟨0, by simp, Nat.zero_le _, ⟨HR.out, Below.refl _ _⟩⟩
  case round =>
    obtain ⟨k, rfl, hk, HK⟩ := hrel
    clear HR
    have hks : 0 ≤ (k : Int) * step ∧ (k : Int) * step ≤ 200 := ⟨Int.mul_nonneg (by omega) (by omega), Int.le_trans (Int.mul_le_mul_of_nonneg_left hs.2 (by omega)) (by omega)⟩
    have hp := prun_succ a k step d
    have hlen := HP.out k
    by_cases hlt : k < n
    · have hle := H1.out k hlt
      have hnx : a + ((k + 1 : Nat) : Int) * step = a + (k : Int) * step + step := by rw [Int.natCast_add, Int.add_mul]; omega
      generalize (k : Int) * step = y at hks hp hle hnx
      by_cases h5 : a + y = 305
      · rw [if_neg (fun h => h h5), List.append_nil] at hp
        have HK2 : Hid (Prs base wr u0 (xs ++ prun a (k + 1) step d) ∧ Below base w wr) := by rw [hp]; exact HK
        have e5 : (a + y != 305) = false := by rw [h5]; rfl
        clear HK hp
        go_wp2
        exact ⟨⟨k + 1, by rw [hnx, h5], by omega, HK2⟩, by simp [intOf]; omega⟩
      · rw [if_pos h5] at hp
        have HE : Hid (xs ++ prun a (k + 1) step d = (xs ++ prun a k step d) ++ [(a + y, a + y - d)]) := by show _ = _; rw [hp, List.append_assoc]
        have e5 : (a + y != 305) = true := by simpa using h5
        clear hp
        go_wp2_with (at_builtin; refine wpList_append_own _ rfl _ _ 148 rfl base 151 i0 _ 2 8 Tryz.underlying148 hi hz0 hz1 hz2 rfl (by decide) _ (xs ++ prun a k step d).length _ rfl (World.ownsRow.alloc HK.out.1 _) ⟨wr.heap.size, 0, none⟩ 1 1 [.int .i32 (a + y), .int .i32 (a + y - d)] rfl rfl (fun j u hu => World.news_of_block (World.alloc_heap_new wr (.cells #[.int .i32 (a + y), .int .i32 (a + y - d)] 151)) j u hu) (by simp [Value.oneCell']) (by unfold maxLen; omega) (by omega) (by have := HK.out.2.size; simp; omega) ?_; intro v3 w3 hrow3 hg3 _; have HK3 : Hid (Prs base w3 v3 (xs ++ prun a (k + 1) step d) ∧ Below base w w3) := prs_push HE.out HK.out.1 HK.out.2 hb rfl hrow3 hg3)
        exact ⟨⟨k + 1, by rw [hnx], by omega, HK3⟩, by simp [intOf]; omega⟩
    · have hkn : k = n := by omega
      subst hkn
      have hd' : decide (a + (k : Int) * step ≤ last) = false := decide_eq_false (by omega)
      generalize (k : Int) * step = y at hks hp h2 hd'
      have HF := HK
      clear HK
      go_wp2
      go_ret
      exact ⟨_, rfl, HF.out⟩
set_option maxHeartbeats 2000000 in
set_option maxRecDepth 100000 in
theorem rpairs_any (w : World) : Calls Tryz.prog 125 #[] w fun e W' => ∃ v, e = .returned v ∧ Prs w.heap.size W' v prs ∧ Below w.heap.size w W' := by
  obtain ⟨i0, hi, hz0, hz1, hz2⟩ := info_parts info_pair
  have P0 : Prs w.heap.size w (.slice none 0 0) [] := World.ownsRow_nil _ _ _ _
  have B0 : Below w.heap.size w w := Below.refl _ _
  have T0 : True := trivial
  have T1 : True := trivial
  have T2 : True := trivial
  have T3 : True := trivial
  have T4 : True := trivial
  have T5 : True := trivial
  have T6 : True := trivial
  have T7 : True := trivial
  have T8 : True := trivial
  have T9 : True := trivial
  have T10 : True := trivial
  go_enter Tryz.func125, Tryz.ntmps125
  go_wp2_with (first | (go_at_call 139; have hq := T0; clear hq T0; refine (rrun_any w.heap.size _ ([] : List (Int × Int)) 97 122 1 32 26 (by decide) (by decide +kernel) (by decide) (by decide) (by decide) (fun k hk => by omega) (by decide) (by decide) _ (by have := B0.size; omega) P0).mono ?_; rintro e w1 ⟨v1, rfl, P1, b1⟩; have B1 : Below w.heap.size w w1 := B0.trans b1; clear b1) | (go_at_call 139; have hq := T1; clear hq T1; refine (rrun_any w.heap.size _ (([] : List (Int × Int)) ++ prun 97 26 1 32) 224 246 1 32 23 (by decide) (by decide +kernel) (by decide) (by decide) (by decide) (fun k hk => by omega) (by decide) (by decide) _ (by have := B1.size; omega) P1).mono ?_; rintro e w2 ⟨v2, rfl, P2, b2⟩; have B2 : Below w.heap.size w w2 := B1.trans b2; clear b2) | (go_at_call 139; have hq := T2; clear hq T2; refine (rrun_any w.heap.size _ ((([] : List (Int × Int)) ++ prun 97 26 1 32) ++ prun 224 23 1 32) 248 254 1 32 7 (by decide) (by decide +kernel) (by decide) (by decide) (by decide) (fun k hk => by omega) (by decide) (by decide) _ (by have := B2.size; omega) P2).mono ?_; rintro e w3 ⟨v3, rfl, P3, b3⟩; have B3 : Below w.heap.size w w3 := B2.trans b3; clear b3) | (at_builtin; have hq := T3; clear hq T3; refine wpList_append_own _ rfl _ _ 148 rfl w.heap.size 151 i0 _ 2 8 Tryz.underlying148 hi hz0 hz1 hz2 rfl (by decide) _ (((([] : List (Int × Int)) ++ prun 97 26 1 32) ++ prun 224 23 1 32) ++ prun 248 7 1 32).length _ rfl (World.ownsRow.alloc P3 _) ⟨w3.heap.size, 0, none⟩ 1 1 [.int .i32 255, .int .i32 376] rfl rfl (fun j u hu => World.news_of_block (World.alloc_heap_new w3 (.cells #[.int .i32 255, .int .i32 376] 151)) j u hu) (by simp [Value.oneCell']) (by decide +kernel) (by decide +kernel) (by have := B3.size; simp; omega) ?_; intro v4 w4 hrow hg _; obtain ⟨P4, B4⟩ := prs_push (l' := ((((([] : List (Int × Int)) ++ prun 97 26 1 32) ++ prun 224 23 1 32) ++ prun 248 7 1 32) ++ [(255, 376)])) (p := (255, 376)) rfl P3 B3 (Nat.le_refl _) rfl hrow hg; clear hrow hg) | (go_at_call 139; have hq := T4; clear hq T4; refine (rrun_any w.heap.size _ ((((([] : List (Int × Int)) ++ prun 97 26 1 32) ++ prun 224 23 1 32) ++ prun 248 7 1 32) ++ [(255, 376)]) 257 311 2 1 28 (by decide) (by decide +kernel) (by decide) (by decide) (by decide) (fun k hk => by omega) (by decide) (by decide) _ (by have := B4.size; omega) P4).mono ?_; rintro e w5 ⟨v5, rfl, P5, b5⟩; have B5 : Below w.heap.size w w5 := B4.trans b5; clear b5) | (go_at_call 139; have hq := T5; clear hq T5; refine (rrun_any w.heap.size _ (((((([] : List (Int × Int)) ++ prun 97 26 1 32) ++ prun 224 23 1 32) ++ prun 248 7 1 32) ++ [(255, 376)]) ++ prun 257 28 2 1) 331 375 2 1 23 (by decide) (by decide +kernel) (by decide) (by decide) (by decide) (fun k hk => by omega) (by decide) (by decide) _ (by have := B5.size; omega) P5).mono ?_; rintro e w6 ⟨v6, rfl, P6, b6⟩; have B6 : Below w.heap.size w w6 := B5.trans b6; clear b6) | (go_at_call 139; have hq := T6; clear hq T6; refine (rrun_any w.heap.size _ ((((((([] : List (Int × Int)) ++ prun 97 26 1 32) ++ prun 224 23 1 32) ++ prun 248 7 1 32) ++ [(255, 376)]) ++ prun 257 28 2 1) ++ prun 331 23 2 1) 945 961 1 32 17 (by decide) (by decide +kernel) (by decide) (by decide) (by decide) (fun k hk => by omega) (by decide) (by decide) _ (by have := B6.size; omega) P6).mono ?_; rintro e w7 ⟨v7, rfl, P7, b7⟩; have B7 : Below w.heap.size w w7 := B6.trans b7; clear b7) | (go_at_call 139; have hq := T7; clear hq T7; refine (rrun_any w.heap.size _ (((((((([] : List (Int × Int)) ++ prun 97 26 1 32) ++ prun 224 23 1 32) ++ prun 248 7 1 32) ++ [(255, 376)]) ++ prun 257 28 2 1) ++ prun 331 23 2 1) ++ prun 945 17 1 32) 963 969 1 32 7 (by decide) (by decide +kernel) (by decide) (by decide) (by decide) (fun k hk => by omega) (by decide) (by decide) _ (by have := B7.size; omega) P7).mono ?_; rintro e w8 ⟨v8, rfl, P8, b8⟩; have B8 : Below w.heap.size w w8 := B7.trans b8; clear b8) | (go_at_call 139; have hq := T8; clear hq T8; refine (rrun_any w.heap.size _ ((((((((([] : List (Int × Int)) ++ prun 97 26 1 32) ++ prun 224 23 1 32) ++ prun 248 7 1 32) ++ [(255, 376)]) ++ prun 257 28 2 1) ++ prun 331 23 2 1) ++ prun 945 17 1 32) ++ prun 963 7 1 32) 1072 1103 1 32 32 (by decide) (by decide +kernel) (by decide) (by decide) (by decide) (fun k hk => by omega) (by decide) (by decide) _ (by have := B8.size; omega) P8).mono ?_; rintro e w9 ⟨v9, rfl, P9, b9⟩; have B9 : Below w.heap.size w w9 := B8.trans b9; clear b9) | (go_at_call 139; have hq := T9; clear hq T9; refine (rrun_any w.heap.size _ (((((((((([] : List (Int × Int)) ++ prun 97 26 1 32) ++ prun 224 23 1 32) ++ prun 248 7 1 32) ++ [(255, 376)]) ++ prun 257 28 2 1) ++ prun 331 23 2 1) ++ prun 945 17 1 32) ++ prun 963 7 1 32) ++ prun 1072 32 1 32) 1104 1119 1 80 16 (by decide) (by decide +kernel) (by decide) (by decide) (by decide) (fun k hk => by omega) (by decide) (by decide) _ (by have := B9.size; omega) P9).mono ?_; rintro e w10 ⟨v10, rfl, P10, b10⟩; have B10 : Below w.heap.size w w10 := B9.trans b10; clear b10) | (go_at_call 139; have hq := T10; clear hq T10; refine (rrun_any w.heap.size _ ((((((((((([] : List (Int × Int)) ++ prun 97 26 1 32) ++ prun 224 23 1 32) ++ prun 248 7 1 32) ++ [(255, 376)]) ++ prun 257 28 2 1) ++ prun 331 23 2 1) ++ prun 945 17 1 32) ++ prun 963 7 1 32) ++ prun 1072 32 1 32) ++ prun 1104 16 1 80) 1121 1153 2 1 17 (by decide) (by decide +kernel) (by decide) (by decide) (by decide) (fun k hk => by omega) (by decide) (by decide) _ (by have := B10.size; omega) P10).mono ?_; rintro e w11 ⟨v11, rfl, P11, b11⟩; have B11 : Below w.heap.size w w11 := B10.trans b11; clear b11))
  go_ret
  exact ⟨_, rfl, P11, B11⟩
end Go.Proofs.YtdggbnkhbmffoaaGreatDoor
namespace Go.Proofs.YtdggbnkhbmffoaaGreatDoor
open Go.RowKit Bod Wid

set_option maxHeartbeats 2000000 in
set_option maxRecDepth 100000 in
theorem rupof_any (c : Int) (w : World) : Calls Tryz.prog 100 #[.int .i32 c] w fun e W' => e = .returned (.int .i32 (upc c)) ∧ Below w.heap.size w W' := by
  obtain ⟨n, hn⟩ : ∃ n, prs.length = n := ⟨_, rfl⟩
  have hn0 : 0 < n := by rw [← hn]; decide +kernel
  have hn1 : n ≤ 1000 := by rw [← hn]; decide +kernel
  have CP : Hid (Calls Tryz.prog 125 #[] w fun e W' => ∃ g cap, e = .returned (.slice (some ⟨g, 0, none⟩) n cap) ∧ Hid ((∀ j, j < n → W'.cell? ⟨g, j * 2, none⟩ = some (.int .i32 (prs.getD j (0, 0)).1) ∧ W'.cell? ⟨g, j * 2 + 1, none⟩ = some (.int .i32 (prs.getD j (0, 0)).2)) ∧ Below w.heap.size w W')) := (rpairs_any w).mono fun e W' ⟨v, h1, h2, h3⟩ => by
    unfold Prs at h2
    rw [hn] at h2
    obtain ⟨g, cap, rfl, _, _⟩ := h2.form hn0
    exact ⟨g, cap, h1, fun j hj => ⟨(h2.cellAt (j * 2) (by omega)).trans (rcells_get prs j (by omega)).1, (h2.cellAt (j * 2 + 1) (by omega)).trans (rcells_get prs j (by omega)).2⟩, h3⟩
  have HN : Hid (prs.length = n) := hn
  clear hn
  go_enter Tryz.func100, Tryz.ntmps100
  go_wp2_with (go_at_call 125; refine CP.out.mono ?_; clear CP; rintro e w1 ⟨g, cap, rfl, HC⟩)
  go_loopw [4] (fun t wr => ∃ i : Nat, t = .int .i64 i ∧ i ≤ n ∧ w1 = wr ∧ Hid (∀ j, j < i → (prs.getD j (0, 0)).1 ≠ c)) (fun t _ => n - (intOf t).toNat)
  case atStart => exact ⟨0, rfl, Nat.zero_le _, rfl, fun j hj => by omega⟩
  case round =>
    obtain ⟨i, rfl, hi, rfl, HI⟩ := hrel
    by_cases hlt : i < n
    · obtain ⟨c0, c1⟩ := HC.out.1 i hlt
      have hmem : prs.getD i (0, 0) ∈ prs := by
        rw [List.getD, List.getElem?_eq_getElem (show i < prs.length by rw [HN.out]; exact hlt)]
        exact List.getElem_mem _
      obtain ⟨q, hq⟩ : ∃ q, prs.getD i (0, 0) = q := ⟨_, rfl⟩
      rw [hq] at c0 c1 hmem
      by_cases he : q.1 = c
      · have hu : upc c = q.2 := by
          have := (pair (a := q.1) (b := q.2) hmem).1
          rw [← he]
          exact this.1
        have hb : (q.1 == c) = true := by simpa using he
        have HU : Hid _ := hu
        clear hu
        go_wp2
        go_ret
        exact ⟨by rw [HU.out]; rfl, HC.out.2⟩
      · have hb : (q.1 == c) = false := by simpa using he
        go_wp2
        exact ⟨⟨i + 1, by go_num, by omega, by first | rfl | trivial, fun j hj => by
          rcases Nat.lt_or_ge j i with h | h
          · exact HI.out j h
          · have : j = i := by omega
            rw [this, hq]; exact he⟩, by simp [intOf]; omega⟩
    · have hu : upc c = c := by
        rcases up_cases c with h | h
        · exact h.1
        · obtain ⟨j, hj, hjj⟩ := List.mem_iff_getElem.1 h
          have := HI.out j (by rw [HN.out] at hj; omega)
          rw [List.getD, List.getElem?_eq_getElem hj, hjj] at this
          exact absurd rfl this
      have hd' : decide (i < n) = false := decide_eq_false hlt
      have HU : Hid _ := hu
      clear hu
      go_wp2
      go_ret
      exact ⟨by rw [HU.out]; rfl, HC.out.2⟩
set_option maxHeartbeats 2000000 in
set_option maxRecDepth 100000 in
theorem rlowof_any (c : Int) (w : World) : Calls Tryz.prog 101 #[.int .i32 c] w fun e W' => e = .returned (.int .i32 (lowc c)) ∧ Below w.heap.size w W' := by
  obtain ⟨n, hn⟩ : ∃ n, prs.length = n := ⟨_, rfl⟩
  have hn0 : 0 < n := by rw [← hn]; decide +kernel
  have hn1 : n ≤ 1000 := by rw [← hn]; decide +kernel
  have CP : Hid (Calls Tryz.prog 125 #[] w fun e W' => ∃ g cap, e = .returned (.slice (some ⟨g, 0, none⟩) n cap) ∧ Hid ((∀ j, j < n → W'.cell? ⟨g, j * 2, none⟩ = some (.int .i32 (prs.getD j (0, 0)).1) ∧ W'.cell? ⟨g, j * 2 + 1, none⟩ = some (.int .i32 (prs.getD j (0, 0)).2)) ∧ Below w.heap.size w W')) := (rpairs_any w).mono fun e W' ⟨v, h1, h2, h3⟩ => by
    unfold Prs at h2
    rw [hn] at h2
    obtain ⟨g, cap, rfl, _, _⟩ := h2.form hn0
    exact ⟨g, cap, h1, fun j hj => ⟨(h2.cellAt (j * 2) (by omega)).trans (rcells_get prs j (by omega)).1, (h2.cellAt (j * 2 + 1) (by omega)).trans (rcells_get prs j (by omega)).2⟩, h3⟩
  have HN : Hid (prs.length = n) := hn
  clear hn
  go_enter Tryz.func101, Tryz.ntmps101
  go_wp2_with (go_at_call 125; refine CP.out.mono ?_; clear CP; rintro e w1 ⟨g, cap, rfl, HC⟩)
  go_loopw [4] (fun t wr => ∃ i : Nat, t = .int .i64 i ∧ i ≤ n ∧ w1 = wr ∧ Hid (∀ j, j < i → (prs.getD j (0, 0)).2 ≠ c)) (fun t _ => n - (intOf t).toNat)
  case atStart => exact ⟨0, rfl, Nat.zero_le _, rfl, fun j hj => by omega⟩
  case round =>
    obtain ⟨i, rfl, hi, rfl, HI⟩ := hrel
    by_cases hlt : i < n
    · obtain ⟨c0, c1⟩ := HC.out.1 i hlt
      have hmem : prs.getD i (0, 0) ∈ prs := by
        rw [List.getD, List.getElem?_eq_getElem (show i < prs.length by rw [HN.out]; exact hlt)]
        exact List.getElem_mem _
      obtain ⟨q, hq⟩ : ∃ q, prs.getD i (0, 0) = q := ⟨_, rfl⟩
      rw [hq] at c0 c1 hmem
      by_cases he : q.2 = c
      · have hu : lowc c = q.1 := by
          have := (pair (a := q.1) (b := q.2) hmem).1
          rw [← he]
          exact this.2.1
        have hb : (q.2 == c) = true := by simpa using he
        have HU : Hid _ := hu
        clear hu
        go_wp2
        go_ret
        exact ⟨by rw [HU.out]; rfl, HC.out.2⟩
      · have hb : (q.2 == c) = false := by simpa using he
        go_wp2
        exact ⟨⟨i + 1, by go_num, by omega, by first | rfl | trivial, fun j hj => by
          rcases Nat.lt_or_ge j i with h | h
          · exact HI.out j h
          · have : j = i := by omega
            rw [this, hq]; exact he⟩, by simp [intOf]; omega⟩
    · have hu : lowc c = c := by
        rcases low_cases c with h | h
        · exact h.1
        · obtain ⟨j, hj, hjj⟩ := List.mem_iff_getElem.1 h
          have := HI.out j (by rw [HN.out] at hj; omega)
          rw [List.getD, List.getElem?_eq_getElem hj, hjj] at this
          exact absurd rfl this
      have hd' : decide (i < n) = false := decide_eq_false hlt
      have HU : Hid _ := hu
      clear hu
      go_wp2
      go_ret
      exact ⟨by rw [HU.out]; rfl, HC.out.2⟩
end Go.Proofs.YtdggbnkhbmffoaaGreatDoor
namespace Go.Proofs.YtdggbnkhbmffoaaGreatDoor
open Go.RowKit Go.Sort Bod Wid

theorem extract_one {s : ByteArray} {x : Nat} (h : x < s.size) : (s.extract x (x + 1)).data.toList = [s[x]'h] := by
  rw [Lib.extract_data]
  have hl : x < s.data.toList.length := by rw [← Lib.size_eq]; exact h
  rw [show x + 1 - x = 1 by omega, List.drop_eq_getElem_cons hl]
  simp [ByteArray.getElem_eq_getElem_data]
theorem runits_rd (s : ByteArray) (hs : s.size ≤ 4398046511000) (w : World) (n : Nat) (hn : (offs s 0).length = n) :
    Calls Tryz.prog 64 #[.string s] w fun e W' => ∃ a cap, e = .returned (.slice a n cap) ∧ Hid (∀ (j x : Nat), (offs s 0)[j]? = some x → ∃ g, a = some ⟨g, 0, none⟩ ∧ g < W'.heap.size ∧ W'.cell? ⟨g, j * 2, none⟩ = some (.int .i32 (ch s x)) ∧ W'.cell? ⟨g, j * 2 + 1, none⟩ = some (.int .i64 (sz s x))) ∧ Below w.heap.size w W' := by
  refine (runits_any s (by omega) w).mono ?_
  rintro e W' ⟨v, rfl, h2, h3⟩
  rw [hn] at h2
  rcases h2.2 with ⟨h0, h1⟩ | ⟨g, cap, cur, hv, _⟩
  · refine ⟨none, 0, by rw [h0, h1], fun j x hj => ?_, h3⟩
    have := (List.getElem?_eq_some_iff.1 hj).1
    omega
  · subst hv
    refine ⟨_, cap, rfl, fun j x hj => ?_, h3⟩
    have hjl := (List.getElem?_eq_some_iff.1 hj).1
    obtain ⟨u0, u1⟩ := ucells_get s (offs s 0) j x hj
    exact ⟨g, rfl, (h2.lt g rfl).2, (h2.cellAt (j * 2) (by omega)).trans u0, (h2.cellAt (j * 2 + 1) (by omega)).trans u1⟩

set_option maxRecDepth 100000 in
set_option maxHeartbeats 2000000 in
theorem rformed_up (s : ByteArray) (hs : s.size ≤ 4398046511000) (w : World) :
    Calls Tryz.prog 69 #[.string s, .bool true] w fun e W' => e = .returned (.string (fm (fun _ => upc) s)) ∧ Below w.heap.size w W' := by
  obtain ⟨n, hn⟩ : ∃ n, (offs s 0).length = n := ⟨_, rfl⟩
  have hnb : n ≤ s.size := by rw [← hn]; exact offs_len_le s
  have HN : Hid ((offs s 0).length = n) := hn
  have CU : Hid (Calls Tryz.prog 64 #[.string s] w fun e W' => ∃ a cap, e = .returned (.slice a n cap) ∧ Hid (∀ (j x : Nat), (offs s 0)[j]? = some x → ∃ g, a = some ⟨g, 0, none⟩ ∧ g < W'.heap.size ∧ W'.cell? ⟨g, j * 2, none⟩ = some (.int .i32 (ch s x)) ∧ W'.cell? ⟨g, j * 2 + 1, none⟩ = some (.int .i64 (sz s x))) ∧ Below w.heap.size w W') := runits_rd s hs w n hn
  have CF : Hid (∀ (c : Int) W, Calls Tryz.prog 100 #[.int .i32 c] W fun e W' => e = .returned (.int .i32 (upc c)) ∧ Below W.heap.size W W') := fun c W => rupof_any c W
  have CE : Hid (∀ (c : Int) W, Lib.validRune c = true → Calls Tryz.prog 99 #[.slice (some ⟨W.heap.size, 0, none⟩) 1 1] (W.alloc (.cells #[.int .i32 c] 21)) fun e W' => e = .returned (.string ⟨(Lib.encodeRune c).toArray⟩) ∧ Below W.heap.size W W') := fun c W hv => by
    have := rencode_core [c] W.heap.size 0 1 (W.alloc (.cells #[.int .i32 c] 21)) (by simp) (fun j hj => by have : j = 0 := (by simpa using hj); subst this; simp) (by simp)
    refine this.mono ?_
    rintro e w' ⟨rfl, hb⟩
    exact ⟨by simp [encs, hv], ((Below.refl _ W).alloc (Nat.le_refl _) _).trans (hb.mono (by simp))⟩
  clear hn
  go_enter Tryz.func69, Tryz.ntmps69
  go_wp2_with (go_at_call 64; refine CU.out.mono ?_; clear CU; rintro e w1 ⟨la, lc, rfl, HG, hb1⟩)
  go_loopw [8, 7, 6] (fun t8 t7 t6 wr => ∃ (pre : List Nat) (i : Nat) (x : ByteArray), t8 = .int .i64 pre.length ∧ t7 = .int .i64 i ∧ t6 = .string x ∧ i ≤ s.size ∧ B s i ∧ pre ++ offs s i = offs s 0 ∧ x.data.toList = pre.flatMap (pc (fun _ => upc) s) ∧ Below w1.heap.size w1 wr ∧ Below w.heap.size w wr) (fun _ t7 _ _ => s.size - (intOf t7).toNat)
  case atStart => exact ⟨[], 0, ⟨#[]⟩, rfl, rfl, rfl, Nat.zero_le _, B_zero s, rfl, rfl, Below.refl _ _, hb1⟩
  case round =>
    obtain ⟨pre, i, x, rfl, rfl, rfl, hi, hBi, hpre, hx, hB1, hB⟩ := hrel
    have hpl := congrArg List.length hpre
    rw [List.length_append, HN.out] at hpl
    by_cases hlt : i < s.size
    · have hpos := sz_pos hlt
      have hin := sz_in hlt
      rw [offs_step hlt, List.length_cons] at hpl
      have hat : (offs s 0)[pre.length]? = some i := by rw [← hpre, offs_step hlt]; simp
      obtain ⟨g, rfl, hgl, d0, d1⟩ := HG.out _ _ hat
      have hkl : (pre.length : Int) < n := by omega
      have r0 : wr.cell? ⟨g, pre.length * 2, none⟩ = some (.int .i32 (ch s i)) := (hB1.cell (p := ⟨g, pre.length * 2, none⟩) hgl).trans d0
      have r1 : wr.cell? ⟨g, pre.length * 2 + 1, none⟩ = some (.int .i64 (sz s i)) := (hB1.cell (p := ⟨g, pre.length * 2 + 1, none⟩) hgl).trans d1
      have HR1 : Hid (∀ W, Below wr.heap.size wr W → W.cell? ⟨g, pre.length * 2 + 1, none⟩ = some (.int .i64 (sz s i))) := fun W hW => (hW.cell (p := ⟨g, pre.length * 2 + 1, none⟩) (Nat.lt_of_lt_of_le hgl hB1.size)).trans r1
      have HP : Hid (B s (i + sz s i) ∧ pre ++ [i] ++ offs s (i + sz s i) = offs s 0) := ⟨B_next hBi hlt, by rw [← hpre, offs_step hlt]; simp⟩
      have HX : Hid (x.data.toList = pre.flatMap (pc (fun _ => upc) s)) := hx
      have hsi : (i : Int) + sz s i ≤ 9223372036854775807 := by omega
      have HB1 : Hid (Below w1.heap.size w1 wr) := hB1
      have hxs : x.size ≤ 4 * s.size := by
        rw [Lib.size_eq, hx]
        have h1 := flat_four upc s pre
        omega
      by_cases hneg : ch s i < 0
      · have HE : Hid (pc (fun _ => upc) s i = (s.extract i (i + 1)).data.toList) := by
          show _ = _
          unfold pc
          rw [if_pos hneg, get_bang hlt, extract_one hlt]
        have HS1 : Hid (sz s i = 1) := (ch_neg hneg).2
        have hi1 : i + 1 ≤ s.size := by omega
        clear HG hat d0 d1 hx hpre hBi CF CE hB1
        go_wp2
        exact ⟨⟨pre ++ [i], i + sz s i, x ++ s.extract i (i + 1), by simp, by first | rfl | simp, rfl, hin, HP.out.1, HP.out.2, by rw [data_app, HX.out, List.flatMap_append, List.flatMap_singleton, HE.out], HB1.out, hB⟩, by simp [intOf]; omega⟩
      · have hv := gd_valid (g := fun _ => upc) gd_up 0 (good_bytes hlt (by omega)).1
        have HE : Hid (pc (fun _ => upc) s i = Lib.encodeRune (upc (ch s i))) := by show _ = _; unfold pc; rw [if_neg hneg]
        have cF := CF.out (ch s i) wr
        have CE1 : Hid (∀ W, Below wr.heap.size wr W → Calls Tryz.prog 99 #[.slice (some ⟨W.heap.size, 0, none⟩) 1 1] (W.alloc (.cells #[.int .i32 (upc (ch s i))] 21)) fun e W' => ∃ t : ByteArray, e = .returned (.string t) ∧ t.data.toList = Lib.encodeRune (upc (ch s i)) ∧ t.size ≤ 4 ∧ Below wr.heap.size wr W') := fun W hW => (CE.out _ W hv).mono fun e W' ⟨h1, h2⟩ => ⟨_, h1, rfl, by
          have := (Lib.runeCells_le (upc (ch s i))).2
          rw [Lib.size_eq]
          show (Lib.encodeRune _).length ≤ 4
          rw [encR_len]
          simpa [Lib.runeCells] using this, hW.trans (h2.mono hW.size)⟩
        have HB : Hid (Below w.heap.size w wr) := hB
        generalize upc (ch s i) = fc at cF CE1 HE
        clear HG hat d0 d1 hx hpre hBi CF CE hB1 hB hv
        go_wp2_with (first | (go_at_call 100; refine cF.mono ?_; clear cF; rintro e w2 ⟨rfl, hb2⟩) | (go_at_call 99; refine (CE1.out _ hb2).mono ?_; clear CE1; rintro e w3 ⟨t, rfl, ht, hts, hb3⟩; have r3 := HR1.out w3 hb3))
        exact ⟨⟨pre ++ [i], i + sz s i, x ++ t, by simp, by first | rfl | simp, rfl, hin, HP.out.1, HP.out.2, by rw [data_app, HX.out, List.flatMap_append, List.flatMap_singleton, HE.out, ht], HB1.out.trans (hb3.mono HB1.out.size), HB.out.trans (hb3.mono HB.out.size)⟩, by simp [intOf]; omega⟩
    · have hk2 : ¬ ((pre.length : Int) < n) := by rw [offs_end (by omega)] at hpl; simp at hpl; omega
      have HE : Hid (x = fm (fun _ => upc) s) := by
        show _ = _
        have : pre = offs s 0 := by rw [← hpre, offs_end (by omega)]; simp
        have h2 : x.data.toList = (fm (fun _ => upc) s).data.toList := by
          rw [hx, this, fm_data, fs, ← sg_all s s.size 0 (by omega)]
        exact ByteArray.ext (Array.ext' h2)
      clear HG hx hpre hBi CF CE
      go_wp2
      go_ret
      exact ⟨ret_str HE.out, hB⟩

set_option maxRecDepth 100000 in
set_option maxHeartbeats 2000000 in
theorem rformed_low (s : ByteArray) (hs : s.size ≤ 4398046511000) (w : World) :
    Calls Tryz.prog 69 #[.string s, .bool false] w fun e W' => e = .returned (.string (fm (fun _ => lowc) s)) ∧ Below w.heap.size w W' := by
  obtain ⟨n, hn⟩ : ∃ n, (offs s 0).length = n := ⟨_, rfl⟩
  have hnb : n ≤ s.size := by rw [← hn]; exact offs_len_le s
  have HN : Hid ((offs s 0).length = n) := hn
  have CU : Hid (Calls Tryz.prog 64 #[.string s] w fun e W' => ∃ a cap, e = .returned (.slice a n cap) ∧ Hid (∀ (j x : Nat), (offs s 0)[j]? = some x → ∃ g, a = some ⟨g, 0, none⟩ ∧ g < W'.heap.size ∧ W'.cell? ⟨g, j * 2, none⟩ = some (.int .i32 (ch s x)) ∧ W'.cell? ⟨g, j * 2 + 1, none⟩ = some (.int .i64 (sz s x))) ∧ Below w.heap.size w W') := runits_rd s hs w n hn
  have CF : Hid (∀ (c : Int) W, Calls Tryz.prog 101 #[.int .i32 c] W fun e W' => e = .returned (.int .i32 (lowc c)) ∧ Below W.heap.size W W') := fun c W => rlowof_any c W
  have CE : Hid (∀ (c : Int) W, Lib.validRune c = true → Calls Tryz.prog 99 #[.slice (some ⟨W.heap.size, 0, none⟩) 1 1] (W.alloc (.cells #[.int .i32 c] 21)) fun e W' => e = .returned (.string ⟨(Lib.encodeRune c).toArray⟩) ∧ Below W.heap.size W W') := fun c W hv => by
    have := rencode_core [c] W.heap.size 0 1 (W.alloc (.cells #[.int .i32 c] 21)) (by simp) (fun j hj => by have : j = 0 := (by simpa using hj); subst this; simp) (by simp)
    refine this.mono ?_
    rintro e w' ⟨rfl, hb⟩
    exact ⟨by simp [encs, hv], ((Below.refl _ W).alloc (Nat.le_refl _) _).trans (hb.mono (by simp))⟩
  clear hn
  go_enter Tryz.func69, Tryz.ntmps69
  go_wp2_with (go_at_call 64; refine CU.out.mono ?_; clear CU; rintro e w1 ⟨la, lc, rfl, HG, hb1⟩)
  go_loopw [8, 7, 6] (fun t8 t7 t6 wr => ∃ (pre : List Nat) (i : Nat) (x : ByteArray), t8 = .int .i64 pre.length ∧ t7 = .int .i64 i ∧ t6 = .string x ∧ i ≤ s.size ∧ B s i ∧ pre ++ offs s i = offs s 0 ∧ x.data.toList = pre.flatMap (pc (fun _ => lowc) s) ∧ Below w1.heap.size w1 wr ∧ Below w.heap.size w wr) (fun _ t7 _ _ => s.size - (intOf t7).toNat)
  case atStart => exact ⟨[], 0, ⟨#[]⟩, rfl, rfl, rfl, Nat.zero_le _, B_zero s, rfl, rfl, Below.refl _ _, hb1⟩
  case round =>
    obtain ⟨pre, i, x, rfl, rfl, rfl, hi, hBi, hpre, hx, hB1, hB⟩ := hrel
    have hpl := congrArg List.length hpre
    rw [List.length_append, HN.out] at hpl
    by_cases hlt : i < s.size
    · have hpos := sz_pos hlt
      have hin := sz_in hlt
      rw [offs_step hlt, List.length_cons] at hpl
      have hat : (offs s 0)[pre.length]? = some i := by rw [← hpre, offs_step hlt]; simp
      obtain ⟨g, rfl, hgl, d0, d1⟩ := HG.out _ _ hat
      have hkl : (pre.length : Int) < n := by omega
      have r0 : wr.cell? ⟨g, pre.length * 2, none⟩ = some (.int .i32 (ch s i)) := (hB1.cell (p := ⟨g, pre.length * 2, none⟩) hgl).trans d0
      have r1 : wr.cell? ⟨g, pre.length * 2 + 1, none⟩ = some (.int .i64 (sz s i)) := (hB1.cell (p := ⟨g, pre.length * 2 + 1, none⟩) hgl).trans d1
      have HR1 : Hid (∀ W, Below wr.heap.size wr W → W.cell? ⟨g, pre.length * 2 + 1, none⟩ = some (.int .i64 (sz s i))) := fun W hW => (hW.cell (p := ⟨g, pre.length * 2 + 1, none⟩) (Nat.lt_of_lt_of_le hgl hB1.size)).trans r1
      have HP : Hid (B s (i + sz s i) ∧ pre ++ [i] ++ offs s (i + sz s i) = offs s 0) := ⟨B_next hBi hlt, by rw [← hpre, offs_step hlt]; simp⟩
      have HX : Hid (x.data.toList = pre.flatMap (pc (fun _ => lowc) s)) := hx
      have hsi : (i : Int) + sz s i ≤ 9223372036854775807 := by omega
      have HB1 : Hid (Below w1.heap.size w1 wr) := hB1
      have hxs : x.size ≤ 4 * s.size := by
        rw [Lib.size_eq, hx]
        have h1 := flat_four lowc s pre
        omega
      by_cases hneg : ch s i < 0
      · have HE : Hid (pc (fun _ => lowc) s i = (s.extract i (i + 1)).data.toList) := by
          show _ = _
          unfold pc
          rw [if_pos hneg, get_bang hlt, extract_one hlt]
        have HS1 : Hid (sz s i = 1) := (ch_neg hneg).2
        have hi1 : i + 1 ≤ s.size := by omega
        clear HG hat d0 d1 hx hpre hBi CF CE hB1
        go_wp2
        exact ⟨⟨pre ++ [i], i + sz s i, x ++ s.extract i (i + 1), by simp, by first | rfl | simp, rfl, hin, HP.out.1, HP.out.2, by rw [data_app, HX.out, List.flatMap_append, List.flatMap_singleton, HE.out], HB1.out, hB⟩, by simp [intOf]; omega⟩
      · have hv := gd_valid (g := fun _ => lowc) gd_low 0 (good_bytes hlt (by omega)).1
        have HE : Hid (pc (fun _ => lowc) s i = Lib.encodeRune (lowc (ch s i))) := by show _ = _; unfold pc; rw [if_neg hneg]
        have cF := CF.out (ch s i) wr
        have CE1 : Hid (∀ W, Below wr.heap.size wr W → Calls Tryz.prog 99 #[.slice (some ⟨W.heap.size, 0, none⟩) 1 1] (W.alloc (.cells #[.int .i32 (lowc (ch s i))] 21)) fun e W' => ∃ t : ByteArray, e = .returned (.string t) ∧ t.data.toList = Lib.encodeRune (lowc (ch s i)) ∧ t.size ≤ 4 ∧ Below wr.heap.size wr W') := fun W hW => (CE.out _ W hv).mono fun e W' ⟨h1, h2⟩ => ⟨_, h1, rfl, by
          have := (Lib.runeCells_le (lowc (ch s i))).2
          rw [Lib.size_eq]
          show (Lib.encodeRune _).length ≤ 4
          rw [encR_len]
          simpa [Lib.runeCells] using this, hW.trans (h2.mono hW.size)⟩
        have HB : Hid (Below w.heap.size w wr) := hB
        generalize lowc (ch s i) = fc at cF CE1 HE
        clear HG hat d0 d1 hx hpre hBi CF CE hB1 hB hv
        go_wp2_with (first | (go_at_call 101; refine cF.mono ?_; clear cF; rintro e w2 ⟨rfl, hb2⟩) | (go_at_call 99; refine (CE1.out _ hb2).mono ?_; clear CE1; rintro e w3 ⟨t, rfl, ht, hts, hb3⟩; have r3 := HR1.out w3 hb3))
        exact ⟨⟨pre ++ [i], i + sz s i, x ++ t, by simp, by first | rfl | simp, rfl, hin, HP.out.1, HP.out.2, by rw [data_app, HX.out, List.flatMap_append, List.flatMap_singleton, HE.out, ht], HB1.out.trans (hb3.mono HB1.out.size), HB.out.trans (hb3.mono HB.out.size)⟩, by simp [intOf]; omega⟩
    · have hk2 : ¬ ((pre.length : Int) < n) := by rw [offs_end (by omega)] at hpl; simp at hpl; omega
      have HE : Hid (x = fm (fun _ => lowc) s) := by
        show _ = _
        have : pre = offs s 0 := by rw [← hpre, offs_end (by omega)]; simp
        have h2 : x.data.toList = (fm (fun _ => lowc) s).data.toList := by
          rw [hx, this, fm_data, fs, ← sg_all s s.size 0 (by omega)]
        exact ByteArray.ext (Array.ext' h2)
      clear HG hx hpre hBi CF CE
      go_wp2
      go_ret
      exact ⟨ret_str HE.out, hB⟩

set_option maxRecDepth 100000 in
theorem rupper_any (s : ByteArray) (hs : s.size ≤ 4398046511000) (w : World) : Calls Tryz.prog 34 #[.string s] w fun e W' => e = .returned (.string (fm (fun _ => upc) s)) ∧ Below w.heap.size w W' := by
  have cF := rformed_up s hs w
  go_enter Tryz.func34, Tryz.ntmps34
  go_wp2_with (go_at_call 69; refine cF.mono ?_; clear cF; rintro e w1 ⟨rfl, hb1⟩)
  go_ret
  exact ⟨rfl, hb1⟩
set_option maxRecDepth 100000 in
theorem rlower_any (s : ByteArray) (hs : s.size ≤ 4398046511000) (w : World) : Calls Tryz.prog 35 #[.string s] w fun e W' => e = .returned (.string (fm (fun _ => lowc) s)) ∧ Below w.heap.size w W' := by
  have cF := rformed_low s hs w
  go_enter Tryz.func35, Tryz.ntmps35
  go_wp2_with (go_at_call 69; refine cF.mono ?_; clear cF; rintro e w1 ⟨rfl, hb1⟩)
  go_ret
  exact ⟨rfl, hb1⟩
end Go.Proofs.YtdggbnkhbmffoaaGreatDoor
namespace Go.Proofs.YtdggbnkhbmffoaaGreatDoor
open Go.RowKit Go.Sort Bod Wid

set_option maxHeartbeats 2000000 in
set_option maxRecDepth 100000 in
theorem rat_at (s : ByteArray) (a : Nat) (ha : B s a) (hal : a < s.size) (hs : s.size ≤ 4398046511000) (w : World) :
    Calls Tryz.prog 70 #[.string s, .int .i64 a] w fun e W' => e = .returned (.tuple #[.agg #[.int .i32 (ch s a), .int .i64 (sz s a)], .bool true]) ∧ Below w.heap.size w W' := by
  obtain ⟨W0, hW0⟩ : ∃ W0, w.alloc (.cells #[.int .i32 0, .int .i64 0] 83) = W0 := ⟨_, rfl⟩
  have hb0 : Below w.heap.size w W0 := by rw [← hW0]; exact (Below.refl _ w).alloc (Nat.le_refl _) _
  have r0 : W0.heap[w.heap.size]? = some (.cells #[.int .i32 0, .int .i64 0] 83 (0, 0)) := by rw [← hW0]; exact World.alloc_heap_new w _
  have hz0 : w.heap.size < W0.heap.size := (Array.getElem?_eq_some_iff.1 r0).1
  obtain ⟨n, hn⟩ : ∃ n, (offs s 0).length = n := ⟨_, rfl⟩
  have HN : Hid ((offs s 0).length = n) := hn
  have hnb : n ≤ s.size := by rw [← hn]; exact offs_len_le s
  have CU : Hid (Calls Tryz.prog 64 #[.string s] W0 fun e W' => ∃ la cap, e = .returned (.slice la n cap) ∧ Hid (∀ (j x : Nat), (offs s 0)[j]? = some x → ∃ g, la = some ⟨g, 0, none⟩ ∧ g < W'.heap.size ∧ W'.cell? ⟨g, j * 2, none⟩ = some (.int .i32 (ch s x)) ∧ W'.cell? ⟨g, j * 2 + 1, none⟩ = some (.int .i64 (sz s x))) ∧ Hid (W'.heap[w.heap.size]? = some (.cells #[.int .i32 0, .int .i64 0] 83 (0, 0)) ∧ Below w.heap.size w W')) := (runits_rd s hs W0 n hn).mono fun e W' ⟨la, cap, h1, h2, h3⟩ => ⟨la, cap, h1, h2, (h3.block _ hz0).trans r0, hb0.trans (h3.mono hb0.size)⟩
  have HA : Hid (B s a) := ha
  clear hb0 r0 hz0 hn ha
  go_enter Tryz.func70, Tryz.ntmps70
  go_wp2_with (go_at_call 64; refine CU.out.mono ?_; clear CU hW0; rintro e w1 ⟨la, cap, rfl, HG, HC⟩)
  go_loopw [7, 8] (fun x t wr => ∃ (pre : List Nat) (i : Nat), x = .int .i64 i ∧ t = .int .i64 pre.length ∧ i ≤ a ∧ B s i ∧ pre ++ offs s i = offs s 0 ∧ w1 = wr) (fun x _ _ => s.size - (intOf x).toNat)
  case atStart => exact ⟨[], 0, rfl, rfl, Nat.zero_le _, B_zero s, rfl, rfl⟩
  case round =>
    obtain ⟨pre, i, rfl, rfl, hia, hBi, hpre, rfl⟩ := hrel
    have hlt : i < s.size := by omega
    have hpos := sz_pos hlt
    have hin := sz_in hlt
    have hpl := congrArg List.length hpre
    rw [List.length_append, HN.out, offs_step hlt, List.length_cons] at hpl
    have hkl : (pre.length : Int) < n := by omega
    have hat : (offs s 0)[pre.length]? = some i := by rw [← hpre, offs_step hlt]; simp
    obtain ⟨g, rfl, hgl, d0, d1⟩ := HG.out _ _ hat
    by_cases e : i = a
    · subst e
      obtain ⟨hr, hb⟩ := HC.out
      have z0 : w1.cell? ⟨w.heap.size, 0, none⟩ = some (.int .i32 0) := by simp [World.cell?, hr]
      have z1 : w1.cell? ⟨w.heap.size, 1, none⟩ = some (.int .i64 0) := by simp [World.cell?, hr]
      have f0 : w1.frozen? ⟨w.heap.size, 0, none⟩ = false := by simp [World.frozen?, hr]
      have f1 : w1.frozen? ⟨w.heap.size, 1, none⟩ = false := by simp [World.frozen?, hr]
      have hl : w.heap.size < w1.heap.size := (Array.getElem?_eq_some_iff.1 hr).1
      have HB : Hid (Below w.heap.size w w1) := hb
      clear hr hb HG hpre hBi hat hpl
      go_wp2
      exact bodyPost_ret (v := .tuple #[.agg #[.int .i32 (ch s i), .int .i64 (sz s i)], .bool true]) (by simp [results, Tryz.results70, go_sem, z0, z1]) rfl ⟨rfl, (HB.out.setCell (p := ⟨w.heap.size, 0, none⟩) (Nat.le_refl _) _).setCell (p := ⟨w.heap.size, 1, none⟩) (Nat.le_refl _) _⟩
    · have hne : ((i : Int) == (a : Int)) = false := beq_eq_false_iff_ne.2 (by omega)
      have HP : Hid (i + sz s i ≤ a ∧ B s (i + sz s i) ∧ pre ++ [i] ++ offs s (i + sz s i) = offs s 0) := ⟨HA.out.2 i (by omega), B_next hBi hlt, by rw [← hpre, offs_step hlt]; simp⟩
      clear HG hpre hBi hat hpl e
      go_wp2
      exact ⟨⟨pre ++ [i], i + sz s i, by first | rfl | simp, by simp, HP.out.1, HP.out.2.1, HP.out.2.2, trivial⟩, by simp [intOf]; omega⟩

theorem capG_take {s : ByteArray} {k i : Nat} {p : Nat × Nat} (hp : (words s)[k]? = some p) (hi : i ≠ p.1) : capG ((words s).take (k + 1)) i = capG ((words s).take k) i := by
  obtain ⟨hk, ek⟩ := List.getElem?_eq_some_iff.1 hp
  funext c
  unfold capG
  rw [List.take_succ_eq_append_getElem hk, ek, List.any_append]
  have : decide (p.1 = i) = false := decide_eq_false (fun e => hi e.symm)
  simp only [List.any_cons, List.any_nil, this, Bool.or_false]
theorem capG_at {s : ByteArray} {k : Nat} {p : Nat × Nat} (hp : (words s)[k]? = some p) : capG ((words s).take (k + 1)) p.1 = upc := by
  obtain ⟨hk, ek⟩ := List.getElem?_eq_some_iff.1 hp
  funext c
  unfold capG
  rw [List.take_succ_eq_append_getElem hk, ek, List.any_append]
  simp
/-- one word's first unit is put -/
theorem cap_put {s : ByteArray} {k : Nat} {p : Nat × Nat} (hp : (words s)[k]? = some p) :
    (fm (capG ((words s).take k)) s).extract 0 p.1 ++ fm (fun _ => upc) (s.extract p.1 (p.1 + sz s p.1)) ++ (fm (capG ((words s).take k)) s).extract (p.1 + sz s p.1) s.size = fm (capG ((words s).take (k + 1))) s := by
  obtain ⟨w1, w2, w3, w4, w5⟩ := word_B (List.mem_of_getElem? hp)
  have hz := sz_in w2
  have hpos := sz_pos w2
  have hg := gd_cap ((words s).take k)
  have hh := gd_cap ((words s).take (k + 1))
  have e1 := fm_at (g := capG ((words s).take k)) w1 w2
  have e2 := fm_at (g := capG ((words s).take (k + 1))) w1 w2
  have l1 : (fs (capG ((words s).take k)) s 0 p.1).length = p.1 := by rw [fs_len hg w1 p.1 0 (by omega) (Nat.zero_le _)]; omega
  have l2 := pc_len hg w2
  have l3 : (fs (capG ((words s).take k)) s (p.1 + sz s p.1) s.size).length = s.size - (p.1 + sz s p.1) := fs_len hg (B_end s) s.size _ (by omega) hz
  have c1 : fs (capG ((words s).take (k + 1))) s 0 p.1 = fs (capG ((words s).take k)) s 0 p.1 := fs_congr (by omega) p.1 0 (by omega) (fun i _ h => capG_take hp (by omega))
  have c2 : fs (capG ((words s).take (k + 1))) s (p.1 + sz s p.1) s.size = fs (capG ((words s).take k)) s (p.1 + sz s p.1) s.size := fs_congr (Nat.le_refl _) s.size _ (by omega) (fun i h _ => capG_take hp (by omega))
  have c3 : pc (capG ((words s).take (k + 1))) s p.1 = pc (fun _ => upc) s p.1 := by unfold pc; rw [capG_at hp]
  apply ByteArray.ext
  apply Array.ext'
  rw [data_app, data_app, Lib.extract_data, Lib.extract_data, fm_sub (B_next w1 w2) (by omega), fs_one w2, e1, e2, c1, c2, c3, List.drop_zero, Nat.sub_zero]
  have t1 : (fs (capG ((words s).take k)) s 0 p.1 ++ pc (capG ((words s).take k)) s p.1 ++ fs (capG ((words s).take k)) s (p.1 + sz s p.1) s.size).take p.1 = fs (capG ((words s).take k)) s 0 p.1 := by
    rw [List.append_assoc, List.take_append_of_le_length (by omega), List.take_of_length_le (by omega)]
  have t2 : (fs (capG ((words s).take k)) s 0 p.1 ++ pc (capG ((words s).take k)) s p.1 ++ fs (capG ((words s).take k)) s (p.1 + sz s p.1) s.size).drop (p.1 + sz s p.1) = fs (capG ((words s).take k)) s (p.1 + sz s p.1) s.size := by
    rw [List.drop_append_of_le_length (by rw [List.length_append]; omega), List.drop_of_length_le (by rw [List.length_append]; omega), List.nil_append]
  have t3 : (fs (capG ((words s).take k)) s (p.1 + sz s p.1) s.size).take (s.size - (p.1 + sz s p.1)) = fs (capG ((words s).take k)) s (p.1 + sz s p.1) s.size := List.take_of_length_le (by omega)
  rw [t1, t2, t3]

set_option maxRecDepth 100000 in
set_option maxHeartbeats 4000000 in
theorem rcapital_any (s : ByteArray) (hs : s.size ≤ 4398046511000) (w : World) :
    Calls Tryz.prog 36 #[.string s] w fun e W' => e = .returned (.string (fm (capG (words s)) s)) ∧ Below w.heap.size w W' := by
  have cL := rlower_any s hs w
  have hwl := words_len s
  have CS : Hid (∀ W, Below w.heap.size w W → Calls Tryz.prog 33 #[.string s] W fun e W' => ∃ v, e = .returned v ∧ Rd2 W' v (words s) ∧ Below w.heap.size w W') := fun W hW => (rspans_any s hs W).mono fun e w' ⟨v, h1, h2, h3⟩ => ⟨v, h1, Rd2.of_row h2, hW.trans (h3.mono hW.size)⟩
  have hM : Tryz.prog.follows .mixedOrders = true := by kernel_rfl
  have HM : Hid (Tryz.prog.follows .mixedOrders = true) := hM
  clear hM
  go_enter Tryz.func36, Tryz.ntmps36
  go_wp2_with (first | (go_at_call 35; refine cL.mono ?_; clear cL; rintro e w0 ⟨rfl, hb0⟩) | (go_at_call 33; refine (CS.out _ hb0).mono ?_; clear CS; rintro e w1 ⟨lv, rfl, hrd1, hb1⟩; obtain ⟨la, lc, rfl, hg0⟩ := hrd1; have HG : Hid (words s ≠ [] → ∃ g, la = some ⟨g, 0, none⟩ ∧ g < w1.heap.size ∧ ∀ k c, (words s)[k]? = some c → w1.cell? ⟨g, k * 2, none⟩ = some (.int .i64 c.1) ∧ w1.cell? ⟨g, k * 2 + 1, none⟩ = some (.int .i64 c.2)) := hg0; clear hg0))
  go_loopw [5, 3] (fun t5 t3 wr => ∃ (k : Nat), t5 = .int .i64 k ∧ t3 = .string (fm (capG ((words s).take k)) s) ∧ k ≤ (words s).length ∧ Below w1.heap.size w1 wr ∧ Below w.heap.size w wr) (fun t5 _ _ => (words s).length - (intOf t5).toNat)
  case atStart => exact ⟨0, rfl, rfl, Nat.zero_le _, Below.refl _ _, hb1⟩
  case round =>
    obtain ⟨k, rfl, rfl, hk, hB1, hB⟩ := hrel
    by_cases hlt : k < (words s).length
    · have hp : (words s)[k]? = some (words s)[k] := List.getElem?_eq_getElem hlt
      generalize (words s)[k] = p at hp
      obtain ⟨e1, e2, e3, e4, e5⟩ := word_B (List.mem_of_getElem? hp)
      have hzi := sz_in e2
      have hkl : (k : Int) < ((words s).length : Int) := by omega
      obtain ⟨g, rfl, hgl, hcells⟩ := HG.out (fun e => by rw [e] at hp; simp at hp)
      obtain ⟨q0, _⟩ := hcells k p hp
      have r0 : wr.cell? ⟨g, k * 2, none⟩ = some (.int .i64 p.1) := (hB1.cell (p := ⟨g, k * 2, none⟩) hgl).trans q0
      have HR : Hid (∀ W, Below wr.heap.size wr W → W.cell? ⟨g, k * 2, none⟩ = some (.int .i64 p.1)) := fun W hW => (hW.cell (p := ⟨g, k * 2, none⟩) (Nat.lt_of_lt_of_le hgl hB1.size)).trans r0
      have cA := rat_at s p.1 e1 e2 hs wr
      have HPUT := cap_put hp
      have HP : Hid ((fm (capG ((words s).take k)) s).extract 0 p.1 ++ fm (fun _ => upc) (s.extract p.1 (p.1 + sz s p.1)) ++ (fm (capG ((words s).take k)) s).extract (p.1 + sz s p.1) s.size = fm (capG ((words s).take (k + 1))) s) := HPUT
      have hxs : (fm (capG ((words s).take k)) s).size = s.size := fm_size (gd_cap _) s
      have hts : (fm (fun _ => upc) (s.extract p.1 (p.1 + sz s p.1))).size ≤ s.size := by rw [fm_size gd_up]; exact sub_size
      have CU : Hid (∀ W, Calls Tryz.prog 34 #[.string (s.extract p.1 (p.1 + sz s p.1))] W fun e w' => e = .returned (.string (fm (fun _ => upc) (s.extract p.1 (p.1 + sz s p.1)))) ∧ Below W.heap.size W w') := fun W => rupper_any _ (by have := sub_size (s := s) (a := p.1) (b := p.1 + sz s p.1); omega) W
      have HB1 : Hid (Below w1.heap.size w1 wr) := hB1
      have HB : Hid (Below w.heap.size w wr) := hB
      have hpq : p.1 + sz s p.1 ≤ s.size := hzi
      generalize fm (fun _ => upc) (s.extract p.1 (p.1 + sz s p.1)) = t at HP hts CU
      generalize hx : fm (capG ((words s).take k)) s = x at HP hxs
      clear hcells HG q0 HPUT hp e1 e3 e4 e5 hB1 hB hx
      go_wp2_with (go_at_call 70; refine cA.mono ?_; clear cA; rintro e w2 ⟨rfl, hb2⟩; have r2 := HR.out w2 hb2; have hgw : g < w2.heap.size := Nat.lt_of_lt_of_le hgl (Nat.le_trans HB1.out.size hb2.size); have HK2 : Hid (Below wr.heap.size wr w2) := hb2; clear hb2)
      have hzc : (w2.alloc (.cells #[.int .i32 (ch s p.1), .int .i64 (sz s p.1)] 83)).cell? ⟨w2.heap.size, 1, none⟩ = some (.int .i64 (sz s p.1)) := by simp
      have q1 := cell_regrown hzc
      have cQ := regrown (W := w2.alloc (.cells #[.int .i32 (ch s p.1), .int .i64 (sz s p.1)] 83)) (f := 34) (args := #[.string (s.extract p.1 (p.1 + sz s p.1))]) (v := .string t) (fun W hW => CU.out W)
      have HBW : Hid (Below wr.heap.size wr (w2.alloc (.cells #[.int .i32 (ch s p.1), .int .i64 (sz s p.1)] 83))) := HK2.out.alloc HK2.out.size _
      have a1 : IntKind.i64.wrap ((p.1 : Int) + (sz s p.1 : Int)) = (p.1 : Int) + (sz s p.1 : Int) := by rw [IntKind.wrap_i64]; omega
      have a2 : ((p.1 : Int) + (sz s p.1 : Int)).toNat = p.1 + sz s p.1 := by omega
      have a3 : (0 : Int) ≤ (p.1 : Int) + (sz s p.1 : Int) := by omega
      have a4 : (p.1 : Int) + (sz s p.1 : Int) ≤ (s.size : Int) := by omega
      have a5 : (p.1 : Int) ≤ (x.size : Int) := by omega
      have a6 : (p.1 : Int) + (sz s p.1 : Int) ≤ (x.size : Int) := by omega
      have a7 : (p.1 : Int) ≤ (p.1 : Int) + (sz s p.1 : Int) := by omega
      clear hzc HR r2 CU
      refine wp_region_quiet_below HM.out (by kernel_rfl) ?_
      repeat (go_big_quiet_step (exact cQ _ _))
      refine wpQuiet_nil ?_
      intro _ hw'
      obtain ⟨⟨dq, osq⟩, hw''⟩ := hw'
      subst hw''
      have HBZ : Hid (Below wr.heap.size wr (grow (redrawn (w2.alloc (.cells #[.int .i32 (ch s p.1), .int .i64 (sz s p.1)] 83)) dq) osq)) := HBW.out.trans ((below_regrown _ dq osq).mono HBW.out.size)
      clear cQ q1 HBW
      go_wp2
      exact ⟨⟨k + 1, by first | rfl | simp, by rw [HP.out], by omega, HB1.out.trans (HBZ.out.mono HB1.out.size), HB.out.trans (HBZ.out.mono HB.out.size)⟩, by simp [intOf]; omega⟩
    · have hkl : ¬ ((k : Int) < ((words s).length : Int)) := by omega
      have HE : Hid ((words s).take k = words s) := List.take_of_length_le (by omega)
      clear HG
      go_wp2
      go_ret
      exact ⟨ret_str (by rw [HE.out]), hB⟩
end Go.Proofs.YtdggbnkhbmffoaaGreatDoor
