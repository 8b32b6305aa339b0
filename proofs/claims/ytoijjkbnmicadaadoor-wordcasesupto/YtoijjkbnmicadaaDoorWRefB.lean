/-
  The walks of the document's own run, Pairs, UpperOf and LowerOf of package word: what WMath tells. No conditions.
-/
import Derived.Test.YtoijjkbnmicadaaDoorWRef
import Derived.Deep.AppendLies
import Derived.Test.YtoijjkbnmicadaaDoorKBase
namespace Go.Proofs.YtoijjkbnmicadaaDoor
open Go.RowKit Bod Wid

theorem prun_succ (a : Int) (n : Nat) (step d : Int) : prun a (n + 1) step d = prun a n step d ++ (if a + n * step ≠ 305 then [(a + n * step, a + n * step - d)] else []) := by
  unfold prun
  rw [List.range_succ, List.map_append, List.filter_append]
  congr 1
  by_cases h : a + n * step = 305
  · simp [h]
  · simp [h]
theorem info_pair : (Tryd.prog.info? 52).map (fun i => (i.zero, i.size, i.bytes)) = some (some (.agg #[.int .i32 0, .int .i32 0]), 2, 8) := by kernel_rfl
/-- pairs that the call owns -/
def Prs (base : Nat) (W : World) (v : Value) (l : List (Int × Int)) : Prop := W.ownsRow base 52 2 v l.length (rcells l)
theorem prs_push {base : Nat} {w wr W1 w3 : World} {v v3 : Value} {l l' : List (Int × Int)} {p : Int × Int} {o : Obj} (he : l' = l ++ [p]) (hr : Prs base wr v l) (hb : Below base w wr) (hw : base ≤ w.heap.size) (hW : wr.alloc o = W1)
    (hrow : w3.ownsRow base 52 2 v3 (l.length + 1) (rcells l ++ [.int .i32 p.1, .int .i32 p.2])) (hg : W1.grownBy w3 v.ownBlock) : Prs base w3 v3 l' ∧ Below base w w3 := by
  subst he
  have hz := hb.size
  have b1 : Below base w W1 := by rw [← hW]; exact hb.alloc (by omega) _
  refine ⟨?_, b1.grown hg (by have := b1.size; omega) (fun j e => (World.ownsRow.lt hr j e).1)⟩
  unfold Prs
  rw [List.length_append, rcells_snoc]
  exact hrow
set_option maxHeartbeats 2000000 in
set_option maxRecDepth 100000 in
theorem rrun_any (base : Nat) (v : Value) (xs : List (Int × Int)) (a last step d : Int) (n : Nat) (hn : n ≤ 100) (hx : xs.length ≤ 1000) (ha : 0 ≤ a ∧ a ≤ 100000) (hs : 1 ≤ step ∧ step ≤ 2) (hd : 0 ≤ d ∧ d ≤ 100)
    (h1 : ∀ k : Nat, k < n → a + k * step ≤ last) (h2 : last < a + n * step) (hl : last ≤ 100000) (w : World) (hb : base ≤ w.heap.size) (hr : Prs base w v xs) :
    Calls Tryd.prog 64 #[v, .int .i32 a, .int .i32 last, .int .i32 step, .int .i32 d] w fun e W' => ∃ v', e = .returned v' ∧ Prs base W' v' (xs ++ prun a n step d) ∧ Below base w W' := by
  obtain ⟨i0, hi, hz0, hz1, hz2⟩ := info_parts info_pair
  have HR : Hid (Prs base w v (xs ++ prun a 0 step d)) := by show Prs _ _ _ _; simpa [prun] using hr
  have HP : Hid (∀ k : Nat, (xs ++ prun a k step d).length ≤ 1000 + k) := fun k => by
    have : (prun a k step d).length ≤ k := by
      unfold prun
      exact Nat.le_trans (List.length_filter_le _ _) (by simp)
    rw [List.length_append]; omega
  have H1 : Hid (∀ k : Nat, k < n → a + k * step ≤ last) := h1
  clear hr h1
  go_enter Tryd.func64, Tryd.ntmps64
  go_wp2
  go_loopw [0, 11] (fun y t wr => ∃ k : Nat, t = .int .i32 (a + k * step) ∧ k ≤ n ∧ Hid (Prs base wr y (xs ++ prun a k step d) ∧ Below base w wr)) (fun _ t _ => (last + step - intOf t).toNat)
  case atStart => exact ⟨0, by simp, Nat.zero_le _, ⟨HR.out, Below.refl _ _⟩⟩
  case round =>
    obtain ⟨k, rfl, hk, HK⟩ := hrel
    clear HR
    have hks : 0 ≤ (k : Int) * step ∧ (k : Int) * step ≤ 200 := ⟨Int.mul_nonneg (by omega) (by omega), Int.le_trans (Int.mul_le_mul_of_nonneg_left hs.2 (by omega)) (by omega)⟩
    have hp := prun_succ a k step d
    have hlen := HP.out k
    by_cases hlt : k < n
    · have hle := H1.out k hlt
      have hnx : a + ((k + 1 : Nat) : Int) * step = a + (k : Int) * step + step := by rw [Int.natCast_add, Int.add_mul]; omega
      generalize (k : Int) * step = y at hks hp hle hnx
      by_cases h5 : a + y = 305
      · rw [if_neg (fun h => h h5), List.append_nil] at hp
        have HK2 : Hid (Prs base wr u0 (xs ++ prun a (k + 1) step d) ∧ Below base w wr) := by rw [hp]; exact HK
        have e5 : (a + y != 305) = false := by rw [h5]; rfl
        clear HK hp
        go_wp2
        exact ⟨⟨k + 1, by rw [hnx, h5], by omega, HK2⟩, by simp [intOf]; omega⟩
      · rw [if_pos h5] at hp
        have HE : Hid (xs ++ prun a (k + 1) step d = (xs ++ prun a k step d) ++ [(a + y, a + y - d)]) := by show _ = _; rw [hp, List.append_assoc]
        have e5 : (a + y != 305) = true := by simpa using h5
        clear hp
        go_wp2_with (at_builtin; refine wpList_append_own _ rfl _ _ 49 rfl base 52 i0 _ 2 8 Tryd.underlying49 hi hz0 hz1 hz2 rfl (by decide) _ (xs ++ prun a k step d).length _ rfl (World.ownsRow.alloc HK.out.1 _) ⟨wr.heap.size, 0, none⟩ 1 1 [.int .i32 (a + y), .int .i32 (a + y - d)] rfl rfl (fun j u hu => World.news_of_block (World.alloc_heap_new wr (.cells #[.int .i32 (a + y), .int .i32 (a + y - d)] 52)) j u hu) (by simp [Value.oneCell']) (by unfold maxLen; omega) (by omega) (by have := HK.out.2.size; simp; omega) ?_; intro v3 w3 hrow3 hg3 _; have HK3 : Hid (Prs base w3 v3 (xs ++ prun a (k + 1) step d) ∧ Below base w w3) := prs_push HE.out HK.out.1 HK.out.2 hb rfl hrow3 hg3)
        exact ⟨⟨k + 1, by rw [hnx], by omega, HK3⟩, by simp [intOf]; omega⟩
    · have hkn : k = n := by omega
      subst hkn
      have hd' : decide (a + (k : Int) * step ≤ last) = false := decide_eq_false (by omega)
      generalize (k : Int) * step = y at hks hp h2 hd'
      have HF := HK
      clear HK
      go_wp2
      go_ret
      exact ⟨_, rfl, HF.out⟩
set_option maxHeartbeats 2000000 in
set_option maxRecDepth 100000 in
theorem rpairs_any (w : World) : Calls Tryd.prog 39 #[] w fun e W' => ∃ v, e = .returned v ∧ Prs w.heap.size W' v prs ∧ Below w.heap.size w W' := by
  obtain ⟨i0, hi, hz0, hz1, hz2⟩ := info_parts info_pair
  have P0 : Prs w.heap.size w (.slice none 0 0) [] := World.ownsRow_nil _ _ _ _
  have B0 : Below w.heap.size w w := Below.refl _ _
  have T0 : True := trivial
  have T1 : True := trivial
  have T2 : True := trivial
  have T3 : True := trivial
  have T4 : True := trivial
  have T5 : True := trivial
  have T6 : True := trivial
  have T7 : True := trivial
  have T8 : True := trivial
  have T9 : True := trivial
  have T10 : True := trivial
  go_enter Tryd.func39, Tryd.ntmps39
  go_wp2_with (first | (go_at_call 64; have hq := T0; clear hq T0; refine (rrun_any w.heap.size _ ([] : List (Int × Int)) 97 122 1 32 26 (by decide) (by decide +kernel) (by decide) (by decide) (by decide) (fun k hk => by omega) (by decide) (by decide) _ (by have := B0.size; omega) P0).mono ?_; rintro e w1 ⟨v1, rfl, P1, b1⟩; have B1 : Below w.heap.size w w1 := B0.trans b1; clear b1) | (go_at_call 64; have hq := T1; clear hq T1; refine (rrun_any w.heap.size _ (([] : List (Int × Int)) ++ prun 97 26 1 32) 224 246 1 32 23 (by decide) (by decide +kernel) (by decide) (by decide) (by decide) (fun k hk => by omega) (by decide) (by decide) _ (by have := B1.size; omega) P1).mono ?_; rintro e w2 ⟨v2, rfl, P2, b2⟩; have B2 : Below w.heap.size w w2 := B1.trans b2; clear b2) | (go_at_call 64; have hq := T2; clear hq T2; refine (rrun_any w.heap.size _ ((([] : List (Int × Int)) ++ prun 97 26 1 32) ++ prun 224 23 1 32) 248 254 1 32 7 (by decide) (by decide +kernel) (by decide) (by decide) (by decide) (fun k hk => by omega) (by decide) (by decide) _ (by have := B2.size; omega) P2).mono ?_; rintro e w3 ⟨v3, rfl, P3, b3⟩; have B3 : Below w.heap.size w w3 := B2.trans b3; clear b3) | (at_builtin; have hq := T3; clear hq T3; refine wpList_append_own _ rfl _ _ 49 rfl w.heap.size 52 i0 _ 2 8 Tryd.underlying49 hi hz0 hz1 hz2 rfl (by decide) _ (((([] : List (Int × Int)) ++ prun 97 26 1 32) ++ prun 224 23 1 32) ++ prun 248 7 1 32).length _ rfl (World.ownsRow.alloc P3 _) ⟨w3.heap.size, 0, none⟩ 1 1 [.int .i32 255, .int .i32 376] rfl rfl (fun j u hu => World.news_of_block (World.alloc_heap_new w3 (.cells #[.int .i32 255, .int .i32 376] 52)) j u hu) (by simp [Value.oneCell']) (by decide +kernel) (by decide +kernel) (by have := B3.size; simp; omega) ?_; intro v4 w4 hrow hg _; obtain ⟨P4, B4⟩ := prs_push (l' := ((((([] : List (Int × Int)) ++ prun 97 26 1 32) ++ prun 224 23 1 32) ++ prun 248 7 1 32) ++ [(255, 376)])) (p := (255, 376)) rfl P3 B3 (Nat.le_refl _) rfl hrow hg; clear hrow hg) | (go_at_call 64; have hq := T4; clear hq T4; refine (rrun_any w.heap.size _ ((((([] : List (Int × Int)) ++ prun 97 26 1 32) ++ prun 224 23 1 32) ++ prun 248 7 1 32) ++ [(255, 376)]) 257 311 2 1 28 (by decide) (by decide +kernel) (by decide) (by decide) (by decide) (fun k hk => by omega) (by decide) (by decide) _ (by have := B4.size; omega) P4).mono ?_; rintro e w5 ⟨v5, rfl, P5, b5⟩; have B5 : Below w.heap.size w w5 := B4.trans b5; clear b5) | (go_at_call 64; have hq := T5; clear hq T5; refine (rrun_any w.heap.size _ (((((([] : List (Int × Int)) ++ prun 97 26 1 32) ++ prun 224 23 1 32) ++ prun 248 7 1 32) ++ [(255, 376)]) ++ prun 257 28 2 1) 331 375 2 1 23 (by decide) (by decide +kernel) (by decide) (by decide) (by decide) (fun k hk => by omega) (by decide) (by decide) _ (by have := B5.size; omega) P5).mono ?_; rintro e w6 ⟨v6, rfl, P6, b6⟩; have B6 : Below w.heap.size w w6 := B5.trans b6; clear b6) | (go_at_call 64; have hq := T6; clear hq T6; refine (rrun_any w.heap.size _ ((((((([] : List (Int × Int)) ++ prun 97 26 1 32) ++ prun 224 23 1 32) ++ prun 248 7 1 32) ++ [(255, 376)]) ++ prun 257 28 2 1) ++ prun 331 23 2 1) 945 961 1 32 17 (by decide) (by decide +kernel) (by decide) (by decide) (by decide) (fun k hk => by omega) (by decide) (by decide) _ (by have := B6.size; omega) P6).mono ?_; rintro e w7 ⟨v7, rfl, P7, b7⟩; have B7 : Below w.heap.size w w7 := B6.trans b7; clear b7) | (go_at_call 64; have hq := T7; clear hq T7; refine (rrun_any w.heap.size _ (((((((([] : List (Int × Int)) ++ prun 97 26 1 32) ++ prun 224 23 1 32) ++ prun 248 7 1 32) ++ [(255, 376)]) ++ prun 257 28 2 1) ++ prun 331 23 2 1) ++ prun 945 17 1 32) 963 969 1 32 7 (by decide) (by decide +kernel) (by decide) (by decide) (by decide) (fun k hk => by omega) (by decide) (by decide) _ (by have := B7.size; omega) P7).mono ?_; rintro e w8 ⟨v8, rfl, P8, b8⟩; have B8 : Below w.heap.size w w8 := B7.trans b8; clear b8) | (go_at_call 64; have hq := T8; clear hq T8; refine (rrun_any w.heap.size _ ((((((((([] : List (Int × Int)) ++ prun 97 26 1 32) ++ prun 224 23 1 32) ++ prun 248 7 1 32) ++ [(255, 376)]) ++ prun 257 28 2 1) ++ prun 331 23 2 1) ++ prun 945 17 1 32) ++ prun 963 7 1 32) 1072 1103 1 32 32 (by decide) (by decide +kernel) (by decide) (by decide) (by decide) (fun k hk => by omega) (by decide) (by decide) _ (by have := B8.size; omega) P8).mono ?_; rintro e w9 ⟨v9, rfl, P9, b9⟩; have B9 : Below w.heap.size w w9 := B8.trans b9; clear b9) | (go_at_call 64; have hq := T9; clear hq T9; refine (rrun_any w.heap.size _ (((((((((([] : List (Int × Int)) ++ prun 97 26 1 32) ++ prun 224 23 1 32) ++ prun 248 7 1 32) ++ [(255, 376)]) ++ prun 257 28 2 1) ++ prun 331 23 2 1) ++ prun 945 17 1 32) ++ prun 963 7 1 32) ++ prun 1072 32 1 32) 1104 1119 1 80 16 (by decide) (by decide +kernel) (by decide) (by decide) (by decide) (fun k hk => by omega) (by decide) (by decide) _ (by have := B9.size; omega) P9).mono ?_; rintro e w10 ⟨v10, rfl, P10, b10⟩; have B10 : Below w.heap.size w w10 := B9.trans b10; clear b10) | (go_at_call 64; have hq := T10; clear hq T10; refine (rrun_any w.heap.size _ ((((((((((([] : List (Int × Int)) ++ prun 97 26 1 32) ++ prun 224 23 1 32) ++ prun 248 7 1 32) ++ [(255, 376)]) ++ prun 257 28 2 1) ++ prun 331 23 2 1) ++ prun 945 17 1 32) ++ prun 963 7 1 32) ++ prun 1072 32 1 32) ++ prun 1104 16 1 80) 1121 1153 2 1 17 (by decide) (by decide +kernel) (by decide) (by decide) (by decide) (fun k hk => by omega) (by decide) (by decide) _ (by have := B10.size; omega) P10).mono ?_; rintro e w11 ⟨v11, rfl, P11, b11⟩; have B11 : Below w.heap.size w w11 := B10.trans b11; clear b11))
  go_ret
  exact ⟨_, rfl, P11, B11⟩
end Go.Proofs.YtoijjkbnmicadaaDoor
