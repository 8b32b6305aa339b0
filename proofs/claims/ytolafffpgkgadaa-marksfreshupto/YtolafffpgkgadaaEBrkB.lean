/-
  The library's breakPatternsOrdered at 13 to 27 bytes: some change places within the range. Conditions: those of the theorem.
-/
import Derived.Test.YtolafffpgkgadaaEBrk
import Derived.RangeFuncNested
namespace Go.Proofs.Ytolafffpgkgadaa
open Go.RowKit

theorem and_lt (y : Int) {M : Int} (h : M = 16 ∨ M = 32) : ∃ o : Nat, bits .and .u64 y (M - 1) = (o : Int) ∧ (o : Int) < M := by
  have hw : ∀ n : Nat, n < 64 → IntKind.u64.wrap (n : Int) = (n : Int) := fun n hn => by simp [IntKind.wrap, IntKind.bits, IntKind.signed]; omega
  rcases h with rfl | rfl
  · have hle : (BitVec.ofInt 64 y &&& BitVec.ofInt 64 15).toNat ≤ 15 := by rw [BitVec.toNat_and]; exact Nat.and_le_right
    exact ⟨(BitVec.ofInt 64 y &&& BitVec.ofInt 64 15).toNat, hw (BitVec.ofInt 64 y &&& BitVec.ofInt 64 15).toNat (by omega), by omega⟩
  · have hle : (BitVec.ofInt 64 y &&& BitVec.ofInt 64 31).toNat ≤ 31 := by rw [BitVec.toNat_and]; exact Nat.and_le_right
    exact ⟨(BitVec.ofInt 64 y &&& BitVec.ofInt 64 31).toNat, hw (BitVec.ofInt 64 y &&& BitVec.ofInt 64 31).toNat (by omega), by omega⟩
structure Rn (w : World) (g a b : Nat) (xs : List Nat) (rest : List Value) (ys : List Nat) (y : Int) (W : World) : Prop where
  rg : Rg w g a b xs rest ys W
  box : W.heap[w.heap.size]? = some (.cells #[.int .u64 y] 103 (0, 0))
set_option maxRecDepth 100000 in
set_option maxHeartbeats 2000000 in
theorem brk_any (w : World) (g cap N : Nat) (xs : List Nat) (rest : List Value) (hN : xs.length = N) (hsz : N ≤ 1048576) (a b l : Nat) (hl : b = a + l) (h13 : 13 ≤ l) (h27 : l ≤ 27) (hb : b ≤ N) (h : Bx w g xs rest) :
    Calls Try.prog 59 #[.slice (some ⟨g, 0, none⟩) N cap, .int .i64 a, .int .i64 b] w fun e w' => e = .returned (.tuple #[]) ∧ ∃ ys, Rg w g a b xs rest ys w' := by
  have hgl := (Array.getElem?_eq_some_iff.1 h).1
  have HB : Below w.heap.size w (w.alloc (.cells #[.int .u64 (l : Int)] 103)) := (Below.refl _ w).alloc (Nat.le_refl _) _
  have HS : Hid (Rn w g a b xs rest xs (l : Int) (w.alloc (.cells #[.int .u64 (l : Int)] 103))) := ⟨⟨Sm.refl _ _ _, (HB.block g hgl).trans h, ⟨HB.os, HB.tape, HB.output, HB.size, fun k hk _ => HB.block k hk⟩⟩, World.alloc_heap_new w _⟩
  have hba : (b : Int) - (a : Int) = (l : Int) := by omega
  have CN : Hid (∀ W, Calls Try.prog 69 #[.int .i64 (l : Int)] W fun e w' => e = .returned (.int .u64 (if l < 16 then 16 else 32)) ∧ w' = W) := fun W => npow_mid h13 h27 W
  obtain ⟨q, hq2⟩ : ∃ q, l / 4 = q := ⟨_, rfl⟩
  have hq : (l : Int).tdiv 4 = (q : Int) := by rw [← hq2]; rfl
  have hql : 3 ≤ q ∧ q * 4 ≤ l := by omega
  have HL : Hid (b = a + l ∧ xs.length = N) := ⟨hl, hN⟩
  have wl : IntKind.u64.wrap (l : Int) = (l : Int) := by simp [IntKind.wrap, IntKind.bits, IntKind.signed]; omega
  obtain ⟨M, hM⟩ : ∃ M : Int, (if l < 16 then 16 else 32) = M := ⟨_, rfl⟩
  have hMl : (M = 16 ∨ M = 32) ∧ M ≤ 2 * (l : Int) := by rw [← hM]; split <;> omega
  rw [hM] at CN
  clear h hN HB hq2 hl hM
  go_enter Try.func59, Try.ntmps59
  go_wp2_with (go_at_call 69; refine (CN.out _).mono ?_; clear CN; rintro e w1 ⟨rfl, rfl⟩)
  go_loopw [9] (fun t9 wr => ∃ i : Nat, t9 = .int .i64 ((a : Int) + (q : Int) * 2 - 1 + (i : Int)) ∧ i ≤ 3 ∧ Hid (∃ ys y, Rn w g a b xs rest ys y wr)) (fun t9 _ => ((a : Int) + (q : Int) * 2 + 2 - intOf t9).toNat)
  case atStart => exact ⟨0, by congr 1; omega, by omega, xs, _, HS.out⟩
  case round =>
    obtain ⟨i, rfl, hi, HI⟩ := hrel
    clear HS
    by_cases c : i < 3
    · obtain ⟨ys, y, hys⟩ := HI.out
      have CX := next_any hys.box
      have c' : (a : Int) + (q : Int) * 2 - 1 + (i : Int) ≤ (a : Int) + (q : Int) * 2 + 1 := by omega
      have HY : Hid (Rn w g a b xs rest ys y wr) := hys
      clear hys HI
      -- the other place
      have FIN : Hid (∀ (o : Nat) (w2 : World) (y2 : Int), o < l → w2.heap[w.heap.size]? = some (.cells #[.int .u64 y2] 103 (0, 0)) → wr.grownBy w2 (some w.heap.size) →
          (w2.cell? ⟨g, a + q * 2 - 1 + i, none⟩ = some (.int .u8 (nth ys (a + q * 2 - 1 + i) : Int)) ∧ w2.frozen? ⟨g, a + q * 2 - 1 + i, none⟩ = false) ∧ (w2.cell? ⟨g, a + o, none⟩ = some (.int .u8 (nth ys (a + o) : Int)) ∧ w2.frozen? ⟨g, a + o, none⟩ = false) ∧
          ∃ zs y, Rn w g a b xs rest zs y ((w2.drew.setCell ⟨g, a + q * 2 - 1 + i, none⟩ (.int .u8 (nth ys (a + o) : Int))).setCell ⟨g, a + o, none⟩ (.int .u8 (nth ys (a + q * 2 - 1 + i) : Int)))) := fun o w2 y2 ho h1 h2 => by
        have hr := HY.out.rg
        have hyl := hr.sm.len
        have hlo := HL.out
        have hbx : Bx w2 g ys rest := (h2.block g (by have := hr.gr.size; omega) (fun e => by cases e; omega)).trans hr.bx
        have hr2 : Rg w g a b xs rest ys w2 := ⟨hr.sm, hbx, ⟨h2.os.trans hr.gr.os, h2.tape.trans hr.gr.tape, h2.output.trans hr.gr.output, Nat.le_trans hr.gr.size h2.size, fun k hk hne => (h2.block k (by have := hr.gr.size; omega) (fun e => by cases e; omega)).trans (hr.gr.block k hk hne)⟩⟩
        refine ⟨hbx.at (by omega), hbx.at (by omega), _, y2, hr2.drew.swap (by omega) (by omega) (by omega) (by omega) (by omega), ?_⟩
        rw [(gcell _ g _ _).block _ ?_ (fun e => by cases e; omega), (gcell _ g _ _).block _ ?_ (fun e => by cases e; omega)]
        · exact h1
        · exact (Array.getElem?_eq_some_iff.1 h1).1
        · exact Nat.lt_of_lt_of_le (Array.getElem?_eq_some_iff.1 h1).1 (gcell _ g _ _).size
      have e1 : ((a : Int) + (q : Int) * 2 - 1 + (i : Int)).toNat = a + q * 2 - 1 + i := by omega
      have b1 : 0 ≤ (a : Int) + (q : Int) * 2 - 1 + (i : Int) ∧ (a : Int) + (q : Int) * 2 - 1 + (i : Int) < (N : Int) := by have := HL.out; omega
      clear HY
      go_wp2_with (go_at_call 70; refine CX.mono ?_; clear CX; rintro e w2 ⟨y2, rfl, h1, h2⟩; obtain ⟨o, ho, hoM⟩ := and_lt y2 hMl.1; have HZ : Hid (w2.heap[w.heap.size]? = some (.cells #[.int .u64 y2] 103 (0, 0)) ∧ wr.grownBy w2 (some w.heap.size)) := ⟨h1, h2⟩; clear h1 h2)
      · have cond : l ≤ o := by assumption
        obtain ⟨⟨d1, g1⟩, ⟨d2, g2⟩, HF⟩ := FIN.out (o - l) w2 y2 (by omega) HZ.out.1 HZ.out.2
        have HF2 : Hid (∃ zs y, Rn w g a b xs rest zs y ((w2.drew.setCell ⟨g, a + q * 2 - 1 + i, none⟩ (.int .u8 (nth ys (a + (o - l)) : Int))).setCell ⟨g, a + (o - l), none⟩ (.int .u8 (nth ys (a + q * 2 - 1 + i) : Int)))) := HF
        have e2 : ((a : Int) + ((o : Int) - (l : Int))).toNat = a + (o - l) := by omega
        have b2 : 0 ≤ (a : Int) + ((o : Int) - (l : Int)) ∧ (a : Int) + ((o : Int) - (l : Int)) < (N : Int) := by have := HL.out; omega
        obtain ⟨I1, hI1⟩ : ∃ I1, a + q * 2 - 1 + i = I1 := ⟨_, rfl⟩
        obtain ⟨I2, hI2⟩ : ∃ I2, a + (o - l) = I2 := ⟨_, rfl⟩
        obtain ⟨v1, hv1⟩ : ∃ v1, nth ys I1 = v1 := ⟨_, rfl⟩
        obtain ⟨v2, hv2⟩ : ∃ v2, nth ys I2 = v2 := ⟨_, rfl⟩
        rw [hI1] at d1 g1 HF2 e1
        rw [hI2] at d2 g2 HF2 e2
        rw [hv1] at d1 HF2
        rw [hv2] at d2 HF2
        clear FIN HF hI1 hI2
        by_cases e : I1 = I2
        · subst e
          obtain rfl : v1 = v2 := hv1.symm.trans hv2
          clear hv1 hv2
          go_region
          all_goals go_wp2
          exact ⟨⟨i + 1, by go_num, by omega, HF2.out⟩, by simp [intOf]; omega⟩
        · clear hv1 hv2
          go_region
          all_goals go_wp2
          exact ⟨⟨i + 1, by go_num, by omega, HF2.out⟩, by simp [intOf]; omega⟩
      · have cond : ¬ l ≤ o := by assumption
        obtain ⟨⟨d1, g1⟩, ⟨d2, g2⟩, HF⟩ := FIN.out (o) w2 y2 (by omega) HZ.out.1 HZ.out.2
        have HF2 : Hid (∃ zs y, Rn w g a b xs rest zs y ((w2.drew.setCell ⟨g, a + q * 2 - 1 + i, none⟩ (.int .u8 (nth ys (a + (o)) : Int))).setCell ⟨g, a + (o), none⟩ (.int .u8 (nth ys (a + q * 2 - 1 + i) : Int)))) := HF
        have e2 : ((a : Int) + (o : Int)).toNat = a + (o) := by omega
        have b2 : 0 ≤ (a : Int) + (o : Int) ∧ (a : Int) + (o : Int) < (N : Int) := by have := HL.out; omega
        obtain ⟨I1, hI1⟩ : ∃ I1, a + q * 2 - 1 + i = I1 := ⟨_, rfl⟩
        obtain ⟨I2, hI2⟩ : ∃ I2, a + (o) = I2 := ⟨_, rfl⟩
        obtain ⟨v1, hv1⟩ : ∃ v1, nth ys I1 = v1 := ⟨_, rfl⟩
        obtain ⟨v2, hv2⟩ : ∃ v2, nth ys I2 = v2 := ⟨_, rfl⟩
        rw [hI1] at d1 g1 HF2 e1
        rw [hI2] at d2 g2 HF2 e2
        rw [hv1] at d1 HF2
        rw [hv2] at d2 HF2
        clear FIN HF hI1 hI2
        by_cases e : I1 = I2
        · subst e
          obtain rfl : v1 = v2 := hv1.symm.trans hv2
          clear hv1 hv2
          go_region
          all_goals go_wp2
          exact ⟨⟨i + 1, by go_num, by omega, HF2.out⟩, by simp [intOf]; omega⟩
        · clear hv1 hv2
          go_region
          all_goals go_wp2
          exact ⟨⟨i + 1, by go_num, by omega, HF2.out⟩, by simp [intOf]; omega⟩
    · have c' : ¬ (a : Int) + (q : Int) * 2 - 1 + (i : Int) ≤ (a : Int) + (q : Int) * 2 + 1 := by omega
      go_wp2
      go_end0
      obtain ⟨ys, y, hys⟩ := HI.out
      exact ⟨rfl, ys, hys.rg⟩
end Go.Proofs.Ytolafffpgkgadaa
