/-
  The walks of the document's tables: digit and Table of the reference: what a table's text is read as, told by a plain function. Conditions of Table: the text is short, its numbers are small, and it holds at least one range.
-/
import Derived.Test.YtgagpmeknpjkpaaGreatDoorVWalkC
import Derived.Lib.Strings
import Derived.Lib.IndexBytes
namespace Go.Proofs.YtgagpmeknpjkpaaGreatDoor
open Go.RowKit Wid

def dg (c : Nat) : Int := if 48 ≤ c ∧ c ≤ 57 then (c : Int) - 48 else if 65 ≤ c ∧ c ≤ 70 then (c : Int) - 65 + 10 else -1
/-- the numbers of a text, read on from n -/
def scan : List UInt8 → Int → Bool → List Int
  | [], n, inn => if inn then [n] else []
  | c :: r, n, inn => if 0 ≤ dg c.toNat then scan r (n * 16 + dg c.toNat) true else (if inn then [n] else []) ++ scan r 0 false
def fits : List UInt8 → Int → Bool
  | [], _ => true
  | c :: r, n => if 0 ≤ dg c.toNat then decide (n * 16 + dg c.toNat < 16777216) && fits r (n * 16 + dg c.toNat) else fits r 0

set_option maxHeartbeats 1000000 in
set_option maxRecDepth 100000 in
theorem digit_any (x : Nat) (hx : x < 256) (w : World) : Calls Tryz.prog 115 #[.int .u8 x] w fun e w' => e = .returned (.int .i32 (dg x)) ∧ w = w' := by
  unfold dg
  by_cases h1 : 48 ≤ x
  · by_cases h2 : x ≤ 57
    · rw [if_pos ⟨h1, h2⟩]
      go_enter Tryz.func115, Tryz.ntmps115
      go_wp2
      go_ret
      exact ⟨rfl, rfl⟩
    · rw [if_neg (by omega)]
      by_cases h3 : 65 ≤ x
      · by_cases h4 : x ≤ 70
        · rw [if_pos ⟨h3, h4⟩]
          go_enter Tryz.func115, Tryz.ntmps115
          go_wp2
          go_ret
          exact ⟨rfl, rfl⟩
        · rw [if_neg (by omega)]
          go_enter Tryz.func115, Tryz.ntmps115
          go_wp2
          go_ret
          exact ⟨rfl, rfl⟩
      · rw [if_neg (by omega)]
        go_enter Tryz.func115, Tryz.ntmps115
        go_wp2
        go_ret
        exact ⟨rfl, rfl⟩
  · rw [if_neg (by omega), if_neg (by omega)]
    have h3 : ¬ 65 ≤ x := by omega
    go_enter Tryz.func115, Tryz.ntmps115
    go_wp2
    go_ret
    exact ⟨rfl, rfl⟩

theorem dg_le (x : Nat) : -1 ≤ dg x ∧ dg x ≤ 15 := by unfold dg; split <;> (try split) <;> omega
theorem infoI : (Tryz.prog.info? 21).map (fun i => (i.zero, i.size, i.bytes)) = some (some (.int .i32 0), 1, 4) := by kernel_rfl
theorem cell_new1 (w : World) (a : Value) (t : TypeId) : ∀ j u, [a][j]? = some u → (w.alloc (.cells #[a] t)).cell? ((⟨w.heap.size, 0, none⟩ : Addr).add j) = some u := by
  intro j u h
  rw [Go.WideShapes.add_plain, Nat.zero_add]
  unfold World.cell?
  rw [heap_one]
  simpa using h

/-- what stands between two rounds of Table's first loop -/
structure Tst (bs : List UInt8) (T xs : List Int) (n : Int) (inn : Bool) (i : Nat) : Prop where
  len : xs.length ≤ i
  lo : 0 ≤ n
  hi : n < 16777216
  rest : i ≤ bs.length ∧ xs ++ scan (bs.drop i) n inn = T ∧ fits (bs.drop i) n = true ∨ i = bs.length + 1 ∧ xs = T
theorem Tst.more {bs : List UInt8} {T xs : List Int} {n : Int} {inn : Bool} {i : Nat} {x : UInt8} (h : Tst bs T xs n inn i) (hi : i < bs.length) (hx : bs[i] = x) (hd : 0 ≤ dg x.toNat) : Tst bs T xs (n * 16 + dg x.toNat) true (i + 1) := by
  rcases h.rest with ⟨_, h2, h3⟩ | ⟨h2, _⟩
  · rw [List.drop_eq_getElem_cons hi, hx] at h2 h3
    simp only [scan, fits, if_pos hd, Bool.and_eq_true, decide_eq_true_eq] at h2 h3
    exact ⟨by have := h.len; omega, by have := h.lo; omega, h3.1, .inl ⟨by omega, h2, h3.2⟩⟩
  · omega
theorem Tst.cut {bs : List UInt8} {T xs : List Int} {n : Int} {inn : Bool} {i : Nat} {x : UInt8} (h : Tst bs T xs n inn i) (hi : i < bs.length) (hx : bs[i] = x) (hd : ¬ 0 ≤ dg x.toNat) : Tst bs T (xs ++ if inn then [n] else []) 0 false (i + 1) := by
  rcases h.rest with ⟨_, h2, h3⟩ | ⟨h2, _⟩
  · rw [List.drop_eq_getElem_cons hi, hx] at h2 h3
    simp only [scan, fits, if_neg hd] at h2 h3
    exact ⟨by have := h.len; cases inn <;> simp <;> omega, by omega, by omega, .inl ⟨by omega, by rw [List.append_assoc]; exact h2, h3⟩⟩
  · omega
theorem Tst.last {bs : List UInt8} {T xs : List Int} {n : Int} {inn : Bool} {i : Nat} (h : Tst bs T xs n inn i) (hi : i = bs.length) : Tst bs T (xs ++ if inn then [n] else []) 0 false (i + 1) := by
  rcases h.rest with ⟨_, h2, _⟩ | ⟨h2, _⟩
  · subst hi
    rw [List.drop_length] at h2
    exact ⟨by have := h.len; cases inn <;> simp <;> omega, by omega, by omega, .inr ⟨rfl, h2⟩⟩
  · omega
def ints (xs : List Int) : List Value := xs.map (Value.int .i32)
theorem ints_snoc (xs : List Int) (n : Int) : ints (xs ++ [n]) = ints xs ++ [.int .i32 n] := by simp [ints]

set_option maxHeartbeats 4000000 in
set_option maxRecDepth 100000 in
theorem table_any (s : ByteArray) (l : List (Int × Int)) (hs : s.size ≤ 1000) (hl0 : l ≠ []) (hl : l.length ≤ 1000) (hT : scan s.data.toList 0 false = flat l) (hf : fits s.data.toList 0 = true) (w : World) : Calls Tryz.prog 110 #[.string s] w (Made w l) := by
  obtain ⟨i0, hi, hz0, hz1, hz2⟩ := info_parts infoI
  obtain ⟨j0, ji, jz0, jz1, jz2⟩ := info_parts infoR
  obtain ⟨T, hTT⟩ : ∃ T, flat l = T := ⟨_, rfl⟩
  rw [hTT] at hT
  have HTT : Hid (flat l = T) := hTT
  have H0 : Hid (Tst s.data.toList T [] 0 false 0) := ⟨Nat.le_refl _, Int.le_refl _, by decide, .inl ⟨Nat.zero_le _, hT, hf⟩⟩
  have HL0 : Hid (l ≠ []) := hl0
  have HL : Hid (l.length ≤ 1000) := hl
  have hsz : s.data.toList.length = s.size := rfl
  have HS : Hid (s.data.toList.length = s.size) := hsz
  clear hl0 hl hT hf hTT hsz
  go_enter Tryz.func110, Tryz.ntmps110
  go_wp2
  go_loopw [3, 4, 5, 6] (fun v n b t wr => ∃ (i : Nat) (xs : List Int) (nn : Int) (bb : Bool), Hid (Tst s.data.toList T xs nn bb i) ∧ n = .int .i32 nn ∧ b = .bool bb ∧ t = .int .i64 i ∧ i ≤ s.size + 1 ∧ wr.ownsRow w.heap.size 21 1 v xs.length (ints xs) ∧ Below w.heap.size w wr) (fun _ _ _ t _ => s.size + 1 - (intOf t).toNat)
  case atStart => exact ⟨0, [], 0, false, H0, rfl, rfl, rfl, by omega, World.ownsRow_nil _ _ _ _, Below.refl _ _⟩
  case round =>
    obtain ⟨i, xs, nn, bb, HST, rfl, rfl, rfl, hi1, hrow, hB⟩ := hrel
    have hBs := hB.size
    have hxl : xs.length ≤ 1001 := by have := HST.out.len; omega
    have hlo := HST.out.lo
    have hhi := HST.out.hi
    by_cases hlt : i < s.size
    · obtain ⟨x, hx⟩ : ∃ x, s[i]'hlt = x := ⟨_, rfl⟩
      have HX : Hid (s.data.toList[i]'(by rw [HS.out]; exact hlt) = x) := by show _ = _; rw [← hx]; simp [ByteArray.getElem_eq_getElem_data]
      have cD := digit_any x.toNat x.toNat_lt wr
      obtain ⟨dl, dh⟩ := dg_le x.toNat
      by_cases hd : 0 ≤ dg x.toNat
      · have HN := Tst.more HST.out (by rw [HS.out]; exact hlt) HX.out hd
        have HN2 : Hid _ := HN
        clear HN
        generalize dg x.toNat = d at *
        go_wp2_with (go_at_call 115; refine cD.mono ?_; clear cD; rintro e w1 ⟨rfl, rfl⟩)
        exact ⟨⟨i + 1, xs, nn * 16 + d, true, HN2, rfl, rfl, by go_num, by omega, hrow, hB⟩, by simp [intOf]; omega⟩
      · have HN := Tst.cut HST.out (by rw [HS.out]; exact hlt) HX.out hd
        clear HST
        have hd2 : dg x.toNat = -1 := by omega
        rw [hd2] at cD
        clear hd hd2 dl dh
        cases bb with
        | true =>
          have HN2 : Hid (Tst s.data.toList T (xs ++ [nn]) 0 false (i + 1)) := HN
          clear HN
          go_wp2_with (first | (go_at_call 115; refine cD.mono ?_; clear cD; rintro e w1 ⟨rfl, rfl⟩) | (at_builtin; refine wpList_append_own _ rfl _ _ 126 rfl w.heap.size 21 i0 (.int .i32 0) 1 4 Tryz.underlying126 hi hz0 hz1 hz2 rfl (by decide) _ xs.length _ rfl (hrow.alloc _) ⟨wr.heap.size, 0, none⟩ 1 1 [.int .i32 nn] rfl rfl (cell_new1 _ _ _) (by simp [Value.oneCell']) (by unfold maxLen; omega) (by omega) (by simp; omega) ?_; intro v3 w3 hrow3 hg3 _))
          exact ⟨⟨i + 1, xs ++ [nn], 0, false, HN2, rfl, rfl, by go_num, by omega, by rw [ints_snoc, List.length_append]; exact hrow3, (hB.alloc hBs _).grown hg3 (by simp; omega) (fun j e => (hrow.lt j e).1)⟩, by simp [intOf]; omega⟩
        | false =>
          have HN2 : Hid (Tst s.data.toList T xs 0 false (i + 1)) := by have h := HN; simp only [Bool.false_eq_true, if_false, List.append_nil] at h; exact h
          clear HN
          go_wp2_with (go_at_call 115; refine cD.mono ?_; clear cD; rintro e w1 ⟨rfl, rfl⟩)
          exact ⟨⟨i + 1, xs, 0, false, HN2, rfl, rfl, by go_num, by omega, hrow, hB⟩, by simp [intOf]; omega⟩
    · by_cases heq : i = s.size
      · have HN := Tst.last HST.out (by rw [HS.out]; exact heq)
        clear HST
        have hle : i ≤ s.size := by omega
        have HQ : Hid (i = s.size) := heq
        clear heq
        cases bb with
        | true =>
          have HN2 : Hid (Tst s.data.toList T (xs ++ [nn]) 0 false (i + 1)) := HN
          clear HN
          go_wp2_with (at_builtin; refine wpList_append_own _ rfl _ _ 126 rfl w.heap.size 21 i0 (.int .i32 0) 1 4 Tryz.underlying126 hi hz0 hz1 hz2 rfl (by decide) _ xs.length _ rfl (hrow.alloc _) ⟨wr.heap.size, 0, none⟩ 1 1 [.int .i32 nn] rfl rfl (cell_new1 _ _ _) (by simp [Value.oneCell']) (by unfold maxLen; omega) (by omega) (by simp; omega) ?_; intro v3 w3 hrow3 hg3 _)
          exact ⟨⟨i + 1, xs ++ [nn], 0, false, HN2, rfl, rfl, by go_num, by omega, by rw [ints_snoc, List.length_append]; exact hrow3, (hB.alloc hBs _).grown hg3 (by simp; omega) (fun j e => (hrow.lt j e).1)⟩, by simp [intOf]; omega⟩
        | false =>
          have HN2 : Hid (Tst s.data.toList T xs 0 false (i + 1)) := by have h := HN; simp only [Bool.false_eq_true, if_false, List.append_nil] at h; exact h
          clear HN
          go_wp2
          exact ⟨⟨i + 1, xs, 0, false, HN2, rfl, rfl, by go_num, by omega, hrow, hB⟩, by simp [intOf]; omega⟩
      · have hxT : xs = T := by
          rcases HST.out.rest with ⟨h1, _⟩ | ⟨_, h2⟩
          · rw [HS.out] at h1; omega
          · exact h2
        clear HST
        have hTl : xs.length = 2 * l.length := by rw [hxT, ← HTT.out, flat_len]
        have hpos : 0 < l.length := List.length_pos_iff.2 HL0.out
        have HXT : Hid (xs = flat l) := by show xs = flat l; rw [hxT, HTT.out]
        clear hxT
        obtain ⟨g, cap, hg⟩ : ∃ g cap, u3 = .slice (some ⟨g, 0, none⟩) xs.length cap := by
          rcases hrow.2 with ⟨_, h2⟩ | ⟨g, cap, _, h2, _⟩
          · omega
          · exact ⟨g, cap, h2⟩
        subst hg
        have HC : Hid (∀ j, j < (flat l).length → wr.cell? ⟨g, j, none⟩ = some (.int .i32 ((flat l).getD j 0))) := fun j hj => by
          rw [hrow.cellAt j (by rw [HXT.out]; omega), HXT.out]
          simp [ints, hj]
        have hgl : g < wr.heap.size := (hrow.lt g rfl).2
        obtain ⟨N, hN⟩ : ∃ N, l.length = N := ⟨_, rfl⟩
        have HLN : Hid (l.length = N) := hN
        obtain ⟨m, hm⟩ : ∃ m, xs.length = m := ⟨_, rfl⟩
        have HM : Hid (m = 2 * N) := by show m = 2 * N; omega
        have hm2 : m ≤ 2000 := by have := HL.out; omega
        rw [hm]
        clear hrow hTl hpos hN hm
        generalize hW : wr = W1 at *
        clear hW
        have hdec : decide (i ≤ s.size) = false := decide_eq_false (by omega)
        go_wp2
        clear hdec
        clear hs H0 HS HTT hlt heq hi1 hlo hhi hxl HXT HL0
        go_loopw [8, 9] (fun v t wr => ∃ k i : Nat, k ≤ N ∧ Hid (i = 2 * k) ∧ t = .int .i64 i ∧ i ≤ m ∧ wr.ownsRow W1.heap.size 138 2 v k (rcells (l.take k)) ∧ Below W1.heap.size W1 wr) (fun _ t _ => m - (intOf t).toNat)
        case atStart => exact ⟨0, 0, Nat.zero_le _, rfl, rfl, Nat.zero_le _, World.ownsRow_nil _ _ _ _, Below.refl _ _⟩
        case round =>
          obtain ⟨k, i, hk, HI, rfl, him, hrow, hB2⟩ := hrel
          by_cases hlt : i < m
          · have hkN : k < N := by have := HM.out; have := HI.out; omega
            obtain ⟨f1, f2⟩ := flat_get l k (by have := HLN.out; omega)
            have hfl := flat_len l
            have c1 : wr.cell? ⟨g, i, none⟩ = some (.int .i32 (l.getD k (0, 0)).1) := by
              rw [← f1, ← HI.out]; exact (hB2.cell (p := ⟨g, i, none⟩) hgl).trans (HC.out i (by have := HM.out; have := HLN.out; omega))
            have c2 : wr.cell? ⟨g, i + 1, none⟩ = some (.int .i32 (l.getD k (0, 0)).2) := by
              rw [← f2, ← HI.out]; exact (hB2.cell (p := ⟨g, i + 1, none⟩) hgl).trans (HC.out (i + 1) (by have := HM.out; have := HLN.out; have := HI.out; omega))
            have HT : Hid (rcells (l.take (k + 1)) = rcells (l.take k) ++ [.int .i32 (l.getD k (0, 0)).1, .int .i32 (l.getD k (0, 0)).2]) := by
              show rcells (l.take (k + 1)) = _
              rw [take_snoc l k (by have := HLN.out; omega), rcells_snoc]
            have hi1 : (i : Int) + 1 < m := by have := HM.out; have := HI.out; omega
            have hi0 : (i : Int) < m := by omega
            have hBs2 := hB2.size
            have hk2 : k ≤ 1000 := by have := HLN.out; have := HL.out; omega
            have HK : Hid (k + 1 ≤ N) := hkN
            clear f1 f2 hfl hk hlt hkN
            generalize (l.getD k (0, 0)).1 = x1 at c1 HT
            generalize (l.getD k (0, 0)).2 = x2 at c2 HT
            have hwr : IntKind.i64.wrap ((i : Int) + 1) = (i : Int) + 1 := by rw [IntKind.wrap_i64]; omega
            have htn : ((i : Int) + 1).toNat = i + 1 := by omega
            have hge : (0 : Int) ≤ (i : Int) + 1 := by omega
            go_wp2
            go_region_law (refine step_append_own rfl (.tmp 42) (.tmp 53) 132 rfl W1.heap.size 138 j0 _ 2 8 Tryz.underlying132 ji jz0 jz1 jz2 rfl (by decide) _ k _ rfl (hrow.drew.alloc _) ⟨wr.heap.size, 0, none⟩ 1 1 [.int .i32 x1, .int .i32 x2] rfl rfl (cell_two_new _ _ _ _) (by simp [Value.oneCell']) (by unfold maxLen; omega) (by omega) (by simp; omega) ?_; intro v3 w3 hrow3 hg3)
            all_goals go_wp2
            all_goals go_roundw
            case rel => exact ⟨k + 1, i + 2, HK.out, by have := HI.out; show i + 2 = 2 * (k + 1); omega, by go_num, by have := HM.out; have := HI.out; have := HK.out; omega, by rw [HT.out]; exact hrow3, ((below_drew hB2).alloc hBs2 _).grown hg3 (by simp; omega) (fun j e => (hrow.lt j e).1)⟩
            case measure => simp [intOf]; omega
            case rel => exact ⟨k + 1, i + 2, HK.out, by have := HI.out; show i + 2 = 2 * (k + 1); omega, by go_num, by have := HM.out; have := HI.out; have := HK.out; omega, by rw [HT.out]; exact hrow3, ((below_drew hB2).alloc hBs2 _).grown hg3 (by simp; omega) (fun j e => (hrow.lt j e).1)⟩
            case measure => simp [intOf]; omega
          · have hkN : k = N := by have := HM.out; have := HI.out; omega
            have hrow2 : wr.ownsRow W1.heap.size 138 2 u8 l.length (rcells l) := by
              have h := hrow
              rw [show l.take k = l by rw [hkN, ← HLN.out, List.take_length], hkN, ← HLN.out] at h
              exact h
            have HR : Hid _ := hrow2
            have hnl : ¬ (i : Int) + 1 < m := by omega
            clear hrow hrow2 hkN
            go_wp2
            go_ret
            exact ⟨_, rfl, row_mono HR.out hBs, hB.trans (hB2.mono hBs)⟩
end Go.Proofs.YtgagpmeknpjkpaaGreatDoor
