/-
  The tables of package width, and the document's own copy of it. Conditions: those of each theorem.
-/
import Derived.Test.YtfjoklbiocniiaaDoorVWalkC
import Derived.Lib.Strings
import Derived.Lib.IndexBytes
namespace Go.Proofs.YtfjoklbiocniiaaDoor
open Go.RowKit Wid

def dg (c : Nat) : Int := if 48 ≤ c ∧ c ≤ 57 then (c : Int) - 48 else if 65 ≤ c ∧ c ≤ 70 then (c : Int) - 65 + 10 else -1
/-- the numbers of a text, read on from n -/
def scan : List UInt8 → Int → Bool → List Int
  | [], n, inn => if inn then [n] else []
  | c :: r, n, inn => if 0 ≤ dg c.toNat then scan r (n * 16 + dg c.toNat) true else (if inn then [n] else []) ++ scan r 0 false
def fits : List UInt8 → Int → Bool
  | [], _ => true
  | c :: r, n => if 0 ≤ dg c.toNat then decide (n * 16 + dg c.toNat < 16777216) && fits r (n * 16 + dg c.toNat) else fits r 0

set_option maxHeartbeats 1000000 in
set_option maxRecDepth 100000 in
theorem digit_any (x : Nat) (hx : x < 256) (w : World) : Calls Tryd.prog 74 #[.int .u8 x] w fun e w' => e = .returned (.int .i32 (dg x)) ∧ w = w' := by
  unfold dg
  by_cases h1 : 48 ≤ x
  · by_cases h2 : x ≤ 57
    · rw [if_pos ⟨h1, h2⟩]
      go_enter Tryd.func74, Tryd.ntmps74
      go_wp2
      go_ret
      exact ⟨rfl, rfl⟩
    · rw [if_neg (by omega)]
      by_cases h3 : 65 ≤ x
      · by_cases h4 : x ≤ 70
        · rw [if_pos ⟨h3, h4⟩]
          go_enter Tryd.func74, Tryd.ntmps74
          go_wp2
          go_ret
          exact ⟨rfl, rfl⟩
        · rw [if_neg (by omega)]
          go_enter Tryd.func74, Tryd.ntmps74
          go_wp2
          go_ret
          exact ⟨rfl, rfl⟩
      · rw [if_neg (by omega)]
        go_enter Tryd.func74, Tryd.ntmps74
        go_wp2
        go_ret
        exact ⟨rfl, rfl⟩
  · rw [if_neg (by omega), if_neg (by omega)]
    have h3 : ¬ 65 ≤ x := by omega
    go_enter Tryd.func74, Tryd.ntmps74
    go_wp2
    go_ret
    exact ⟨rfl, rfl⟩

theorem dg_le (x : Nat) : -1 ≤ dg x ∧ dg x ≤ 15 := by unfold dg; split <;> (try split) <;> omega
theorem infoI : (Tryd.prog.info? 21).map (fun i => (i.zero, i.size, i.bytes)) = some (some (.int .i32 0), 1, 4) := by kernel_rfl
theorem cell_new1 (w : World) (a : Value) (t : TypeId) : ∀ j u, [a][j]? = some u → (w.alloc (.cells #[a] t)).cell? ((⟨w.heap.size, 0, none⟩ : Addr).add j) = some u := by
  intro j u h
  rw [Go.WideShapes.add_plain, Nat.zero_add]
  unfold World.cell?
  rw [heap_one]
  simpa using h

/-- what stands between two rounds of Table's first loop -/
structure Tst (bs : List UInt8) (T xs : List Int) (n : Int) (inn : Bool) (i : Nat) : Prop where
  len : xs.length ≤ i
  lo : 0 ≤ n
  hi : n < 16777216
  rest : i ≤ bs.length ∧ xs ++ scan (bs.drop i) n inn = T ∧ fits (bs.drop i) n = true ∨ i = bs.length + 1 ∧ xs = T
theorem Tst.more {bs : List UInt8} {T xs : List Int} {n : Int} {inn : Bool} {i : Nat} {x : UInt8} (h : Tst bs T xs n inn i) (hi : i < bs.length) (hx : bs[i] = x) (hd : 0 ≤ dg x.toNat) : Tst bs T xs (n * 16 + dg x.toNat) true (i + 1) := by
  rcases h.rest with ⟨_, h2, h3⟩ | ⟨h2, _⟩
  · rw [List.drop_eq_getElem_cons hi, hx] at h2 h3
    simp only [scan, fits, if_pos hd, Bool.and_eq_true, decide_eq_true_eq] at h2 h3
    exact ⟨by have := h.len; omega, by have := h.lo; omega, h3.1, .inl ⟨by omega, h2, h3.2⟩⟩
  · omega
theorem Tst.cut {bs : List UInt8} {T xs : List Int} {n : Int} {inn : Bool} {i : Nat} {x : UInt8} (h : Tst bs T xs n inn i) (hi : i < bs.length) (hx : bs[i] = x) (hd : ¬ 0 ≤ dg x.toNat) : Tst bs T (xs ++ if inn then [n] else []) 0 false (i + 1) := by
  rcases h.rest with ⟨_, h2, h3⟩ | ⟨h2, _⟩
  · rw [List.drop_eq_getElem_cons hi, hx] at h2 h3
    simp only [scan, fits, if_neg hd] at h2 h3
    exact ⟨by have := h.len; cases inn <;> simp <;> omega, by omega, by omega, .inl ⟨by omega, by rw [List.append_assoc]; exact h2, h3⟩⟩
  · omega
theorem Tst.last {bs : List UInt8} {T xs : List Int} {n : Int} {inn : Bool} {i : Nat} (h : Tst bs T xs n inn i) (hi : i = bs.length) : Tst bs T (xs ++ if inn then [n] else []) 0 false (i + 1) := by
  rcases h.rest with ⟨_, h2, _⟩ | ⟨h2, _⟩
  · subst hi
    rw [List.drop_length] at h2
    exact ⟨by have := h.len; cases inn <;> simp <;> omega, by omega, by omega, .inr ⟨rfl, h2⟩⟩
  · omega
def ints (xs : List Int) : List Value := xs.map (Value.int .i32)
theorem ints_snoc (xs : List Int) (n : Int) : ints (xs ++ [n]) = ints xs ++ [.int .i32 n] := by simp [ints]

set_option maxHeartbeats 4000000 in
set_option maxRecDepth 100000 in
theorem table_any (s : ByteArray) (l : List (Int × Int)) (hs : s.size ≤ 1000) (hl0 : l ≠ []) (hl : l.length ≤ 1000) (hT : scan s.data.toList 0 false = flat l) (hf : fits s.data.toList 0 = true) (w : World) : Calls Tryd.prog 63 #[.string s] w (Made w l) := by
  obtain ⟨i0, hi, hz0, hz1, hz2⟩ := info_parts infoI
  obtain ⟨j0, ji, jz0, jz1, jz2⟩ := info_parts infoR
  obtain ⟨T, hTT⟩ : ∃ T, flat l = T := ⟨_, rfl⟩
  rw [hTT] at hT
  have HTT : Hid (flat l = T) := hTT
  have H0 : Hid (Tst s.data.toList T [] 0 false 0) := ⟨Nat.le_refl _, Int.le_refl _, by decide, .inl ⟨Nat.zero_le _, hT, hf⟩⟩
  have HL0 : Hid (l ≠ []) := hl0
  have HL : Hid (l.length ≤ 1000) := hl
  have hsz : s.data.toList.length = s.size := rfl
  have HS : Hid (s.data.toList.length = s.size) := hsz
  clear hl0 hl hT hf hTT hsz
  go_enter Tryd.func63, Tryd.ntmps63
  go_wp2
  go_loopw [3, 4, 5, 6] (fun v n b t wr => ∃ (i : Nat) (xs : List Int) (nn : Int) (bb : Bool), Hid (Tst s.data.toList T xs nn bb i) ∧ n = .int .i32 nn ∧ b = .bool bb ∧ t = .int .i64 i ∧ i ≤ s.size + 1 ∧ wr.ownsRow w.heap.size 21 1 v xs.length (ints xs) ∧ Below w.heap.size w wr) (fun _ _ _ t _ => s.size + 1 - (intOf t).toNat)
  case atStart => exact ⟨0, [], 0, false, H0, rfl, rfl, rfl, by omega, World.ownsRow_nil _ _ _ _, Below.refl _ _⟩
  case round =>
    obtain ⟨i, xs, nn, bb, HST, rfl, rfl, rfl, hi1, hrow, hB⟩ := hrel
    have hBs := hB.size
    have hxl : xs.length ≤ 1001 := by have := HST.out.len; omega
    have hlo := HST.out.lo
    have hhi := HST.out.hi
    by_cases hlt : i < s.size
    · obtain ⟨x, hx⟩ : ∃ x, s[i]'hlt = x := ⟨_, rfl⟩
      have HX : Hid (s.data.toList[i]'(by rw [HS.out]; exact hlt) = x) := by show _ = _; rw [← hx]; simp [ByteArray.getElem_eq_getElem_data]
      have cD := digit_any x.toNat x.toNat_lt wr
      obtain ⟨dl, dh⟩ := dg_le x.toNat
      by_cases hd : 0 ≤ dg x.toNat
      · have HN := Tst.more HST.out (by rw [HS.out]; exact hlt) HX.out hd
        have HN2 : Hid _ := HN
        clear HN
        generalize dg x.toNat = d at *
        go_wp2_with (go_at_call 74; refine cD.mono ?_; clear cD; rintro e w1 ⟨rfl, rfl⟩)
        exact ⟨⟨i + 1, xs, nn * 16 + d, true, HN2, rfl, rfl, by go_num, by omega, hrow, hB⟩, by simp [intOf]; omega⟩
      · have HN := Tst.cut HST.out (by rw [HS.out]; exact hlt) HX.out hd
        clear HST
        have hd2 : dg x.toNat = -1 := by omega
        rw [hd2] at cD
        clear hd hd2 dl dh
        cases bb with
        | true =>
          have HN2 : Hid (Tst s.data.toList T (xs ++ [nn]) 0 false (i + 1)) := HN
          clear HN
          go_wp2_with (first | (go_at_call 74; refine cD.mono ?_; clear cD; rintro e w1 ⟨rfl, rfl⟩) | (at_builtin; refine wpList_append_own _ rfl _ _ 119 rfl w.heap.size 21 i0 (.int .i32 0) 1 4 Tryd.underlying119 hi hz0 hz1 hz2 rfl (by decide) _ xs.length _ rfl (hrow.alloc _) ⟨wr.heap.size, 0, none⟩ 1 1 [.int .i32 nn] rfl rfl (cell_new1 _ _ _) (by simp [Value.oneCell']) (by unfold maxLen; omega) (by omega) (by simp; omega) ?_; intro v3 w3 hrow3 hg3 _))
          exact ⟨⟨i + 1, xs ++ [nn], 0, false, HN2, rfl, rfl, by go_num, by omega, by rw [ints_snoc, List.length_append]; exact hrow3, (hB.alloc hBs _).grown hg3 (by simp; omega) (fun j e => (hrow.lt j e).1)⟩, by simp [intOf]; omega⟩
        | false =>
          have HN2 : Hid (Tst s.data.toList T xs 0 false (i + 1)) := by have h := HN; simp only [Bool.false_eq_true, if_false, List.append_nil] at h; exact h
          clear HN
          go_wp2_with (go_at_call 74; refine cD.mono ?_; clear cD; rintro e w1 ⟨rfl, rfl⟩)
          exact ⟨⟨i + 1, xs, 0, false, HN2, rfl, rfl, by go_num, by omega, hrow, hB⟩, by simp [intOf]; omega⟩
    · by_cases heq : i = s.size
      · have HN := Tst.last HST.out (by rw [HS.out]; exact heq)
        clear HST
        have hle : i ≤ s.size := by omega
        have HQ : Hid (i = s.size) := heq
        clear heq
        cases bb with
        | true =>
          have HN2 : Hid (Tst s.data.toList T (xs ++ [nn]) 0 false (i + 1)) := HN
          clear HN
          go_wp2_with (at_builtin; refine wpList_append_own _ rfl _ _ 119 rfl w.heap.size 21 i0 (.int .i32 0) 1 4 Tryd.underlying119 hi hz0 hz1 hz2 rfl (by decide) _ xs.length _ rfl (hrow.alloc _) ⟨wr.heap.size, 0, none⟩ 1 1 [.int .i32 nn] rfl rfl (cell_new1 _ _ _) (by simp [Value.oneCell']) (by unfold maxLen; omega) (by omega) (by simp; omega) ?_; intro v3 w3 hrow3 hg3 _)
          exact ⟨⟨i + 1, xs ++ [nn], 0, false, HN2, rfl, rfl, by go_num, by omega, by rw [ints_snoc, List.length_append]; exact hrow3, (hB.alloc hBs _).grown hg3 (by simp; omega) (fun j e => (hrow.lt j e).1)⟩, by simp [intOf]; omega⟩
        | false =>
          have HN2 : Hid (Tst s.data.toList T xs 0 false (i + 1)) := by have h := HN; simp only [Bool.false_eq_true, if_false, List.append_nil] at h; exact h
          clear HN
          go_wp2
          exact ⟨⟨i + 1, xs, 0, false, HN2, rfl, rfl, by go_num, by omega, hrow, hB⟩, by simp [intOf]; omega⟩
      · have hxT : xs = T := by
          rcases HST.out.rest with ⟨h1, _⟩ | ⟨_, h2⟩
          · rw [HS.out] at h1; omega
          · exact h2
        clear HST
        have hTl : xs.length = 2 * l.length := by rw [hxT, ← HTT.out, flat_len]
        have hpos : 0 < l.length := List.length_pos_iff.2 HL0.out
        have HXT : Hid (xs = flat l) := by show xs = flat l; rw [hxT, HTT.out]
        clear hxT
        obtain ⟨g, cap, hg⟩ : ∃ g cap, u3 = .slice (some ⟨g, 0, none⟩) xs.length cap := by
          rcases hrow.2 with ⟨_, h2⟩ | ⟨g, cap, _, h2, _⟩
          · omega
          · exact ⟨g, cap, h2⟩
        subst hg
        have HC : Hid (∀ j, j < (flat l).length → wr.cell? ⟨g, j, none⟩ = some (.int .i32 ((flat l).getD j 0))) := fun j hj => by
          rw [hrow.cellAt j (by rw [HXT.out]; omega), HXT.out]
          simp [ints, hj]
        have hgl : g < wr.heap.size := (hrow.lt g rfl).2
        obtain ⟨N, hN⟩ : ∃ N, l.length = N := ⟨_, rfl⟩
        have HLN : Hid (l.length = N) := hN
        obtain ⟨m, hm⟩ : ∃ m, xs.length = m := ⟨_, rfl⟩
        have HM : Hid (m = 2 * N) := by show m = 2 * N; omega
        have hm2 : m ≤ 2000 := by have := HL.out; omega
        rw [hm]
        clear hrow hTl hpos hN hm
        generalize hW : wr = W1 at *
        clear hW
        have hdec : decide (i ≤ s.size) = false := decide_eq_false (by omega)
        go_wp2
        clear hdec
        clear hs H0 HS HTT hlt heq hi1 hlo hhi hxl HXT HL0
        go_loopw [8, 9] (fun v t wr => ∃ k i : Nat, k ≤ N ∧ Hid (i = 2 * k) ∧ t = .int .i64 i ∧ i ≤ m ∧ wr.ownsRow W1.heap.size 118 2 v k (rcells (l.take k)) ∧ Below W1.heap.size W1 wr) (fun _ t _ => m - (intOf t).toNat)
        case atStart => exact ⟨0, 0, Nat.zero_le _, rfl, rfl, Nat.zero_le _, World.ownsRow_nil _ _ _ _, Below.refl _ _⟩
        case round =>
          obtain ⟨k, i, hk, HI, rfl, him, hrow, hB2⟩ := hrel
          by_cases hlt : i < m
          · have hkN : k < N := by have := HM.out; have := HI.out; omega
            obtain ⟨f1, f2⟩ := flat_get l k (by have := HLN.out; omega)
            have hfl := flat_len l
            have c1 : wr.cell? ⟨g, i, none⟩ = some (.int .i32 (l.getD k (0, 0)).1) := by
              rw [← f1, ← HI.out]; exact (hB2.cell (p := ⟨g, i, none⟩) hgl).trans (HC.out i (by have := HM.out; have := HLN.out; omega))
            have c2 : wr.cell? ⟨g, i + 1, none⟩ = some (.int .i32 (l.getD k (0, 0)).2) := by
              rw [← f2, ← HI.out]; exact (hB2.cell (p := ⟨g, i + 1, none⟩) hgl).trans (HC.out (i + 1) (by have := HM.out; have := HLN.out; have := HI.out; omega))
            have HT : Hid (rcells (l.take (k + 1)) = rcells (l.take k) ++ [.int .i32 (l.getD k (0, 0)).1, .int .i32 (l.getD k (0, 0)).2]) := by
              show rcells (l.take (k + 1)) = _
              rw [take_snoc l k (by have := HLN.out; omega), rcells_snoc]
            have hi1 : (i : Int) + 1 < m := by have := HM.out; have := HI.out; omega
            have hi0 : (i : Int) < m := by omega
            have hBs2 := hB2.size
            have hk2 : k ≤ 1000 := by have := HLN.out; have := HL.out; omega
            have HK : Hid (k + 1 ≤ N) := hkN
            clear f1 f2 hfl hk hlt hkN
            generalize (l.getD k (0, 0)).1 = x1 at c1 HT
            generalize (l.getD k (0, 0)).2 = x2 at c2 HT
            have hwr : IntKind.i64.wrap ((i : Int) + 1) = (i : Int) + 1 := by rw [IntKind.wrap_i64]; omega
            have htn : ((i : Int) + 1).toNat = i + 1 := by omega
            have hge : (0 : Int) ≤ (i : Int) + 1 := by omega
            go_wp2
            go_region_law (refine step_append_own rfl (.tmp 42) (.tmp 53) 108 rfl W1.heap.size 118 j0 _ 2 8 Tryd.underlying108 ji jz0 jz1 jz2 rfl (by decide) _ k _ rfl (hrow.drew.alloc _) ⟨wr.heap.size, 0, none⟩ 1 1 [.int .i32 x1, .int .i32 x2] rfl rfl (cell_two_new _ _ _ _) (by simp [Value.oneCell']) (by unfold maxLen; omega) (by omega) (by simp; omega) ?_; intro v3 w3 hrow3 hg3)
            all_goals go_wp2
            all_goals go_roundw
            case rel => exact ⟨k + 1, i + 2, HK.out, by have := HI.out; show i + 2 = 2 * (k + 1); omega, by go_num, by have := HM.out; have := HI.out; have := HK.out; omega, by rw [HT.out]; exact hrow3, ((below_drew hB2).alloc hBs2 _).grown hg3 (by simp; omega) (fun j e => (hrow.lt j e).1)⟩
            case measure => simp [intOf]; omega
            case rel => exact ⟨k + 1, i + 2, HK.out, by have := HI.out; show i + 2 = 2 * (k + 1); omega, by go_num, by have := HM.out; have := HI.out; have := HK.out; omega, by rw [HT.out]; exact hrow3, ((below_drew hB2).alloc hBs2 _).grown hg3 (by simp; omega) (fun j e => (hrow.lt j e).1)⟩
            case measure => simp [intOf]; omega
          · have hkN : k = N := by have := HM.out; have := HI.out; omega
            have hrow2 : wr.ownsRow W1.heap.size 118 2 u8 l.length (rcells l) := by
              have h := hrow
              rw [show l.take k = l by rw [hkN, ← HLN.out, List.take_length], hkN, ← HLN.out] at h
              exact h
            have HR : Hid _ := hrow2
            have hnl : ¬ (i : Int) + 1 < m := by omega
            clear hrow hrow2 hkN
            go_wp2
            go_ret
            exact ⟨_, rfl, row_mono HR.out hBs, hB.trans (hB2.mono hBs)⟩
end Go.Proofs.YtfjoklbiocniiaaDoor
namespace Go.Proofs.YtfjoklbiocniiaaDoor
open Go.RowKit Wid

/-- a slice value that reads as the ranges l -/
def Rg (W : World) (v : Value) (l : List (Int × Int)) : Prop :=
  ∃ a cap, v = .slice a l.length cap ∧ (l.length ≠ 0 → ∃ b, a = some ⟨b, 0, none⟩ ∧ ∀ j, j < l.length → W.cell? ⟨b, j * 2, none⟩ = some (.int .i32 (l.getD j (0, 0)).1) ∧ W.cell? ⟨b, j * 2 + 1, none⟩ = some (.int .i32 (l.getD j (0, 0)).2))
theorem rcells_get : ∀ (l : List (Int × Int)) (j : Nat), j < l.length → (rcells l)[j * 2]? = some (.int .i32 (l.getD j (0, 0)).1) ∧ (rcells l)[j * 2 + 1]? = some (.int .i32 (l.getD j (0, 0)).2)
  | [], _, h => by simp at h
  | p :: r, 0, _ => by simp [rcells]
  | p :: r, j + 1, h => by
    have := rcells_get r j (by simpa using h)
    simp only [rcells, List.flatMap_cons, List.getD_cons_succ] at this ⊢
    rw [show (j + 1) * 2 = j * 2 + 2 by omega]
    simpa using this
theorem Rg.of_own {W : World} {base : Nat} {v : Value} {l : List (Int × Int)} (h : W.ownsRow base 118 2 v l.length (rcells l)) : Rg W v l := by
  rcases h.2 with ⟨rfl, h0⟩ | ⟨g, cap, cur, rfl, _⟩
  · exact ⟨none, 0, by rw [h0], fun q => absurd h0 q⟩
  · refine ⟨_, cap, rfl, fun _ => ⟨g, rfl, fun j hj => ?_⟩⟩
    obtain ⟨e1, e2⟩ := rcells_get l j hj
    exact ⟨(h.cellAt (j * 2) (by omega)).trans e1, (h.cellAt (j * 2 + 1) (by omega)).trans e2⟩

theorem inR_take (l : List (Int × Int)) (c : Int) (k : Nat) (hk : k < l.length) : inR (l.take (k + 1)) c = (inR (l.take k) c || (decide ((l.getD k (0, 0)).1 ≤ c) && decide (c ≤ (l.getD k (0, 0)).2))) := by
  rw [take_snoc l k hk]; simp [inR]
theorem inR_hit (l : List (Int × Int)) (c : Int) (k : Nat) (hk : k < l.length) (h1 : (l.getD k (0, 0)).1 ≤ c) (h2 : c ≤ (l.getD k (0, 0)).2) : inR l c = true := by
  unfold inR
  rw [List.any_eq_true]
  refine ⟨l.getD k (0, 0), ?_, by rw [decide_eq_true h1, decide_eq_true h2]; rfl⟩
  simp [List.getD, hk]
theorem ret_b {a b : Bool} (h : a = b) : Ending.returned (.bool a) = Ending.returned (.bool b) := by rw [h]

set_option maxRecDepth 100000 in
set_option maxHeartbeats 1000000 in
theorem within_core (l : List (Int × Int)) (c : Int) (b cap n : Nat) (w : World) (hn : n = l.length) (hl : n ≤ 1000) (h : ∀ j, j < l.length → w.cell? ⟨b, j * 2, none⟩ = some (.int .i32 (l.getD j (0, 0)).1) ∧ w.cell? ⟨b, j * 2 + 1, none⟩ = some (.int .i32 (l.getD j (0, 0)).2)) :
    Calls Tryd.prog 62 #[.slice (some ⟨b, 0, none⟩) n cap, .int .i32 c] w fun e w' => e = .returned (.bool (inR l c)) ∧ w = w' := by
  have HC : Hid _ := h
  have HN : Hid (n = l.length) := hn
  clear h hn
  go_enter Tryd.func62, Tryd.ntmps62
  go_wp2
  go_loopw [5] (fun t wr => ∃ k : Nat, k ≤ n ∧ t = .int .i64 k ∧ Hid (inR (l.take k) c = false) ∧ w = wr) (fun t _ => n - (intOf t).toNat)
  case atStart => exact ⟨0, Nat.zero_le _, rfl, rfl, rfl⟩
  case round =>
    obtain ⟨k, hk, rfl, HF, rfl⟩ := hrel
    by_cases hlt : k < n
    · obtain ⟨c1, c2⟩ := HC.out k (by rw [← HN.out]; exact hlt)
      have HT := inR_take l c k (by rw [← HN.out]; exact hlt)
      have HI := inR_hit l c k (by rw [← HN.out]; exact hlt)
      rw [HF.out, Bool.false_or] at HT
      have HT2 : Hid _ := HT
      have HI2 : Hid _ := HI
      clear HT HI HF
      generalize (l.getD k (0, 0)).1 = x1 at c1 HT2 HI2
      generalize (l.getD k (0, 0)).2 = x2 at c2 HT2 HI2
      by_cases g1 : x1 ≤ c
      · by_cases g2 : c ≤ x2
        · go_wp2
          go_ret
          exact ⟨ret_b (HI2.out g1 g2).symm, rfl⟩
        · go_wp2
          exact ⟨⟨k + 1, by omega, by go_num, by show _ = false; rw [HT2.out]; simp; omega, trivial⟩, by simp [intOf]; omega⟩
      · go_wp2
        exact ⟨⟨k + 1, by omega, by go_num, by show _ = false; rw [HT2.out]; simp; omega, trivial⟩, by simp [intOf]; omega⟩
    · have HE : Hid (inR l c = false) := by
        have h2 := HF.out
        rw [List.take_of_length_le (by rw [← HN.out]; omega)] at h2
        exact h2
      clear HF
      go_wp2
      go_ret
      exact ⟨ret_b HE.out.symm, rfl⟩
set_option maxRecDepth 100000 in
set_option maxHeartbeats 1000000 in
theorem within_none (a : Option Addr) (c : Int) (cap : Nat) (w : World) : Calls Tryd.prog 62 #[.slice a 0 cap, .int .i32 c] w fun e w' => e = .returned (.bool false) ∧ w = w' := by
  go_enter Tryd.func62, Tryd.ntmps62
  go_wp2
  go_loopw [5] (fun t wr => t = .int .i64 0 ∧ w = wr) (fun _ _ => 0)
  case atStart => exact ⟨rfl, rfl⟩
  case round =>
    obtain ⟨rfl, rfl⟩ := hrel
    go_wp2
    go_ret
    exact ⟨rfl, rfl⟩
theorem within_list (l : List (Int × Int)) (c : Int) (v : Value) (w : World) (hl : l.length ≤ 1000) (h : Rg w v l) : Calls Tryd.prog 62 #[v, .int .i32 c] w fun e w' => e = .returned (.bool (inR l c)) ∧ w = w' := by
  obtain ⟨a, cap, rfl, hr⟩ := h
  by_cases h0 : l.length = 0
  · rw [List.length_eq_zero_iff.1 h0]; exact within_none a c cap w
  · obtain ⟨b, rfl, hc⟩ := hr h0
    exact within_core l c b cap l.length w rfl hl hc

/-- what is known of the tables' texts -/
theorem mk_ne : mk ≠ [] := by decide
theorem wd_ne : wd ≠ [] := by decide

set_option maxHeartbeats 4000000 in
set_option maxRecDepth 100000 in
theorem rclass_high (c : Int) (hv : ¬ bad c) (h0 : 768 ≤ c) (w : World) :
    Calls Tryd.prog 40 #[.int .i32 c] w fun e w' => e = .returned (.int .i64 (if inR mk c = true then 3 else if inR wd c = true then 4 else 0)) ∧ Below w.heap.size w w' := by
  have n0 : ¬ c < 0 := by omega
  have n6 : ¬ 1114111 < c := by unfold bad at hv; omega
  have n7 : c < 55296 ∨ 57343 < c := by unfold bad at hv; omega
  have n1 : ¬ c = 10 := by omega
  have n2 : ¬ c ≤ 31 := by omega
  have n3 : ¬ c ≤ 159 := by omega
  have n4 : ¬ c < 768 := by omega
  have n5 : 127 ≤ c := by omega
  have AM : Hid (∀ (W : World) (v : Value), Rg W v mk → Calls Tryd.prog 62 #[v, .int .i32 c] W fun e w' => e = .returned (.bool (inR mk c)) ∧ W = w') := fun W v h => within_list mk c v W (by decide) h
  have AW : Hid (∀ (W : World) (v : Value), Rg W v wd → Calls Tryd.prog 62 #[v, .int .i32 c] W fun e w' => e = .returned (.bool (inR wd c)) ∧ W = w') := fun W v h => within_list wd c v W (by decide) h
  generalize inR mk c = bm at AM
  generalize inR wd c = bw at AW
  clear hv h0
  rcases n7 with n7 | n7
  · have n8 : ¬ 55296 ≤ c := by omega
    have T1 : True := trivial
    have T2 : True := trivial
    cases bm with
    | true =>
      go_enter Tryd.func40, Tryd.ntmps40
      go_wp2_with (first | (go_at_call 63; have hq := T1; clear hq T1; refine (table_any _ mk (by decide +kernel) mk_ne (by decide) (by kernel_rfl) (by kernel_rfl) _).mono ?_; rintro e w1 ⟨v1, rfl, hrow1, hb1⟩) | (go_at_call 62; have hq := T2; clear hq T2; refine (AM.out _ _ (Rg.of_own hrow1)).mono ?_; rintro e w2 ⟨rfl, rfl⟩))
      all_goals go_ret
      all_goals exact ⟨rfl, hb1⟩
    | false =>
      cases bw with
      | true =>
        go_enter Tryd.func40, Tryd.ntmps40
        go_wp2_with (first | (go_at_call 63; have hq := T1; clear hq T1; refine (table_any _ mk (by decide +kernel) mk_ne (by decide) (by kernel_rfl) (by kernel_rfl) _).mono ?_; rintro e w1 ⟨v1, rfl, hrow1, hb1⟩) | (go_at_call 62; have hq := T2; clear hq T2; refine (AM.out _ _ (Rg.of_own hrow1)).mono ?_; rintro e w2 ⟨rfl, rfl⟩) | (go_at_call 63; refine (table_any _ wd (by decide +kernel) wd_ne (by decide) (by kernel_rfl) (by kernel_rfl) _).mono ?_; rintro e w3 ⟨v3, rfl, hrow3, hb3⟩) | (go_at_call 62; refine (AW.out _ _ (Rg.of_own hrow3)).mono ?_; rintro e w4 ⟨rfl, rfl⟩))
        all_goals go_ret
        all_goals exact ⟨rfl, hb1.trans (hb3.mono hb1.size)⟩
      | false =>
        go_enter Tryd.func40, Tryd.ntmps40
        go_wp2_with (first | (go_at_call 63; have hq := T1; clear hq T1; refine (table_any _ mk (by decide +kernel) mk_ne (by decide) (by kernel_rfl) (by kernel_rfl) _).mono ?_; rintro e w1 ⟨v1, rfl, hrow1, hb1⟩) | (go_at_call 62; have hq := T2; clear hq T2; refine (AM.out _ _ (Rg.of_own hrow1)).mono ?_; rintro e w2 ⟨rfl, rfl⟩) | (go_at_call 63; refine (table_any _ wd (by decide +kernel) wd_ne (by decide) (by kernel_rfl) (by kernel_rfl) _).mono ?_; rintro e w3 ⟨v3, rfl, hrow3, hb3⟩) | (go_at_call 62; refine (AW.out _ _ (Rg.of_own hrow3)).mono ?_; rintro e w4 ⟨rfl, rfl⟩))
        all_goals go_ret
        all_goals exact ⟨rfl, hb1.trans (hb3.mono hb1.size)⟩
  · have n8 : ¬ c ≤ 57343 := by omega
    have T1 : True := trivial
    have T2 : True := trivial
    cases bm with
    | true =>
      go_enter Tryd.func40, Tryd.ntmps40
      go_wp2_with (first | (go_at_call 63; have hq := T1; clear hq T1; refine (table_any _ mk (by decide +kernel) mk_ne (by decide) (by kernel_rfl) (by kernel_rfl) _).mono ?_; rintro e w1 ⟨v1, rfl, hrow1, hb1⟩) | (go_at_call 62; have hq := T2; clear hq T2; refine (AM.out _ _ (Rg.of_own hrow1)).mono ?_; rintro e w2 ⟨rfl, rfl⟩))
      all_goals go_ret
      all_goals exact ⟨rfl, hb1⟩
    | false =>
      cases bw with
      | true =>
        go_enter Tryd.func40, Tryd.ntmps40
        go_wp2_with (first | (go_at_call 63; have hq := T1; clear hq T1; refine (table_any _ mk (by decide +kernel) mk_ne (by decide) (by kernel_rfl) (by kernel_rfl) _).mono ?_; rintro e w1 ⟨v1, rfl, hrow1, hb1⟩) | (go_at_call 62; have hq := T2; clear hq T2; refine (AM.out _ _ (Rg.of_own hrow1)).mono ?_; rintro e w2 ⟨rfl, rfl⟩) | (go_at_call 63; refine (table_any _ wd (by decide +kernel) wd_ne (by decide) (by kernel_rfl) (by kernel_rfl) _).mono ?_; rintro e w3 ⟨v3, rfl, hrow3, hb3⟩) | (go_at_call 62; refine (AW.out _ _ (Rg.of_own hrow3)).mono ?_; rintro e w4 ⟨rfl, rfl⟩))
        all_goals go_ret
        all_goals exact ⟨rfl, hb1.trans (hb3.mono hb1.size)⟩
      | false =>
        go_enter Tryd.func40, Tryd.ntmps40
        go_wp2_with (first | (go_at_call 63; have hq := T1; clear hq T1; refine (table_any _ mk (by decide +kernel) mk_ne (by decide) (by kernel_rfl) (by kernel_rfl) _).mono ?_; rintro e w1 ⟨v1, rfl, hrow1, hb1⟩) | (go_at_call 62; have hq := T2; clear hq T2; refine (AM.out _ _ (Rg.of_own hrow1)).mono ?_; rintro e w2 ⟨rfl, rfl⟩) | (go_at_call 63; refine (table_any _ wd (by decide +kernel) wd_ne (by decide) (by kernel_rfl) (by kernel_rfl) _).mono ?_; rintro e w3 ⟨v3, rfl, hrow3, hb3⟩) | (go_at_call 62; refine (AW.out _ _ (Rg.of_own hrow3)).mono ?_; rintro e w4 ⟨rfl, rfl⟩))
        all_goals go_ret
        all_goals exact ⟨rfl, hb1.trans (hb3.mono hb1.size)⟩
theorem ten_ne : [((10 : Int), (10 : Int))] ≠ [] := by decide
theorem ctl_ne : [((0 : Int), (9 : Int)), (11, 31), (127, 159)] ≠ [] := by decide
set_option maxHeartbeats 2000000 in
set_option maxRecDepth 100000 in
theorem rclass_bad (c : Int) (hv : bad c) (w : World) : Calls Tryd.prog 40 #[.int .i32 c] w fun e w' => e = .returned (.int .i64 5) ∧ w = w' := by
  unfold bad at hv
  by_cases h1 : c < 0
  · clear hv
    go_enter Tryd.func40, Tryd.ntmps40
    go_wp2
    go_ret
    exact ⟨rfl, rfl⟩
  · by_cases h2 : 1114111 < c
    · clear hv
      go_enter Tryd.func40, Tryd.ntmps40
      go_wp2
      go_ret
      exact ⟨rfl, rfl⟩
    · have h3 : 55296 ≤ c := by omega
      have h4 : c ≤ 57343 := by omega
      clear hv
      go_enter Tryd.func40, Tryd.ntmps40
      go_wp2
      go_ret
      exact ⟨rfl, rfl⟩
set_option maxHeartbeats 2000000 in
set_option maxRecDepth 100000 in
theorem rclass_low (c : Int) (hv : ¬ bad c) (h0 : c < 768) (w : World) : Calls Tryd.prog 40 #[.int .i32 c] w fun e w' => e = .returned (.int .i64 (if c = 10 then 1 else if c ≤ 31 ∨ (127 ≤ c ∧ c ≤ 159) then 2 else 0)) ∧ w = w' := by
  have n0 : ¬ c < 0 := by unfold bad at hv; omega
  have n6 : ¬ 1114111 < c := by omega
  have n7 : ¬ 55296 ≤ c := by omega
  clear hv
  have W : ∀ n : Int, c ≠ 10 → (c ≤ 31 ∧ n = 2 ∨ 32 ≤ c ∧ c < 127 ∧ n = 0 ∨ 127 ≤ c ∧ c ≤ 159 ∧ n = 2 ∨ 159 < c ∧ n = 0) → Calls Tryd.prog 40 #[.int .i32 c] w fun e w' => e = .returned (.int .i64 n) ∧ w = w' := by
    rintro n g0 (⟨g1, rfl⟩ | ⟨g1, g2, rfl⟩ | ⟨g1, g2, rfl⟩ | ⟨g1, rfl⟩)
    · go_enter Tryd.func40, Tryd.ntmps40
      go_wp2
      go_ret
      exact ⟨rfl, rfl⟩
    · have g3 : ¬ c ≤ 31 := by omega
      have g4 : ¬ 127 ≤ c := by omega
      go_enter Tryd.func40, Tryd.ntmps40
      go_wp2
      go_ret
      exact ⟨rfl, rfl⟩
    · have g3 : ¬ c ≤ 31 := by omega
      go_enter Tryd.func40, Tryd.ntmps40
      go_wp2
      go_ret
      exact ⟨rfl, rfl⟩
    · have g3 : ¬ c ≤ 31 := by omega
      have g4 : 127 ≤ c := by omega
      have g5 : ¬ c ≤ 159 := by omega
      go_enter Tryd.func40, Tryd.ntmps40
      go_wp2
      go_ret
      exact ⟨rfl, rfl⟩
  by_cases h1 : c = 10
  · subst h1
    clear W
    rw [if_pos rfl]
    go_enter Tryd.func40, Tryd.ntmps40
    go_wp2
    go_ret
    exact ⟨rfl, rfl⟩
  · rw [if_neg h1]
    refine W _ h1 ?_
    split <;> omega
/-- the reference's Class answers the class, whatever the number is -/
theorem rclass_any (c : Int) (w : World) : Calls Tryd.prog 40 #[.int .i32 c] w fun e w' => e = .returned (.int .i64 (cls c)) ∧ Below w.heap.size w w' := by
  by_cases hv : bad c
  · rw [show cls c = 5 from if_pos hv]
    exact (rclass_bad c hv w).mono fun e w' ⟨h1, h2⟩ => ⟨h1, h2 ▸ Below.refl _ _⟩
  · by_cases h0 : c < 768
    · rw [show cls c = (if c = 10 then 1 else if c ≤ 31 ∨ (127 ≤ c ∧ c ≤ 159) then 2 else 0) by unfold cls; rw [if_neg hv, if_pos h0]]
      exact (rclass_low c hv h0 w).mono fun e w' ⟨h1, h2⟩ => ⟨h1, h2 ▸ Below.refl _ _⟩
    · rw [show cls c = (if inR mk c = true then 3 else if inR wd c = true then 4 else 0) by unfold cls; rw [if_neg hv, if_neg (by omega), if_neg (by omega), if_neg h0]]
      exact rclass_high c hv (by omega) w
set_option maxHeartbeats 2000000 in
set_option maxRecDepth 100000 in
/-- the reference's Cells answers the cells, whatever the number is -/
theorem rcells_any (c : Int) (w : World) : Calls Tryd.prog 41 #[.int .i32 c] w fun e w' => e = .returned (.int .i64 (cel c)) ∧ Below w.heap.size w w' := by
  have cC := rclass_any c w
  unfold cel
  have hr := cls_range c
  generalize cls c = k at cC hr
  rcases hr with rfl | rfl | rfl | rfl | rfl | rfl
  case inr.inr.inl =>
    by_cases h : c ≤ 127
    · rw [if_neg (by decide), if_neg (by decide), if_pos ⟨rfl, h⟩]
      go_enter Tryd.func41, Tryd.ntmps41
      go_wp2_with (go_at_call 40; refine cC.mono ?_; clear cC; rintro e w' ⟨rfl, hb⟩)
      go_ret
      exact ⟨rfl, hb⟩
    · rw [if_neg (by decide), if_neg (by decide), if_neg (fun q => h q.2)]
      go_enter Tryd.func41, Tryd.ntmps41
      go_wp2_with (go_at_call 40; refine cC.mono ?_; clear cC; rintro e w' ⟨rfl, hb⟩)
      go_ret
      exact ⟨rfl, hb⟩
  all_goals
    go_enter Tryd.func41, Tryd.ntmps41
    go_wp2_with (go_at_call 40; refine cC.mono ?_; clear cC; rintro e w' ⟨rfl, hb⟩)
    go_ret
    exact ⟨rfl, hb⟩

end Go.Proofs.YtfjoklbiocniiaaDoor
