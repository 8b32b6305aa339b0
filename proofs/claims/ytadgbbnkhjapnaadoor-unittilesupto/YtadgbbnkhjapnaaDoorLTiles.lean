/-
  The walk of the law UnitTiles: for every text of at most 1048576 letters it returns true: the units lie one behind the other and have all the bytes; a good one's bytes are its character's encoding, and no bad one begins an encoding. Conditions: the two tables of unicode/utf8 lie as their text lays them.
-/
import Derived.Test.YtadgbbnkhjapnaaDoorUCuts
import Derived.Test.YtadgbbnkhjapnaaDoorUAlike
import Derived.Test.YtadgbbnkhjapnaaDoorUMathD
import Derived.Test.YtadgbbnkhjapnaaDoorUEnc
namespace Go.Proofs.YtadgbbnkhjapnaaDoor.unitTiles
open Go.RowKit Bod

theorem enc_good {s : ByteArray} {a : Nat} (ha : a < s.size) (hc : 0 ≤ ch s a) : (⟨(encs [ch s a]).toArray⟩ : ByteArray) = s.extract a (a + sz s a) := by
  obtain ⟨h1, h2⟩ := good_bytes ha hc
  have : encs [ch s a] = (s.extract a (a + sz s a)).data.toList := by simp [encs, h1, h2]
  rw [this]

set_option maxRecDepth 100000 in
set_option maxHeartbeats 4000000 in
theorem walk (s : ByteArray) (hs : s.size ≤ 1048576) (w : World) (hT : Lib.Utf8Tabs 0 1 w) (hlo0 : 0 < w.heap.size) (hlo1 : 1 < w.heap.size) :
    Calls Tryd.prog 7 #[.string s] w fun e w' => e = .returned (.bool true) ∧ Below w.heap.size w w' := by
  have hs' : s.size ≤ maxLen := by unfold maxLen; omega
  have CC : Hid (Calls Tryd.prog 9 #[] w fun e w' => e = .returned (.bool true) ∧ Below w.heap.size w w') := cuts_any w hT hlo0 hlo1
  obtain ⟨N, hN⟩ : ∃ N, (offs s 0).length = N := ⟨_, rfl⟩
  have hNs : N ≤ s.size := by rw [← hN]; exact offs_len_le s
  have CT : Hid (∀ (W : World), Below w.heap.size w W → Calls Tryd.prog 12 #[.string s] W fun e W' => ∃ g, e = .returned (.slice (some ⟨g, 0, none⟩) N N) ∧ (∀ j, j < N → W'.cell? ⟨g, j * 2, none⟩ = some (.int .i32 (chAt s (offs s 0) j)) ∧ W'.cell? ⟨g, j * 2 + 1, none⟩ = some (.int .i64 (szAt s (offs s 0) j))) ∧ g < W'.heap.size ∧ Below w.heap.size w W') := fun W hb => by
    refine (units_any s hs' (by omega) W (tabs_below hT hb) (Nat.lt_of_lt_of_le hlo0 hb.size) (Nat.lt_of_lt_of_le hlo1 hb.size)).mono ?_
    rintro e W' ⟨g, rfl, hrow, hb2⟩
    refine ⟨g, by rw [hN], fun j hj => ?_, (hrow.lt g rfl).2, hb.trans (hb2.mono hb.size)⟩
    obtain ⟨e1, e2⟩ := ucells_get s (offs s 0) j (by omega)
    exact ⟨(hrow.cellAt (j * 2) (by omega)).trans e1, (hrow.cellAt (j * 2 + 1) (by omega)).trans e2⟩
  have CP : Hid (∀ (W : World), Below w.heap.size w W → ∀ (p : ByteArray), p.size ≤ 4 → 1 ≤ p.size → Calls Tryd.prog 12 #[.string p] W fun e W' => ∃ g n, 1 ≤ n ∧ n ≤ 4 ∧ e = .returned (.slice (some ⟨g, 0, none⟩) n n) ∧ W'.cell? ⟨g, 0, none⟩ = some (.int .i32 (ch p 0)) ∧ Below W.heap.size W W') := fun W hb p hp hp1 => by
    have hl := offs_len_le p
    have hst := offs_step (s := p) (i := 0) (by omega)
    refine (units_any p (by unfold maxLen; omega) (by omega) W (tabs_below hT hb) (Nat.lt_of_lt_of_le hlo0 hb.size) (Nat.lt_of_lt_of_le hlo1 hb.size)).mono ?_
    rintro e W' ⟨g, rfl, hrow, hb2⟩
    have hpos : 1 ≤ (offs p 0).length := by rw [hst]; simp
    refine ⟨g, (offs p 0).length, hpos, by omega, rfl, ?_, hb2⟩
    have e1 := (ucells_get p (offs p 0) 0 (by omega)).1
    have e2 := hrow.cellAt 0 (by omega)
    rw [e2, e1, hst]
    rfl
  have HN : Hid ((offs s 0).length = N) := hN
  clear hN hT hlo0 hlo1
  go_enter Tryd.func7, Tryd.ntmps7
  go_wp2_with (first | (go_at_call 9; refine (Hid.out CC).mono ?_; rintro e w1 ⟨rfl, hb1⟩; have hB : Hid (Below w.heap.size w w1) := hb1; clear hb1) | (go_at_call 12; refine (CT.out _ hB.out).mono ?_; clear hB; rintro e W2 ⟨g, rfl, hcells, hg, hb1⟩; have hB2 : Hid (Below w.heap.size w W2) := hb1; have HC : Hid _ := hcells; clear hb1 hcells))
  go_loopw [3, 14] (fun t c wr => ∃ (pre : List Nat) (a : Nat), t = .int .i64 a ∧ c = .int .i64 pre.length ∧ pre.length ≤ N ∧ a ≤ s.size ∧ pre ++ offs s a = offs s 0 ∧ Below W2.heap.size W2 wr) (fun _ c _ => N - (intOf c).toNat)
  case atStart => exact ⟨[], 0, rfl, rfl, by simp, by omega, rfl, Below.refl _ _⟩
  case round =>
    obtain ⟨pre, a, rfl, rfl, hpl, has, hpre, hBw⟩ := hrel
    have HP : Hid (pre ++ offs s a = offs s 0) := hpre
    clear hpre
    have hB : Hid (Below W2.heap.size W2 wr) := hBw
    clear hBw
    by_cases hlt : pre.length < N
    · have ha : a < s.size := by
        by_cases h : a < s.size
        · exact h
        · have := HP.out; rw [offs_end (by omega)] at this
          have h2 := HN.out; rw [← this] at h2; simp at h2; omega
      have hget : (offs s 0).getD pre.length 0 = a := by rw [← HP.out, offs_step ha]; simp
      obtain ⟨c0, c1⟩ := HC.out pre.length hlt
      unfold chAt at c0
      unfold szAt at c1
      rw [hget] at c0 c1
      have d0 : wr.cell? ⟨g, pre.length * 2, none⟩ = some (.int .i32 (ch s a)) := (hB.out.cell (p := ⟨g, pre.length * 2, none⟩) hg).trans c0
      have d1 : wr.cell? ⟨g, pre.length * 2 + 1, none⟩ = some (.int .i64 (sz s a)) := (hB.out.cell (p := ⟨g, pre.length * 2 + 1, none⟩) hg).trans c1
      clear c0 c1 hget
      have hz1 := sz_pos ha
      have hz4 := sz_le ha
      have hzi := sz_in ha
      by_cases hc : 0 ≤ ch s a
      · have hce := enc_good ha hc
        have hcb := ch_bd s a
        obtain ⟨c, hcc⟩ : ∃ c, ch s a = c := ⟨_, rfl⟩
        obtain ⟨z, hzz⟩ : ∃ z, sz s a = z := ⟨_, rfl⟩
        rw [hcc] at d0 hc hce hcb
        rw [hzz] at d1 hz1 hz4 hzi hce
        have cE : ∀ W : World, W.cell? ⟨wr.heap.size + 1, 0, none⟩ = some (.int .i32 c) → wr.heap.size + 1 < W.heap.size → Calls Tryd.prog 16 #[.slice (some ⟨wr.heap.size + 1, 0, none⟩) 1 1] W fun e w' => e = .returned (.string (s.extract a (a + z))) ∧ Below W.heap.size W w' := fun W h1 h2 => by
          have h := encode_one c (wr.heap.size + 1) W (by omega) h1 h2
          rw [hce] at h
          exact h
        have HE : Hid _ := cE
        have HZ : Hid (sz s a = z) := hzz
        clear cE hce hcc hzz
        have t1 : ¬ (c < 0) := by omega
        have t2 : decide ((z : Int) < 1) = false := by simp; omega
        have t3 : decide (4 < (z : Int)) = false := by simp; omega
        have t4 : decide ((s.size : Int) < (a : Int) + (z : Int)) = false := by simp; omega
        go_wp2_with (go_at_call 16; refine (HE.out _ (by simp) (by simp)).mono ?_; rintro e w3 ⟨rfl, hb3⟩; obtain ⟨k1, k2⟩ := bcell hb3; have hz3 : wr.heap.size < w3.heap.size := by have := hb3.size; simp at this; omega)
        have e0 : w3.cell? ⟨wr.heap.size, 0, none⟩ = some (.int .i32 c) := by rw [k1 _ _ (by simp; omega)]; simp
        have e1 : w3.cell? ⟨wr.heap.size, 1, none⟩ = some (.int .i64 z) := by rw [k1 _ _ (by simp; omega)]; simp
        have hB3 : Hid (Below W2.heap.size W2 w3) := hB.out.trans ((((Below.refl _ wr).alloc (Nat.le_refl _) _).alloc (by simp) _).mono hB.out.size |>.trans (hb3.mono (by have := hB.out.size; simp; omega)))
        clear k1 k2 hb3 hB
        go_loopw [7] (fun t wr2 => t = .int .i64 1 ∧ wr2 = w3) (fun _ _ => 0)
        case atStart => exact ⟨rfl, rfl⟩
        case round =>
          obtain ⟨rfl, rfl⟩ := hrel
          go_wp2
          go_roundw
          case rel => exact ⟨pre ++ [a], a + z, by go_num, by simp, by simp; omega, by omega, by rw [← HP.out, offs_step ha, HZ.out]; simp, hB3.out⟩
          case measure => simp [intOf]; omega
      · obtain ⟨hcm, hz⟩ := ch_neg (s := s) (i := a) (by omega)
        have hbad : Hid (ch s a < 0) := show ch s a < 0 by omega
        have HZ : Hid (sz s a = 1) := hz
        rw [hcm] at d0
        rw [hz] at d1
        clear hcm hz hz1 hz4 hzi hc
        have t4 : decide ((s.size : Int) < (a : Int) + 1) = false := by simp; omega
        go_wp2
        have e0 : (wr.alloc (.cells #[.int .i32 (-1), .int .i64 1] 36)).cell? ⟨wr.heap.size, 0, none⟩ = some (.int .i32 (-1)) := by simp
        have e1 : (wr.alloc (.cells #[.int .i32 (-1), .int .i64 1] 36)).cell? ⟨wr.heap.size, 1, none⟩ = some (.int .i64 1) := by simp
        obtain ⟨w3, hw3⟩ : ∃ w3, wr.alloc (.cells #[.int .i32 (-1), .int .i64 1] 36) = w3 := ⟨_, rfl⟩
        have hsz3 : wr.heap.size < w3.heap.size := by rw [← hw3]; simp
        have hB3 : Hid (Below W2.heap.size W2 w3) := by
          show Below W2.heap.size W2 w3
          rw [← hw3]; exact hB.out.alloc hB.out.size _
        rw [hw3] at e0 e1 ⊢
        obtain ⟨bu, hbu⟩ : ∃ bu, wr.heap.size = bu := ⟨_, rfl⟩
        rw [hbu] at e0 e1 hsz3 ⊢
        clear hw3 hB d0 d1 hbu
        go_loopw [7] (fun t wr2 => ∃ n : Nat, t = .int .i64 n ∧ 1 ≤ n ∧ n ≤ 5 ∧ Below w3.heap.size w3 wr2) (fun t _ => 5 - (intOf t).toNat)
        case atStart => exact ⟨1, rfl, by omega, by omega, Below.refl _ _⟩
        case round =>
          obtain ⟨n, rfl, hn1, hn5, hB4⟩ := hrel
          have f0 : wr.cell? ⟨bu, 0, none⟩ = some (.int .i32 (-1)) := (hB4.cell (p := ⟨bu, 0, none⟩) hsz3).trans e0
          have f1 : wr.cell? ⟨bu, 1, none⟩ = some (.int .i64 1) := (hB4.cell (p := ⟨bu, 1, none⟩) hsz3).trans e1
          have HB4 : Hid (Below w3.heap.size w3 wr) := hB4
          clear hB4 e0 e1
          by_cases g1 : n ≤ 4
          · by_cases g2 : (a : Int) + n ≤ s.size
            · have hbp := bad_piece (s := s) (i := a) (n := n) hbad.out hn1 (by omega)
              have hps := size_extract s a (a + n) (by omega)
              have cU := CP.out wr (hB2.out.trans ((hB3.out.trans (HB4.out.mono hB3.out.size)).mono hB2.out.size)) (s.extract a (a + n)) (by omega) (by omega)
              rw [hbp] at cU
              clear hbp hps
              go_wp2_with (go_at_call 12; refine cU.mono ?_; rintro e w5 ⟨g5, n5, q1, q2, rfl, q3, q4⟩)
              exact ⟨⟨n + 1, by go_num, by omega, by omega, HB4.out.trans (q4.mono HB4.out.size)⟩, by simp [intOf]; omega⟩
            · go_wp2
              exact ⟨⟨pre ++ [a], a + 1, by go_num, by simp, by simp; omega, by omega, by rw [← HP.out, offs_step ha, HZ.out]; simp, hB3.out.trans (HB4.out.mono hB3.out.size)⟩, by simp [intOf]; omega⟩
          · go_wp2
            exact ⟨⟨pre ++ [a], a + 1, by go_num, by simp, by simp; omega, by omega, by rw [← HP.out, offs_step ha, HZ.out]; simp, hB3.out.trans (HB4.out.mono hB3.out.size)⟩, by simp [intOf]; omega⟩
    · have ha : a = s.size := by
        by_cases h : a < s.size
        · have h2 := HN.out
          rw [← HP.out, offs_step h] at h2; simp at h2; omega
        · omega
      subst ha
      go_wp2
      go_ret
      exact ⟨rfl, hB2.out.trans (hB.out.mono hB2.out.size)⟩

theorem walk_of {H : Type} (s : ByteArray) (w : World) (hT : Lib.Utf8Tabs 0 1 w) (hlo0 : 0 < w.heap.size) (hlo1 : 1 < w.heap.size) (_hs : s.size ≤ 140737488351232) (hk : Rows.uptoSmall H ([DataW.lit (.string s.data.toList)] ++ []) = true) :
    Calls Tryd.prog 7 #[.string s] w fun e w' => e = .returned (.bool true) ∧ Below w.heap.size w w' := by
  have h : Rows.uptoBulkAll ([DataW.lit (H := H) (.string s.data.toList)] ++ []) ≤ 1048576 := of_decide_eq_true hk
  simp only [List.append_nil, Rows.uptoBulkAll, Rows.uptoBulk] at h
  exact walk s (by rw [Lib.size_eq]; omega) w hT hlo0 hlo1
end Go.Proofs.YtadgbbnkhjapnaaDoor.unitTiles
