/-
  The walks of the document's answer on beginnings: tried, Begun. Conditions: what is handed in can be read.
-/
import Derived.Test.YtadgbbnkhjapnaaDoorUBuf
import Derived.Lib.AppendZeros
namespace Go.Proofs.YtadgbbnkhjapnaaDoor
open Go.RowKit Bod

set_option maxRecDepth 100000 in
set_option maxHeartbeats 1000000 in
theorem tried_any (base bL cL bH cH n : Nat) (zl zh : List Int) (w : World) (hL : Buf base w bL cL zl) (hH : Buf base w bH cH zh) (hn : n < zl.length) (hl : zl.length ≤ 1000) (hh : 1 ≤ zh.length) (rl : ∀ z ∈ zl, 0 ≤ z ∧ z < 256) (rh : ∀ z ∈ zh, 0 ≤ z ∧ z < 256) :
    Calls Tryd.prog 42 #[.slice (some ⟨bL, 0, none⟩) zl.length cL, .slice (some ⟨bH, 0, none⟩) zh.length cH, .int .i64 n] w fun e w' => ∃ r : Bool, e = .returned (.bool r) ∧ (r = true ↔ Tried zl zh n) ∧ Below base w w' := by
  have kl := hL.conv rl
  have kh := hH.conv rh
  have cB : ∀ (zs : List Int) (W : World), 1 ≤ zs.length → Calls Tryd.prog 25 #[.string (txt zs)] W fun e w' => e = .returned (.int .i32 (ch (txt zs) 0)) ∧ W = w' := fun zs W h => begins_any (txt zs) (by rw [txt_size]; exact h) W
  have CB : Hid (∀ (zs : List Int) (W : World), 1 ≤ zs.length → Calls Tryd.prog 25 #[.string (txt zs)] W fun e w' => e = .returned (.int .i32 (ch (txt zs) 0)) ∧ W = w') := cB
  clear cB
  by_cases g1 : 0 ≤ ch (txt zl) 0
  · have HT : Hid (Tried zl zh n) := .inl g1
    clear kh
    go_enter Tryd.func42, Tryd.ntmps42
    go_wp2_with (go_at_call 25; refine (CB.out _ _ (by omega)).mono ?_; rintro e w1 ⟨rfl, rfl⟩)
    go_ret
    exact ⟨true, rfl, ⟨fun _ => HT.out, fun _ => rfl⟩, Below.refl _ _⟩
  · by_cases g2 : 0 ≤ ch (txt zh) 0
    · have HT : Hid (Tried zl zh n) := .inr (.inl g2)
      go_enter Tryd.func42, Tryd.ntmps42
      go_wp2_with (go_at_call 25; refine (CB.out _ _ (by omega)).mono ?_; rintro e w1 ⟨rfl, rfl⟩)
      go_ret
      exact ⟨true, rfl, ⟨fun _ => HT.out, fun _ => rfl⟩, Below.refl _ _⟩
    · have H1 : Hid (¬ goodL zl ∧ ¬ goodL zh) := ⟨g1, g2⟩
      have t9 : decide (zl.length ≤ n) = false := by simp; omega
      go_enter Tryd.func42, Tryd.ntmps42
      go_wp2_with (go_at_call 25; refine (CB.out _ _ (by omega)).mono ?_; rintro e w1 ⟨rfl, rfl⟩)
      clear kl kh g1 g2
      have HL : Hid (Buf base w bL cL zl) := hL
      have RL : Hid (∀ z ∈ zl, 0 ≤ z ∧ z < 256) := rl
      clear hL rl hH rh
      go_loopw [7] (fun t wr => ∃ (k : Nat) (ys : List Int), t = .int .i64 k ∧ 128 ≤ k ∧ k ≤ 192 ∧ Buf base wr bL cL ys ∧ ys.length = zl.length ∧ (∀ x, ys.set n x = zl.set n x) ∧ (∀ c : Int, 128 ≤ c → c < k → ¬ goodL (zl.set n c)) ∧ Below base w wr) (fun t _ => 192 - (intOf t).toNat)
      case atStart => exact ⟨128, zl, rfl, by omega, by omega, HL.out, rfl, fun _ => rfl, fun c h1 h2 => by omega, Below.refl _ _⟩
      case round =>
        obtain ⟨k, ys, rfl, hk1, hk2, hbuf, hyl, hset, hno, hB⟩ := hrel
        by_cases hlt : k < 192
        · have hrm := hbuf.room n (by have := hbuf.len; omega)
          have hb2 := hbuf.set (n := n) (by omega) (k : Int)
          rw [hset] at hb2
          have hrng : ∀ z ∈ zl.set n (k : Int), 0 ≤ z ∧ z < 256 := fun z hz => by
            rcases List.mem_or_eq_of_mem_set hz with h | h
            · exact RL.out z h
            · omega
          have hcv := hb2.conv hrng
          rw [List.length_set] at hcv
          obtain ⟨u, hu⟩ := Option.isSome_iff_exists.1 hrm.1
          have hf := hrm.2
          have HB : Hid (Below base w wr) := hB
          have HB2 : Hid (Buf base (wr.setCell ⟨bL, n, none⟩ (.int .u8 (k : Int))) bL cL (zl.set n (k : Int))) := hb2
          have HNO : Hid (∀ c : Int, 128 ≤ c → c < k → ¬ goodL (zl.set n c)) := hno
          have hlo := hbuf.lo
          clear hrm hb2 hrng hbuf hB hno hset
          by_cases g : 0 ≤ ch (txt (zl.set n (k : Int))) 0
          · have HT : Hid (Tried zl zh n) := .inr (.inr ⟨k, by omega, by omega, g⟩)
            go_wp2_with (go_at_call 25; refine (CB.out _ _ (by simp; omega)).mono ?_; rintro e w1 ⟨rfl, rfl⟩)
            go_ret
            exact ⟨true, rfl, ⟨fun _ => HT.out, fun _ => rfl⟩, HB.out.setCell (p := ⟨bL, n, none⟩) hlo _⟩
          · have HG : Hid (¬ goodL (zl.set n (k : Int))) := g
            go_wp2_with (go_at_call 25; refine (CB.out _ _ (by simp; omega)).mono ?_; rintro e w1 ⟨rfl, rfl⟩)
            go_roundw
            case rel =>
              refine ⟨k + 1, zl.set n (k : Int), by go_num, by omega, by omega, HB2.out, by simp, fun x => by simp, fun c h1 h2 => ?_, HB.out.setCell (p := ⟨bL, n, none⟩) hlo _⟩
              by_cases e : c = k
              · subst e; exact HG.out
              · exact HNO.out c h1 (by omega)
            case measure => simp [intOf]; omega
        · have HT : Hid (¬ Tried zl zh n) := by
            show ¬ Tried zl zh n
            rintro (h | h | ⟨b, h1, h2, h⟩)
            · exact H1.out.1 h
            · exact H1.out.2 h
            · exact hno b h1 (by omega) h
          go_wp2
          go_ret
          exact ⟨false, rfl, ⟨fun h => (by cases h), fun h => absurd h HT.out⟩, hB⟩

theorem buf_bytes (W : World) (base : Nat) (s : ByteArray) (hb : base ≤ W.heap.size) : Buf base (Lib.bytesWorld W 5 s) W.heap.size (grownCap W s.size 0 5) (zsOf s) := by
  have hge := grownCap_ge W s.size 0 5
  have hsz : (Lib.bytesCells W 5 s).size = grownCap W s.size 0 5 := by
    unfold Lib.bytesCells
    rw [Array.size_append, Array.size_map, Array.size_replicate]
    have : s.data.size = s.size := rfl
    omega
  refine ⟨hb, by rw [Lib.bytesWorld_size]; omega, by rw [zsOf_len]; exact hge, fun j hj => ?_, fun j hj => ⟨?_, ?_⟩⟩
  · rw [zsOf_len] at hj
    rw [Lib.bytesWorld_cell W 5 s j hj, zsOf_get, bt_eq, List.getD]
  · unfold World.cell?
    rw [Lib.bytesWorld_at_new]
    simp [hsz, hj]
  · unfold World.frozen?
    rw [Lib.bytesWorld_at_new]
    simp [hsz]
    omega

set_option maxRecDepth 100000 in
set_option maxHeartbeats 2000000 in
theorem rbegun_long (s : ByteArray) (m : Nat) (h0 : s.size ≠ 0) (hm : leadM (bt s 0) = m) (h1 : 1 ≤ m) (h2 : s.size ≤ m) (hm3 : m ≤ 3) (w : World) :
    Calls Tryd.prog 19 #[.string s] w fun e w' => e = .returned (.bool (begB s)) ∧ Below w.heap.size w w' := by
  have cL := lead_any (bt s 0) (bt_lt s 0) w
  rw [hm] at cL
  have hne : s.toList.isEmpty = false := by
    rw [Lib.toList_data]
    cases h : s.data.toList with
    | nil => exact absurd (by rw [Lib.size_eq, h]; rfl) h0
    | cons _ _ => rfl
  obtain ⟨x0, hx0⟩ : ∃ x0, s.get! 0 = x0 := ⟨_, rfl⟩
  have hs0 : s[0]'(by omega) = x0 := by rw [← hx0]; exact (Utf8W.get!_of_lt s 0 (by omega)).symm
  have HM : Hid (leadM (bt s 0) = m) := hm
  unfold bt at cL
  rw [hx0] at cL
  have gx := x0.toNat_lt
  clear hx0 hm
  obtain ⟨c0, hc0⟩ : ∃ c0, leadC x0.toNat = c0 := ⟨_, rfl⟩
  rw [hc0] at cL
  clear hc0
  have hcv := fun W : World => Lib.run_convert_string_bytes (P := Tryd.prog) W 9 46 5 s Tryd.underlying9 Tryd.underlying46 Tryd.underlying5
  have H0 : Hid (s.size ≠ 0) := h0
  have u1 : decide ((m : Int) < 1) = false := by simp; omega
  have u2 : decide (m < s.size) = false := by simp; omega
  have u3 : decide ((m : Int) < (s.size : Int)) = false := by simp; omega
  go_enter Tryd.func19, Tryd.ntmps19
  go_wp2_with (go_at_call 41; refine cL.mono ?_; rintro e w1 ⟨rfl, rfl⟩)
  go_loopw [5] (fun t wr => ∃ k : Nat, t = .int .i64 k ∧ 1 ≤ k ∧ k ≤ s.size ∧ w = wr ∧ ∀ j, 1 ≤ j → j < k → 128 ≤ bt s j ∧ bt s j ≤ 191) (fun t _ => s.size - (intOf t).toNat)
  case atStart => exact ⟨1, rfl, by omega, by omega, rfl, fun j a b => by omega⟩
  case round =>
    obtain ⟨k, rfl, hk1, hk2, rfl, hall⟩ := hrel
    have HA : Hid (∀ j, 1 ≤ j → j < k → 128 ≤ bt s j ∧ bt s j ≤ 191) := hall
    clear hall
    by_cases hlt : k < s.size
    · obtain ⟨x, hx⟩ : ∃ x, s[k]'(by omega) = x := ⟨_, rfl⟩
      have hbx : bt s k = x.toNat := by unfold bt; rw [Utf8W.get!_of_lt s k (by omega), hx]
      have HX : Hid (bt s k = x.toNat) := hbx
      have gy := x.toNat_lt
      clear hbx
      by_cases c1 : (x.toNat : Int) < 128
      · have HR : Hid (begB s = false) := beg_cont H0.out hk1 hlt (by rw [HX.out]; omega)
        go_wp2
        go_ret
        exact ⟨by rw [HR.out]; rfl, Below.refl _ _⟩
      · by_cases c2 : 191 < (x.toNat : Int)
        · have HR : Hid (begB s = false) := beg_cont H0.out hk1 hlt (by rw [HX.out]; omega)
          go_wp2
          go_ret
          exact ⟨by rw [HR.out]; rfl, Below.refl _ _⟩
        · go_wp2
          refine ⟨⟨k + 1, by go_num, by omega, by omega, trivial, fun j a b => ?_⟩, by simp [intOf]; omega⟩
          by_cases e : j = k
          · subst e; rw [HX.out]; omega
          · exact HA.out j a (by omega)
    · obtain rfl : k = s.size := by omega
      have HT : Hid (begB s = true ↔ Tried (zsOf s ++ List.replicate (m + 1 - s.size) 128) (zsOf s ++ List.replicate (m + 1 - s.size) 191) s.size) := beg_tried H0.out HM.out h1 h2 HA.out
      clear HA
      go_wp2
      have hs3 : s.size ≤ 3 := by omega
      obtain ⟨W1, hW1⟩ : ∃ W1, Lib.bytesWorld w 5 s = W1 := ⟨_, rfl⟩
      obtain ⟨W2, hW2⟩ : ∃ W2, Lib.bytesWorld W1 5 s = W2 := ⟨_, rfl⟩
      have hb1 := buf_bytes w w.heap.size s (Nat.le_refl _)
      have hB1 : Below w.heap.size w (Lib.bytesWorld w 5 s) := Lib.bytesWorld_below w 5 s
      rw [hW1] at hb1 hB1
      have hb2 := buf_bytes W1 w.heap.size s hB1.size
      have hB2 := Lib.bytesWorld_below W1 5 s
      rw [hW2] at hb2 hB2
      have hb1' := hb1.below hB2
      have hB : Below w.heap.size w W2 := hB1.trans (hB2.mono hB1.size)
      have hne12 : w.heap.size ≠ W1.heap.size := by have := hb1.lt; omega
      rw [hW1, hW2]
      have H5 : Hid (Buf w.heap.size W2 w.heap.size (grownCap w s.size 0 5) (zsOf s) ∧ Buf w.heap.size W2 W1.heap.size (grownCap W1 s.size 0 5) (zsOf s) ∧ w.heap.size ≠ W1.heap.size ∧ Below w.heap.size w W2) := ⟨hb1', hb2, hne12, hB⟩
      clear hb1 hb2 hb1' hB1 hB2 hB hne12 hW1 hW2
      have hlz := zsOf_len s
      go_loopw [6, 7] (fun v v2 wr => ∃ (k bL cL bH cH : Nat), v = .slice (some ⟨bL, 0, none⟩) (s.size + k) cL ∧ v2 = .slice (some ⟨bH, 0, none⟩) (s.size + k) cH ∧ s.size + k ≤ m + 1 ∧ Buf w.heap.size wr bL cL (zsOf s ++ List.replicate k 128) ∧ Buf w.heap.size wr bH cH (zsOf s ++ List.replicate k 191) ∧ bL ≠ bH ∧ Below w.heap.size w wr) (fun v _ _ => match v with | .slice _ n _ => m + 1 - n | _ => 0)
      case atStart => exact ⟨0, _, _, _, _, rfl, rfl, by omega, by simpa using H5.out.1, by simpa using H5.out.2.1, H5.out.2.2.1, H5.out.2.2.2⟩
      case round =>
        obtain ⟨k, bL, cL, bH, cH, rfl, rfl, hk, hL, hH, hne', hB⟩ := hrel
        by_cases hlt : s.size + k ≤ m
        · obtain ⟨b3, c3, w3, run3, buf3, g3, alt3⟩ := append_buf (hL.alloc (.cells #[.int .u8 128] 5)) (by have := hB.size; simp; omega) (by simp [hlz]; omega) wr.heap.size 128 (by simp)
          have hH3 := (hH.alloc (.cells #[.int .u8 128] 5)).kept g3 (by simpa using hne')
          have hB3 : Below w.heap.size w w3 := (hB.alloc hB.size _).grown g3 (by have := hB.size; simp; omega) (fun k e => by cases e; exact hL.lo)
          have hne3 : b3 ≠ bH := by
            rcases alt3 with rfl | h
            · exact hne'
            · have := hH.lt; simp at h; omega
          obtain ⟨b4, c4, w4, run4, buf4, g4, alt4⟩ := append_buf (hH3.alloc (.cells #[.int .u8 191] 5)) (by have := hB3.size; simp; omega) (by simp [hlz]; omega) w3.heap.size 191 (by simp)
          have hL4 := (buf3.alloc (.cells #[.int .u8 191] 5)).kept g4 (by simpa using (fun e => hne3 e.symm))
          have hB4 : Below w.heap.size w w4 := (hB3.alloc hB3.size _).grown g4 (by have := hB3.size; simp; omega) (fun k e => by cases e; exact hH.lo)
          have hne4 : b3 ≠ b4 := by
            rcases alt4 with rfl | h
            · exact hne3
            · have := buf3.lt; simp at h; omega
          have e1 : (zsOf s ++ List.replicate k (128 : Int)).length = s.size + k := by simp [hlz]
          have e2 : (zsOf s ++ List.replicate k (191 : Int)).length = s.size + k := by simp [hlz]
          rw [e1] at run3
          rw [e2] at run4
          rw [List.append_assoc, ← List.replicate_succ'] at buf4 hL4
          have H7 : Hid (Buf w.heap.size w4 b3 c3 (zsOf s ++ List.replicate (k + 1) 128) ∧ Buf w.heap.size w4 b4 c4 (zsOf s ++ List.replicate (k + 1) 191) ∧ b3 ≠ b4 ∧ Below w.heap.size w w4) := ⟨hL4, buf4, hne4, hB4⟩
          clear hL hH hB hH3 hB3 hB4 buf3 buf4 hL4 g3 g4 alt3 alt4 hne3 hne4 e1 e2 hne'
          go_wp2_with (first | (at_builtin; refine Lib.wpList_append_run _ rfl _ _ 46 46 rfl _ _ rfl rfl _ _ run3 ?_; clear run3) | (at_builtin; refine Lib.wpList_append_run _ rfl _ _ 46 46 rfl _ _ rfl rfl _ _ run4 ?_; clear run4))
          exact ⟨⟨k + 1, b3, c3, b4, c4, rfl, rfl, by omega, H7.out.1, H7.out.2.1, H7.out.2.2.1, H7.out.2.2.2⟩, by simp; omega⟩
        · obtain rfl : k = m + 1 - s.size := by omega
          have rng : ∀ (x : Int), 0 ≤ x → x < 256 → ∀ z ∈ zsOf s ++ List.replicate (m + 1 - s.size) x, 0 ≤ z ∧ z < 256 := fun x h1 h2 z hz => by
            rcases List.mem_append.1 hz with h | h
            · exact zsOf_rng s z h
            · rw [List.eq_of_mem_replicate h]; omega
          have cT := tried_any w.heap.size bL cL bH cH s.size _ _ wr hL hH (by simp [hlz]; omega) (by simp [hlz]; omega) (by simp [hlz]; omega) (rng 128 (by omega) (by omega)) (rng 191 (by omega) (by omega))
          have e1 : (zsOf s ++ List.replicate (m + 1 - s.size) (128 : Int)).length = s.size + (m + 1 - s.size) := by simp [hlz]
          have e2 : (zsOf s ++ List.replicate (m + 1 - s.size) (191 : Int)).length = s.size + (m + 1 - s.size) := by simp [hlz]
          rw [e1, e2] at cT
          clear e1 e2 rng hL hH
          have HB : Hid (Below w.heap.size w wr) := hB
          clear hB
          go_wp2_with (go_at_call 42; refine cT.mono ?_; clear cT; rintro e w5 ⟨r, rfl, hr, hb5⟩)
          go_ret
          have hrr : r = begB s := by
            have := hr.trans HT.out.symm
            cases r <;> cases hbb : begB s <;> simp_all
          exact ⟨by rw [← hrr]; rfl, HB.out.trans hb5⟩

set_option maxRecDepth 100000 in
set_option maxHeartbeats 1000000 in
theorem rbegun_any (s : ByteArray) (hs : s.size ≤ maxLen) (w : World) :
    Calls Tryd.prog 19 #[.string s] w fun e w' => e = .returned (.bool (begB s)) ∧ Below w.heap.size w w' := by
  by_cases h0 : s.size = 0
  · have hne : s.toList.isEmpty = true := by
      rw [Lib.toList_data]
      have : s.data.toList = [] := List.eq_nil_of_length_eq_zero (by rw [← Lib.size_eq]; exact h0)
      rw [this]; rfl
    have hr : begB s = false := by unfold begB; rw [if_pos h0]
    rw [hr]
    go_enter Tryd.func19, Tryd.ntmps19
    go_wp2
    go_ret
    exact ⟨rfl, Below.refl _ _⟩
  · by_cases hsh : leadM (bt s 0) < 1 ∨ leadM (bt s 0) < s.size
    · have cL := lead_any (bt s 0) (bt_lt s 0) w
      have hne : s.toList.isEmpty = false := by
        rw [Lib.toList_data]
        cases h : s.data.toList with
        | nil => exact absurd (by rw [Lib.size_eq, h]; rfl) h0
        | cons _ _ => rfl
      rw [beg_short h0 hsh]
      obtain ⟨x0, hx0⟩ : ∃ x0, s.get! 0 = x0 := ⟨_, rfl⟩
      have hs0 : s[0]'(by omega) = x0 := by rw [← hx0]; exact (Utf8W.get!_of_lt s 0 (by omega)).symm
      unfold bt at cL hsh
      rw [hx0] at cL hsh
      have gx := x0.toNat_lt
      clear hx0
      obtain ⟨c0, hc0⟩ : ∃ c0, leadC x0.toNat = c0 := ⟨_, rfl⟩
      obtain ⟨m, hm⟩ : ∃ m, leadM x0.toNat = m := ⟨_, rfl⟩
      rw [hc0, hm] at cL
      rw [hm] at hsh
      clear hc0 hm
      unfold maxLen at hs
      by_cases hlt : m < 1
      · clear hsh
        go_enter Tryd.func19, Tryd.ntmps19
        go_wp2_with (go_at_call 41; refine cL.mono ?_; rintro e w1 ⟨rfl, rfl⟩)
        go_ret
        exact ⟨rfl, Below.refl _ _⟩
      · have hlt2 : m < (s.size : Int) := by omega
        clear hsh
        go_enter Tryd.func19, Tryd.ntmps19
        go_wp2_with (go_at_call 41; refine cL.mono ?_; rintro e w1 ⟨rfl, rfl⟩)
        go_ret
        exact ⟨rfl, Below.refl _ _⟩
    · obtain ⟨m, hm⟩ : ∃ m : Nat, leadM (bt s 0) = m := ⟨(leadM (bt s 0)).toNat, by omega⟩
      have hm3 : m ≤ 3 := by
        unfold leadM at hm
        repeat' split at hm
        all_goals omega
      exact rbegun_long s m h0 hm (by omega) (by omega) hm3 w
end Go.Proofs.YtadgbbnkhjapnaaDoor
