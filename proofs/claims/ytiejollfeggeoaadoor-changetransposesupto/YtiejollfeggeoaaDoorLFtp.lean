/-
  The walk of the law ChangeTransposes: a transposition changes no byte's number, and nothing but two clusters of a line, or two words. Conditions: those of walk_of.
-/
import Derived.Test.YtiejollfeggeoaaDoorFCnt
import Derived.Test.YtiejollfeggeoaaDoorFStc
import Derived.Test.YtiejollfeggeoaaDoorFSwp
namespace Go.Proofs.YtiejollfeggeoaaDoor.changeTransposes
open Go.RowKit Go.Shelf Bod Wid

/-- the kinds, and changes in boxes -/
structure Tx (w : World) (g : Nat) (L : List (Nat × Chg)) (W : World) : Prop where
  bel : Below w.heap.size w W
  ks : W.heap[g]? = some (.cells #[.int .i64 24, .int .i64 25] 36 (0, 0))
  bs : ∀ p ∈ L, W.heap[p.1]? = some (.cells (chc p.2) 33 (0, 0))
section
variable {w W X : World} {g : Nat} {L : List (Nat × Chg)}
theorem Tx.below (h : Tx w g L W) (hb : Below W.heap.size W X) : Tx w g L X :=
  ⟨below_on h.bel hb, (hb.block _ (Array.getElem?_eq_some_iff.1 h.ks).1).trans h.ks, fun p hp => (hb.block _ (Array.getElem?_eq_some_iff.1 (h.bs p hp)).1).trans (h.bs p hp)⟩
theorem Tx.new (h : Tx w g L W) (c : Chg) : Tx w g (L ++ [(W.heap.size, c)]) (W.alloc (.cells (chc c) 33)) := by
  have hb := h.below ((Below.refl _ W).alloc (Nat.le_refl _) (.cells (chc c) 33))
  refine ⟨hb.bel, hb.ks, fun p hp => ?_⟩
  rcases List.mem_append.1 hp with e | e
  · exact hb.bs p e
  · simp at e
    subst e
    exact World.alloc_heap_new _ _
theorem Tx.sub (h : Tx w g L W) : Tx w g [] W := ⟨h.bel, h.ks, fun p hp => by cases hp⟩
theorem Tx.get (h : Tx w g L W) : W.cell? ⟨g, 0, none⟩ = some (.int .i64 24) ∧ W.cell? ⟨g, 1, none⟩ = some (.int .i64 25) := by
  have := h.ks
  simp [World.cell?, this]
theorem Tx.at' (h : Tx w g L W) {b : Nat} {c : Chg} (hp : (b, c) ∈ L) : W.cell? ⟨b, 0, none⟩ = some (.int .i64 c.at') ∧ W.cell? ⟨b, 1, none⟩ = some (.int .i64 c.cut) ∧ W.cell? ⟨b, 2, none⟩ = some (.string c.put) ∧ W.cell? ⟨b, 3, none⟩ = some (.int .i64 c.cur) ∧ W.cell? ⟨b, 4, none⟩ = some (.string c.kill) ∧ W.cell? ⟨b, 5, none⟩ = some (.bool c.ahead) := (cbox (h.bs _ hp)).1
end
set_option maxRecDepth 100000 in
set_option maxHeartbeats 2000000 in
theorem walk (hM : Tryd.prog.follows .mixedOrders = true) (s : ByteArray) (hs : s.size ≤ 1048576) (x : Int) (hx : x ≤ 9223372036854775807) (w : World) (hT : Tw w) :
    Calls Tryd.prog 6 #[.string s, .int .i64 x] w fun e W' => e = .returned (.bool true) ∧ Below w.heap.size w W' := by
  have C0 : Hid (Calls Tryd.prog 7 #[] w fun e W' => e = .returned (.bool true) ∧ Hid (Below w.heap.size w W')) := awake_any hM w hT
  have CO : Hid (∀ (k : Int) W, Below w.heap.size w W → Calls Tryd.prog 10 #[.agg #[.int .i64 k, .int .i64 7, .string ⟨#[]⟩, .int .u8 0], .string s, .int .i64 x, .int .i64 (-1)] W fun e W' => e = .returned (rsv (ofP s k 7 x (-1))) ∧ Below W.heap.size W W') := fun k W hW => Of_any hM s (by omega) k 7 x (-1) hx (by decide) ⟨#[]⟩ 0 W (hT.below hW)
  have CI0 : ∀ g, Hid (∀ (a c : Nat) (p : ByteArray), a + c ≤ s.size → ∀ W L, Tx w g L W → Calls Tryd.prog 13 #[.string s, .agg #[.int .i64 a, .int .i64 c, .string p]] W fun e W' => e = .returned (.bool true) ∧ Hid (Tx w g L W')) := fun g a c p h W L hW => (inside_any s a c p h (by omega) W).mono fun e W' ⟨k1, k2⟩ => ⟨k1, hW.below k2⟩
  have CN0 : ∀ g, Hid (∀ (t : ByteArray), t.size ≤ 1048576 → ∀ (b : Nat) W L, Tx w g L W → Calls Tryd.prog 16 #[.string t, .int .u8 b] W fun e W' => e = .returned (.int .i64 (bcn b t)) ∧ Hid (Tx w g L W')) := fun g t ht b W L hW => (cnt_any t (by omega) b W).mono fun e W' ⟨k1, k2⟩ => ⟨k1, by subst k2; exact hW⟩
  have CC0 : ∀ g, Hid (∀ (t : ByteArray), t.size ≤ 1048576 → ∀ W L, Tx w g L W → Calls Tryd.prog 17 #[.string t] W fun e W' => e = .returned (.int .i64 (cl t).length) ∧ Hid (Tx w g L W')) := fun g t ht W L hW => by
    have hT' := hT.below hW.bel
    exact (count_any t (by unfold maxLen; omega) W hT'.t hT'.lo0 hT'.lo1).mono fun e W' ⟨k1, k2⟩ => ⟨k1, hW.below k2⟩
  have CS0 : ∀ g, Hid (∀ (t : ByteArray), t.size ≤ 1048576 → ∀ W L, Tx w g L W → Calls Tryd.prog 15 #[.string t] W fun e W' => ∃ o cap, e = .returned (.slice o (words t).length cap) ∧ Hid (Tx w g L W')) := fun g t ht W L hW => by
    have hT' := hT.below hW.bel
    refine (spans_any t (by unfold maxLen; omega) (by omega) W hT'.t hT'.lo0 hT'.lo1).mono fun e W' ⟨v, k1, k2, k3⟩ => ?_
    obtain ⟨o, cap, rfl, -⟩ := Rd2.of_row k2
    exact ⟨o, cap, k1, hW.below k3⟩
  have CQ : Hid (∀ (t : ByteArray), t.size ≤ 1048576 → ∀ (b : Nat) W, Calls Tryd.prog 16 #[.string t, .int .u8 b] W fun e W' => e = .returned (.int .i64 (bcn b t)) ∧ Below W.heap.size W W') := fun t ht b W => (cnt_any t (by omega) b W).mono fun e W' ⟨k1, k2⟩ => ⟨k1, by subst k2; exact Below.refl _ _⟩
  have HM : Hid (Tryd.prog.follows .mixedOrders = true) := hM
  clear hT hM hx
  go_enter Tryd.func6, Tryd.ntmps6
  go_upto_region 4 with (go_at_call 7; refine C0.out.mono ?_; clear C0; rintro e w1 ⟨rfl, HB⟩)
  have HC : Hid (Tx w w1.heap.size [] (w1.alloc (.cells #[.int .i64 24, .int .i64 25] 36))) := ⟨below_on HB.out ((Below.refl _ w1).alloc (Nat.le_refl _) _), World.alloc_heap_new _ _, fun p hp => by cases hp⟩
  generalize w1.alloc (.cells #[.int .i64 24, .int .i64 25] 36) = w2 at HC ⊢
  generalize w1.heap.size = g at HC ⊢
  have CI := CI0 g
  have CN := CN0 g
  have CC := CC0 g
  have CS := CS0 g
  clear HB CI0 CN0 CC0 CS0
  go_wp2
  go_loopw [6] (fun t6 wr => ∃ i : Nat, i ≤ 2 ∧ t6 = .int .i64 i ∧ Hid (Tx w g [] wr)) (fun t6 _ => 2 - (intOf t6).toNat)
  case atStart => exact ⟨0, by omega, rfl, HC⟩
  case round =>
    obtain ⟨i, hi, rfl, HR⟩ := hrel
    clear HC
    have hi3 : i = 0 ∨ i = 1 ∨ i = 2 := by omega
    rcases hi3 with rfl | rfl | rfl
    · skip
      · rcases tp_fine s 24 x (by decide) with ⟨he, hw⟩ | ⟨q0, R, z, g1, g2, he, g3, g4, h24, h25⟩
        · have D : Hid (∀ W L, Tx w g L W → Calls Tryd.prog 10 #[.agg #[.int .i64 24, .int .i64 7, .string ⟨#[]⟩, .int .u8 0], .string s, .int .i64 x, .int .i64 (-1)] W fun e W' => e = .returned (.tuple #[.agg #[.int .i64 0, .int .i64 0, .string ⟨#[]⟩, .int .i64 0, .string ⟨#[]⟩, .bool false], .int .i64 8]) ∧ Hid (Tx w g L W')) := fun W L hW => by
            have h := CO.out 24 W hW.bel
            rw [he] at h
            exact h.mono fun e W' ⟨k1, k2⟩ => ⟨k1, hW.below k2⟩
          clear CO CI CN CC CS he
          obtain ⟨y0, y1⟩ := HR.out.get
          go_upto_region 8 with (go_at_call 10; refine (D.out _ _ HR.out).mono ?_; clear D HR y0 y1; rintro e w4 ⟨rfl, HB⟩)
          have HC : Hid (Tx w g [] (w4.alloc (.cells #[.int .i64 0, .int .i64 0, .string ⟨#[]⟩, .int .i64 0, .string ⟨#[]⟩, .bool false] 33))) := HB.out.below ((Below.refl _ w4).alloc (Nat.le_refl _) _)
          generalize w4.alloc (.cells #[.int .i64 0, .int .i64 0, .string ⟨#[]⟩, .int .i64 0, .string ⟨#[]⟩, .bool false] 33) = w5 at HC ⊢
          clear HB
          have HB := HC
          clear HC
          obtain ⟨y0, y1⟩ := HB.out.get
          go_wp2_with fail
          exact ⟨⟨1, by omega, by go_num, HB⟩, by simp [Go.RowKit.intOf]⟩
        · replace h24 := h24 rfl
          clear h25
          have D : Hid (∀ W L, Tx w g L W → Calls Tryd.prog 10 #[.agg #[.int .i64 24, .int .i64 7, .string ⟨#[]⟩, .int .u8 0], .string s, .int .i64 x, .int .i64 (-1)] W fun e W' => e = .returned (.tuple #[.agg #[.int .i64 q0, .int .i64 (R - q0 : Nat), .string z, .int .i64 R, .string ⟨#[]⟩, .bool false], .int .i64 0]) ∧ Hid (Tx w g L W')) := fun W L hW => by
            have h := CO.out 24 W hW.bel
            rw [he] at h
            exact h.mono fun e W' ⟨k1, k2⟩ => ⟨k1, hW.below k2⟩
          have CI1 : Hid _ := CI.out q0 (R - q0) z (by omega)
          clear CO CI he
          obtain ⟨y0, y1⟩ := HR.out.get
          go_upto_region 8 with (go_at_call 10; refine (D.out _ _ HR.out).mono ?_; clear D HR y0 y1; rintro e w4 ⟨rfl, HB⟩)
          have HC : Hid (Tx w g [(w4.heap.size, ⟨q0, R - q0, z, R, ⟨#[]⟩, false⟩)] (w4.alloc (.cells #[.int .i64 q0, .int .i64 (R - q0 : Nat), .string z, .int .i64 R, .string ⟨#[]⟩, .bool false] 33))) := HB.out.new ⟨q0, R - q0, z, R, ⟨#[]⟩, false⟩
          generalize w4.alloc (.cells #[.int .i64 q0, .int .i64 (R - q0 : Nat), .string z, .int .i64 R, .string ⟨#[]⟩, .bool false] 33) = w5 at HC ⊢
          generalize w4.heap.size = b at HC ⊢
          clear HB
          obtain ⟨m0, m1, m2, m3, m4, m5⟩ := HC.out.at' (b := b) (c := ⟨q0, R - q0, z, R, ⟨#[]⟩, false⟩) (by simp)
          simp only at m0 m1 m2 m3 m4 m5
          have s1 : (q0 : Int) + (R - q0 : Nat) = R := by omega
          have s2 : (R : Int) ≤ s.size := by omega
          have s3 : (q0 : Int) ≤ R := by omega
          have hcz : (s.extract q0 R).size = R - q0 := size_extract s q0 R g2
          obtain ⟨cut, hcut⟩ : ∃ cut, s.extract q0 R = cut := ⟨_, rfl⟩
          rw [hcut] at hcz g4 h24
          have hcz' : cut.size = z.size := by omega
          go_upto_region 16 with (go_at_call 13; refine (CI1.out _ _ HC.out).mono ?_; clear CI1 HC m0 m1 m2 m3 m4 m5; rintro e w6 ⟨rfl, HC⟩; obtain ⟨m0, m1, m2, m3, m4, m5⟩ := HC.out.at' (b := b) (c := ⟨q0, R - q0, z, R, ⟨#[]⟩, false⟩) (by simp); simp only at m0 m1 m2 m3 m4 m5)
          clear m0 m1 m2 m3 m4 m5 hcut
          go_wp2
          go_loopw [10] (fun t10 wq => ∃ c : Nat, c ≤ 256 ∧ t10 = .int .i64 c ∧ Hid (Tx w g [(b, ⟨q0, R - q0, z, R, ⟨#[]⟩, false⟩)] wq)) (fun t10 _ => 256 - (intOf t10).toNat)
          case atStart => exact ⟨0, by omega, rfl, HC⟩
          case round =>
            obtain ⟨c, hc, rfl, HQ⟩ := hrel
            clear HC
            by_cases hlt : c < 256
            · obtain ⟨-, -, m2, -, -, -⟩ := HQ.out.at' (b := b) (c := ⟨q0, R - q0, z, R, ⟨#[]⟩, false⟩) (by simp)
              simp only at m2
              have e2 := cell_rgw m2
              obtain ⟨nc, hnc⟩ : ∃ nc, bcn c z = nc := ⟨_, rfl⟩
              have k1 := call_rgw (W := wr) (f := 16) (args := #[.string cut, .int .u8 c]) (v := .int .i64 nc) (fun W _ => by have h := CQ.out cut (by omega) c W; rw [g4 c, hnc] at h; exact h)
              have k2 := call_rgw (W := wr) (f := 16) (args := #[.string z, .int .u8 c]) (v := .int .i64 nc) (fun W _ => by have h := CQ.out z (by omega) c W; rw [hnc] at h; exact h)
              have w8 : IntKind.u8.wrap (c : Int) = c := by simp [IntKind.wrap, IntKind.bits, IntKind.signed]; omega
              have w9 : (c : Int) % 256 = c := by omega
              clear g4 hnc CQ CC CN CS
              go_upto_region 19 with fail
              refine wp_region_quiet_below HM.out (by kernel_rfl) ?_
              iterate 3 (go_big_quiet_step (fail))
              go_big_quiet_step (exact k1 _ _)
              iterate 5 (go_big_quiet_step (fail))
              go_big_quiet_step (exact k2 _ _)
              go_big_quiet_step (fail)
              refine wpQuiet_nil ?_
              intro _ hw'
              obtain ⟨⟨dq, osq⟩, hw''⟩ := hw'
              subst hw''
              have HF : Hid (Tx w g [(b, ⟨q0, R - q0, z, R, ⟨#[]⟩, false⟩)] (Go.Sort.grow (redrawn wr dq) osq)) := HQ.out.below (below_regrown wr dq osq)
              generalize Go.Sort.grow (redrawn wr dq) osq = w8' at HF ⊢
              clear e2 k1 k2 m2 HQ
              go_wp2
              exact ⟨⟨c + 1, by omega, by go_num, HF⟩, by simp [Go.RowKit.intOf]; omega⟩
            · have hc' : c = 256 := by omega
              subst hc'
              obtain ⟨y0, y1⟩ := HQ.out.get
              have CC1 : Hid _ := CC.out cut (by omega)
              have CN1 : Hid _ := CN.out cut (by omega) 10
              rw [h24.1] at CC1
              rw [h24.2] at CN1
              clear CC CN CS
              go_wp2_with (first | (go_at_call 17; refine (CC1.out _ _ HQ.out).mono ?_; clear CC1 HQ y0 y1; rintro e w9 ⟨rfl, HQ⟩; obtain ⟨y0, y1⟩ := HQ.out.get) | (go_at_call 16; refine (CN1.out _ _ HQ.out).mono ?_; clear CN1 HQ y0 y1; rintro e w9 ⟨rfl, HQ⟩; obtain ⟨y0, y1⟩ := HQ.out.get))
              exact ⟨⟨1, by omega, by go_num, HQ.out.sub⟩, by simp [Go.RowKit.intOf]⟩
    · skip
      · rcases tp_fine s 25 x (by decide) with ⟨he, hw⟩ | ⟨q0, R, z, g1, g2, he, g3, g4, h24, h25⟩
        · have D : Hid (∀ W L, Tx w g L W → Calls Tryd.prog 10 #[.agg #[.int .i64 25, .int .i64 7, .string ⟨#[]⟩, .int .u8 0], .string s, .int .i64 x, .int .i64 (-1)] W fun e W' => e = .returned (.tuple #[.agg #[.int .i64 0, .int .i64 0, .string ⟨#[]⟩, .int .i64 0, .string ⟨#[]⟩, .bool false], .int .i64 8]) ∧ Hid (Tx w g L W')) := fun W L hW => by
            have h := CO.out 25 W hW.bel
            rw [he] at h
            exact h.mono fun e W' ⟨k1, k2⟩ => ⟨k1, hW.below k2⟩
          have CS1 : Hid _ := CS.out s hs
          obtain ⟨nw, hnw⟩ : ∃ nw, (words s).length = nw := ⟨_, rfl⟩
          have hn2 := hw rfl
          rw [hnw] at CS1 hn2
          clear hnw
          clear CO CI CN CC CS he
          obtain ⟨y0, y1⟩ := HR.out.get
          go_upto_region 8 with (go_at_call 10; refine (D.out _ _ HR.out).mono ?_; clear D HR y0 y1; rintro e w4 ⟨rfl, HB⟩)
          have HC : Hid (Tx w g [] (w4.alloc (.cells #[.int .i64 0, .int .i64 0, .string ⟨#[]⟩, .int .i64 0, .string ⟨#[]⟩, .bool false] 33))) := HB.out.below ((Below.refl _ w4).alloc (Nat.le_refl _) _)
          generalize w4.alloc (.cells #[.int .i64 0, .int .i64 0, .string ⟨#[]⟩, .int .i64 0, .string ⟨#[]⟩, .bool false] 33) = w5 at HC ⊢
          clear HB
          have HB := HC
          clear HC
          obtain ⟨y0, y1⟩ := HB.out.get
          go_wp2_with (go_at_call 15; refine (CS1.out _ _ HB.out).mono ?_; clear CS1 HB y0 y1; rintro e w6 ⟨o, cap, rfl, HB⟩)
          exact ⟨⟨2, by omega, by go_num, HB⟩, by simp [Go.RowKit.intOf]⟩
        · replace h25 := h25 rfl
          clear h24
          have D : Hid (∀ W L, Tx w g L W → Calls Tryd.prog 10 #[.agg #[.int .i64 25, .int .i64 7, .string ⟨#[]⟩, .int .u8 0], .string s, .int .i64 x, .int .i64 (-1)] W fun e W' => e = .returned (.tuple #[.agg #[.int .i64 q0, .int .i64 (R - q0 : Nat), .string z, .int .i64 R, .string ⟨#[]⟩, .bool false], .int .i64 0]) ∧ Hid (Tx w g L W')) := fun W L hW => by
            have h := CO.out 25 W hW.bel
            rw [he] at h
            exact h.mono fun e W' ⟨k1, k2⟩ => ⟨k1, hW.below k2⟩
          have CI1 : Hid _ := CI.out q0 (R - q0) z (by omega)
          clear CO CI he
          obtain ⟨y0, y1⟩ := HR.out.get
          go_upto_region 8 with (go_at_call 10; refine (D.out _ _ HR.out).mono ?_; clear D HR y0 y1; rintro e w4 ⟨rfl, HB⟩)
          have HC : Hid (Tx w g [(w4.heap.size, ⟨q0, R - q0, z, R, ⟨#[]⟩, false⟩)] (w4.alloc (.cells #[.int .i64 q0, .int .i64 (R - q0 : Nat), .string z, .int .i64 R, .string ⟨#[]⟩, .bool false] 33))) := HB.out.new ⟨q0, R - q0, z, R, ⟨#[]⟩, false⟩
          generalize w4.alloc (.cells #[.int .i64 q0, .int .i64 (R - q0 : Nat), .string z, .int .i64 R, .string ⟨#[]⟩, .bool false] 33) = w5 at HC ⊢
          generalize w4.heap.size = b at HC ⊢
          clear HB
          obtain ⟨m0, m1, m2, m3, m4, m5⟩ := HC.out.at' (b := b) (c := ⟨q0, R - q0, z, R, ⟨#[]⟩, false⟩) (by simp)
          simp only at m0 m1 m2 m3 m4 m5
          have s1 : (q0 : Int) + (R - q0 : Nat) = R := by omega
          have s2 : (R : Int) ≤ s.size := by omega
          have s3 : (q0 : Int) ≤ R := by omega
          have hcz : (s.extract q0 R).size = R - q0 := size_extract s q0 R g2
          obtain ⟨cut, hcut⟩ : ∃ cut, s.extract q0 R = cut := ⟨_, rfl⟩
          rw [hcut] at hcz g4 h25
          have hcz' : cut.size = z.size := by omega
          go_upto_region 16 with (go_at_call 13; refine (CI1.out _ _ HC.out).mono ?_; clear CI1 HC m0 m1 m2 m3 m4 m5; rintro e w6 ⟨rfl, HC⟩; obtain ⟨m0, m1, m2, m3, m4, m5⟩ := HC.out.at' (b := b) (c := ⟨q0, R - q0, z, R, ⟨#[]⟩, false⟩) (by simp); simp only at m0 m1 m2 m3 m4 m5)
          clear m0 m1 m2 m3 m4 m5 hcut
          go_wp2
          go_loopw [10] (fun t10 wq => ∃ c : Nat, c ≤ 256 ∧ t10 = .int .i64 c ∧ Hid (Tx w g [(b, ⟨q0, R - q0, z, R, ⟨#[]⟩, false⟩)] wq)) (fun t10 _ => 256 - (intOf t10).toNat)
          case atStart => exact ⟨0, by omega, rfl, HC⟩
          case round =>
            obtain ⟨c, hc, rfl, HQ⟩ := hrel
            clear HC
            by_cases hlt : c < 256
            · obtain ⟨-, -, m2, -, -, -⟩ := HQ.out.at' (b := b) (c := ⟨q0, R - q0, z, R, ⟨#[]⟩, false⟩) (by simp)
              simp only at m2
              have e2 := cell_rgw m2
              obtain ⟨nc, hnc⟩ : ∃ nc, bcn c z = nc := ⟨_, rfl⟩
              have k1 := call_rgw (W := wr) (f := 16) (args := #[.string cut, .int .u8 c]) (v := .int .i64 nc) (fun W _ => by have h := CQ.out cut (by omega) c W; rw [g4 c, hnc] at h; exact h)
              have k2 := call_rgw (W := wr) (f := 16) (args := #[.string z, .int .u8 c]) (v := .int .i64 nc) (fun W _ => by have h := CQ.out z (by omega) c W; rw [hnc] at h; exact h)
              have w8 : IntKind.u8.wrap (c : Int) = c := by simp [IntKind.wrap, IntKind.bits, IntKind.signed]; omega
              have w9 : (c : Int) % 256 = c := by omega
              clear g4 hnc CQ CC CN CS
              go_upto_region 19 with fail
              refine wp_region_quiet_below HM.out (by kernel_rfl) ?_
              iterate 3 (go_big_quiet_step (fail))
              go_big_quiet_step (exact k1 _ _)
              iterate 5 (go_big_quiet_step (fail))
              go_big_quiet_step (exact k2 _ _)
              go_big_quiet_step (fail)
              refine wpQuiet_nil ?_
              intro _ hw'
              obtain ⟨⟨dq, osq⟩, hw''⟩ := hw'
              subst hw''
              have HF : Hid (Tx w g [(b, ⟨q0, R - q0, z, R, ⟨#[]⟩, false⟩)] (Go.Sort.grow (redrawn wr dq) osq)) := HQ.out.below (below_regrown wr dq osq)
              generalize Go.Sort.grow (redrawn wr dq) osq = w8' at HF ⊢
              clear e2 k1 k2 m2 HQ
              go_wp2
              exact ⟨⟨c + 1, by omega, by go_num, HF⟩, by simp [Go.RowKit.intOf]; omega⟩
            · have hc' : c = 256 := by omega
              subst hc'
              obtain ⟨y0, y1⟩ := HQ.out.get
              have CS1 : Hid _ := CS.out cut (by omega)
              rw [h25] at CS1
              clear CC CN CS
              go_wp2_with (go_at_call 15; refine (CS1.out _ _ HQ.out).mono ?_; clear CS1 HQ y0 y1; rintro e w9 ⟨o, cap, rfl, HQ⟩; obtain ⟨y0, y1⟩ := HQ.out.get)
              exact ⟨⟨2, by omega, by go_num, HQ.out.sub⟩, by simp [Go.RowKit.intOf]⟩
    · clear CO CI CN CC CS
      go_wp2
      go_ret
      exact ⟨rfl, HR.out.bel⟩
theorem walk_of {H : Type} (s : ByteArray) (x : Int) (w : World) (hT : Lib.Utf8Tabs 1 2 w) (hlo0 : 1 < w.heap.size) (hlo1 : 2 < w.heap.size) (_hs : s.size ≤ 140737488351232) (hx : -9223372036854775808 ≤ x ∧ x ≤ 9223372036854775807) (hk : Rows.uptoSmall H ([DataW.lit (.string s.data.toList), DataW.lit (.int .i64 x)] ++ []) = true) :
    Calls Tryd.prog 6 #[.string s, .int .i64 x] w fun e w' => e = .returned (.bool true) ∧ Below w.heap.size w w' := by
  have h : Rows.uptoBulkAll ([DataW.lit (H := H) (.string s.data.toList), DataW.lit (.int .i64 x)] ++ []) ≤ 1048576 := of_decide_eq_true hk
  simp only [List.cons_append, List.nil_append, Rows.uptoBulkAll, Rows.uptoBulk] at h
  exact walk (by kernel_rfl) s (by rw [Lib.size_eq]; omega) x hx.2 w ⟨hT, hlo0, hlo1⟩
end Go.Proofs.YtiejollfeggeoaaDoor.changeTransposes
