/-
  The walk of the law LinesTile: the lines, with the newlines between them, are the text. Conditions: the two tables of unicode/utf8 lie as their text lays them.
-/
import Derived.Test.YtkcfhcglplnmeaaGreatDoorPkDK
import Derived.Test.YtkcfhcglplnmeaaGreatDoorPkUK
import Derived.Test.YtkcfhcglplnmeaaGreatDoorCPlaces
import Derived.Lib.QuietBelow
import Derived.BigQuiet
namespace Go.Proofs.YtkcfhcglplnmeaaGreatDoor.Sto
open Go.RowKit Go.Shelf Bod Wid

theorem IsS.last {s : ByteArray} {i : Nat} {a b : Nat} (h : IsS s i (some (a, b))) (hc : cn s 0 s.size = i) : b = s.size := by
  obtain ⟨⟨n1, n2, n3⟩, r, h2, h3⟩ := h
  simp only at n1 n2 n3 h2 h3
  cases r with
  | none => exact h3
  | some p =>
    obtain ⟨k1, k2, k3, k4⟩ := h2
    have e1 := cn_add (s := s) (a := 0) (b := a) (c := p) (by omega) (by omega)
    have e2 := cn_mono (s := s) (a := 0) (b := p) (c := s.size) (by omega) k2
    omega
theorem IsS.next {s : ByteArray} {i : Nat} {a b : Nat} (h : IsS s i (some (a, b))) (hc : i < cn s 0 s.size) : ∃ p, IsB s a s.size 1 (some p) := by
  obtain ⟨⟨n1, n2, n3⟩, r, h2, h3⟩ := h
  simp only at n1 n2 n3 h2 h3
  cases r with
  | none =>
    have h' : cn s a s.size < 1 := h2
    have e1 := cn_add (s := s) (a := 0) (b := a) (c := s.size) (by omega) n1
    omega
  | some p => exact ⟨p, h2⟩
theorem cell_lt {W : World} {b i : Nat} {v : Value} (h : W.cell? ⟨b, i, none⟩ = some v) : b < W.heap.size := by
  unfold World.cell? at h
  cases ho : W.heap[b]? with
  | none => simp [ho] at h
  | some o => exact (Array.getElem?_eq_some_iff.1 ho).1
theorem byt_get' {s : ByteArray} {i : Nat} (h : i < s.size) : byt s i = s[i]'h := by
  obtain ⟨d⟩ := s
  have h' : i < d.size := h
  simp only [byt, List.getD_eq_getElem?_getD, Array.getElem?_toList]
  rw [Array.getElem?_eq_getElem h']
  rfl
set_option maxRecDepth 100000 in
set_option maxHeartbeats 4000000 in
theorem tile_walk (s : ByteArray) (kd : Int) (w : World) (hE : Ev w) :
    Calls Tryz.prog 4 #[.agg #[.string s, .int .i64 kd]] w fun e W' => e = .returned (.bool true) ∧ Below w.heap.size w W' := by
  have hM : Tryz.prog.follows .mixedOrders = true := by kernel_rfl
  obtain ⟨W0, hW0⟩ : ∃ W0, w.alloc (.cells #[.string s, .int .i64 kd] 23) = W0 := ⟨_, rfl⟩
  have hb0 : Below w.heap.size w W0 ∧ W0.heap[w.heap.size]? = some (.cells #[.string s, .int .i64 kd] 23 (0, 0)) := by rw [← hW0]; exact ⟨(Below.refl _ w).alloc (Nat.le_refl _) _, World.alloc_heap_new w _⟩
  have HX : Hid (∀ W, Below W0.heap.size W0 W → W.cell? ⟨w.heap.size, 0, none⟩ = some (.string s) ∧ W.cell? ⟨w.heap.size, 1, none⟩ = some (.int .i64 kd)) := fun W hW => by
    have := (hW.block _ (Array.getElem?_eq_some_iff.1 hb0.2).1).trans hb0.2
    simp [World.cell?, this]
  have CA : Hid (Calls Tryz.prog 7 #[] W0 fun e W' => e = .returned (.bool true) ∧ Hid (Below W0.heap.size W0 W')) := awake_any hM W0 (hE.below hb0.1)
  obtain ⟨c0, c1⟩ := HX.out W0 (Below.refl _ _)
  have HB0 : Hid (Below w.heap.size w W0) := hb0.1
  by_cases hbig : 1073741822 < s.size
  · clear hE hM hb0
    go_enter Tryz.func4, Tryz.ntmps4
    go_wp2_with (go_at_call 7; refine CA.out.mono ?_; clear CA c0 c1 hW0; rintro e w1 ⟨rfl, H1⟩; obtain ⟨c0, c1⟩ := HX.out _ H1.out)
    go_ret
    exact ⟨rfl, Below.on HB0.out H1.out⟩
  · have hs : s.size ≤ 1073741824 := by omega
    have CK : Hid (∀ W, Hid (Below W0.heap.size W0 W) → Calls Tryz.prog 8 #[.agg #[.string s, .int .i64 kd]] W fun e W' => ∃ T u, e = .returned (.tuple #[.iface T u, .bool true]) ∧ Hid (Tl W' (.iface T u) s ∧ Below W0.heap.size W0 W')) := fun W hW => (keep_any hM W (hE.below (Below.on hb0.1 hW.out)) s kd hs).mono fun e W' ⟨T, u, q1, q2⟩ => ⟨T, u, q1, (q2.vt (hE.below (Below.on hb0.1 hW.out))).tl hs, Below.on hW.out q2.bel⟩
    obtain ⟨ys, hy⟩ := lns_ex s
    obtain ⟨hy1, -, hy3⟩ := hy.num'
    have hy3 := hy3 rfl
    obtain ⟨N, hN⟩ : ∃ N, cn s 0 s.size = N := ⟨_, rfl⟩
    have hNb : N ≤ 1073741824 := by have := cn_le (s := s) (a := 0) (c := s.size) (Nat.le_refl _); omega
    have HNC : Hid (cn s 0 s.size = N) := hN
    rw [hN] at hy3
    have HYL : Hid (ys.length = N + 1) := hy3
    have HYS : Hid (∀ (k : Nat) (x : Nat × Nat), ys[k]? = some x → IsS s k (some x)) := hy1
    have CN : Hid (∀ X T u, Hid (Tl X (.iface T u) s ∧ Below W0.heap.size W0 X) → Calls Tryz.prog 12 #[.iface T u] X fun e W' => e = .returned (.int .i64 ((N : Int) + 1)) ∧ Hid (Below X.heap.size X W')) := fun X T u hX => by
      have := ask_count hX.out.1
      rw [hN] at this
      exact this
    have CS : Hid (∀ X T u W (i a b : Nat), Hid (Tl X (.iface T u) s ∧ Below W0.heap.size W0 X) → Hid (Below X.heap.size X W) → i ≤ N → IsS s i (some (a, b)) → Calls Tryz.prog 13 #[.iface T u, .int .i64 i] W fun e W' => e = .returned (.tuple #[.agg #[.int .i64 a, .int .i64 b], .int .i64 0]) ∧ Hid (Below W.heap.size W W')) := fun X T u W i a b hX hW hi hS => ask_span (hX.out.1.below hW.out) i (by omega) hS
    have CSn : Hid (∀ X T u W, Hid (Tl X (.iface T u) s ∧ Below W0.heap.size W0 X) → Hid (Below X.heap.size X W) → Calls Tryz.prog 13 #[.iface T u, .int .i64 ((N : Int) + 1)] W fun e W' => e = .returned (.tuple #[.agg #[.int .i64 0, .int .i64 0], .int .i64 1]) ∧ Hid (Below W.heap.size W W')) := fun X T u W hX hW => ask_span (hX.out.1.below hW.out) _ (by omega) (o := none) (.inr (by omega))
    have CL : Hid (∀ X T u W (i a b : Nat), Hid (Tl X (.iface T u) s ∧ Below W0.heap.size W0 X) → Hid (Below X.heap.size X W) → i ≤ N → IsS s i (some (a, b)) → Calls Tryz.prog 14 #[.iface T u, .int .i64 i] W fun e W' => e = .returned (.tuple #[.string (s.extract a b), .int .i64 0]) ∧ Hid (Below W.heap.size W W')) := fun X T u W i a b hX hW hi hS => ask_line (hX.out.1.below hW.out) i (by omega) hS
    have CX : Hid (∀ X W (b p : Nat), Below W0.heap.size W0 X → Below X.heap.size X W → IsNext s b p → Calls Tryz.prog 15 #[.string s, .int .i64 b] W fun e W' => e = .returned (.int .i64 p) ∧ Hid (Below W.heap.size W W')) := fun X W b p hX hW hp => (cnext_any s b (by unfold maxLen; omega) W (hE.below (Below.on hb0.1 (Below.on hX hW))).t).mono fun e W' ⟨m, q1, q2, q3⟩ => ⟨by rw [q1, q2.uniq hp], q3⟩
    clear hE hM hb0 hs hy hy1 hy3 hN
    go_enter Tryz.func4, Tryz.ntmps4
    go_wp2_with (first
      | (go_at_call 7; refine CA.out.mono ?_; clear CA c0 c1 hW0; rintro e w1 ⟨rfl, H1⟩; obtain ⟨c0, c1⟩ := HX.out _ H1.out)
      | (go_at_call 8; refine (CK.out _ H1).mono ?_; clear CK H1 c0 c1; rintro e X ⟨T, u, rfl, H2⟩)
      | (go_at_call 12; refine (CN.out _ _ _ H2).mono ?_; clear CN; rintro e w3 ⟨rfl, H3⟩))
    have HC : Hid (∀ W, Below X.heap.size X W → W.cell? ⟨w.heap.size, 0, none⟩ = some (.string s)) := fun W hW => (HX.out W (Below.on H2.out.2 hW)).1
    have HEnd : Hid (∀ W, Below X.heap.size X W → Below w.heap.size w W) := fun W hW => Below.on HB0.out (Below.on H2.out.2 hW)
    clear HX HB0
    go_loopw [5, 7] (fun t5 t7 wr => ∃ (i a b : Nat), i ≤ N ∧ t5 = .int .i64 (a : Int) ∧ t7 = .int .i64 (i : Int) ∧ Hid (ys[i]? = some (a, b) ∧ Below X.heap.size X wr)) (fun _ t7 _ => N + 1 - (intOf t7).toNat)
    case atStart =>
      obtain ⟨⟨a, b⟩, hab⟩ : ∃ x, ys[0]? = some x := ⟨ys[0]'(by rw [HYL.out]; omega), List.getElem?_eq_getElem _⟩
      have h1 := HYS.out 0 _ hab
      obtain rfl : a = 0 := h1.1.uniq ⟨Nat.zero_le _, .inl rfl, by rw [cn_self]⟩
      exact ⟨0, 0, b, Nat.zero_le _, rfl, rfl, hab, H3.out⟩
    case round =>
      obtain ⟨i, a, b, hi, rfl, rfl, HI⟩ := hrel
      clear H3
      have hS := HYS.out _ _ HI.out.1
      obtain ⟨hab, hbs⟩ := hS.le
      have HR : Hid (Below X.heap.size X wr) := HI.out.2
      have CS1 : Hid (Calls Tryz.prog 13 #[.iface T u, .int .i64 i] wr fun e W' => e = .returned (.tuple #[.agg #[.int .i64 a, .int .i64 b], .int .i64 0]) ∧ Hid (Below wr.heap.size wr W')) := CS.out _ _ _ _ i a b H2 HR hi hS
      have CL1 : Hid (∀ W, Hid (Below X.heap.size X W) → Calls Tryz.prog 14 #[.iface T u, .int .i64 i] W fun e W' => e = .returned (.tuple #[.string (s.extract a b), .int .i64 0]) ∧ Hid (Below W.heap.size W W')) := fun W hW => CL.out _ _ _ W i a b H2 hW hi hS
      have HS : Hid (IsS s i (some (a, b))) := hS
      have hlt' : (i : Int) < (N : Int) + 1 := by omega
      clear hS
      go_upto_region 14 with (go_at_call 13; refine CS1.out.mono ?_; clear CS1; rintro e w4 ⟨rfl, H4⟩)
      obtain ⟨W4, hW4⟩ : ∃ W4, w4.alloc (.cells #[.int .i64 (a : Int), .int .i64 (b : Int)] 35) = W4 := ⟨_, rfl⟩
      have hb4 : Below w4.heap.size w4 W4 ∧ W4.heap[w4.heap.size]? = some (.cells #[.int .i64 (a : Int), .int .i64 (b : Int)] 35 (0, 0)) := by rw [← hW4]; exact ⟨(Below.refl _ w4).alloc (Nat.le_refl _) _, World.alloc_heap_new _ _⟩
      have HB4 : Hid (Below X.heap.size X W4) := Below.on HR.out (Below.on H4.out hb4.1)
      have HP4 : Hid (∀ W, Below W4.heap.size W4 W → W.cell? ⟨w4.heap.size, 0, none⟩ = some (.int .i64 (a : Int)) ∧ W.cell? ⟨w4.heap.size, 1, none⟩ = some (.int .i64 (b : Int))) := fun W hW => by
        have := (hW.block _ (Array.getElem?_eq_some_iff.1 hb4.2).1).trans hb4.2
        simp [World.cell?, this]
      rw [hW4]
      clear hb4 hW4 H4 HR
      go_upto_region 17 with (go_at_call 14; refine (CL1.out _ HB4).mono ?_; clear CL1; rintro e w5 ⟨rfl, H5⟩; obtain ⟨y0, y1⟩ := HP4.out _ H5.out; have x0 := HC.out _ (Below.on HB4.out H5.out))
      have HB5 : Hid (Below X.heap.size X w5) := Below.on HB4.out H5.out
      obtain ⟨L, hL⟩ : ∃ L, s.extract a b = L := ⟨_, rfl⟩
      have hLz : L.size = b - a := by rw [← hL]; exact size_extract s a b hbs
      have HLn : Hid (∀ j (h : j < L.size), ¬ (L[j]'h) = 10) := fun j h e => by
        have hb1 : byt L j = 10 := by rw [byt_get' h]; exact e
        rw [← hL, byt_ext (by omega)] at hb1
        exact cn_in HS.out.cn0 (by omega) (by omega) hbs hb1
      rw [hL]
      clear hL HP4 HB4 H5
      go_wp2
      go_loopw [12] (fun t12 wr => ∃ j : Nat, j ≤ b - a ∧ t12 = .int .i64 (j : Int) ∧ wr = w5) (fun t12 _ => b - a - (intOf t12).toNat)
      case atStart => exact ⟨0, Nat.zero_le _, rfl, rfl⟩
      case round =>
        obtain ⟨j, hj, rfl, rfl⟩ := hrel
        by_cases hjl : j < b - a
        · obtain ⟨z, hz⟩ : ∃ z, L[j]'(by omega) = z := ⟨_, rfl⟩
          have hz10 : ¬ z = 10 := by rw [← hz]; exact HLn.out j _
          have e10 : ¬ (z.toNat : Int) = 10 := fun e => hz10 (UInt8.toNat_inj.1 (by simpa using (show z.toNat = 10 by omega)))
          have hjl' : (j : Int) < (L.size : Int) := by omega
          go_wp2
          exact ⟨⟨j + 1, by omega, by go_num, by first | rfl | trivial⟩, by simp [intOf]; omega⟩
        · have hjl' : ¬ (j : Int) < (L.size : Int) := by omega
          by_cases hlast : i = N
          · subst hlast
            obtain rfl : b = s.size := HS.out.last HNC.out
            have CS2 : Hid (Calls Tryz.prog 13 #[.iface T u, .int .i64 ((i : Int) + 1)] wr fun e W' => e = .returned (.tuple #[.agg #[.int .i64 0, .int .i64 0], .int .i64 1]) ∧ Hid (Below wr.heap.size wr W')) := CSn.out _ _ _ _ H2 HB5
            have HY : Hid (∀ W, Below wr.heap.size wr W → W.cell? ⟨w4.heap.size, 1, none⟩ = some (.int .i64 (s.size : Int)) ∧ W.cell? ⟨w.heap.size, 0, none⟩ = some (.string s)) := fun W hW => ⟨(hW.cell (p := ⟨w4.heap.size, 1, none⟩) (cell_lt y1)).trans y1, HC.out _ (Below.on HB5.out hW)⟩
            go_upto_region 24 with (go_at_call 13; refine CS2.out.mono ?_; clear CS2; rintro e w6 ⟨rfl, H6⟩)
            have HA6 : Hid (Below wr.heap.size wr (w6.alloc (.cells #[.int .i64 0, .int .i64 0] 35))) := H6.out.alloc H6.out.size _
            generalize w6.alloc (.cells #[.int .i64 0, .int .i64 0] 35) = W6 at HA6 ⊢
            obtain ⟨v1, v0⟩ := HY.out _ HA6.out
            clear y0 y1 x0 H6
            go_wp2
            go_ret
            exact ⟨rfl, HEnd.out _ (Below.on HB5.out HA6.out)⟩
          · have hlN : i < N := by omega
            obtain ⟨p, hp⟩ := HS.out.next (by have := HNC.out; omega)
            obtain ⟨k1, k2, k3, k4, k5, k6, k7⟩ := HS.out.nl hp
            obtain ⟨⟨a', b'⟩, hab'⟩ : ∃ x, ys[i + 1]? = some x := ⟨ys[i + 1]'(by rw [HYL.out]; omega), List.getElem?_eq_getElem _⟩
            obtain rfl : a' = p := (HYS.out _ _ hab').1.uniq k7
            have HAB : Hid (ys[i + 1]? = some (a', b')) := hab'
            have CX1 : Hid (Calls Tryz.prog 15 #[.string s, .int .i64 b] wr fun e W' => e = .returned (.int .i64 a') ∧ Hid (Below wr.heap.size wr W')) := CX.out _ _ b a' H2.out.2 HB5.out k3
            have HY : Hid (∀ W, Below wr.heap.size wr W → W.cell? ⟨w4.heap.size, 1, none⟩ = some (.int .i64 (b : Int)) ∧ W.cell? ⟨w.heap.size, 0, none⟩ = some (.string s)) := fun W hW => ⟨(hW.cell (p := ⟨w4.heap.size, 1, none⟩) (cell_lt y1)).trans y1, HC.out _ (Below.on HB5.out hW)⟩
            have hne : ¬ (i : Int) = (N : Int) := by omega
            rcases k6 with rfl | ⟨rfl, k6⟩
            · have q10 : s[b]'(by omega) = 10 := by rw [← byt_get' (by omega)]; rwa [show b + 1 - 1 = b by omega] at k5
              clear k3 k4 k5 k7 hp hab'
              go_wp2_with (go_at_call 15; refine CX1.out.mono ?_; clear CX1 y0 y1 x0; rintro e w6 ⟨rfl, H6⟩; obtain ⟨v1, v0⟩ := HY.out _ H6.out)
              refine ⟨⟨i + 1, b + 1, b', by omega, by first | rfl | go_num, by go_num, HAB.out, Below.on HB5.out H6.out⟩, by simp [intOf]; omega⟩
            · have q10 : s[b + 1]'(by omega) = 10 := by rw [← byt_get' (by omega)]; rwa [show b + 2 - 1 = b + 1 by omega] at k5
              have q13 : s[b]'(by omega) = 13 := by rw [← byt_get' (by omega)]; exact k6
              clear k3 k4 k5 k6 k7 hp hab'
              go_wp2_with (go_at_call 15; refine CX1.out.mono ?_; clear CX1 y0 y1 x0; rintro e w6 ⟨rfl, H6⟩; obtain ⟨v1, v0⟩ := HY.out _ H6.out)
              refine ⟨⟨i + 1, b + 2, b', by omega, by first | rfl | go_num, by go_num, HAB.out, Below.on HB5.out H6.out⟩, by simp [intOf]; omega⟩
end Go.Proofs.YtkcfhcglplnmeaaGreatDoor.Sto
namespace Go.Proofs.YtkcfhcglplnmeaaGreatDoor.linesTile
open Go.RowKit Go.Shelf Sto
theorem walk_of {H : Type} {d0 : DataW H} (s : ByteArray) (kd : Int) (w : World) (hT : Lib.Utf8Tabs 1 2 w) (hlo0 : 1 < w.heap.size) (hlo1 : 2 < w.heap.size) (_hs : s.size ≤ Rows.uptoBulk d0) (_hd : -9223372036854775808 ≤ kd ∧ kd ≤ 9223372036854775807) (_hk : Rows.uptoSmall H ([d0] ++ []) = true) :
    Calls Tryz.prog 4 #[.agg #[.string s, .int .i64 kd]] w fun e W' => e = .returned (.bool true) ∧ Below w.heap.size w W' :=
  tile_walk s kd w ⟨hT, hlo0, hlo1⟩
end Go.Proofs.YtkcfhcglplnmeaaGreatDoor.linesTile
