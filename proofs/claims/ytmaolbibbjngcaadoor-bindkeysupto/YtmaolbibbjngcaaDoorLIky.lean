/-
  The walk of the law BindKeys: any keys, one behind the other, and a clone in the midst: the commands and what waits are the document's. Conditions: those of walk_of.
-/
import Derived.Test.YtmaolbibbjngcaaDoorIPar
namespace Go.Proofs.YtmaolbibbjngcaaDoor.bindKeys
open Go.RowKit Go.Shelf Bod

/-- a pair, the key's box, and perhaps a command's box -/
structure Ka (w : World) (b rb : Nat) (s t : Bs) (kb : Nat) (x : Ky) (W : World) : Prop where
  p : Pk w b rb s t W
  k : W.heap[kb]? = some (.cells (kyc x) 30 (0, 0))
structure Kq (w : World) (b rb : Nat) (s : Bs) (c rc : Nat) (u v : Bs) (kb : Nat) (x : Ky) (W : World) : Prop where
  p : Pq w b rb s c rc u v W
  k : W.heap[kb]? = some (.cells (kyc x) 30 (0, 0))
section
variable {w W X : World} {b rb c rc kb : Nat} {s t u v : Bs} {x : Ky}
theorem Ka.below (h : Ka w b rb s t kb x W) (hb : Below W.heap.size W X) : Ka w b rb s t kb x X := ⟨h.p.below hb, cells_below h.k hb⟩
theorem Ka.tob (h : Ka w b rb s t kb x W) (h1 : Bn b u X) (hg : W.grownBy X (some b)) : Ka w b rb u t kb x X := ⟨h.p.tob h1 hg, cells_grown h.k hg (bk_ne h.k h.p.bn (by decide))⟩
theorem Ka.tor (h : Ka w b rb s t kb x W) (h1 : Rn rb u X) (hg : W.grownBy X (some rb)) : Ka w b rb s u kb x X := ⟨h.p.tor h1 hg, cells_grown h.k hg (bk_ne h.k h.p.rn (by decide))⟩
theorem Kq.below (h : Kq w b rb s c rc u v kb x W) (hb : Below W.heap.size W X) : Kq w b rb s c rc u v kb x X := ⟨h.p.below hb, cells_below h.k hb⟩
theorem Kq.tob (h : Kq w b rb s c rc u v kb x W) (h1 : Bn c t X) (hg : W.grownBy X (some c)) : Kq w b rb s c rc t v kb x X := ⟨h.p.tob h1 hg, cells_grown h.k hg (bk_ne h.k h.p.q.bn (by decide))⟩
theorem Kq.tor (h : Kq w b rb s c rc u v kb x W) (h1 : Rn rc t X) (hg : W.grownBy X (some rc)) : Kq w b rb s c rc u t kb x X := ⟨h.p.tor h1 hg, cells_grown h.k hg (bk_ne h.k h.p.q.rn (by decide))⟩
end
set_option maxRecDepth 100000 in
set_option maxHeartbeats 4000000 in
theorem walk (hM : Tryd.prog.follows .mixedOrders = true) (a0 : Option Addr) (cap : Nat) (l : List Ky) (cl : Int) (w : World) (hS : RdKy w (.slice a0 l.length cap) l) (hl : l.length ≤ 1048576) (hk : ∀ k ∈ l, k.Ok) (hcl : 0 ≤ cl ∧ cl < 256) (hT : Tb w) :
    Calls Tryd.prog 3 #[.slice a0 l.length cap, .int .u8 cl] w fun e W' => e = .returned (.bool true) ∧ Below w.heap.size w W' := by
  have HR : Hid (∀ W, Below w.heap.size w W → RdKy W (.slice a0 l.length cap) l) := fun W hW => hS.below (Nat.le_refl _) hW
  have hcap : l.length ≤ cap := by
    obtain ⟨a', cap', e, hc, -⟩ := hS
    cases e; exact hc
  have CB : Hid (Calls Tryd.prog 9 #[] w fun e w' => e = .returned (.bool true) ∧ Hid (Below w.heap.size w w')) := bds_any hM w hT
  have CK : Hid (∀ (W : World) (b : Nat) (s : Bs) (k : Ky), s.Ok → k ∈ l → w.heap.size ≤ b → Below w.heap.size w W → Bn b s W → Calls Tryd.prog 15 #[.pointer (some ⟨b, 0, none⟩), kyv k] W fun e w' => e = .returned (.tuple #[.agg (cmc (keyP s k).1), .bool (keyP s k).2.1]) ∧ Bn b (keyP s k).2.2 w' ∧ W.grownBy w' (some b)) := fun W b s k hs hkm hb hW hn => key_any hM b s hs k (hk k hkm) W (hT.below hW) (hT.ab hb) hn
  have CR : Hid (∀ (W : World) (b : Nat) (s : Bs) (k : Ky), s.Ok → k ∈ l → Rn b s W → Calls Tryd.prog 16 #[.pointer (some ⟨b, 0, none⟩), kyv k] W fun e w' => e = .returned (.tuple #[.agg (cmc (keyP s k).1), .bool (keyP s k).2.1]) ∧ Rn b (keyP s k).2.2 w' ∧ W.grownBy w' (some b)) := fun W b s k hs hkm hn => rky_any b s hs k (hk k hkm) W hn
  obtain ⟨N, hN⟩ : ∃ N, l.length = N := ⟨_, rfl⟩
  have HN : Hid (l.length = N) := hN
  rw [hN] at HR hl hcap ⊢
  have hl' : (N : Int) ≤ 1048576 := by omega
  obtain ⟨h0, h1⟩ := hcl
  clear hS hN hM hT hk
  go_enter Tryd.func3, Tryd.ntmps3
  go_upto_region 5 with (first
    | (go_at_call 9; refine CB.out.mono ?_; clear CB; rintro e w1 ⟨rfl, HB⟩)
    | (go_at_call 10; refine (new_any _).mono ?_; rintro e w2 ⟨rfl, rfl⟩)
    | (go_at_call 11; refine (rnw_any _).mono ?_; rintro e w3 ⟨rfl, rfl⟩))
  have HP : Hid (Pk w w1.heap.size (w1.heap.size + 1) bsz bsz ((w1.alloc (.cells (bsc bsz) 53)).alloc (.cells (bsc bsz) 55))) := by
    have e1 : (w1.alloc (.cells (bsc bsz) 53)).heap.size = w1.heap.size + 1 := by simp
    have hz := HB.out.size
    refine ⟨(HB.out.alloc hz _).alloc (by omega) _, hz, by omega, ?_, ?_⟩
    · exact (Below.heap_alloc _ _ _ (by omega)).trans (World.alloc_heap_new _ _)
    · have := World.alloc_heap_new (w1.alloc (.cells (bsc bsz) 53)) (.cells (bsc bsz) 55)
      rw [e1] at this
      exact this
  generalize (w1.alloc (.cells (bsc bsz) 53)).alloc (.cells (bsc bsz) 55) = W1 at HP ⊢
  obtain ⟨b, hb⟩ : ∃ b, w1.heap.size = b := ⟨_, rfl⟩
  rw [hb] at HP ⊢
  obtain ⟨rb, hrb⟩ : ∃ rb, b + 1 = rb := ⟨_, rfl⟩
  rw [hrb] at HP ⊢
  clear hb hrb HB
  go_loopw [27] (fun t27 wr => ∃ (i : Nat) (s : Bs), t27 = .int .i64 i ∧ i ≤ N ∧ Hid (s.Ok ∧ Pk w b rb s s wr)) (fun t27 _ => N - (intOf t27).toNat)
  case atStart => exact ⟨0, bsz, rfl, Nat.zero_le _, bsz_ok, HP⟩
  case round =>
    clear HP
    obtain ⟨i, s, rfl, hi', HL⟩ := hrel
    by_cases hlt : i < N
    · have hlt' : (i : Int) < N := by omega
      obtain ⟨x, hx⟩ : ∃ x, l[i]? = some x := ⟨l[i]'(by rw [HN.out]; exact hlt), List.getElem?_eq_getElem _⟩
      have HXM : Hid (x ∈ l) := List.mem_of_getElem? hx
      have HSO : Hid s.Ok := HL.out.1
      have HTO : Hid ((keyP s x).2.2.Ok) := keyP_ok HL.out.1 x
      have HP : Hid (Pk w b rb s s wr) := HL.out.2
      obtain ⟨g, o, rfl, hg, q0, q1, q2, q3, q4, q5⟩ := (HR.out wr HP.out.bel).at hx
      clear HL hx
      have D : Hid (∀ W, Ka w b rb s s wr.heap.size x W → Calls Tryd.prog 15 #[.pointer (some ⟨b, 0, none⟩), kyv x] W fun e w' => e = .returned (.tuple #[.agg (cmc (keyP s x).1), .bool (keyP s x).2.1]) ∧ Hid (Ka w b rb (keyP s x).2.2 s wr.heap.size x w')) := fun W hW => (CK.out W b s x HSO.out HXM.out hW.p.ge hW.p.bel hW.p.bn).mono fun e w' q => ⟨q.1, hW.tob q.2.1 q.2.2⟩
      have E : Hid (∀ W t (n : Nat) vs, Ka w b rb t s wr.heap.size x W → W.heap[n]? = some (.cells vs 34 (0, 0)) → Calls Tryd.prog 16 #[.pointer (some ⟨rb, 0, none⟩), kyv x] W fun e w' => e = .returned (.tuple #[.agg (cmc (keyP s x).1), .bool (keyP s x).2.1]) ∧ Hid (Ka w b rb t (keyP s x).2.2 wr.heap.size x w' ∧ w'.heap[n]? = some (.cells vs 34 (0, 0)))) := fun W t n vs hW hn => (CR.out W rb s x HSO.out HXM.out hW.p.rn).mono fun e w' q => ⟨q.1, hW.tor q.2.1 q.2.2, cells_grown hn q.2.2 (bk_ne hn hW.p.rn (by decide))⟩
      generalize hs' : (keyP s x).2.2 = s' at D E HTO
      generalize (keyP s x).2.1 = ok at D E
      generalize (keyP s x).1 = cm at D E
      clear hs'
      have HA0 : Hid (Ka w b rb s s wr.heap.size x (wr.alloc (.cells (kyc x) 30))) := ⟨HP.out.below ((Below.refl _ _).alloc (Nat.le_refl _) _), World.alloc_heap_new _ _⟩
      obtain ⟨kb, hkb⟩ : ∃ kb, wr.heap.size = kb := ⟨_, rfl⟩
      rw [hkb] at D E HA0
      obtain ⟨c0, c1, c2, c3⟩ := cm
      by_cases he : (i : Int) = cl
      · have he' : ((i : Int) == cl) = true := beq_iff_eq.2 he
        clear he
        have HXM2 : Hid (∀ (j : Nat) (y : Ky), l[j]? = some y → y ∈ l) := fun j y h => List.mem_of_getElem? h
        have HY : Hid (∀ (W : World), Below w.heap.size w W → ∀ (j : Nat) (y : Ky), l[j]? = some y → W.cell? ⟨g, o + j * 6, none⟩ = some (.int .i64 y.kd) ∧ W.cell? ⟨g, o + j * 6 + 1, none⟩ = some (.int .i32 y.ch) ∧ W.cell? ⟨g, o + j * 6 + 2, none⟩ = some (.bool y.ct) ∧ W.cell? ⟨g, o + j * 6 + 3, none⟩ = some (.bool y.me) ∧ W.cell? ⟨g, o + j * 6 + 4, none⟩ = some (.bool y.sh) ∧ W.cell? ⟨g, o + j * 6 + 5, none⟩ = some (.string y.tx)) := fun W hW j y hy => by
          obtain ⟨g', o', e, -, r0, r1, r2, r3, r4, r5⟩ := (HR.out W hW).at hy
          cases e
          exact ⟨r0, r1, r2, r3, r4, r5⟩
        have CKx := CK
        have CRx := CR
        clear CK CR HXM
        obtain ⟨x0, x1, x2, x3, x4, x5⟩ := x
        simp only [kyv, kyc, cmc] at q0 q1 q2 q3 q4 q5 D E HA0
        go_upto_region 7 with (fail)
        try rw [hkb]
        clear hkb
        generalize wr.alloc (.cells #[.int .i64 x0, .int .i32 x1, .bool x2, .bool x3, .bool x4, .string x5] 30) = V0 at HA0 ⊢
        clear q0 q1 q2 q3 q4 q5 HP
        go_upto_region 9 with (first
          | (go_at_call 12; refine (cln_any b s _ HA0.out.p.bn).mono ?_; rintro e wc ⟨rfl, rfl⟩)
          | (go_at_call 13; refine (rcl_any rb s _ (HA0.out.p.rn.below ((Below.refl _ _).alloc (Nat.le_refl _) _))).mono ?_; rintro e wd ⟨rc, rfl, hrc, hrn, hbd⟩)
          )
        obtain ⟨c, hc⟩ : ∃ c, V0.heap.size = c := ⟨_, rfl⟩
        have HQ : Hid (Kq w b rb s c rc s s kb ⟨x0, x1, x2, x3, x4, x5⟩ wd) := by
          have hA := HA0.out.below ((Below.refl _ _).alloc (Nat.le_refl _) (.cells (bsc s) 53))
          have hA2 := hA.below hbd
          have hcn : Bn V0.heap.size s (V0.alloc (.cells (bsc s) 53)) := World.alloc_heap_new _ _
          have hz : (V0.alloc (.cells (bsc s) 53)).heap.size = V0.heap.size + 1 := by simp
          have hs := HA0.out.p.bel.size
          have l1 := (Array.getElem?_eq_some_iff.1 HA0.out.p.bn).1
          have l2 := (Array.getElem?_eq_some_iff.1 HA0.out.p.rn).1
          subst hc
          exact ⟨⟨hA2.p, ⟨hA2.p.bel, by omega, by omega, hcn.below hbd, hrn⟩, by omega, by omega⟩, hA2.k⟩
        rw [hc]
        clear hc hrc hrn hbd HA0
        go_upto_region 11 with (go_at_call 14; refine (agr_any c rc s _ HQ.out.p.q).mono ?_; rintro e w6 ⟨rfl, hb6⟩; have HQ6 : Hid (Kq w b rb s c rc s s kb ⟨x0, x1, x2, x3, x4, x5⟩ w6) := HQ.out.below hb6; clear hb6)
        clear HQ
        obtain ⟨m, hm⟩ : ∃ m : Nat, min (N : Int) 4 = (m : Int) := ⟨min N 4, by omega⟩
        have hm1 : m ≤ N := by omega
        have hm2 : m ≤ cap := by omega
        have hm4 : m ≤ 4 := by omega
        go_upto_region 12 with (fail)
        go_loopw [54] (fun t54 ws => ∃ (j : Nat) (u : Bs), t54 = .int .i64 j ∧ j ≤ m ∧ Hid (u.Ok ∧ Kq w b rb s c rc u u kb ⟨x0, x1, x2, x3, x4, x5⟩ ws)) (fun t54 _ => m - (intOf t54).toNat)
        case atStart => exact ⟨0, s, rfl, Nat.zero_le _, HSO.out, HQ6.out⟩
        case round =>
          clear HSO HQ6
          obtain ⟨j, u, rfl, hj', HI⟩ := hrel
          by_cases hlt2 : j < m
          · have hlt2' : (j : Int) < m := by omega
            obtain ⟨y, hy⟩ : ∃ y, l[j]? = some y := ⟨l[j]'(by rw [HN.out]; omega), List.getElem?_eq_getElem _⟩
            have HYM : Hid (y ∈ l) := HXM2.out j y hy
            have HUO : Hid u.Ok := HI.out.1
            have HVO : Hid ((keyP u y).2.2.Ok) := keyP_ok HI.out.1 y
            have HQ : Hid (Kq w b rb s c rc u u kb ⟨x0, x1, x2, x3, x4, x5⟩ wr) := HI.out.2
            obtain ⟨p0, p1, p2, p3, p4, p5⟩ := HY.out wr HQ.out.p.p.bel j y hy
            have D2 : Hid (∀ W (n : Nat), Kq w b rb s c rc u u kb ⟨x0, x1, x2, x3, x4, x5⟩ W → W.heap[n]? = some (.cells (kyc y) 30 (0, 0)) → Calls Tryd.prog 15 #[.pointer (some ⟨c, 0, none⟩), kyv y] W fun e w' => e = .returned (.tuple #[.agg (cmc (keyP u y).1), .bool (keyP u y).2.1]) ∧ Hid (Kq w b rb s c rc (keyP u y).2.2 u kb ⟨x0, x1, x2, x3, x4, x5⟩ w' ∧ w'.heap[n]? = some (.cells (kyc y) 30 (0, 0)))) := fun W n hW hn => (CKx.out W c u y HUO.out HYM.out hW.p.q.ge hW.p.q.bel hW.p.q.bn).mono fun e w' q => ⟨q.1, hW.tob q.2.1 q.2.2, cells_grown hn q.2.2 (bk_ne hn hW.p.q.bn (by decide))⟩
            have E2 : Hid (∀ W t (n : Nat) vs, Kq w b rb s c rc t u kb ⟨x0, x1, x2, x3, x4, x5⟩ W → W.heap[n]? = some (.cells vs 34 (0, 0)) → Calls Tryd.prog 16 #[.pointer (some ⟨rc, 0, none⟩), kyv y] W fun e w' => e = .returned (.tuple #[.agg (cmc (keyP u y).1), .bool (keyP u y).2.1]) ∧ Hid (Kq w b rb s c rc t (keyP u y).2.2 kb ⟨x0, x1, x2, x3, x4, x5⟩ w' ∧ w'.heap[n]? = some (.cells vs 34 (0, 0)))) := fun W t n vs hW hn => (CRx.out W rc u y HUO.out HYM.out hW.p.q.rn).mono fun e w' q => ⟨q.1, hW.tor q.2.1 q.2.2, cells_grown hn q.2.2 (bk_ne hn hW.p.q.rn (by decide))⟩
            generalize hu' : (keyP u y).2.2 = u' at D2 E2 HVO
            generalize (keyP u y).2.1 = ok2 at D2 E2
            generalize (keyP u y).1 = dm at D2 E2
            clear hu' hy HI HY HR CKx CRx HYM HXM2 HUO
            have HA0 : Hid (Kq w b rb s c rc u u kb ⟨x0, x1, x2, x3, x4, x5⟩ (wr.alloc (.cells (kyc y) 30)) ∧ (wr.alloc (.cells (kyc y) 30)).heap[wr.heap.size]? = some (.cells (kyc y) 30 (0, 0))) := ⟨HQ.out.below ((Below.refl _ _).alloc (Nat.le_refl _) _), World.alloc_heap_new _ _⟩
            obtain ⟨y0, y1, y2, y3, y4, y5⟩ := y
            obtain ⟨d0, d1, d2, d3⟩ := dm
            simp only [kyv, kyc, cmc] at p0 p1 p2 p3 p4 p5 D2 E2 HA0
            go_upto_region 14 with (fail)
            obtain ⟨k2, hk2⟩ : ∃ q, wr.heap.size = q := ⟨_, rfl⟩
            rw [hk2] at HA0 ⊢
            generalize wr.alloc (.cells #[.int .i64 y0, .int .i32 y1, .bool y2, .bool y3, .bool y4, .string y5] 30) = V0 at HA0 ⊢
            clear p0 p1 p2 p3 p4 p5 HQ hk2
            obtain ⟨k0, k1, k2', k3, k4, k5, -⟩ := box6 HA0.out.2
            go_upto_region 15 with (go_at_call 15; refine (D2.out _ _ HA0.out.1 HA0.out.2).mono ?_; clear D2 k0 k1 k2' k3 k4 k5 HA0; rintro e w4 ⟨rfl, H4⟩)
            have H5 : Hid (Kq w b rb s c rc u' u kb ⟨x0, x1, x2, x3, x4, x5⟩ (w4.alloc (.cells #[.int .i64 d0, .int .i64 d1, .string d2, .int .u8 d3] 34)) ∧ (w4.alloc (.cells #[.int .i64 d0, .int .i64 d1, .string d2, .int .u8 d3] 34)).heap[k2]? = some (.cells #[.int .i64 y0, .int .i32 y1, .bool y2, .bool y3, .bool y4, .string y5] 30 (0, 0))) := ⟨H4.out.1.below ((Below.refl _ _).alloc (Nat.le_refl _) _), cells_below H4.out.2 ((Below.refl _ _).alloc (Nat.le_refl _) _)⟩
            have B5 : Hid ((w4.alloc (.cells #[.int .i64 d0, .int .i64 d1, .string d2, .int .u8 d3] 34)).heap[w4.heap.size]? = some (.cells #[.int .i64 d0, .int .i64 d1, .string d2, .int .u8 d3] 34 (0, 0))) := World.alloc_heap_new _ _
            obtain ⟨n1, hn1⟩ : ∃ q, w4.heap.size = q := ⟨_, rfl⟩
            rw [hn1] at B5 ⊢
            generalize w4.alloc (.cells #[.int .i64 d0, .int .i64 d1, .string d2, .int .u8 d3] 34) = V1 at H5 B5 ⊢
            clear hn1 H4
            obtain ⟨k0, k1, k2', k3, k4, k5, -⟩ := box6 H5.out.2
            go_upto_region 16 with (go_at_call 16; refine (E2.out _ _ _ _ H5.out.1 B5.out).mono ?_; clear E2 k0 k1 k2' k3 k4 k5 H5 B5; rintro e w5 ⟨rfl, H6⟩)
            have H7 : Hid (Kq w b rb s c rc u' u' kb ⟨x0, x1, x2, x3, x4, x5⟩ (w5.alloc (.cells #[.int .i64 d0, .int .i64 d1, .string d2, .int .u8 d3] 34))) := H6.out.1.below ((Below.refl _ _).alloc (Nat.le_refl _) _)
            have B7 : Hid ((w5.alloc (.cells #[.int .i64 d0, .int .i64 d1, .string d2, .int .u8 d3] 34)).heap[n1]? = some (.cells #[.int .i64 d0, .int .i64 d1, .string d2, .int .u8 d3] 34 (0, 0)) ∧ (w5.alloc (.cells #[.int .i64 d0, .int .i64 d1, .string d2, .int .u8 d3] 34)).heap[w5.heap.size]? = some (.cells #[.int .i64 d0, .int .i64 d1, .string d2, .int .u8 d3] 34 (0, 0))) := ⟨cells_below H6.out.2 ((Below.refl _ _).alloc (Nat.le_refl _) _), World.alloc_heap_new _ _⟩
            obtain ⟨n2, hn2⟩ : ∃ q, w5.heap.size = q := ⟨_, rfl⟩
            rw [hn2] at B7 ⊢
            generalize w5.alloc (.cells #[.int .i64 d0, .int .i64 d1, .string d2, .int .u8 d3] 34) = V2 at H7 B7 ⊢
            clear hn2 H6
            obtain ⟨⟨r0, r1, r2, r3⟩, -⟩ := box4 B7.out.1
            obtain ⟨⟨z0, z1, z2, z3⟩, -⟩ := box4 B7.out.2
            go_wp2
            exact ⟨⟨j + 1, u', by go_num, by omega, HVO.out, H7.out⟩, by simp [intOf]; omega⟩
          · have hge2 : ¬ ((j : Int) < m) := by omega
            have HQ : Hid (Kq w b rb s c rc u u kb ⟨x0, x1, x2, x3, x4, x5⟩ wr) := HI.out.2
            clear HI HY HR CKx CRx HXM2 hm hm1 hm2 hm4
            go_upto_region 20 with (go_at_call 17; refine (rst_any c u _ HQ.out.p.q.bn).mono ?_; rintro e w7 ⟨rfl, h7, g7⟩; have HQ7 : Hid (Kq w b rb s c rc bsz u kb ⟨x0, x1, x2, x3, x4, x5⟩ w7) := HQ.out.tob h7 g7; clear h7 g7)
            clear HQ
            go_upto_region 22 with (first
              | (go_at_call 18; refine (pfx_any c bsz _ HQ7.out.p.q.bn).mono ?_; rintro e w8 ⟨he8, rfl⟩; obtain rfl : e = .returned (.string ⟨#[]⟩) := he8)
              | (go_at_call 11; refine (rnw_any _).mono ?_; rintro e w9 ⟨rfl, rfl⟩; have HQ9 := HQ7.out.below ((Below.refl _ _).alloc (Nat.le_refl _) (.cells (bsc bsz) 55)))
              | (go_at_call 14; refine (agr_any c w8.heap.size bsz _ ⟨HQ9.p.q.bel, HQ9.p.q.ge, HQ7.out.p.q.bel.size, HQ9.p.q.bn, World.alloc_heap_new _ _⟩).mono ?_; rintro e w10 ⟨rfl, hb10⟩; have HA9 : Hid (Ka w b rb s s kb ⟨x0, x1, x2, x3, x4, x5⟩ w10) := ⟨(HQ9.below hb10).p.p, (HQ9.below hb10).k⟩; clear hb10 HQ9))
            clear HQ7
            obtain ⟨k0, k1, k2, k3, k4, k5, -⟩ := box6 HA9.out.k
            go_upto_region 23 with (go_at_call 15; refine (D.out _ HA9.out).mono ?_; clear D k0 k1 k2 k3 k4 k5 HA9; rintro e w4 ⟨rfl, H4⟩)
            have H5 : Hid (Ka w b rb s' s kb _ (w4.alloc (.cells #[.int .i64 c0, .int .i64 c1, .string c2, .int .u8 c3] 34))) := H4.out.below ((Below.refl _ _).alloc (Nat.le_refl _) _)
            have B5 : Hid ((w4.alloc (.cells #[.int .i64 c0, .int .i64 c1, .string c2, .int .u8 c3] 34)).heap[w4.heap.size]? = some (.cells #[.int .i64 c0, .int .i64 c1, .string c2, .int .u8 c3] 34 (0, 0))) := World.alloc_heap_new _ _
            obtain ⟨n1, hn1⟩ : ∃ q, w4.heap.size = q := ⟨_, rfl⟩
            rw [hn1] at B5 ⊢
            generalize w4.alloc (.cells #[.int .i64 c0, .int .i64 c1, .string c2, .int .u8 c3] 34) = V1 at H5 B5 ⊢
            clear hn1 H4
            obtain ⟨k0, k1, k2, k3, k4, k5, -⟩ := box6 H5.out.k
            go_upto_region 24 with (go_at_call 16; refine (E.out _ _ _ _ H5.out B5.out).mono ?_; clear E k0 k1 k2 k3 k4 k5 H5 B5; rintro e w5 ⟨rfl, H6⟩)
            have H7 : Hid (Pk w b rb s' s' (w5.alloc (.cells #[.int .i64 c0, .int .i64 c1, .string c2, .int .u8 c3] 34))) := H6.out.1.p.below ((Below.refl _ _).alloc (Nat.le_refl _) _)
            have B7 : Hid ((w5.alloc (.cells #[.int .i64 c0, .int .i64 c1, .string c2, .int .u8 c3] 34)).heap[n1]? = some (.cells #[.int .i64 c0, .int .i64 c1, .string c2, .int .u8 c3] 34 (0, 0)) ∧ (w5.alloc (.cells #[.int .i64 c0, .int .i64 c1, .string c2, .int .u8 c3] 34)).heap[w5.heap.size]? = some (.cells #[.int .i64 c0, .int .i64 c1, .string c2, .int .u8 c3] 34 (0, 0))) := ⟨cells_below H6.out.2 ((Below.refl _ _).alloc (Nat.le_refl _) _), World.alloc_heap_new _ _⟩
            obtain ⟨n2, hn2⟩ : ∃ q, w5.heap.size = q := ⟨_, rfl⟩
            rw [hn2] at B7 ⊢
            generalize w5.alloc (.cells #[.int .i64 c0, .int .i64 c1, .string c2, .int .u8 c3] 34) = V2 at H7 B7 ⊢
            clear hn2 H6
            obtain ⟨⟨r0, r1, r2, r3⟩, -⟩ := box4 B7.out.1
            obtain ⟨⟨z0, z1, z2, z3⟩, -⟩ := box4 B7.out.2
            go_wp2_with (go_at_call 14; refine (agr_any b rb s' _ H7.out).mono ?_; rintro e w6 ⟨rfl, hb6⟩; have H8 : Hid (Pk w b rb s' s' w6) := H7.out.below hb6; clear hb6)
            exact ⟨⟨i + 1, s', by go_num, by omega, HTO.out, H8.out⟩, by simp [intOf]; omega⟩
      · have he' : ((i : Int) == cl) = false := beq_eq_false_iff_ne.2 he
        clear CK CR HXM
        obtain ⟨x0, x1, x2, x3, x4, x5⟩ := x
        simp only [kyv, kyc, cmc] at q0 q1 q2 q3 q4 q5 D E HA0
        go_upto_region 7 with (fail)
        try rw [hkb]
        clear hkb
        generalize wr.alloc (.cells #[.int .i64 x0, .int .i32 x1, .bool x2, .bool x3, .bool x4, .string x5] 30) = V0 at HA0 ⊢
        clear q0 q1 q2 q3 q4 q5
        clear he
        obtain ⟨k0, k1, k2, k3, k4, k5, -⟩ := box6 HA0.out.k
        go_upto_region 23 with (go_at_call 15; refine (D.out _ HA0.out).mono ?_; clear D k0 k1 k2 k3 k4 k5 HA0; rintro e w4 ⟨rfl, H4⟩)
        have H5 : Hid (Ka w b rb s' s kb _ (w4.alloc (.cells #[.int .i64 c0, .int .i64 c1, .string c2, .int .u8 c3] 34))) := H4.out.below ((Below.refl _ _).alloc (Nat.le_refl _) _)
        have B5 : Hid ((w4.alloc (.cells #[.int .i64 c0, .int .i64 c1, .string c2, .int .u8 c3] 34)).heap[w4.heap.size]? = some (.cells #[.int .i64 c0, .int .i64 c1, .string c2, .int .u8 c3] 34 (0, 0))) := World.alloc_heap_new _ _
        obtain ⟨n1, hn1⟩ : ∃ q, w4.heap.size = q := ⟨_, rfl⟩
        rw [hn1] at B5 ⊢
        generalize w4.alloc (.cells #[.int .i64 c0, .int .i64 c1, .string c2, .int .u8 c3] 34) = V1 at H5 B5 ⊢
        clear hn1 H4
        obtain ⟨k0, k1, k2, k3, k4, k5, -⟩ := box6 H5.out.k
        go_upto_region 24 with (go_at_call 16; refine (E.out _ _ _ _ H5.out B5.out).mono ?_; clear E k0 k1 k2 k3 k4 k5 H5 B5; rintro e w5 ⟨rfl, H6⟩)
        have H7 : Hid (Pk w b rb s' s' (w5.alloc (.cells #[.int .i64 c0, .int .i64 c1, .string c2, .int .u8 c3] 34))) := H6.out.1.p.below ((Below.refl _ _).alloc (Nat.le_refl _) _)
        have B7 : Hid ((w5.alloc (.cells #[.int .i64 c0, .int .i64 c1, .string c2, .int .u8 c3] 34)).heap[n1]? = some (.cells #[.int .i64 c0, .int .i64 c1, .string c2, .int .u8 c3] 34 (0, 0)) ∧ (w5.alloc (.cells #[.int .i64 c0, .int .i64 c1, .string c2, .int .u8 c3] 34)).heap[w5.heap.size]? = some (.cells #[.int .i64 c0, .int .i64 c1, .string c2, .int .u8 c3] 34 (0, 0))) := ⟨cells_below H6.out.2 ((Below.refl _ _).alloc (Nat.le_refl _) _), World.alloc_heap_new _ _⟩
        obtain ⟨n2, hn2⟩ : ∃ q, w5.heap.size = q := ⟨_, rfl⟩
        rw [hn2] at B7 ⊢
        generalize w5.alloc (.cells #[.int .i64 c0, .int .i64 c1, .string c2, .int .u8 c3] 34) = V2 at H7 B7 ⊢
        clear hn2 H6
        obtain ⟨⟨r0, r1, r2, r3⟩, -⟩ := box4 B7.out.1
        obtain ⟨⟨z0, z1, z2, z3⟩, -⟩ := box4 B7.out.2
        go_wp2_with (go_at_call 14; refine (agr_any b rb s' _ H7.out).mono ?_; rintro e w6 ⟨rfl, hb6⟩; have H8 : Hid (Pk w b rb s' s' w6) := H7.out.below hb6; clear hb6)
        exact ⟨⟨i + 1, s', by go_num, by omega, HTO.out, H8.out⟩, by simp [intOf]; omega⟩
    · have hge : ¬ ((i : Int) < N) := by omega
      go_wp2
      go_ret
      exact ⟨rfl, HL.out.2.bel⟩
theorem walk_of {H : Type} {d0 d1 : DataW H} (a0 : Option Addr) (len0 cap0 : Nat) (cl : Int) (w : World) (hT : Tb w) (l : List Ky) (hS : RdKy w (.slice a0 len0 cap0) l) (hu : kyb l ≤ Rows.uptoBulk d0 ∧ ∀ k ∈ l, (-2147483648 ≤ k.ch ∧ k.ch ≤ 2147483647) ∧ (-9223372036854775808 ≤ k.kd ∧ k.kd ≤ 9223372036854775807)) (hz : 0 ≤ cl ∧ cl < 256) (hk : Rows.uptoSmall H ([d0, d1] ++ []) = true) :
    Calls Tryd.prog 3 #[.slice a0 len0 cap0, .int .u8 cl] w fun e w' => e = .returned (.bool true) ∧ Below w.heap.size w w' := by
  have h : Rows.uptoBulkAll ([d0, d1] ++ []) ≤ 1048576 := of_decide_eq_true hk
  simp only [List.cons_append, List.nil_append, Rows.uptoBulkAll] at h
  obtain ⟨a, cap', e, hc⟩ := id hS
  cases e
  have q0 := hu.1
  exact walk (by kernel_rfl) a0 cap0 l cl w hS (by have := kyb_len l; omega) (kys_ok (m := 1048576) (Nat.le_refl _) (by omega) hu.2) hz hT
end Go.Proofs.YtmaolbibbjngcaaDoor.bindKeys
