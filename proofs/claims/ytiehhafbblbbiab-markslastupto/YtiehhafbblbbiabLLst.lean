/-
  The walk of the law MarksLast: what was put last is what is got, all others are as they were; All rises, and a set made of it is the same. Conditions: what the law reads is of at most 1048576 values and letters.
-/
import Derived.Test.YtiehhafbblbbiabUMks
import Derived.Test.YtiehhafbblbbiabELay
import Derived.Test.YtiehhafbblbbiabELst
import Derived.Deep.DeepCutAuto
namespace Go.Proofs.Ytiehhafbblbbiab
open Go.RowKit

/-- the set, the list of before, the list of behind -/
structure Lq (w : World) (sb : Nat) (mb : Option Nat) (L0 L1 : Ml) (v0 v1 : Value) (W : World) : Prop where
  st : St W sb mb L1
  bel : Below w.heap.size w W
  r0 : RdK W v0 L0
  r1 : RdK W v1 L1
  ris : Ris L0 ∧ Fit8 L0
theorem Lq.below {w W W' : World} {sb : Nat} {mb : Option Nat} {L0 L1 : Ml} {v0 v1 : Value} (h : Lq w sb mb L0 L1 v0 v1 W) (hb : Below W.heap.size W W') : Lq w sb mb L0 L1 v0 v1 W' :=
  ⟨h.st.below hb, h.bel.trans (hb.mono h.bel.size), h.r0.below (Nat.le_refl _) hb, h.r1.below (Nat.le_refl _) hb, h.ris⟩
theorem Lq.alloc {w W : World} {sb : Nat} {mb : Option Nat} {L0 L1 : Ml} {v0 v1 : Value} (h : Lq w sb mb L0 L1 v0 v1 W) (o : Obj) : Lq w sb mb L0 L1 v0 v1 (W.alloc o) := h.below ((Below.refl _ W).alloc (Nat.le_refl _) o)
theorem Lq.drewN {w W : World} {sb : Nat} {mb : Option Nat} {L0 L1 : Ml} {v0 v1 : Value} (h : Lq w sb mb L0 L1 v0 v1 W) (n : Nat) : Lq w sb mb L0 L1 v0 v1 (W.drewN n) := h.below (drewN_below _ _ _)

set_option maxRecDepth 100000 in
set_option maxHeartbeats 2000000 in
theorem walk_g (sa : Option Addr) (N cap n : Nat) (at' : Int) (w : World) (ms : Ml) (hR : RdK w (.slice sa N cap) ms) (hb : ms.length ≤ 1048576 ∧ Fit8 ms) (hn : n < 256) (ha : 0 ≤ at' ∧ at' < 4294967296) (ev gv : Int) (hcase : gd n = true ∧ ev = 0 ∧ gv = at' ∨ gd n = false ∧ ev = 13 ∧ gv = 0) :
    Calls Try.prog 3 #[.slice sa N cap, .int .u8 (n : Int), .int .u32 at'] w fun e w' => e = .returned (.bool true) ∧ Below w.heap.size w w' := by
  have CL := lays_any w
  have hNl : ms.length = N := by obtain ⟨_, _, e, _⟩ := hR; cases e; rfl
  have hak : i64ok at' := ⟨by omega, by omega⟩
  obtain ⟨L0, hL0⟩ : ∃ L0, ld [] ms = L0 := ⟨_, rfl⟩
  obtain ⟨L1, hL1⟩ : ∃ L1, putL n at' L0 = L1 := ⟨_, rfl⟩
  have g0 : Gdl L0 := hL0 ▸ Gdl.nil.ld
  have g1 : Gdl L1 := hL1 ▸ g0.put
  have m1 : Nng L1 := hL1 ▸ (hL0 ▸ Nng.nil.ld : Nng L0).put
  have hE : putE n at' = ev := by
    rcases hcase with ⟨h1, h2, _⟩ | ⟨h1, h2, _⟩
    · simp [putE, h1, h2]; omega
    · simp [putE, h1, h2]
  have hG : getE n L1 = (gv, ev) := by
    rcases hcase with ⟨h1, h2, h3⟩ | ⟨h1, h2, h3⟩
    · rw [← hL1, getE_put h1 ha.1, h2, h3]
    · rw [getE_bad h1, h2, h3]
  have CN : Hid (∀ w1, Below w.heap.size w w1 → Calls Try.prog 7 #[.slice sa N cap] w1 fun e w' => ∃ sb mb, e = .returned (.pointer (some ⟨sb, 0, none⟩)) ∧ St w' sb mb L0 ∧ Below w1.heap.size w1 w' ∧ w1.heap.size ≤ sb ∧ ∀ b, mb = some b → w1.heap.size ≤ b) := fun w1 hb1 => by
    refine (new_any hNl (by omega) hb.2 (hR.below (Nat.le_refl _) hb1)).mono ?_
    rintro e w' ⟨rfl, mb, h1, h2, h3⟩
    exact ⟨_, mb, rfl, hL0 ▸ h1, h2, Nat.le_refl _, fun b e => Nat.le_of_lt (h3 b e)⟩
  obtain ⟨n0, hn0⟩ : ∃ n0, L0.length = n0 := ⟨_, rfl⟩
  obtain ⟨n1, hn1⟩ : ∃ n1, L1.length = n1 := ⟨_, rfl⟩
  have HN : Hid (L0.length = n0 ∧ L1.length = n1) := ⟨hn0, hn1⟩
  have CA : Hid (∀ w1 sb mb, St w1 sb mb L0 → Calls Try.prog 8 #[.pointer (some ⟨sb, 0, none⟩)] w1 fun e w' => ∃ a c, e = .returned (.slice a n0 c) ∧ w'.ownsRow w1.heap.size 32 2 (.slice a n0 c) L0.length (kcl L0) ∧ Below w1.heap.size w1 w') := fun w1 sb mb h => by
    refine (All_any h g0).mono ?_
    rintro e w' ⟨v, rfl, hr, hb⟩
    obtain ⟨a, c, e1, _⟩ := RdK.of_row hr
    rw [hn0] at e1
    subst e1
    exact ⟨a, c, rfl, hr, hb⟩
  have CB : Hid (∀ w1 sb mb, St w1 sb mb L1 → Calls Try.prog 8 #[.pointer (some ⟨sb, 0, none⟩)] w1 fun e w' => ∃ a c, e = .returned (.slice a n1 c) ∧ RdK w' (.slice a n1 c) L1 ∧ Below w1.heap.size w1 w') := fun w1 sb mb h => by
    rw [← hn1]
    exact All_rd h g1
  have CP : Hid (∀ w1 sb mb, St w1 sb mb L0 → Calls Try.prog 9 #[.pointer (some ⟨sb, 0, none⟩), .int .u8 (n : Int), .int .i64 at'] w1 fun e w' => e = .returned (.int .i64 ev) ∧ ∃ mb', St w' sb mb' L1 ∧ Ch sb mb w1 w' ∧ Nw w1 mb mb') := fun w1 sb mb h => by
    rw [← hE, ← hL1]
    exact put_st h hn hak
  have CG : Hid (∀ w1, Calls Try.prog 10 #[.int .u8 (n : Int)] w1 fun e w' => e = .returned (.bool (ev == 0)) ∧ w' = w1) := fun w1 => by
    have : (ev == 0) = gd n := by
      rcases hcase with ⟨h1, h2, _⟩ | ⟨h1, h2, _⟩
      · rw [h1, h2]; rfl
      · rw [h1, h2]; rfl
    rw [this]
    exact good_any hn w1
  have HS : Hid (∀ w1 sb mb v0 v6, Lq w sb mb L0 L1 v0 v6 w1 → Ris L1 ∧ Fit8 L1) := fun w1 sb mb v0 v6 h => h.st.ris
  have HG : Hid (Gdl L0 ∧ Gdl L1 ∧ Nng L1 ∧ putL n at' L0 = L1 ∧ getE n L1 = (gv, ev)) := ⟨g0, g1, m1, hL1, hG⟩
  have HC : Hid (gd n = true ∧ ev = 0 ∧ gv = at' ∨ gd n = false ∧ ev = 13 ∧ gv = 0) := hcase
  clear hL0 hL1 g0 g1 m1 hE hG hn0 hn1 hR hb hNl hak hcase
  go_enter Try.func3, Try.ntmps3
  go_wp2_with (first
    | (go_at_call 6; refine CL.mono ?_; clear CL; rintro e w1 ⟨rfl, hb1⟩; have HB1 : Hid (Below w.heap.size w w1) := hb1; clear hb1)
    | (go_at_call 7; refine (CN.out _ HB1.out).mono ?_; clear CN; rintro e w2 ⟨sb, mb, rfl, hs2, hb2, hsb, hmb⟩; have HS2 : Hid (St w2 sb mb L0 ∧ Below w.heap.size w w2 ∧ w.heap.size ≤ sb ∧ ∀ b, mb = some b → w.heap.size ≤ b) := ⟨hs2, HB1.out.trans (hb2.mono HB1.out.size), Nat.le_trans HB1.out.size hsb, fun b e => Nat.le_trans HB1.out.size (hmb b e)⟩; clear HB1 hs2 hb2 hsb hmb)
    | (go_at_call 8; refine (CA.out _ _ _ HS2.out.1).mono ?_; clear CA; rintro e w3 ⟨a3, c3, rfl, hr3, hb3⟩; have HS3 : Hid (St w3 sb mb L0 ∧ Below w.heap.size w w3 ∧ w3.ownsRow w2.heap.size 32 2 (.slice a3 n0 c3) L0.length (kcl L0) ∧ sb < w2.heap.size ∧ ∀ b, mb = some b → b < w2.heap.size) := ⟨HS2.out.1.below hb3, HS2.out.2.1.trans (hb3.mono HS2.out.2.1.size), hr3, HS2.out.1.lt, fun b e => (HS2.out.1.own b e).2.lt⟩; clear hr3 hb3)
    | (go_at_call 9; refine (CP.out _ _ _ HS3.out.1).mono ?_; clear CP; rintro e w4 ⟨rfl, mb4, hs4, hc4, hn4⟩; have HS4 : Hid (St w4 sb mb4 L1 ∧ Below w.heap.size w w4 ∧ RdK w4 (.slice a3 n0 c3) L0 ∧ Ris L0 ∧ Fit8 L0) := ⟨hs4, hc4.low HS3.out.2.1 (Nat.le_refl _) HS2.out.2.2.1 HS2.out.2.2.2, RdK.ch HS3.out.2.2.1 hc4 HS3.out.2.2.2.1 HS3.out.2.2.2.2, HS2.out.1.ris⟩; clear hs4 hc4 hn4 HS3 HS2)
    | (go_at_call 10; refine (CG.out _).mono ?_; clear CG; rintro e w5 ⟨rfl, rfl⟩)
    | (go_at_call 8; refine (CB.out _ _ _ HS4.out.1).mono ?_; rintro e w6 ⟨a6, c6, rfl, hr6, hb6⟩; have HQ : Hid (Lq w sb mb4 L0 L1 (.slice a3 n0 c3) (.slice a6 n1 c6) w6) := ⟨HS4.out.1.below hb6, HS4.out.2.1.trans (hb6.mono HS4.out.2.1.size), HS4.out.2.2.1.below (Nat.le_refl _) hb6, hr6, HS4.out.2.2.2⟩; clear hr6 hb6 HS4))
  have hn256 : n1 ≤ 256 := by rw [← HN.out.2]; exact len8 HQ.out.st.ris.1 HQ.out.st.ris.2
  go_loopw [39] (fun t39 wr => ∃ k : Nat, k ≤ n1 ∧ t39 = .int .i64 k ∧ Hid (Lq w sb mb4 L0 L1 (.slice a3 n0 c3) (.slice a6 n1 c6) wr)) (fun t39 _ => n1 - (intOf t39).toNat)
  case atStart => exact ⟨0, Nat.zero_le _, rfl, HQ⟩
  case round =>
    obtain ⟨k, hk, rfl, HK⟩ := hrel
    clear HQ
    by_cases hlt : k < n1
    · obtain ⟨p, hp⟩ : ∃ p, L1[k]? = some p := ⟨L1[k]'(by rw [HN.out.2]; exact hlt), List.getElem?_eq_getElem _⟩
      have hr1 := HK.out.st.ris
      have hp8 := (hr1.2 p (List.mem_of_getElem? hp)).1
      have hpg := HG.out.2.1 p (List.mem_of_getElem? hp)
      have hp0 : ¬ p.2 < 0 := by have := HG.out.2.2.1 p (List.mem_of_getElem? hp); omega
      have hsm : p.1 = n → p.2 = at' := fun h => put_mem (n := n) (a := at') (L := L0) (p := p) (HG.out.2.2.2.1 ▸ hr1.1) (HG.out.2.2.2.1 ▸ HG.out.2.1) ha.1 (HG.out.2.2.2.1 ▸ List.mem_of_getElem? hp) h
      have HSM : Hid (p.1 = n → p.2 = at') := hsm
      have CGp : Hid (∀ w1, Calls Try.prog 10 #[.int .u8 (p.1 : Int)] w1 fun e w' => e = .returned (.bool true) ∧ w' = w1) := fun w1 => by rw [← hpg]; exact good_any hp8 w1
      obtain ⟨a', cap', ev', hrd⟩ := HK.out.r1
      obtain ⟨rfl, hmq, rfl⟩ := Value.slice.inj ev'
      clear ev' hmq
      obtain ⟨g, o, rfl, hg, hcs⟩ := hrd (fun e => by rw [e] at hp; cases hp)
      obtain ⟨y0, y1⟩ := hcs k p hp
      obtain ⟨z0, z1⟩ := new2 wr (.int .u8 (p.1 : Int)) (.int .i64 p.2) 32
      have HX : Hid (Lq w sb mb4 L0 L1 (.slice a3 n0 c3) (.slice (some ⟨g, o, none⟩) n1 c6) (wr.alloc (.cells #[.int .u8 (p.1 : Int), .int .i64 p.2] 32)) ∧ wr.heap.size < (wr.alloc (.cells #[.int .u8 (p.1 : Int), .int .i64 p.2] 32)).heap.size) := ⟨HK.out.alloc _, by simp⟩
      have HPV : Hid (∀ j q, k = j + 1 → L1[j]? = some q → q.1 < p.1 ∧ (wr.alloc (.cells #[.int .u8 (p.1 : Int), .int .i64 p.2] 32)).cell? ⟨g, o + j * 2, none⟩ = some (.int .u8 (q.1 : Int))) := fun j q e hq => by
        refine ⟨?_, ?_⟩
        · have hj := (List.getElem?_eq_some_iff.1 hq).1
          have hk' := (List.getElem?_eq_some_iff.1 hp).1
          have h3 := (List.pairwise_iff_getElem.1 hr1.1) j k hj hk' (by omega)
          rw [(List.getElem?_eq_some_iff.1 hq).2, (List.getElem?_eq_some_iff.1 hp).2] at h3
          exact h3
        · have hB : Below wr.heap.size wr (wr.alloc (.cells #[.int .u8 (p.1 : Int), .int .i64 p.2] 32)) := (Below.refl _ wr).alloc (Nat.le_refl _) _
          exact (hB.cell (p := ⟨g, o + j * 2, none⟩) hg).trans (hcs j q hq).1
      have HLE : Hid (∀ j, j < n1 → ∃ q, L1[j]? = some q) := fun j hj => ⟨L1[j]'(by rw [HN.out.2]; exact hj), List.getElem?_eq_getElem _⟩
      clear hrd hcs hp hpg hr1 hsm hg
      go_upto_region 12 with fail
      obtain ⟨mb0, hmb0⟩ : ∃ mb0, wr.heap.size = mb0 := ⟨_, rfl⟩
      obtain ⟨W2, hW2⟩ : ∃ W2, wr.alloc (.cells #[.int .u8 (p.1 : Int), .int .i64 p.2] 32) = W2 := ⟨_, rfl⟩
      rw [hW2] at HX HPV z0 z1 ⊢
      rw [hmb0] at HX z0 z1 ⊢
      clear HK hmb0 hW2 y0 y1
      go_cut [67] (fun t67 wc => t67 = .bool false ∧ Hid (Lq w sb mb4 L0 L1 (.slice a3 n0 c3) (.slice (some ⟨g, o, none⟩) n1 c6) wc ∧ wc.cell? ⟨mb0, 0, none⟩ = some (.int .u8 (p.1 : Int)) ∧ wc.cell? ⟨mb0, 1, none⟩ = some (.int .i64 p.2)))
      case first =>
        have HY : Hid (∀ m, Lq w sb mb4 L0 L1 (.slice a3 n0 c3) (.slice (some ⟨g, o, none⟩) n1 c6) (W2.drewN m) ∧ (W2.drewN m).cell? ⟨mb0, 0, none⟩ = some (.int .u8 (p.1 : Int)) ∧ (W2.drewN m).cell? ⟨mb0, 1, none⟩ = some (.int .i64 p.2)) := fun m => ⟨HX.out.1.drewN m, z0, z1⟩
        rcases k with _ | j
        · clear HPV HLE
          go_quiet (first | (go_at_call 10; refine Calls.quiet_of_same (CGp.out _)))
          go_wp2
          go_meet
          case rel => exact ⟨rfl, HY.out _⟩
        · obtain ⟨q, hq⟩ := HLE.out j (by omega)
          obtain ⟨hqp, hqc⟩ := HPV.out j q rfl hq
          have hqi : ¬ (p.1 : Int) ≤ (q.1 : Int) := by omega
          have hj1 : (j : Int) < (n1 : Int) := by omega
          have hw1 : IntKind.i64.wrap ((j : Int) + 1 - 1) = (j : Int) := by rw [show (j : Int) + 1 - 1 = (j : Int) by omega]; exact wi64 (by omega) (by omega)
          have hw2 : decide ((p.1 : Int) ≤ (q.1 : Int)) = false := decide_eq_false hqi
          clear HPV HLE hq hqp
          go_quiet (first | (go_at_call 10; refine Calls.quiet_of_same (CGp.out _)))
          go_wp2
          go_meet
          case rel => exact ⟨rfl, HY.out _⟩
      case rest =>
        obtain ⟨rfl, HZ⟩ := hcut
        clear HX HPV HLE z0 z1 CGp
        obtain ⟨q0, q1⟩ := HZ.out.2
        by_cases c : p.1 = n
        · have c2 := HSM.out c
          have c' : (p.1 : Int) = (n : Int) := by omega
          clear c HSM
          go_wp2
          exact ⟨⟨k + 1, by omega, by go_num, HZ.out.1⟩, by simp [intOf]; omega⟩
        · have c' : ¬ (p.1 : Int) = (n : Int) := by omega
          clear c HSM
          go_wp2
          exact ⟨⟨k + 1, by omega, by go_num, HZ.out.1⟩, by simp [intOf]; omega⟩
    · have CT : Hid (Calls Try.prog 11 #[.pointer (some ⟨sb, 0, none⟩), .int .u8 (n : Int)] wr fun e w' => e = .returned (.tuple #[.int .i64 gv, .int .i64 ev]) ∧ w' = wr) := by
        have := get_any HK.out.st hn
        rw [HG.out.2.2.2.2] at this
        exact this
      have hn0b : n0 ≤ 256 := by rw [← HN.out.1]; exact len8 HK.out.ris.1 HK.out.ris.2
      have CN2 : Hid (∀ W, RdK W (.slice a6 n1 c6) L1 → Calls Try.prog 7 #[.slice a6 n1 c6] W fun e w' => ∃ s2 m2, e = .returned (.pointer (some ⟨s2, 0, none⟩)) ∧ St w' s2 m2 L1 ∧ Below W.heap.size W w') := fun W hr => by
        have hr1 := HK.out.st.ris
        refine (new_any HN.out.2 (by omega) hr1.2 hr).mono ?_
        rintro e w' ⟨rfl, m2, h1, h2, _⟩
        rw [ld_self hr1.1 HG.out.2.1 HG.out.2.2.1] at h1
        exact ⟨_, m2, rfl, h1, h2⟩
      have CS : Hid (∀ W a c, RdK W (.slice a n1 c) L1 → RdK W (.slice a6 n1 c6) L1 → Calls Try.prog 12 #[.slice a n1 c, .slice a6 n1 c6] W fun e w' => e = .returned (.bool true) ∧ Below W.heap.size W w') := fun W a c h1 h2 => same_any HN.out.2 (by omega) h1 h2
      have CLn : Hid (∀ W, St W sb mb4 L1 → Calls Try.prog 13 #[.pointer (some ⟨sb, 0, none⟩)] W fun e w' => e = .returned (.int .i64 (n1 : Int)) ∧ w' = W) := fun W h => by
        have := len_any h
        rw [HN.out.2] at this
        exact this
      rcases HC.out with ⟨_, h2, h3⟩ | ⟨_, h2, h3⟩
      · subst h2 h3
        clear HC
        go_wp2_with (go_at_call 11; refine CT.out.mono ?_; clear CT; rintro e w7 ⟨rfl, rfl⟩)
        go_loopw [101] (fun t101 wr => ∃ k : Nat, k ≤ n0 ∧ t101 = .int .i64 k ∧ Hid (Lq w sb mb4 L0 L1 (.slice a3 n0 c3) (.slice a6 n1 c6) wr)) (fun t101 _ => n0 - (intOf t101).toNat)
        case atStart => exact ⟨0, Nat.zero_le _, rfl, HK⟩
        case round =>
          obtain ⟨k, hk, rfl, HK2⟩ := hrel
          clear HK
          by_cases hlt2 : k < n0
          · obtain ⟨p, hp⟩ : ∃ p, L0[k]? = some p := ⟨L0[k]'(by rw [HN.out.1]; exact hlt2), List.getElem?_eq_getElem _⟩
            have hpm := List.mem_of_getElem? hp
            have hp8 := (HK2.out.ris.2 p hpm).1
            have hoth : p.1 ≠ n → getE p.1 L1 = (p.2, 0) := fun h => by rw [← HG.out.2.2.2.1]; exact getE_other HK2.out.ris.1 HG.out.1 hpm h
            obtain ⟨a', cap', ev', hrd⟩ := HK2.out.r0
            obtain ⟨rfl, hmq, rfl⟩ := Value.slice.inj ev'
            clear ev' hmq
            obtain ⟨g, o, rfl, hg, hcs⟩ := hrd (fun e => by rw [e] at hp; cases hp)
            obtain ⟨y0, y1⟩ := hcs k p hp
            obtain ⟨z0, z1⟩ := new2 wr (.int .u8 (p.1 : Int)) (.int .i64 p.2) 32
            have HX : Hid (Lq w sb mb4 L0 L1 (.slice (some ⟨g, o, none⟩) n0 c3) (.slice a6 n1 c6) (wr.alloc (.cells #[.int .u8 (p.1 : Int), .int .i64 p.2] 32))) := HK2.out.alloc _
            have CTp := get_any HX.out.st hp8
            obtain ⟨⟨gx, gf⟩, hgx⟩ : ∃ r : Int × Int, getE p.1 L1 = r := ⟨_, rfl⟩
            rw [hgx] at CTp hoth
            simp only at CTp
            clear hrd hcs hp hg hpm hgx hp8
            go_upto_region 23 with fail
            clear HK2
            obtain ⟨mb0, hmb0⟩ : ∃ mb0, wr.heap.size = mb0 := ⟨_, rfl⟩
            obtain ⟨W2, hW2⟩ : ∃ W2, wr.alloc (.cells #[.int .u8 (p.1 : Int), .int .i64 p.2] 32) = W2 := ⟨_, rfl⟩
            rw [hW2] at HX CTp z0 z1 ⊢
            rw [hmb0] at z0 z1 ⊢
            clear hmb0 hW2 y0 y1
            by_cases c : p.1 = n
            · rw [c] at z0 CTp
              clear c hoth
              go_wp2_with (go_at_call 11; refine CTp.mono ?_; clear CTp; rintro e w8 ⟨rfl, hw8⟩; subst hw8)
              exact ⟨⟨k + 1, by omega, by go_num, HX⟩, by simp [intOf]; omega⟩
            · have c' : ¬ (p.1 : Int) = (n : Int) := by omega
              obtain ⟨rfl, rfl⟩ := Prod.mk.inj (hoth c)
              clear c hoth
              go_wp2_with (go_at_call 11; refine CTp.mono ?_; clear CTp; rintro e w8 ⟨rfl, hw8⟩; subst hw8)
              exact ⟨⟨k + 1, by omega, by go_num, HX⟩, by simp [intOf]; omega⟩
          · go_wp2_with (first
              | (go_at_call 7; refine (CN2.out _ HK2.out.r1).mono ?_; clear CN2; rintro e w8 ⟨s8, m8, rfl, hs8, hb8⟩; have H8 : Hid (Lq w sb mb4 L0 L1 (.slice a3 n0 c3) (.slice a6 n1 c6) w8 ∧ St w8 s8 m8 L1) := ⟨HK2.out.below hb8, hs8⟩; clear hs8 hb8 HK2)
              | (go_at_call 8; refine (CB.out _ _ _ H8.out.2).mono ?_; clear CB; rintro e w9 ⟨a9, c9, rfl, hr9, hb9⟩; have H9 : Hid (Lq w sb mb4 L0 L1 (.slice a3 n0 c3) (.slice a6 n1 c6) w9 ∧ RdK w9 (.slice a9 n1 c9) L1) := ⟨H8.out.1.below hb9, hr9⟩; clear hr9 hb9 H8)
              | (go_at_call 12; refine (CS.out _ _ _ H9.out.2 H9.out.1.r1).mono ?_; clear CS; rintro e w10 ⟨rfl, hb10⟩; have H10 : Hid (Lq w sb mb4 L0 L1 (.slice a3 n0 c3) (.slice a6 n1 c6) w10) := H9.out.1.below hb10; clear hb10 H9)
              | (go_at_call 13; refine (CLn.out _ H10.out.st).mono ?_; clear CLn; rintro e w11 ⟨rfl, rfl⟩))
            go_ret
            exact ⟨by simp, H10.out.bel⟩
      · subst h2 h3
        clear HC
        go_wp2_with (go_at_call 11; refine CT.out.mono ?_; clear CT; rintro e w7 ⟨rfl, rfl⟩)
        go_loopw [101] (fun t101 wr => ∃ k : Nat, k ≤ n0 ∧ t101 = .int .i64 k ∧ Hid (Lq w sb mb4 L0 L1 (.slice a3 n0 c3) (.slice a6 n1 c6) wr)) (fun t101 _ => n0 - (intOf t101).toNat)
        case atStart => exact ⟨0, Nat.zero_le _, rfl, HK⟩
        case round =>
          obtain ⟨k, hk, rfl, HK2⟩ := hrel
          clear HK
          by_cases hlt2 : k < n0
          · obtain ⟨p, hp⟩ : ∃ p, L0[k]? = some p := ⟨L0[k]'(by rw [HN.out.1]; exact hlt2), List.getElem?_eq_getElem _⟩
            have hpm := List.mem_of_getElem? hp
            have hp8 := (HK2.out.ris.2 p hpm).1
            have hoth : p.1 ≠ n → getE p.1 L1 = (p.2, 0) := fun h => by rw [← HG.out.2.2.2.1]; exact getE_other HK2.out.ris.1 HG.out.1 hpm h
            obtain ⟨a', cap', ev', hrd⟩ := HK2.out.r0
            obtain ⟨rfl, hmq, rfl⟩ := Value.slice.inj ev'
            clear ev' hmq
            obtain ⟨g, o, rfl, hg, hcs⟩ := hrd (fun e => by rw [e] at hp; cases hp)
            obtain ⟨y0, y1⟩ := hcs k p hp
            obtain ⟨z0, z1⟩ := new2 wr (.int .u8 (p.1 : Int)) (.int .i64 p.2) 32
            have HX : Hid (Lq w sb mb4 L0 L1 (.slice (some ⟨g, o, none⟩) n0 c3) (.slice a6 n1 c6) (wr.alloc (.cells #[.int .u8 (p.1 : Int), .int .i64 p.2] 32))) := HK2.out.alloc _
            have CTp := get_any HX.out.st hp8
            obtain ⟨⟨gx, gf⟩, hgx⟩ : ∃ r : Int × Int, getE p.1 L1 = r := ⟨_, rfl⟩
            rw [hgx] at CTp hoth
            simp only at CTp
            clear hrd hcs hp hg hpm hgx hp8
            go_upto_region 23 with fail
            clear HK2
            obtain ⟨mb0, hmb0⟩ : ∃ mb0, wr.heap.size = mb0 := ⟨_, rfl⟩
            obtain ⟨W2, hW2⟩ : ∃ W2, wr.alloc (.cells #[.int .u8 (p.1 : Int), .int .i64 p.2] 32) = W2 := ⟨_, rfl⟩
            rw [hW2] at HX CTp z0 z1 ⊢
            rw [hmb0] at z0 z1 ⊢
            clear hmb0 hW2 y0 y1
            by_cases c : p.1 = n
            · rw [c] at z0 CTp
              clear c hoth
              go_wp2_with (go_at_call 11; refine CTp.mono ?_; clear CTp; rintro e w8 ⟨rfl, hw8⟩; subst hw8)
              exact ⟨⟨k + 1, by omega, by go_num, HX⟩, by simp [intOf]; omega⟩
            · have c' : ¬ (p.1 : Int) = (n : Int) := by omega
              obtain ⟨rfl, rfl⟩ := Prod.mk.inj (hoth c)
              clear c hoth
              go_wp2_with (go_at_call 11; refine CTp.mono ?_; clear CTp; rintro e w8 ⟨rfl, hw8⟩; subst hw8)
              exact ⟨⟨k + 1, by omega, by go_num, HX⟩, by simp [intOf]; omega⟩
          · go_wp2_with (first
              | (go_at_call 7; refine (CN2.out _ HK2.out.r1).mono ?_; clear CN2; rintro e w8 ⟨s8, m8, rfl, hs8, hb8⟩; have H8 : Hid (Lq w sb mb4 L0 L1 (.slice a3 n0 c3) (.slice a6 n1 c6) w8 ∧ St w8 s8 m8 L1) := ⟨HK2.out.below hb8, hs8⟩; clear hs8 hb8 HK2)
              | (go_at_call 8; refine (CB.out _ _ _ H8.out.2).mono ?_; clear CB; rintro e w9 ⟨a9, c9, rfl, hr9, hb9⟩; have H9 : Hid (Lq w sb mb4 L0 L1 (.slice a3 n0 c3) (.slice a6 n1 c6) w9 ∧ RdK w9 (.slice a9 n1 c9) L1) := ⟨H8.out.1.below hb9, hr9⟩; clear hr9 hb9 H8)
              | (go_at_call 12; refine (CS.out _ _ _ H9.out.2 H9.out.1.r1).mono ?_; clear CS; rintro e w10 ⟨rfl, hb10⟩; have H10 : Hid (Lq w sb mb4 L0 L1 (.slice a3 n0 c3) (.slice a6 n1 c6) w10) := H9.out.1.below hb10; clear hb10 H9)
              | (go_at_call 13; refine (CLn.out _ H10.out.st).mono ?_; clear CLn; rintro e w11 ⟨rfl, rfl⟩))
            go_ret
            exact ⟨by simp, H10.out.bel⟩
theorem walk_of (sa : Option Addr) (N cap : Nat) (iname iat : Int) (w : World) (ms : Ml) (hR : RdK w (.slice sa N cap) ms) (hb : ms.length ≤ 1048576 ∧ Fit8 ms) (hn : 0 ≤ iname ∧ iname < 256) (ha : 0 ≤ iat ∧ iat < 4294967296) :
    Calls Try.prog 3 #[.slice sa N cap, .int .u8 iname, .int .u32 iat] w fun e w' => e = .returned (.bool true) ∧ Below w.heap.size w w' := by
  obtain ⟨n, rfl⟩ : ∃ n : Nat, iname = (n : Int) := ⟨iname.toNat, by omega⟩
  cases hg : gd n with
  | true => exact walk_g sa N cap n iat w ms hR hb (by omega) ha 0 iat (.inl ⟨hg, rfl, rfl⟩)
  | false => exact walk_g sa N cap n iat w ms hR hb (by omega) ha 13 0 (.inr ⟨hg, rfl, rfl⟩)
end Go.Proofs.Ytiehhafbblbbiab
