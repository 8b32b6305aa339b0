/-
  The walk of the law MarksNone: the zero set is an empty one; a nil set has no marks and keeps none. Conditions: what the law reads is of at most 1048576 values and letters.
-/
import Derived.Test.YtolafffpgkgadaaEPlayA
import Derived.Test.YtolafffpgkgadaaESnap
import Derived.Test.YtolafffpgkgadaaELay
namespace Go.Proofs.Ytolafffpgkgadaa
open Go.RowKit

theorem pnil (w : World) : (binOp .neq 27 (.pointer none) (.pointer none)).run Try.prog w = .ok (.bool false) w := by kernel_rfl
set_option maxRecDepth 100000 in
set_option maxHeartbeats 2000000 in
theorem walk_g (oa : Option Addr) (on oc n : Nat) (p : Int) (w : World) (os : List Oq) (hO : RdO w (.slice oa on oc) os) (ho : oqs os ≤ 1048576 ∧ ∀ x ∈ os, x.fit) (hn : n < 256) (x1 x2 : Int) (hcase : gd n = true ∧ x1 = 7 ∧ (p < 0 ∧ x2 = 1 ∨ ¬ p < 0 ∧ x2 = 7) ∨ gd n = false ∧ x1 = 13 ∧ x2 = 13) :
    Calls Try.prog 5 #[.slice oa on oc, .int .u8 (n : Int), .int .i64 p] w fun e w' => e = .returned (.bool true) ∧ Below w.heap.size w w' := by
  have CL := lays_any w
  have hN2 : os.length = on := by obtain ⟨_, _, e, _⟩ := hO; cases e; rfl
  have hol := oqs_len os
  have hon : on ≤ 1048576 := by omega
  have HO : Hid (RdO w (.slice oa on oc) os) := hO
  have HF : Hid (os.length = on ∧ (∀ x ∈ os, x.fit ∧ x.bulk ≤ 1048576)) := ⟨hN2, fun x hx => ⟨ho.2 x hx, by have := oqs_mem hx; omega⟩⟩
  have CR : Hid (∀ W, Below w.heap.size w W → Calls Try.prog 10 #[.slice none 0 0] (W.alloc (.cells #[.map none] 49)) fun e w' => ∃ rb v, e = .returned (.pointer (some ⟨rb, 0, none⟩)) ∧ Pl w w' W.heap.size none rb v [] 0) := fun W hb => by
    have hb1 : Below W.heap.size W (W.alloc (.cells #[.map none] 49)) := (Below.refl _ W).alloc (Nat.le_refl _) _
    refine (rnew_any (ms := []) rfl (by simp) (fun _ h => by cases h) ⟨none, 0, rfl, fun h => absurd rfl h⟩ (Nat.le_trans hb.size hb1.size)).mono ?_
    rintro e w' ⟨rfl, v, h1, h2, h3⟩
    exact ⟨_, v, rfl, ⟨⟨(h2.block _ (by simp)).trans (World.alloc_heap_new W _), fun _ => rfl, fun b e => by cases e⟩, h1, (hb.trans (hb1.mono hb.size)).trans (h2.mono (Nat.le_trans hb.size hb1.size)), hb.size, fun b e => (by cases e), Gdl.nil, Bd.nil _⟩⟩
  have hE : getE n [] = (0, x1) := by
    rcases hcase with ⟨h1, h2, _⟩ | ⟨h1, h2, _⟩
    · unfold getE; rw [h1, h2]; rfl
    · rw [getE_bad h1, h2]
  have hP : (if putE n p = 0 then 7 else putE n p) = x2 := by
    rcases hcase with ⟨h1, h2, h3 | h3⟩ | ⟨h1, h2, h3⟩
    · simp [putE, h1, h3.1, h3.2]
    · simp [putE, h1, h3.1, h3.2]
    · simp [putE, h1, h3]
  have CGd : Hid (∀ W, Calls Try.prog 22 #[.int .u8 (n : Int)] W fun e w' => e = .returned (.bool (gd n)) ∧ w' = W) := fun W => rgood_any hn W
  have CGt : Hid (∀ W, Calls Try.prog 23 #[.pointer none, .int .u8 (n : Int)] W fun e w' => e = .returned (.tuple #[.int .i64 0, .int .i64 x1]) ∧ w' = W) := fun W => by have := get_none W hn; rw [hE] at this; exact this
  have CDr : Hid (∀ W, Calls Try.prog 24 #[.pointer none, .int .u8 (n : Int)] W fun e w' => e = .returned (.int .i64 x1) ∧ w' = W) := fun W => by have := drop_none W hn; rw [hE] at this; exact this
  have CAl : Hid (∀ W, Calls Try.prog 25 #[.pointer none] W fun e w' => ∃ a c, e = .returned (.slice a 0 c) ∧ Below W.heap.size W w') := fun W => by
    refine (All_none W).mono ?_
    rintro e w' ⟨v, rfl, h1, h2⟩
    rcases h1.2 with ⟨rfl, _⟩ | ⟨g, cap, cur, rfl, _⟩
    · exact ⟨_, _, rfl, h2⟩
    · exact ⟨_, _, rfl, h2⟩
  have CSn : Hid (∀ W u, Calls Try.prog 15 #[.pointer none, .iface 42 u] W fun e w' => e = .returned (.int .i64 0) ∧ Below W.heap.size W w') := fun W u => snap_emp _ u none (all_nil W) (All_none W)
  have CPt : Hid (∀ W, Calls Try.prog 27 #[.pointer none, .int .u8 (n : Int), .int .i64 p] W fun e w' => e = .returned (.int .i64 x2) ∧ w' = W) := fun W => by have := put_nil (a := p) hn W; rw [hP] at this; exact this
  have CM : Hid (∀ W a, Calls Try.prog 20 #[.pointer none, a] W fun e w' => e = .returned (.tuple #[]) ∧ Below W.heap.size W w') := fun W a => move_none W a
  have CFr : Hid (∀ W a m c (l : List Dl), RdD w (.slice a m c) l → l.length ≤ 1048576 → Below w.heap.size w W → ∃ b, Calls Try.prog 19 #[.int .i64 0, .slice a m c] W fun e w' => e = .returned (.bool b) ∧ Below W.heap.size W w') := fun W a m c l hr hl hb => ⟨_, far_any (by obtain ⟨_, _, e, _⟩ := hr; cases e; rfl) (by obtain ⟨_, _, e, _⟩ := id hr; cases e; omega) (hr.below (Nat.le_refl _) hb) 0⟩
  have CLd : Hid (∀ W a m c (l : Ml), RdK w (.slice a m c) l → l.length ≤ 1048576 → Fit8 l → Below w.heap.size w W → Calls Try.prog 18 #[.pointer none, .slice a m c] W fun e w' => e = .returned (.tuple #[]) ∧ Below W.heap.size W w') := fun W a m c l hr hl hf hb => load_none (by obtain ⟨_, _, e, _⟩ := hr; cases e; rfl) (by obtain ⟨_, _, e, _⟩ := id hr; cases e; omega) hf (hr.below (Nat.le_refl _) hb)
  have HCS : Hid (gd n = true ∧ x1 = 7 ∧ (p < 0 ∧ x2 = 1 ∨ ¬ p < 0 ∧ x2 = 7) ∨ gd n = false ∧ x1 = 13 ∧ x2 = 13) := hcase
  clear hO ho hN2 hol hcase hE hP
  go_enter Try.func5, Try.ntmps5
  go_wp2_with (first
    | (go_at_call 8; refine CL.mono ?_; clear CL; rintro e w1 ⟨rfl, hb1⟩; have HB1 : Hid (Below w.heap.size w w1) := hb1; clear hb1)
    | (go_at_call 10; refine (CR.out _ HB1.out).mono ?_; clear CR; rintro e w2 ⟨rb, v, rfl, h2⟩; have H2 : Hid (Pl w w2 w1.heap.size none rb v [] 0) := h2; clear h2 HB1))
  obtain ⟨sb, hsb⟩ : ∃ sb, w1.heap.size = sb := ⟨_, rfl⟩
  rw [hsb] at H2 ⊢
  clear hsb
  go_loopw [24] (fun t24 wr => ∃ k : Nat, k ≤ on ∧ t24 = .int .i64 k ∧ Hid (∃ mb' v' L', Pl w wr sb mb' rb v' L' k)) (fun t24 _ => on - (intOf t24).toNat)
  case atStart => exact ⟨0, Nat.zero_le _, rfl, _, _, _, H2.out⟩
  case round =>
    obtain ⟨k, hk, rfl, HP⟩ := hrel
    clear H2
    by_cases hlt : k < on
    · obtain ⟨q, hq⟩ : ∃ q, os[k]? = some q := ⟨os[k]'(by rw [HF.out.1]; exact hlt), List.getElem?_eq_getElem _⟩
      obtain ⟨mb', v', L', hpl⟩ := HP.out
      obtain ⟨g, o, rfl, ma, mc, ea, ec, ⟨c0, c1, c2, c3, c4⟩, hr1, hr2⟩ := HO.out.at hpl.bel hq
      obtain ⟨mn, hmn⟩ : ∃ mn, q.ms.length = mn := ⟨_, rfl⟩
      obtain ⟨en, hen⟩ : ∃ en, q.ds.length = en := ⟨_, rfl⟩
      rw [hmn] at c3 hr1
      rw [hen] at c4 hr2
      have h1 := HF.out.2 q (List.mem_of_getElem? hq)
      have CPl : Hid (Calls Try.prog 14 #[.pointer (some ⟨sb, 0, none⟩), .pointer (some ⟨rb, 0, none⟩), .agg #[.int .u8 (q.kd : Int), .int .u8 (q.nm : Int), .int .i64 q.pl, .slice ma mn mc, .slice ea en ec]] (wr.alloc (.cells #[.int .u8 (q.kd : Int), .int .u8 (q.nm : Int), .int .i64 q.pl, .slice ma mn mc, .slice ea en ec] 34)) fun e W' => e = .returned (.bool true) ∧ ∃ mb' v' L', Pl w W' sb mb' rb v' L' (k + 1)) := by
        have hp2 := hpl.below ((Below.refl _ wr).alloc (Nat.le_refl _) (.cells #[.int .u8 (q.kd : Int), .int .u8 (q.nm : Int), .int .i64 q.pl, .slice ma mn mc, .slice ea en ec] 34))
        refine (play_any hp2 h1.1 h1.2 (by omega) hr1 hr2).mono ?_
        rintro e W' ⟨rfl, hd⟩
        obtain ⟨mb2, v2, L2, h3, _⟩ := hd.pl hpl.sl
        exact ⟨rfl, mb2, v2, L2, h3⟩
      clear hq hmn hen h1 hr1 hr2 hpl HP HO
      go_wp2_with (first
        | (go_at_call 14; refine CPl.out.mono ?_; clear CPl; rintro e w4 ⟨rfl, mb4, v4, L4, h4⟩; have H4 : Hid (Pl w w4 sb mb4 rb v4 L4 (k + 1)) := h4; clear h4)
        | (go_at_call 11; refine (agree_any H4.out.st H4.out.rs H4.out.g).mono ?_; rintro e w5 ⟨rfl, hb5⟩; have H5 : Hid (Pl w w5 sb mb4 rb v4 L4 (k + 1)) := H4.out.below hb5; clear hb5 H4))
      exact ⟨⟨k + 1, by omega, by go_num, _, _, _, H5.out⟩, by simp [intOf]; omega⟩
    · have HB : Hid (Below w.heap.size w wr) := by obtain ⟨_, _, _, h⟩ := HP.out; exact h.bel
      clear HP
      go_wp2
      obtain ⟨wo, hwo⟩ : ∃ wo, wo = wr := ⟨_, rfl⟩
      subst hwo
      clear hlt hk
      go_loopw [42] (fun t42 wr => ∃ k : Nat, k ≤ on ∧ t42 = .int .i64 k ∧ Hid (Below w.heap.size w wr)) (fun t42 _ => on - (intOf t42).toNat)
      case atStart => exact ⟨0, Nat.zero_le _, rfl, HB⟩
      case round =>
        obtain ⟨j, hj, rfl, HJ⟩ := hrel
        clear HB
        by_cases hlt : j < on
        · obtain ⟨q, hq⟩ : ∃ q, os[j]? = some q := ⟨os[j]'(by rw [HF.out.1]; exact hlt), List.getElem?_eq_getElem _⟩
          obtain ⟨g, o, rfl, ma, mc, ea, ec, ⟨c0, c1, c2, c3, c4⟩, hr1, hr2⟩ := HO.out.at HJ.out hq
          obtain ⟨mn, hmn⟩ : ∃ mn, q.ms.length = mn := ⟨_, rfl⟩
          obtain ⟨en, hen⟩ : ∃ en, q.ds.length = en := ⟨_, rfl⟩
          rw [hmn] at c3 hr1
          rw [hen] at c4 hr2
          have HQ : Hid (q.fit ∧ q.ms.length ≤ 1048576 ∧ q.ds.length ≤ 1048576 ∧ RdK w (.slice ma mn mc) q.ms ∧ RdD w (.slice ea en ec) q.ds) := by
            have h1 := HF.out.2 q (List.mem_of_getElem? hq)
            have h2 := h1.2
            unfold Oq.bulk at h2
            exact ⟨h1.1, by omega, by omega, hr1, hr2⟩
          obtain ⟨bx, hbx⟩ : ∃ bx, (#[.int .u8 (q.kd : Int), .int .u8 (q.nm : Int), .int .i64 q.pl, .slice ma mn mc, .slice ea en ec] : Array Value) = bx := ⟨_, rfl⟩
          have HBX : Hid ((#[.int .u8 (q.kd : Int), .int .u8 (q.nm : Int), .int .i64 q.pl, .slice ma mn mc, .slice ea en ec] : Array Value) = bx) := hbx
          have HX : Hid (Below w.heap.size w (wr.alloc (.cells bx 34)) ∧ (wr.alloc (.cells bx 34)).heap[wr.heap.size]? = some (.cells bx 34 (0, 0))) := ⟨HJ.out.alloc HJ.out.size _, World.alloc_heap_new wr _⟩
          have HC : Hid (∀ (W : World) (ob : Nat), W.heap[ob]? = some (.cells bx 34 (0, 0)) → W.cell? ⟨ob, 3, none⟩ = some (.slice ma mn mc) ∧ W.cell? ⟨ob, 4, none⟩ = some (.slice ea en ec)) := fun W ob h => by
            rw [← hbx] at h
            refine ⟨?_, ?_⟩ <;> simp [World.cell?, h]
          clear hq hr1 hr2 hmn hen hbx HO CPt CSn CAl CDr CGt CGd
          go_upto_region 14 with fail
          rw [HBX.out]
          obtain ⟨ob, hob⟩ : ∃ ob, wr.heap.size = ob := ⟨_, rfl⟩
          obtain ⟨W1, hW1⟩ : ∃ W1, wr.alloc (.cells bx 34) = W1 := ⟨_, rfl⟩
          rw [hW1] at HX ⊢
          rw [hob] at HX ⊢
          obtain ⟨d3, d4⟩ := HC.out _ _ HX.out.2
          clear HJ hW1 hob HBX c0 c1 c2 c3 c4
          have HK : Hid (∀ W W', (Below w.heap.size w W ∧ W.heap[ob]? = some (.cells bx 34 (0, 0))) → Below W.heap.size W W' → (Below w.heap.size w W' ∧ W'.heap[ob]? = some (.cells bx 34 (0, 0)))) := fun W W' h hb => ⟨h.1.trans (hb.mono h.1.size), (hb.block ob (Array.getElem?_eq_some_iff.1 h.2).1).trans h.2⟩
          go_upto_region 15 with (first
            | (go_at_call 18; refine (CLd.out _ _ _ _ q.ms HQ.out.2.2.2.1 HQ.out.2.1 HQ.out.1.2.2.2.1 HX.out.1).mono ?_; clear CLd; rintro e w6 ⟨rfl, hb6⟩; have H6 : Hid (Below w.heap.size w w6 ∧ w6.heap[ob]? = some (.cells bx 34 (0, 0))) := HK.out _ _ HX.out hb6; obtain ⟨f3, f4⟩ := HC.out _ _ H6.out.2; clear hb6 HX))
          obtain ⟨fb, CF⟩ := CFr.out w6 _ _ _ q.ds HQ.out.2.2.2.2 HQ.out.2.2.1 H6.out.1
          clear CFr
          cases fb with
          | true =>
            go_wp2_with (first
              | (go_at_call 19; refine CF.mono ?_; clear CF; rintro e w7 ⟨rfl, hb7⟩; have H7 : Hid (Below w.heap.size w w7 ∧ w7.heap[ob]? = some (.cells bx 34 (0, 0))) := HK.out _ _ H6.out hb7; clear hb7 H6))
            exact ⟨⟨j + 1, by omega, by go_num, H7.out.1⟩, by simp [intOf]; omega⟩
          | false =>
            go_wp2_with (first
              | (go_at_call 19; refine CF.mono ?_; clear CF; rintro e w7 ⟨rfl, hb7⟩; have H7 : Hid (Below w.heap.size w w7 ∧ w7.heap[ob]? = some (.cells bx 34 (0, 0))) := HK.out _ _ H6.out hb7; obtain ⟨g3, g4⟩ := HC.out _ _ H7.out.2; clear hb7 H6)
              | (go_at_call 20; refine (CM.out _ _).mono ?_; clear CM; rintro e w8 ⟨rfl, hb8⟩; have H8 : Hid (Below w.heap.size w w8 ∧ w8.heap[ob]? = some (.cells bx 34 (0, 0))) := HK.out _ _ H7.out hb8; clear hb8 H7))
            exact ⟨⟨j + 1, by omega, by go_num, H8.out.1⟩, by simp [intOf]; omega⟩
        · clear CM CFr CLd HF HO
          have hpn := pnil
          rcases HCS.out with ⟨h1, h2, ⟨h3, h4⟩ | ⟨h3, h4⟩⟩ | ⟨h1, h2, h4⟩
          all_goals
            subst h2 h4
            rw [h1] at CGd
            clear h1 HCS
            go_wp2_with (first
              | (go_at_call 21; refine (clear_none _).mono ?_; rintro e w4 ⟨rfl, hw⟩; subst hw)
              | (go_at_call 22; refine (CGd.out _).mono ?_; clear CGd; rintro e w5 ⟨rfl, hw⟩; subst hw)
              | (go_at_call 23; refine (CGt.out _).mono ?_; clear CGt; rintro e w6 ⟨rfl, hw⟩; subst hw)
              | (go_at_call 24; refine (CDr.out _).mono ?_; clear CDr; rintro e w7 ⟨rfl, hw⟩; subst hw)
              | (go_at_call 25; refine (CAl.out _).mono ?_; clear CAl; rintro e w8 ⟨a8, c8, rfl, hb8⟩; have H8 : Hid (Below w.heap.size w w8) := HJ.out.trans (hb8.mono HJ.out.size); clear hb8 HJ)
              | (go_at_call 26; refine (len_none _).mono ?_; rintro e w9 ⟨rfl, hw⟩; subst hw)
              | (go_at_call 12; refine (clone_none _).mono ?_; rintro e w10 ⟨rfl, hw⟩; subst hw)
              | (go_at_call 15; refine (CSn.out _ _).mono ?_; clear CSn; rintro e w11 ⟨rfl, hb11⟩; have H11 : Hid (Below w.heap.size w w11) := ((H8.out.alloc H8.out.size _).alloc (by have := H8.out.size; simp; omega) _).trans (hb11.mono (by have := H8.out.size; simp; omega)); clear hb11 H8)
              | (go_at_call 27; refine (CPt.out _).mono ?_; clear CPt; rintro e w12 ⟨rfl, hw⟩; subst hw))
            go_ret
            exact ⟨by simp, H11.out⟩
theorem walk_of (oa : Option Addr) (on oc : Nat) (iname ip : Int) (w : World) (os : List Oq) (hO : RdO w (.slice oa on oc) os) (ho : oqs os ≤ 1048576 ∧ ∀ x ∈ os, x.fit) (hn : 0 ≤ iname ∧ iname < 256) (_hp : i64ok ip) :
    Calls Try.prog 5 #[.slice oa on oc, .int .u8 iname, .int .i64 ip] w fun e w' => e = .returned (.bool true) ∧ Below w.heap.size w w' := by
  obtain ⟨n, rfl⟩ : ∃ n : Nat, iname = (n : Int) := ⟨iname.toNat, by omega⟩
  cases hg : gd n with
  | true =>
    by_cases h : ip < 0
    · exact walk_g oa on oc n ip w os hO ho (by omega) 7 1 (.inl ⟨hg, rfl, .inl ⟨h, rfl⟩⟩)
    · exact walk_g oa on oc n ip w os hO ho (by omega) 7 7 (.inl ⟨hg, rfl, .inr ⟨h, rfl⟩⟩)
  | false => exact walk_g oa on oc n ip w os hO ho (by omega) 13 13 (.inr ⟨hg, rfl, rfl⟩)
end Go.Proofs.Ytolafffpgkgadaa
