/-
  The walk of the law HistKeeps: what is written into the entries that were answered is not seen. Conditions: what the law reads is of at most 1048576 values and letters.
-/
import Derived.Test.YtgakgebhhmkclaaHLaw
import Derived.Test.YtgakgebhhmkclaaHPair
namespace Go.Proofs.Ytgakgebhhmkclaa
open Go.RowKit

/-- a history of package hist and one of the document, apart -/
def Py (w : World) (pb rb : Nat) (h q : Hs) (W : World) : Prop := ∃ F G, Pr W w.heap.size pb F h ∧ Rr W w.heap.size rb G q ∧ (∀ g, F g → ¬ G g) ∧ Below w.heap.size w W
theorem Py.below {w W W' : World} {pb rb : Nat} {h q : Hs} (k : Py w pb rb h q W) (hb : Below W.heap.size W W') : Py w pb rb h q W' := by
  obtain ⟨F, G, k1, k2, k3, k4⟩ := k
  exact ⟨F, G, k1.below hb, k2.below hb, k3, k4.trans (hb.mono k4.size)⟩
theorem Py.add {w W : World} {pb rb : Nat} {h q : Hs} (k : Py w pb rb h q W) {t : ByteArray} (ht : t.size ≤ 1099511627776) : Calls Try.prog 11 #[.pointer (some ⟨pb, 0, none⟩), .string t] W fun e W' => e = .returned (.bool (h.took t)) ∧ Py w pb rb (h.add t) q W' := by
  obtain ⟨F, G, k1, k2, k3, k4⟩ := k
  refine (add_any k1 ht).mono ?_
  rintro e W' ⟨rfl, F', q1, q2⟩
  obtain ⟨r1, r2⟩ := k2.kept q2 (fun g hg hf => k3 g hf hg)
  exact ⟨rfl, F', G, q1, r1, fun g hf hg => r2 g hg hf, k4.trans (q2.low (fun g hg => (k1.fp hg).1) k4.size)⟩
theorem Py.radd {w W : World} {pb rb : Nat} {h q : Hs} (k : Py w pb rb h q W) {t : ByteArray} (ht : t.size ≤ 1099511627776) : Calls Try.prog 17 #[.pointer (some ⟨rb, 0, none⟩), .string t] W fun e W' => e = .returned (.bool (q.took t)) ∧ Py w pb rb h (q.add t) W' := by
  obtain ⟨F, G, k1, k2, k3, k4⟩ := k
  refine (radd_any k2 ht).mono ?_
  rintro e W' ⟨rfl, G', q1, q2⟩
  obtain ⟨r1, r2⟩ := k1.kept q2 k3
  exact ⟨rfl, F, G', r1, q1, r2, k4.trans (q2.low (fun g hg => (k2.fp hg).1) k4.size)⟩
/-- the pair beside a list that stays, and apart from what is turned -/
def Ka (w : World) (pb rb : Nat) (h : Hs) (x : Value) (A : Nat → Prop) (W : World) : Prop := ∃ F G, Pr W w.heap.size pb F h ∧ Rr W w.heap.size rb G h ∧ (∀ g, F g → ¬ G g) ∧ (∀ g, F g ∨ G g → ¬ A g) ∧ RdS W x h.es ∧ (∀ g, x.ownBlock = some g → ¬ A g ∧ g < W.heap.size) ∧ Below w.heap.size w W
theorem RdS.heap {W W' : World} {x : Value} {l : Tl} (h : RdS W x l) (e : ∀ g, x.ownBlock = some g → W'.heap[g]? = W.heap[g]?) (hs : W.heap.size ≤ W'.heap.size) : RdS W' x l := by
  obtain ⟨a, c, rfl, hr⟩ := h
  refine ⟨a, c, rfl, fun h0 => ?_⟩
  obtain ⟨g, o, rfl, hg, hc⟩ := hr h0
  exact ⟨g, o, rfl, by omega, fun k s hk => (World.cell?_of_block (e g rfl)).trans (hc k s hk)⟩
theorem Ka.mv {w W W' : World} {pb rb : Nat} {h : Hs} {x : Value} {A A' : Nat → Prop} (k : Ka w pb rb h x A W) (hm : Mv W A W' A') (hA : ∀ g, A g → w.heap.size ≤ g) : Ka w pb rb h x A' W' := by
  obtain ⟨F, G, k1, k2, k3, k4, k5, k6, k7⟩ := k
  obtain ⟨r1, r2⟩ := k1.kept hm (fun g hg => k4 g (.inl hg))
  obtain ⟨s1, s2⟩ := k2.kept hm (fun g hg => k4 g (.inr hg))
  have hsz := hm.ch.2.2.2.1
  refine ⟨F, G, r1, s1, k3, fun g e => ?_, k5.heap (fun g hg => hm.ch.2.2.2.2 g (k6 g hg).2 (k6 g hg).1) hsz, fun g hg => ⟨fun e => ?_, by have := (k6 g hg).2; omega⟩, k7.trans (hm.low hA k7.size)⟩
  · rcases e with e | e
    · exact r2 g e
    · exact s2 g e
  · rcases hm.nx g e with e | e
    · exact (k6 g hg).1 e
    · have := (k6 g hg).2; omega
theorem Ka.py {w W : World} {pb rb : Nat} {h : Hs} {x : Value} {A : Nat → Prop} (k : Ka w pb rb h x A W) : Py w pb rb h h W := by obtain ⟨F, G, k1, k2, k3, _, _, _, k7⟩ := k; exact ⟨F, G, k1, k2, k3, k7⟩
theorem Py.pq {w W : World} {pb rb : Nat} {h : Hs} (k : Py w pb rb h h W) : ∃ U, Pq W U w.heap.size pb rb h W := by obtain ⟨F, G, k1, k2, k3, _⟩ := k; exact ⟨_, F, G, k1, k2, k3, Mv.refl _ _⟩
/-- a text of a row, another one -/
theorem row_put {W : World} {base n c g i : Nat} {s : ByteArray} {xs : List Value} (h : W.ownsRow base 9 1 (.slice (some ⟨g, 0, none⟩) n c) n xs) : (W.setCell ⟨g, i, none⟩ (.string s)).ownsRow base 9 1 (.slice (some ⟨g, 0, none⟩) n c) n (xs.set i (.string s)) := by
  obtain ⟨hl, h⟩ := h
  refine ⟨by rw [List.length_set]; exact hl, ?_⟩
  rcases h with ⟨h1, _⟩ | ⟨g', cap, cur, h1, h2, h3, h4, h5, h6, h7⟩
  · cases h1
  · obtain ⟨e, _, rfl⟩ := Value.slice.inj h1
    cases e
    refine .inr ⟨g, c, _, rfl, h2, set1 _ h3, h4, h5, by simpa using h6, ?_⟩
    rw [← h7, Array.toList_setIfInBounds, List.take_set]
/-- the whole round: the list that is written over, and what stays -/
def Kr (w : World) (pb rb : Nat) (h : Hs) (x a : Value) (m : Nat) (W : World) : Prop := ∃ xs, W.ownsRow w.heap.size 9 1 a m xs ∧ Ka w pb rb h x (fun g => a.ownBlock = some g) W
set_option maxRecDepth 100000 in
set_option maxHeartbeats 8000000 in
theorem walk_of (b : Int) (la : Option Addr) (ln lc : Nat) (w : World) (hb : -9223372036854775808 ≤ b ∧ b ≤ 9223372036854775807) (ls : Tl) (hL : RdS w (.slice la ln lc) ls) (hl : tls ls ≤ 1048576 ∧ True) :
    Calls Try.prog 4 #[.int .i64 b, .slice la ln lc] w fun e w' => e = .returned (.bool true) ∧ Below w.heap.size w w' := by
  have hN : ls.length = ln := by obtain ⟨_, _, e, _⟩ := hL; cases e; rfl
  have hln : ln ≤ 1048576 := by have := tls_len ls; omega
  have HL : Hid (RdS w (.slice la ln lc) ls ∧ ls.length = ln ∧ ∀ s ∈ ls, s.size ≤ 1099511627776) := ⟨hL, hN, fun s hs => by have := tls_mem hs; omega⟩
  have CK : Hid (Calls Try.prog 9 #[] w fun e w' => e = .returned (.bool true) ∧ Hid (Below w.heap.size w w')) := awake_any w
  have C1 : Hid (∀ W, Below w.heap.size w W → Calls Try.prog 10 #[.int .i64 b] W fun e W' => ∃ pb, e = .returned (.pointer (some ⟨pb, 0, none⟩)) ∧ Hid (Ps w pb (Hs.new b) W')) := fun W hW => new_ps hb hW
  have C2 : Hid (∀ W pb, Ps w pb (Hs.new b) W → Calls Try.prog 12 #[.int .i64 b] W fun e W' => ∃ rb, e = .returned (.pointer (some ⟨rb, 0, none⟩)) ∧ Hid (Py w pb rb (Hs.new b) (Hs.new b) W')) := fun W pb k => by
    obtain ⟨⟨F, k1⟩, k2⟩ := k
    refine (rnew_any hb W w.heap.size k2.size).mono ?_
    rintro e W' ⟨rfl, q1, q2⟩
    refine ⟨_, rfl, F, _, k1.below q2, ⟨_, _, q1, rfl⟩, fun g hf hg => ?_, k2.trans (q2.mono k2.size)⟩
    have := (k1.fp hf).2
    rcases hg with rfl | hg | hg
    · omega
    · cases hg
    · cases hg
  clear hL hl hN
  go_enter Try.func4, Try.ntmps4
  go_wp2_with (first
    | (go_at_call 9; refine CK.out.mono ?_; clear CK; rintro e w1 ⟨rfl, H1⟩)
    | (go_at_call 10; refine (C1.out _ H1.out).mono ?_; clear C1 H1; rintro e w2 ⟨pb, rfl, H2⟩)
    | (go_at_call 12; refine (C2.out _ _ H2.out).mono ?_; clear C2 H2; rintro e w3 ⟨rb, rfl, H3⟩))
  go_loopw [7] (fun t7 wr => ∃ k : Nat, k ≤ ln ∧ t7 = .int .i64 k ∧ Hid (∃ h, Py w pb rb h h wr)) (fun t7 _ => ln - (intOf t7).toNat)
  case atStart => exact ⟨0, Nat.zero_le _, rfl, _, H3.out⟩
  case round =>
    obtain ⟨k, hk, rfl, HP⟩ := hrel
    clear H3
    obtain ⟨h0, hp⟩ := HP.out
    have hbel : Below w.heap.size w wr := by obtain ⟨_, _, _, _, _, k3⟩ := hp; exact k3
    by_cases hlt : k < ln
    · obtain ⟨t, ht⟩ : ∃ t, ls[k]? = some t := ⟨ls[k]'(by rw [HL.out.2.1]; exact hlt), List.getElem?_eq_getElem _⟩
      obtain ⟨lg, lo, rfl, c0⟩ := HL.out.1.at hbel ht
      have hts := HL.out.2.2 t (List.mem_of_getElem? ht)
      have HCt : Hid (∀ W, Below w.heap.size w W → W.cell? ⟨lg, lo + k, none⟩ = some (.string t)) := fun W hb => by obtain ⟨g', o', e, q⟩ := HL.out.1.at hb ht; cases e; exact q
      have HPb : Hid (∀ W pb rb h q, Py w pb rb h q W → Below w.heap.size w W) := fun W pb rb h q k => by obtain ⟨_, _, _, _, _, k3⟩ := k; exact k3
      have hlt' : (k : Int) < (ln : Int) := by omega
      have CA : Hid (∀ W, Py w pb rb h0 h0 W → Calls Try.prog 11 #[.pointer (some ⟨pb, 0, none⟩), .string t] W fun e W' => e = .returned (.bool (h0.took t)) ∧ Hid (Py w pb rb (h0.add t) h0 W')) := fun W q => q.add hts
      have CB : Hid (∀ W, Py w pb rb (h0.add t) h0 W → Calls Try.prog 17 #[.pointer (some ⟨rb, 0, none⟩), .string t] W fun e W' => e = .returned (.bool (h0.took t)) ∧ Hid (Py w pb rb (h0.add t) (h0.add t) W')) := fun W q => q.radd hts
      have hok : (h0.add t).Ok := by obtain ⟨_, _, k1, _⟩ := hp; exact k1.ok.add hts
      generalize h0.took t = β at CA CB
      generalize h0.add t = h at CA CB hok
      obtain ⟨n, hn⟩ : ∃ n, h.es.length = n := ⟨_, rfl⟩
      have hn3 : n ≤ 1000 := by have := hok.len; have := hok.b; omega
      have CE : Hid (∀ W, Py w pb rb h h W → Calls Try.prog 18 #[.pointer (some ⟨pb, 0, none⟩)] W fun e W' => ∃ a c, e = .returned (.slice a n c) ∧ Hid (W'.ownsRow w.heap.size 9 1 (.slice a n c) n (sv h.es) ∧ (∀ g, (Value.slice a n c).ownBlock = some g → W.heap.size ≤ g) ∧ Py w pb rb h h W' ∧ (∃ F G, Pr W' w.heap.size pb F h ∧ Rr W' w.heap.size rb G h ∧ (∀ g, F g → ¬ G g) ∧ (∀ g, F g ∨ G g → ¬ (Value.slice a n c).ownBlock = some g) ∧ Below w.heap.size w W'))) := fun W q => by
        have q0 := q
        obtain ⟨F, G, ⟨v, d, k1, hF⟩, k2, k3, k4⟩ := q
        refine (entries_any k1).mono ?_
        rintro e W' ⟨u, rfl, r1, r2⟩
        rw [hn] at r1
        obtain ⟨a, c, rfl, _⟩ := row_slice r1
        have k1' : Pr W w.heap.size pb F h := ⟨v, d, k1, hF⟩
        refine ⟨a, c, rfl, row_base r1 k4.size, fun g hg => (row_blk r1 hg).2.1, q0.below r2, F, G, k1'.below r2, k2.below r2, k3, fun g e hg => ?_, k4.trans (r2.mono k4.size)⟩
        have := (row_blk r1 hg).2.1
        rcases e with e | e
        · have := (k1'.fp e).2; omega
        · have := (k2.fp e).2; omega
      have CE2 : Hid (∀ W a c, W.ownsRow w.heap.size 9 1 (.slice a n c) n (sv h.es) ∧ (∃ F G, Pr W w.heap.size pb F h ∧ Rr W w.heap.size rb G h ∧ (∀ g, F g → ¬ G g) ∧ (∀ g, F g ∨ G g → ¬ (Value.slice a n c).ownBlock = some g) ∧ Below w.heap.size w W) → Calls Try.prog 18 #[.pointer (some ⟨pb, 0, none⟩)] W fun e W' => ∃ a' c', e = .returned (.slice a' n c') ∧ Hid (RdS W' (.slice a n c) h.es ∧ Kr w pb rb h (.slice a' n c') (.slice a n c) n W')) := fun W a c q => by
        obtain ⟨q1, F, G, ⟨v, d, k1, hF⟩, k2, k3, k4, k5⟩ := q
        have k1' : Pr W w.heap.size pb F h := ⟨v, d, k1, hF⟩
        refine (entries_any k1).mono ?_
        rintro e W' ⟨u, rfl, r1, r2⟩
        rw [hn] at r1
        obtain ⟨a', c', rfl, _⟩ := row_slice r1
        have q1' := row_below q1 r2
        refine ⟨a', c', rfl, RdS.of_row q1', _, q1', F, G, k1'.below r2, k2.below r2, k3, k4, RdS.of_row r1, fun g hg => ⟨fun e => ?_, (row_blk r1 hg).2.2⟩, k5.trans (r2.mono k5.size)⟩
        have := (row_blk r1 hg).2.1
        have := (row_blk q1 e).2.2
        omega
      have CR : Hid (∀ W x a m l, RdS W l h.es ∧ Kr w pb rb h x a m W → Calls Try.prog 20 #[.pointer (some ⟨rb, 0, none⟩)] W fun e W' => ∃ a' c', e = .returned (.slice a' n c') ∧ Hid (RdS W' (.slice a' n c') h.es ∧ RdS W' l h.es ∧ Kr w pb rb h x a m W')) := fun W x a m l q => by
        obtain ⟨q0, xs, q1, q2⟩ := q
        have q3 := q2
        obtain ⟨F, G, k1, ⟨v, d, k2, hG⟩, k3, k4, k5, k6, k7⟩ := q2
        refine (rentries_any k2).mono ?_
        rintro e W' ⟨u, rfl, r1, r2⟩
        rw [hn] at r1
        obtain ⟨a', c', rfl, _⟩ := row_slice r1
        exact ⟨a', c', rfl, RdS.of_row r1, q0.below (Nat.le_refl _) r2, xs, row_below q1 r2, q3.mv (Mv.below r2) (fun g e => (row_blk q1 e).2.1)⟩
      have CS : Hid (∀ W x a m ya yc za zc, RdS W (.slice za n zc) h.es ∧ RdS W (.slice ya n yc) h.es ∧ Kr w pb rb h x a m W → Calls Try.prog 19 #[.slice ya n yc, .slice za n zc] W fun e W' => e = .returned (.bool true) ∧ Hid (Kr w pb rb h x a m W')) := fun W x a m ya yc za zc q => by
        refine (same_any hn (by omega) q.2.1 q.1).mono ?_
        rintro e W' ⟨rfl, r2⟩
        obtain ⟨xs, q1, q2⟩ := q.2.2
        exact ⟨rfl, xs, row_below q1 r2, q2.mv (Mv.below r2) (fun g e => (row_blk q1 e).2.1)⟩
      have CSe : Hid (∀ W x a m, Kr w pb rb h x a m W → Calls Try.prog 13 #[.pointer (some ⟨pb, 0, none⟩), .pointer (some ⟨rb, 0, none⟩)] W fun e W' => e = .returned (.bool true) ∧ Hid (Py w pb rb h h W')) := fun W x a m q => by
        obtain ⟨xs, q1, q2⟩ := q
        obtain ⟨U, hU⟩ := q2.py.pq
        exact (seen_any hU).mono fun e W' r => ⟨r.1, q2.py.below r.2⟩
      have HX : Hid (Py w pb rb h0 h0 wr) := hp
      clear hp HP hok ht hbel hn
      go_upto_region 8 with fail
      have HPd : Hid (∀ W pb rb h q, Py w pb rb h q W → Py w pb rb h q W.drew) := fun W pb rb h q k => k.below ⟨rfl, rfl, rfl, Nat.le_refl _, fun _ _ => rfl⟩
      have HXd : Hid (Py w pb rb h0 h0 wr.drew) := HPd.out _ _ _ _ _ HX.out
      have HY : Hid (Below w.heap.size w wr.drew) := HPb.out _ _ _ _ _ HXd.out
      go_region_held3 (fun W => W.cell? ⟨lg, lo + k, none⟩ = some (.string t)) (first | exact HCt.out _ HY.out | exact HCt.out _ (HPb.out _ _ _ _ _ HX.out))
        (first
          | (go_at_call 11; refine (CA.out _ HXd.out).mono ?_; clear CA HXd HY; rintro e w4 ⟨rfl, H4⟩; have HY : Hid (Below w.heap.size w w4) := HPb.out _ _ _ _ _ H4.out)
          | (go_at_call 17; refine (CB.out _ H4.out).mono ?_; clear CB H4 HY; rintro e w5 ⟨rfl, H5⟩; have HY : Hid (Below w.heap.size w w5) := HPb.out _ _ _ _ _ H5.out))
      all_goals clear HY HX HPd
      all_goals
        go_wp2_with (first
          | (go_at_call 18; refine (CE.out _ H5.out).mono ?_; clear CE H5; rintro e w6 ⟨aa, ac, rfl, H6⟩)
          | (go_at_call 18; refine (CE2.out _ _ _ ⟨H6.out.1, H6.out.2.2.2⟩).mono ?_; clear CE2 H6; rintro e w7 ⟨ba, bc, rfl, H7⟩)
          | (go_at_call 20; refine (CR.out _ _ _ _ _ H7.out).mono ?_; clear H7; rintro e w8 ⟨ra, rc, rfl, H8⟩)
          | (go_at_call 19; refine (CS.out _ _ _ _ _ _ _ _ H8.out).mono ?_; clear H8; rintro e w9 ⟨rfl, H9⟩))
        obtain ⟨wo, hwo⟩ : ∃ wo, wo = wr := ⟨_, rfl⟩
        subst hwo
        go_loopw [10] (fun t10 wr => ∃ i : Nat, i ≤ n ∧ t10 = .int .i64 i ∧ Hid (Kr w pb rb h (.slice ba n bc) (.slice aa n ac) n wr)) (fun t10 _ => n - (intOf t10).toNat)
        case atStart => exact ⟨0, Nat.zero_le _, rfl, H9.out⟩
        case round =>
          obtain ⟨i, hi, rfl, HK⟩ := hrel
          clear H9
          by_cases hlti : i < n
          · obtain ⟨xs, q1, q2⟩ := HK.out
            obtain ⟨u, hu⟩ : ∃ u, xs[i]? = some u := ⟨xs[i]'(by have := q1.1; omega), List.getElem?_eq_getElem _⟩
            obtain ⟨g, rfl, x0, f0⟩ := row_cell q1 hu
            have HX : Hid (∀ s : ByteArray, Kr w pb rb h (.slice ba n bc) (.slice (some ⟨g, 0, none⟩) n ac) n (wr.setCell ⟨g, i, none⟩ (.string s))) := fun s => ⟨_, row_put q1, q2.mv (Mv.cell (b := g) rfl (fun _ e => .inl e)) (fun g e => (row_blk q1 e).2.1)⟩
            have hlti' : (i : Int) < (n : Int) := by omega
            clear q1 q2 hu HK
            go_wp2
            exact ⟨⟨i + 1, by omega, by go_num, HX.out _⟩, by simp [intOf]; omega⟩
          · obtain ⟨wo2, hwo2⟩ : ∃ wo2, wo2 = wr := ⟨_, rfl⟩
            subst hwo2
            go_wp2
            go_loopw [8, 11] (fun t8 t11 wr => ∃ (j m : Nat) (ca : Option Addr) (cc : Nat), j ≤ 9 ∧ m ≤ 1009 ∧ m ≤ n + j ∧ t11 = .int .i64 j ∧ t8 = .slice ca m cc ∧ Hid (Kr w pb rb h (.slice ba n bc) (.slice ca m cc) m wr)) (fun _ t11 _ => 9 - (intOf t11).toNat)
            case atStart => exact ⟨0, n, aa, ac, by omega, by omega, by omega, rfl, rfl, HK.out⟩
            case round =>
              obtain ⟨j, m, ca, cc, hj, hm, hmj, rfl, rfl, HJ⟩ := hrel
              clear HK
              by_cases hltj : j < 9
              · obtain ⟨xs, q1, q2⟩ := HJ.out
                have HQ : Hid (wr.ownsRow w.heap.size 9 1 (.slice ca m cc) m xs ∧ w.heap.size ≤ wr.heap.size) := ⟨q1, by have := q2.py; obtain ⟨_, _, _, _, _, k4⟩ := this; exact k4.size⟩
                have HX : Hid (∀ (s : ByteArray) (v' : Value) (W' : World), W'.ownsRow w.heap.size 9 1 v' (m + 1) (xs ++ [.string s]) → (wr.alloc (.cells #[.string s] 9)).grownBy W' (Value.slice ca m cc).ownBlock → (v'.ownBlock = (Value.slice ca m cc).ownBlock ∨ v'.ownBlock = some (wr.heap.size + 1)) → ∃ a' c', v' = .slice a' (m + 1) c' ∧ Kr w pb rb h (.slice ba n bc) (.slice a' (m + 1) c') (m + 1) W') := fun s v' W' r1 r2 r3 => by
                  obtain ⟨a', c', rfl, _⟩ := row_slice r1
                  have hA := World.grownBy_alloc wr (.cells #[.string s] 9) (Value.slice ca m cc).ownBlock
                  have hm1 : Mv wr (fun g => (Value.slice ca m cc).ownBlock = some g) W' (fun g => (Value.slice a' (m + 1) c').ownBlock = some g) := Mv.grown (grown2 hA r2) (fun g e => e) (fun g e => by
                    rcases r3 with h | h
                    · exact .inl (h ▸ e)
                    · rw [h] at e; exact .inr (by have := Option.some.inj e; omega))
                  exact ⟨a', c', rfl, _, r1, q2.mv hm1 (fun g e => (row_blk q1 e).2.1)⟩
                have hltj' : (j : Int) < 9 := by omega
                clear q1 q2 HJ
                go_wp2_with (first
                  | (at_builtin; refine app_one rfl _ _ rfl w.heap.size (.slice ca m cc) m xs rfl ⟨#[103, 114, 111, 119, 110]⟩ HQ.out.1 rfl (by omega) HQ.out.2 ?_; intro v6 w6 hown6 hg6 ho6; obtain ⟨a6, c6, hv6, q6⟩ := HX.out _ _ _ hown6 hg6 ho6; subst hv6; have H6 : Hid (Kr w pb rb h (.slice ba n bc) (.slice a6 (m + 1) c6) (m + 1) w6) := q6; clear q6 hown6 hg6 ho6 HX HQ))
                exact ⟨⟨j + 1, m + 1, _, _, by omega, by omega, by omega, by go_num, rfl, H6.out⟩, by simp [intOf]; omega⟩
              · have HB : Hid (RdS wr (.slice ba n bc) h.es ∧ Kr w pb rb h (.slice ba n bc) (.slice ca m cc) m wr) := by
                  have q := HJ.out
                  refine ⟨?_, q⟩
                  obtain ⟨xs, q1, q2⟩ := q
                  obtain ⟨_, _, _, _, _, _, k5, _⟩ := q2
                  exact k5
                clear HJ
                go_wp2_with (first
                  | (go_at_call 20; refine (CR.out _ _ _ _ _ HB.out).mono ?_; clear CR HB; rintro e w10 ⟨ra, rc, rfl, H10⟩)
                  | (go_at_call 19; refine (CS.out _ _ _ _ _ _ _ _ H10.out).mono ?_; clear CS H10; rintro e w11 ⟨rfl, H11⟩)
                  | (go_at_call 13; refine (CSe.out _ _ _ _ H11.out).mono ?_; clear CSe H11; rintro e w12 ⟨rfl, H12⟩))
                exact ⟨⟨k + 1, by omega, by go_num, _, H12.out⟩, by simp [intOf]; omega⟩
    · clear hp HP
      have HB : Hid (Below w.heap.size w wr) := hbel
      clear hbel
      go_wp2
      go_ret
      exact ⟨rfl, HB.out⟩
end Go.Proofs.Ytgakgebhhmkclaa
