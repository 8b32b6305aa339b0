/-
  The walk of the law LinesKeeps: what is asked of a store's lines leaves the store as it was. Conditions: the two tables of unicode/utf8 lie as their text lays them.
-/
import Derived.Test.YtcjmfoadimpffaaGreatDoorPkDK
import Derived.Test.YtcjmfoadimpffaaGreatDoorPkUK
import Derived.Lib.QuietBelow
import Derived.Lib.QuietBelowIn
import Derived.BigQuiet
namespace Go.Proofs.YtcjmfoadimpffaaGreatDoor.Sto
open Go.RowKit Go.Shelf Bod Wid Go.Lib
open Gap (lim)
attribute [local go_sem] Oper.semAt_some

theorem func_nil2 (f : Fn) (a b : Array Value) (w : World) : (binOp .eql 70 (.func f a b) .nilFunc).run Tryz.prog w = .ok (.bool false) w := by kernel_rfl
/-- the box of the counts, in later worlds -/
structure Kq (X : World) (m1 m2 m3 : Int) (c : Nat) (W : World) : Prop where
  bel : Below X.heap.size X W
  box : W.heap[c]? = some (.cells #[.int .i64 m1, .int .i64 m2, .int .i64 m3] 81 (0, 0))
theorem Kq.below {X W W' : World} {m1 m2 m3 : Int} {c : Nat} (h : Kq X m1 m2 m3 c W) (hb : Below W.heap.size W W') : Kq X m1 m2 m3 c W' := ⟨Below.on h.bel hb, (hb.block _ (Array.getElem?_eq_some_iff.1 h.box).1).trans h.box⟩
theorem kq_new {X W : World} (m1 m2 m3 : Int) (h : Below X.heap.size X W) : Kq X m1 m2 m3 W.heap.size (W.alloc (.cells #[.int .i64 m1, .int .i64 m2, .int .i64 m3] 81)) := ⟨h.alloc h.size _, World.alloc_heap_new _ _⟩
theorem Kq.get {X W : World} {m1 m2 m3 : Int} {c : Nat} (h : Kq X m1 m2 m3 c W) : W.cell? ⟨c, 0, none⟩ = some (.int .i64 m1) ∧ W.cell? ⟨c, 1, none⟩ = some (.int .i64 m2) ∧ W.cell? ⟨c, 2, none⟩ = some (.int .i64 m3) := by simp [World.cell?, h.box]
set_option maxRecDepth 100000 in
set_option maxHeartbeats 4000000 in
theorem keeps_walk (d : Nat) (hd : 6 ≤ d) (s : ByteArray) (kd z x y : Int) (hz : -9223372036854775808 ≤ z ∧ z ≤ 9223372036854775807) (hx : -9223372036854775808 ≤ x ∧ x ≤ 9223372036854775807) (hy : -9223372036854775808 ≤ y ∧ y ≤ 9223372036854775807) (w : World) (hE : Ev w) :
    CallsIn Fence.wide d Tryz.prog 7 #[.agg #[.string s, .int .i64 kd], .int .i64 z, .agg #[.int .i64 x, .int .i64 y]] w fun e W' => e = .returned (.bool true) ∧ Below w.heap.size w W' := by
  have h1 : 1 ≤ d := by omega
  have hM : Tryz.prog.follows .mixedOrders = true := by kernel_rfl
  have HM : Hid (Tryz.prog.follows .mixedOrders = true) := hM
  have hfn := func_nil2
  obtain ⟨W0, hW0⟩ : ∃ W0, (w.alloc (.cells #[.string s, .int .i64 kd] 41)).alloc (.cells #[.int .i64 x, .int .i64 y] 64) = W0 := ⟨_, rfl⟩
  have hb0 : Below w.heap.size w W0 ∧ W0.heap[w.heap.size]? = some (.cells #[.string s, .int .i64 kd] 41 (0, 0)) ∧ W0.heap[w.heap.size + 1]? = some (.cells #[.int .i64 x, .int .i64 y] 64 (0, 0)) := by
    rw [← hW0]
    obtain ⟨p0, p1⟩ := push2 w.heap (.cells #[.string s, .int .i64 kd] 41) (.cells #[.int .i64 x, .int .i64 y] 64)
    exact ⟨((Below.refl _ w).alloc (Nat.le_refl _) _).alloc (by simp) _, p0, p1⟩
  have HX : Hid (∀ W, Below W0.heap.size W0 W → W.cell? ⟨w.heap.size, 0, none⟩ = some (.string s) ∧ W.cell? ⟨w.heap.size, 1, none⟩ = some (.int .i64 kd) ∧ W.cell? ⟨w.heap.size + 1, 0, none⟩ = some (.int .i64 x) ∧ W.cell? ⟨w.heap.size + 1, 1, none⟩ = some (.int .i64 y)) := fun W hW => by
    have e1 := (hW.block _ (Array.getElem?_eq_some_iff.1 hb0.2.1).1).trans hb0.2.1
    have e2 := (hW.block _ (Array.getElem?_eq_some_iff.1 hb0.2.2).1).trans hb0.2.2
    simp [World.cell?, e1, e2]
  have CA : Hid (Calls Tryz.prog 18 #[] W0 fun e W' => e = .returned (.bool true) ∧ Hid (Below W0.heap.size W0 W')) := awake_any hM W0 (hE.below hb0.1)
  obtain ⟨c0, c1, c2, c3⟩ := HX.out W0 (Below.refl _ _)
  have HB0 : Hid (Below w.heap.size w W0) := hb0.1
  by_cases hbig : 1073741822 < s.size
  · clear hE hM hb0
    refine callsIn_of_wp_marks Tryz.func7 rfl trivial ?_ rfl
    simp only [Tryz.ntmps7, List.size_toArray, List.length_cons, List.length_nil, Nat.reduceAdd, Nat.reduceSub, Array.replicate_succ, Array.replicate_zero, List.push_toArray, List.append_toArray, List.nil_append, List.cons_append]
    gi_wp2_with (refine ⟨trivial, ?_⟩; gi_at_call 18; refine (callsIn_wide.2 CA.out).mono ?_; clear CA c0 c1 c2 c3 hW0; rintro e w1 ⟨rfl, H1⟩; obtain ⟨c0, c1, c2, c3⟩ := HX.out _ H1.out)
    exact ⟨_, results_tmp rfl _ _ _, rfl, Below.on HB0.out H1.out⟩
  · have hs : s.size ≤ 1073741824 := by omega
    have hl : lim 1073741824 = 1073741824 := by decide
    obtain ⟨ys, hys⟩ := lns_ex s
    have CK : Hid (∀ W, Hid (Below W0.heap.size W0 W) → Calls Tryz.prog 35 #[.int .i64 kd, .int .i64 8, .int .i64 40, .int .i64 1073741824, .string s] W fun e W' => ∃ b : Nat, e = .returned (.tuple #[.pointer (some ⟨b, 0, none⟩), .int .i64 0]) ∧ Hid (Below W0.heap.size W0 W' ∧ ∃ k bk, Fresh W s k bk b W')) := fun W hW => by
      refine (snew_ok W kd 8 40 1073741824 s (by rw [hl]; exact hs) (by rw [hl]; simp [nwK, Sk.fit]) (hE.below (Below.on hb0.1 hW.out))).mono ?_
      rintro e W' ⟨b, q1, q2⟩
      have hq := q2
      obtain ⟨_, _, _, _, _, _, h5, _⟩ := q2
      exact ⟨b, q1, Below.on hW.out h5, _, _, hq⟩
    have hsz : ¬ (1073741822 : Int) < (s.size : Int) := by omega
    clear hbig
    have HEv : Hid (∀ W, Below W0.heap.size W0 W → Ev W) := fun W hW => hE.below (Below.on hb0.1 hW)
    have HS : Hid (s.size ≤ 1073741824 ∧ Lns s 0 ys none) := ⟨hs, hys⟩
    obtain ⟨oc, hoc⟩ := isCo_ex s z
    obtain ⟨os, hos⟩ := isS_ex s z
    obtain ⟨oa, hoa⟩ := isA_ex s x y
    have HO : Hid (IsCo s z oc ∧ IsS s z os ∧ IsA s x y oa ∧ z ≤ 9223372036854775807 ∧ x ≤ 9223372036854775807 ∧ y ≤ 9223372036854775807) := ⟨hoc, hos, hoa, hz.2, hx.2, hy.2⟩
    clear hoc hos hoa hz hx hy
    clear hE hM hb0 hs hl hys
    refine callsIn_of_wp_marks Tryz.func7 rfl trivial ?_ rfl
    simp only [Tryz.ntmps7, List.size_toArray, List.length_cons, List.length_nil, Nat.reduceAdd, Nat.reduceSub, Array.replicate_succ, Array.replicate_zero, List.push_toArray, List.append_toArray, List.nil_append, List.cons_append]
    gi_wp2_with (first
      | (refine ⟨trivial, ?_⟩; gi_at_call 18; refine (callsIn_wide.2 CA.out).mono ?_; clear CA c0 c1 c2 c3 hW0; rintro e w1 ⟨rfl, H1⟩; obtain ⟨c0, c1, c2, c3⟩ := HX.out _ H1.out)
      | (refine ⟨trivial, ?_⟩; gi_at_call 35; refine (callsIn_wide.2 (CK.out _ H1)).mono ?_; clear CK H1 c0 c1 c2 c3; rintro e X ⟨b, rfl, H2⟩))
    obtain ⟨k, bk, hF⟩ := H2.out.2
    have HF : Hid (Fresh w1 s k bk b X) := hF
    have HBX : Hid (Below W0.heap.size W0 X) := H2.out.1
    clear hF H2
    have CB : Hid (∀ W, Hid (Below X.heap.size X W) → Calls Tryz.prog 36 #[.pointer (some ⟨b, 0, none⟩)] W fun e W' => e = .returned (.int .i64 bk) ∧ Below W.heap.size W W') := fun W hW => by
      obtain ⟨yy, K, h1, h2, h3, h4, h5, h6, h7⟩ := HF.out.below hW.out
      have := Backend_any h1.spt
      rw [show (Tx.or (some yy)).bk = bk from h2] at this
      exact this.mono fun e W' ⟨q1, q2⟩ => ⟨q1, by rw [q2]; exact Below.refl _ _⟩
    have CC : Hid (∀ W, Hid (Below X.heap.size X W) → Calls Tryz.prog 37 #[.pointer (some ⟨b, 0, none⟩)] W fun e W' => e = .returned (.agg #[.int .i64 k.mv, .int .i64 k.fo, .int .i64 k.ed]) ∧ Below W.heap.size W W') := fun W hW => by
      obtain ⟨yy, K, h1, h2, h3, h4, h5, h6, h7⟩ := HF.out.below hW.out
      exact counts_any h1.spt
    have CT : Hid (∀ W, Hid (Below X.heap.size X W) → Calls Tryz.prog 38 #[.pointer (some ⟨b, 0, none⟩)] W fun e W' => e = .returned (.string s) ∧ Below W.heap.size W W') := fun W hW => by
      obtain ⟨yy, K, h1, h2, h3, h4, h5, h6, h7⟩ := HF.out.below hW.out
      have := stext_any h1.spt h1.hold
      rw [h3] at this
      exact this
    have HT : Hid (∀ W, Below X.heap.size X W → Tl W (.iface 75 (.pointer (some ⟨b, 0, none⟩))) s ∧ Ev W) := fun W hW => by
      obtain ⟨yy, K, h1, h2, h3, h4, h5, h6, h7⟩ := HF.out.below hW
      have hE := HEv.out W (Below.on HBX.out hW)
      have := vt_store h1.spt h1.hold hE
      rw [h3] at this
      exact ⟨this.tl HS.out.1, hE⟩
    have HR : Hid (Below X.heap.size X X) := Below.refl _ _
    generalize k.mv = m1 at CC
    generalize k.fo = m2 at CC
    generalize k.ed = m3 at CC
    have C1 : Hid (∀ W c, Hid (Kq X m1 m2 m3 c W) → Calls Tryz.prog 20 #[.iface 75 (.pointer (some ⟨b, 0, none⟩))] W fun e W' => ∃ v, e = .returned v ∧ Hid (Kq X m1 m2 m3 c W')) := fun W c h => (ask_count (HT.out W h.out.bel).1).mono fun e W' ⟨q1, q2⟩ => ⟨_, q1, h.out.below q2⟩
    have C2 : Hid (∀ W c, Hid (Kq X m1 m2 m3 c W) → Calls Tryz.prog 22 #[.iface 75 (.pointer (some ⟨b, 0, none⟩)), .int .i64 z] W fun e W' => ∃ v, e = .returned v ∧ Hid (Kq X m1 m2 m3 c W')) := fun W c h => (ask_of (HT.out W h.out.bel).1 z).mono fun e W' ⟨q1, q2⟩ => ⟨_, q1, h.out.below q2⟩
    have C3 : Hid (∀ W c, Hid (Kq X m1 m2 m3 c W) → Calls Tryz.prog 24 #[.iface 75 (.pointer (some ⟨b, 0, none⟩)), .int .i64 z] W fun e W' => ∃ v, e = .returned v ∧ Hid (Kq X m1 m2 m3 c W')) := fun W c h => (ask_span (HT.out W h.out.bel).1 z HO.out.2.2.2.1 HO.out.2.1).mono fun e W' ⟨q1, q2⟩ => ⟨_, q1, h.out.below q2⟩
    have C4 : Hid (∀ W c, Hid (Kq X m1 m2 m3 c W) → Calls Tryz.prog 26 #[.iface 75 (.pointer (some ⟨b, 0, none⟩)), .int .i64 z] W fun e W' => ∃ v, e = .returned v ∧ Hid (Kq X m1 m2 m3 c W')) := fun W c h => (ask_line (HT.out W h.out.bel).1 z HO.out.2.2.2.1 HO.out.2.1).mono fun e W' ⟨q1, q2⟩ => ⟨_, q1, h.out.below q2⟩
    have C5 : Hid (∀ W c, Hid (Kq X m1 m2 m3 c W) → Calls Tryz.prog 28 #[.iface 75 (.pointer (some ⟨b, 0, none⟩)), .int .i64 z] W fun e W' => ∃ v, e = .returned v ∧ Hid (Kq X m1 m2 m3 c W')) := fun W c h => (ask_col HM.out (HT.out W h.out.bel).1 (HT.out W h.out.bel).2 z HO.out.1).mono fun e W' ⟨q1, q2⟩ => ⟨_, q1, h.out.below q2⟩
    have C6 : Hid (∀ W c, Hid (Kq X m1 m2 m3 c W) → Calls Tryz.prog 30 #[.iface 75 (.pointer (some ⟨b, 0, none⟩)), .int .i64 x, .int .i64 y] W fun e W' => ∃ v, e = .returned v ∧ Hid (Kq X m1 m2 m3 c W')) := fun W c h => (ask_at HM.out (HT.out W h.out.bel).1 (HT.out W h.out.bel).2 x y HO.out.2.2.2.2.1 HO.out.2.2.2.2.2 HO.out.2.2.1).mono fun e W' ⟨q1, q2⟩ => ⟨_, q1, h.out.below q2⟩
    have C7 : Hid (∀ W c, Hid (Kq X m1 m2 m3 c W) → Calls Tryz.prog 33 #[.iface 75 (.pointer (some ⟨b, 0, none⟩))] W fun e W' => e = .returned (.func (.func 70) #[] #[.pointer (some ⟨W.heap.size, 0, none⟩)]) ∧ Hid (Kq X m1 m2 m3 c W' ∧ W'.cell? ⟨W.heap.size, 0, none⟩ = some (.iface 75 (.pointer (some ⟨b, 0, none⟩))))) := fun W c h => (lines_any W _ _).mono fun e W' ⟨q1, q2⟩ => ⟨q1, by
      rw [q2]
      refine ⟨h.out.below ((Below.refl _ _).alloc (Nat.le_refl _) _), ?_⟩
      have := World.alloc_heap_new W (.cells #[.iface 75 (.pointer (some ⟨b, 0, none⟩))] 44)
      unfold World.cell?; rw [this]; rfl⟩
    have HC : Hid (∀ W, Below X.heap.size X W → W.cell? ⟨w.heap.size, 0, none⟩ = some (.string s) ∧ W.cell? ⟨w.heap.size + 1, 0, none⟩ = some (.int .i64 x) ∧ W.cell? ⟨w.heap.size + 1, 1, none⟩ = some (.int .i64 y)) := fun W hW => ⟨(HX.out W (Below.on HBX.out hW)).1, (HX.out W (Below.on HBX.out hW)).2.2⟩
    have HEnd : Hid (∀ W, Below X.heap.size X W → Below w.heap.size w W) := fun W hW => Below.on HB0.out (Below.on HBX.out hW)
    clear HX HB0 HEv HF
    refine ⟨trivial, ?_⟩
    gi_at_call 36
    refine (callsIn_wide.2 (CB.out _ HR)).mono ?_
    rintro e w3 ⟨rfl, H3⟩
    have HB3 : Hid (Below X.heap.size X w3) := Below.on HR.out H3
    clear H3 HR
    gi_wp2_with (first
      | (refine ⟨trivial, ?_⟩; gi_at_call 37; refine (callsIn_wide.2 (CC.out _ HB3)).mono ?_; rintro e w4 ⟨rfl, H4⟩; have HK4 : Hid (Kq X m1 m2 m3 w4.heap.size (w4.alloc (.cells #[.int .i64 m1, .int .i64 m2, .int .i64 m3] 81))) := kq_new m1 m2 m3 (Below.on HB3.out H4); clear H4 HB3)
      | (refine ⟨trivial, ?_⟩; gi_at_call 20; refine (callsIn_wide.2 (C1.out _ _ HK4)).mono ?_; clear C1 HK4; rintro e w5 ⟨v5, rfl, HK5⟩)
      | (refine ⟨trivial, ?_⟩; gi_at_call 22; refine (callsIn_wide.2 (C2.out _ _ HK5)).mono ?_; clear C2 HK5; rintro e w6 ⟨v6, rfl, HK6⟩)
      | (refine ⟨trivial, ?_⟩; gi_at_call 24; refine (callsIn_wide.2 (C3.out _ _ HK6)).mono ?_; clear C3 HK6; rintro e w7 ⟨v7, rfl, HK7⟩)
      | (refine ⟨trivial, ?_⟩; gi_at_call 26; refine (callsIn_wide.2 (C4.out _ _ HK7)).mono ?_; clear C4 HK7; rintro e w8 ⟨v8, rfl, HK8⟩)
      | (refine ⟨trivial, ?_⟩; gi_at_call 28; refine (callsIn_wide.2 (C5.out _ _ HK8)).mono ?_; clear C5 HK8; rintro e w9 ⟨v9, rfl, HK9⟩; obtain ⟨-, y0, y1⟩ := HC.out _ HK9.out.bel)
      | (refine ⟨trivial, ?_⟩; gi_at_call 30; refine (callsIn_wide.2 (C6.out _ _ HK9)).mono ?_; clear C6 HK9 y0 y1; rintro e w10 ⟨v10, rfl, HK10⟩)
      | (refine ⟨trivial, ?_⟩; gi_at_call 33; refine (callsIn_wide.2 (C7.out _ _ HK10)).mono ?_; clear C7 HK10; rintro e w11 ⟨rfl, HK11⟩))
    have hlt := (Array.getElem?_eq_some_iff.1 HK11.out.1.box).1
    have hXs := HK11.out.1.bel.size
    refine act_name' fun A hA => ?_
    refine wpIn_mono (Q := fun e a' W' => (e = .normal ∨ e = .exit 0) ∧ ∃ D, w11.heap.size ≤ D ∧ a' = { A with defers := { target := .collected D, args := #[] } :: A.defers } ∧ Kq X m1 m2 m3 w4.heap.size W' ∧ W'.heap[D]? = some (.deferred (some []))) ?first ?rest
    case first =>
      refine range_own rfl h1 (gf := 70) (lb := #[.pointer (some ⟨w10.heap.size, 0, none⟩)]) (by rw [hA]; rfl) trivial (enters_of Tryz.func70 (by kernel_rfl) rfl)
        (lines_seq (d - 1) (by omega) w10.heap.size (w11.heap.size + 2) (fun _ _ => False) (fun _ _ _ _ h => h) w11 HK11.out.2 (HT.out _ HK11.out.1.bel).1 ys HS.out.2)
        KpT.trans (fun W l o o' _ _ hl ho => KpT.putObj W l o o' hl ho) (fun _ => rfl)
        (fun _ W => Kq X m1 m2 m3 w4.heap.size W) (fun c _ W => c = .exit 0 ∧ Kq X m1 m2 m3 w4.heap.size W)
        (fun pre A' B' row h hg hr => ⟨ab_below (β := Unit) (B := w11.heap.size) hXs (Nat.le_refl _) () A' B' row h.bel hg hr, (hg.block _ (Array.getElem?_eq_some_iff.1 h.box).1 (fun e => by have := (hr _ e.symm).1; omega)).trans h.box⟩)
        (fun c pre A' B' row h hg hr => ⟨h.1, ab_below (β := Unit) (B := w11.heap.size) hXs (Nat.le_refl _) () A' B' row h.2.bel hg hr, (hg.block _ (Array.getElem?_eq_some_iff.1 h.2.box).1 (fun e => by have := (hr _ e.symm).1; omega)).trans h.2.box⟩)
        HK11.out.1
        (fun _ _ _ => True) (fun _ _ _ _ _ _ hs _ _ => hs) ?assign ?body ?done ?stop
      case assign =>
        intro l pre x W K hi hK
        gi_wp2
        exact hK _ _ (KeepsFrom.refl _ _) (KpT.refl _ _) hi trivial
      case body =>
        rintro l pre x a' W _ _ _ _ hi _ _
        gi_wp2
        exact ⟨KeepsFrom.refl _ _, rfl, hi⟩
      case done =>
        rintro D xs W hD _ hi hK
        exact ⟨.inl rfl, D, hD, rfl, hi, hK⟩
      case stop =>
        rintro D c pre W hD _ ⟨rfl, hi⟩ hK
        refine wpIn_exit ?_
        exact ⟨.inr rfl, D, hD, rfl, hi, hK⟩
    case rest =>
      rintro e a' W1 ⟨he, D, hD, rfl, hi, hK⟩
      suffices hq : (Exit.inBlock 0 _) .normal _ W1 by
        rcases he with rfl | rfl
        · exact hq
        · exact hq
      subst hA
      have HI : Hid (Kq X m1 m2 m3 w4.heap.size W1) := hi
      have HKD : Hid (W1.heap[D]? = some (.deferred (some [])) ∧ w11.heap.size ≤ D) := ⟨hK, hD⟩
      obtain ⟨z0, -, -⟩ := HC.out _ hi.bel
      obtain ⟨v0, v1, v2⟩ := hi.get
      clear hi hK hD he HK11 hlt
      gi_wp2
      have f0 := fun d os => cell_regrown z0 d os
      have f1 := fun d os => cell_regrown v0 d os
      have f2 := fun d os => cell_regrown v1 d os
      have f3 := fun d os => cell_regrown v2 d os
      have q1 : ∀ dd os, CallsIn Fence.wide (d - 1) Tryz.prog 38 #[.pointer (some ⟨b, 0, none⟩)] (Go.Sort.grow (redrawn W1 dd) os) fun e V' => e = .returned (.string s) ∧ ∃ p : Regrown, V' = Go.Sort.grow (redrawn W1 p.d) p.os := fun dd os => CallsIn.regrown_of (callsIn_wide.2 (CT.out _ (Below.on HI.out.bel (below_regrown W1 dd os))))
      have q2 : ∀ dd os, CallsIn Fence.wide (d - 1) Tryz.prog 36 #[.pointer (some ⟨b, 0, none⟩)] (Go.Sort.grow (redrawn W1 dd) os) fun e V' => e = .returned (.int .i64 bk) ∧ ∃ p : Regrown, V' = Go.Sort.grow (redrawn W1 p.d) p.os := fun dd os => CallsIn.regrown_of (callsIn_wide.2 (CB.out _ (Below.on HI.out.bel (below_regrown W1 dd os))))
      have q3 : ∀ dd os, CallsIn Fence.wide (d - 1) Tryz.prog 37 #[.pointer (some ⟨b, 0, none⟩)] (Go.Sort.grow (redrawn W1 dd) os) fun e V' => e = .returned (.agg #[.int .i64 m1, .int .i64 m2, .int .i64 m3]) ∧ ∃ p : Regrown, V' = Go.Sort.grow (redrawn W1 p.d) p.os := fun dd os => CallsIn.regrown_of (callsIn_wide.2 (CC.out _ (Below.on HI.out.bel (below_regrown W1 dd os))))
      refine wpIn_region_quiet_below rfl HM.out (by kernel_rfl) ?_
      repeat (gi_big_quiet_step (fail))
      refine Go.BigFrame.wpQuietIn_want (fun _ _ _ _ => trivial) rfl (fun K hK => ?_)
      gi_big_quiet_op
      apply Exists.intro
      refine ⟨fun _ => ?_, ?_⟩
      · first | exact q1 _ _ | exact ⟨(fun h => by cases h), q1 _ _⟩ | exact fun _ => q1 _ _ | exact fun _ => ⟨(fun h => by cases h), q1 _ _⟩
      refine hK _ ?_
      clear hK K
      repeat (gi_big_quiet_step (fail))
      refine Go.BigFrame.wpQuietIn_want (fun _ _ _ _ => trivial) rfl (fun K hK => ?_)
      gi_big_quiet_op
      apply Exists.intro
      refine ⟨fun _ => ?_, ?_⟩
      · first | exact q2 _ _ | exact ⟨(fun h => by cases h), q2 _ _⟩ | exact fun _ => q2 _ _ | exact fun _ => ⟨(fun h => by cases h), q2 _ _⟩
      refine hK _ ?_
      clear hK K
      repeat (gi_big_quiet_step (fail))
      refine Go.BigFrame.wpQuietIn_want (fun _ _ _ _ => trivial) rfl (fun K hK => ?_)
      gi_big_quiet_op
      apply Exists.intro
      refine ⟨fun _ => ?_, ?_⟩
      · first | exact q3 _ _ | exact ⟨(fun h => by cases h), q3 _ _⟩ | exact fun _ => q3 _ _ | exact fun _ => ⟨(fun h => by cases h), q3 _ _⟩
      refine hK _ ?_
      clear hK K
      repeat (gi_big_quiet_step (fail))
      refine wpQuietIn_nil ?_
      intro _ hw'
      obtain ⟨⟨dq, osq⟩, hw''⟩ := hw'
      subst hw''
      have hb := below_regrown W1 dq osq
      have hB : Below w.heap.size w (Go.Sort.grow (redrawn W1 dq) osq) := HEnd.out _ (Below.on HI.out.bel hb)
      have hK : (Go.Sort.grow (redrawn W1 dq) osq).heap[D]? = some (.deferred (some [])) := (hb.block D (Array.getElem?_eq_some_iff.1 HKD.out.1).1).trans HKD.out.1
      have hDw : w.heap.size ≤ D := by have := HKD.out.2; have := (HEnd.out _ (Below.refl _ _)).size; omega
      generalize Go.Sort.grow (redrawn W1 dq) osq = V at hB hK ⊢
      clear q1 q2 q3 f0 f1 f2 f3 z0 v0 v1 v2
      gi_wp2
      refine ⟨by simp, .inl ⟨_, _, rfl, run_takeDeferred hK, ?_⟩⟩
      exact ⟨_, results_tmp rfl _ _ _, rfl, hB.trans (belowK_b (w := w) (Nat.le_refl _) V D _ _ (by omega) hK rfl rfl)⟩
end Go.Proofs.YtcjmfoadimpffaaGreatDoor.Sto
namespace Go.Proofs.YtcjmfoadimpffaaGreatDoor.linesKeeps
open Go.RowKit Go.Shelf Sto
theorem walk_of {H : Type} {d0 d1 d2 : DataW H} (s : ByteArray) (kd z x y : Int) (w : World) (hT : Lib.Utf8Tabs 1 2 w) (hlo0 : 1 < w.heap.size) (hlo1 : 2 < w.heap.size) (_hs : s.size ≤ Rows.uptoBulk d0) (_hd : -9223372036854775808 ≤ kd ∧ kd ≤ 9223372036854775807) (hz : -9223372036854775808 ≤ z ∧ z ≤ 9223372036854775807) (hx : -9223372036854775808 ≤ x ∧ x ≤ 9223372036854775807) (hy : -9223372036854775808 ≤ y ∧ y ≤ 9223372036854775807) (_hk : Rows.uptoSmall H ([d0, d1, d2] ++ []) = true) :
    Calls Tryz.prog 7 #[.agg #[.string s, .int .i64 kd], .int .i64 z, .agg #[.int .i64 x, .int .i64 y]] w fun e W' => e = .returned (.bool true) ∧ Below w.heap.size w W' :=
  callsIn_wide.1 (keeps_walk 6 (by omega) s kd z x y hz hx hy w ⟨hT, hlo0, hlo1⟩)
end Go.Proofs.YtcjmfoadimpffaaGreatDoor.linesKeeps
