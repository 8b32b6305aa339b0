/-
  The library's pdqsortOrdered and slices.Sort at up to 27 bytes, no two the same: they are sorted. Conditions: those of each theorem.
-/
import Derived.Test.YtolafffpgkgadaaEPdqM
import Derived.Test.YtolafffpgkgadaaEPiv
import Derived.Test.YtolafffpgkgadaaEPin
import Derived.Test.YtolafffpgkgadaaEBrkB
namespace Go.Proofs.Ytolafffpgkgadaa
open Go.RowKit

/-- what pdqsort is asked for and leaves -/
def PdqTo (g cap N : Nat) (rest : List Value) (n : Nat) : Prop := ∀ (a b : Nat) (W : World) (xs : List Nat) (l : Nat), b = a + n → b ≤ N → xs.length = N → xs.Nodup → Pre a b xs → Bx W g xs rest → l < 256 →
  Calls Try.prog 55 #[.slice (some ⟨g, 0, none⟩) N cap, .int .i64 a, .int .i64 b, .int .i64 l] W fun e W' => e = .returned (.tuple #[]) ∧ ∃ ys, Rg W g a b xs rest ys W' ∧ SrtOn a b ys
/-- a state of the loop -/
structure Ps (w : World) (g a b : Nat) (xs : List Nat) (rest : List Value) (a' b' : Nat) (ys : List Nat) (W : World) : Prop where
  rg : Rg w g a b xs rest ys W
  sep : Sep a b a' b' ys
theorem Rg.below {w : World} {g a b : Nat} {xs ys : List Nat} {rest : List Value} {W W' : World} (h : Rg w g a b xs rest ys W) (hb : Below W.heap.size W W') : Rg w g a b xs rest ys W' :=
  ⟨h.sm, (hb.block g (Array.getElem?_eq_some_iff.1 h.bx).1).trans h.bx, ⟨hb.os.trans h.gr.os, hb.tape.trans h.gr.tape, hb.output.trans h.gr.output, Nat.le_trans h.gr.size hb.size, fun k hk hne => (hb.block k (Nat.lt_of_lt_of_le hk h.gr.size)).trans (h.gr.block k hk hne)⟩⟩
theorem Ps.drewN {w : World} {g a b : Nat} {xs : List Nat} {rest : List Value} {a' b' : Nat} {ys : List Nat} {W : World} (h : Ps w g a b xs rest a' b' ys W) (n : Nat) : Ps w g a b xs rest a' b' ys (W.drewN n) := ⟨h.rg.drewN n, h.sep⟩
set_option maxRecDepth 100000 in
set_option maxHeartbeats 16000000 in
theorem pdq_all (g cap N : Nat) (rest : List Value) (hsz : N ≤ 1048576) : ∀ n, n ≤ 27 → PdqTo g cap N rest n := by
  intro n
  induction n using Nat.strongRecOn with
  | ind n ih =>
  intro hn a b w xs l hab hbN hN hnd hpre h hl
  have HC : Hid (∀ m, m < n → PdqTo g cap N rest m) := fun m hm => ih m hm (by omega)
  clear ih
  have HH : Hid (Ps w g a b xs rest a b xs w ∧ xs.Nodup ∧ Pre a b xs ∧ xs.length = N ∧ b = a + n) := ⟨⟨⟨Sm.refl _ _ _, h, grownR _ _⟩, fun i j _ _ _ hor => by omega⟩, hnd, hpre, hN, hab⟩
  have hab1 : a ≤ b := by omega
  have hn2 : b ≤ a + n := by omega
  have CI : Hid (∀ (W : World) (ys : List Nat) (a' b' : Nat), a ≤ a' → a' ≤ b' → b' ≤ b → Ps w g a b xs rest a' b' ys W → Calls Try.prog 57 #[.slice (some ⟨g, 0, none⟩) N cap, .int .i64 a', .int .i64 b'] W fun e W' => e = .returned (.tuple #[]) ∧ ∃ zs, Rg w g a b xs rest zs W' ∧ SrtOn a b zs) := fun W ys a' b' h1 h2 h3 hp => by
    have hyl := hp.rg.sm.len
    by_cases e : a' = b'
    · subst e
      exact (ins_empty W _ a' (by omega)).mono fun e w' ⟨k1, k2⟩ => ⟨k1, ys, k2 ▸ hp.rg, hp.sep.done (fun i j _ _ _ => by omega)⟩
    · exact (ins_rg W g cap N ys rest (by omega) hsz a' b' (by omega) (by omega) hp.rg.bx).mono fun e w' ⟨k1, zs, k2, k3⟩ => ⟨k1, zs, hp.rg.trans (k2.mono h1 h3), (hp.sep.sub k2.sm (by omega) h1 h3).done k3⟩
  have CH : Hid (∀ (W : World) (ys : List Nat) (a' b' : Nat), a ≤ a' → a' < b' → b' ≤ b → Ps w g a b xs rest a' b' ys W → Calls Try.prog 58 #[.slice (some ⟨g, 0, none⟩) N cap, .int .i64 a', .int .i64 b'] W fun e W' => e = .returned (.tuple #[]) ∧ ∃ zs, Rg w g a b xs rest zs W' ∧ SrtOn a b zs) := fun W ys a' b' h1 h2 h3 hp => by
    have hyl := hp.rg.sm.len
    exact (heap_any W g cap N ys rest (by omega) hsz a' b' (b' - a') (by omega) (by omega) (by omega) hp.rg.bx).mono fun e w' ⟨k1, zs, k2, k3⟩ => ⟨k1, zs, hp.rg.trans (k2.mono h1 h3), (hp.sep.sub k2.sm (by omega) h1 h3).done k3⟩
  have CB : Hid (∀ (W : World) (ys : List Nat) (a' b' : Nat), a ≤ a' → a' + 13 ≤ b' → b' ≤ b → Ps w g a b xs rest a' b' ys W → Calls Try.prog 59 #[.slice (some ⟨g, 0, none⟩) N cap, .int .i64 a', .int .i64 b'] W fun e W' => e = .returned (.tuple #[]) ∧ ∃ zs, Ps w g a b xs rest a' b' zs W') := fun W ys a' b' h1 h2 h3 hp => by
    have hyl := hp.rg.sm.len
    exact (brk_any W g cap N ys rest (by omega) hsz a' b' (b' - a') (by omega) (by omega) (by omega) (by omega) hp.rg.bx).mono fun e w' ⟨k1, zs, k2⟩ => ⟨k1, zs, hp.rg.trans (k2.mono h1 h3), hp.sep.sub k2.sm (by omega) h1 h3⟩
  have CP : Hid (∀ (W : World) (ys : List Nat) (a' b' : Nat), a ≤ a' → a' + 13 ≤ b' → b' ≤ b → Ps w g a b xs rest a' b' ys W → Calls Try.prog 60 #[.slice (some ⟨g, 0, none⟩) N cap, .int .i64 a', .int .i64 b'] W fun e W' => ∃ (p : Nat) (hint : Int), e = .returned (.tuple #[.int .i64 (p : Int), .int .i64 hint]) ∧ a' < p ∧ p < b' ∧ (hint = 0 ∨ hint = 1) ∧ Ps w g a b xs rest a' b' ys W') := fun W ys a' b' h1 h2 h3 hp => by
    have hyl := hp.rg.sm.len
    exact (pivot_any hp.rg.bx (by omega) hsz a' b' (b' - a') (by omega) (by omega) (by omega) (by omega)).mono fun e w' ⟨p, hint, k1, k2, k3, k4, k5⟩ => ⟨p, hint, k1, k2, k3, k4, hp.rg.below k5, hp.sep⟩
  have CQ : Hid (∀ (W : World) (ys : List Nat) (a' b' : Nat), a ≤ a' → a' + 13 ≤ b' → b' ≤ b → Ps w g a b xs rest a' b' ys W → Calls Try.prog 62 #[.slice (some ⟨g, 0, none⟩) N cap, .int .i64 a', .int .i64 b'] W fun e W' => ∃ q : Bool, e = .returned (.bool q) ∧ (q = true → SrtOn a b ys) ∧ Ps w g a b xs rest a' b' ys W') := fun W ys a' b' h1 h2 h3 hp => by
    have hyl := hp.rg.sm.len
    exact (pins_any W g cap N ys rest (by omega) hsz a' b' (b' - a') (by omega) (by omega) (by omega) (by omega) hp.rg.bx).mono fun e w' ⟨q, k1, k2, m, k3⟩ => ⟨q, k1, fun hq => hp.sep.done (k2 hq), k3 ▸ hp.rg.drewN m, hp.sep⟩
  have CT : Hid (∀ (W : World) (ys : List Nat) (a' b' p : Nat), a ≤ a' → a' < p → p < b' → b' ≤ b → Ps w g a b xs rest a' b' ys W → Calls Try.prog 65 #[.slice (some ⟨g, 0, none⟩) N cap, .int .i64 a', .int .i64 b', .int .i64 p] W fun e W' => ∃ (mid : Nat) (al : Bool) (zs : List Nat), e = .returned (.tuple #[.int .i64 (mid : Int), .bool al]) ∧ a' ≤ mid ∧ mid < b' ∧ Ps w g a b xs rest a' b' zs W' ∧ (∀ k, a' ≤ k → k < mid → nth zs k < nth zs mid) ∧ (∀ k, mid < k → k < b' → nth zs mid ≤ nth zs k)) := fun W ys a' b' p h1 h2 h3 h4 hp => by
    have hyl := hp.rg.sm.len
    exact (part_any W g cap N ys rest (by omega) (by omega) a' b' p h2 h3 (by omega) hp.rg.bx).mono fun e w' ⟨mid, al, zs, k1, k2, k3, k4⟩ => ⟨mid, al, zs, k1, k2, k3, ⟨hp.rg.trans (Rg.mono ⟨k4.sm, k4.bx, k4.gr⟩ h1 h4), hp.sep.sub k4.sm (by omega) h1 h4⟩, k4.lo, k4.hi⟩
  -- what lies right ahead is below what lies within
  have CE : Hid (∀ (W : World) (ys : List Nat) (a' b' p : Nat), a ≤ a' → a' < p → p < b' → b' ≤ b → Ps w g a b xs rest a' b' ys W → ys.Nodup ∧ Pre a' b' ys ∧ ys.length = N ∧ (0 < a' → nth ys (a' - 1) < nth ys p)) := fun W ys a' b' p h1 h2 h3 h4 hp => by
    obtain ⟨_, q2, q3, q4, q5⟩ := HH.out
    have hyl := hp.rg.sm.len
    have hnd2 := hp.rg.sm.nodup q2
    have hpr := (q3.sub hp.rg.sm (by omega)).now hp.sep h1 h4
    refine ⟨hnd2, hpr, by omega, fun h0 => ?_⟩
    have := hpr h0 p (by omega) h3
    have := nodup_ne hnd2 (i := a' - 1) (j := p) (by omega) (by omega) (by omega)
    omega
  have CL : Hid (∀ (W : World) (ys : List Nat) (a' b' mid l' : Nat), l' < 256 → a ≤ a' → a' ≤ mid → mid < b' → b' ≤ b → Ps w g a b xs rest a' b' ys W → (∀ k, a' ≤ k → k < mid → nth ys k < nth ys mid) → (∀ k, mid < k → k < b' → nth ys mid ≤ nth ys k) → ys.Nodup ∧ Pre a' b' ys ∧ ys.length = N →
      Calls Try.prog 55 #[.slice (some ⟨g, 0, none⟩) N cap, .int .i64 a', .int .i64 mid, .int .i64 l'] W fun e W' => e = .returned (.tuple #[]) ∧ ∃ zs, Ps w g a b xs rest (mid + 1) b' zs W') := fun W ys a' b' mid l' hl' h1 h2 h3 h4 hp lo hi hq => by
    refine (HC.out (mid - a') (by omega) a' mid W ys l' (by omega) (by omega) hq.2.2 hq.1 (fun h0 k k1 k2 => hq.2.1 h0 k k1 (by omega)) hp.rg.bx hl').mono ?_
    rintro e w' ⟨k1, zs, k2, k3⟩
    exact ⟨k1, zs, hp.rg.trans (k2.mono h1 (by omega)), hp.sep.left lo hi k2.sm k3 (by omega) h1 h4 h2 h3⟩
  have CR : Hid (∀ (W : World) (ys : List Nat) (a' b' mid l' : Nat), l' < 256 → a ≤ a' → a' ≤ mid → mid < b' → b' ≤ b → Ps w g a b xs rest a' b' ys W → (∀ k, a' ≤ k → k < mid → nth ys k < nth ys mid) → (∀ k, mid < k → k < b' → nth ys mid ≤ nth ys k) → ys.Nodup ∧ Pre a' b' ys ∧ ys.length = N →
      Calls Try.prog 55 #[.slice (some ⟨g, 0, none⟩) N cap, .int .i64 ((mid : Int) + 1), .int .i64 b', .int .i64 l'] W fun e W' => e = .returned (.tuple #[]) ∧ ∃ zs, Ps w g a b xs rest a' mid zs W') := fun W ys a' b' mid l' hl' h1 h2 h3 h4 hp lo hi hq => by
    have := HC.out (b' - (mid + 1)) (by omega) (mid + 1) b' W ys l' (by omega) (by omega) hq.2.2 hq.1 (fun _ k k1 k2 => by rw [Nat.add_sub_cancel]; exact hi k (by omega) k2) hp.rg.bx hl'
    refine this.mono ?_
    rintro e w' ⟨k1, zs, k2, k3⟩
    exact ⟨k1, zs, hp.rg.trans (k2.mono (by omega) h4), hp.sep.right lo hi k2.sm k3 (by omega) h1 h4 h2 h3⟩
  clear hnd hpre h hab hN HC
  go_enter Try.func55, Try.ntmps55
  go_wp2
  go_loopw [1, 2, 3, 8, 9] (fun t1 t2 t3 t8 t9 wr => ∃ (a' b' l' : Nat) (β γ : Bool), t1 = .int .i64 a' ∧ t2 = .int .i64 b' ∧ t3 = .int .i64 l' ∧ t8 = .bool β ∧ t9 = .bool γ ∧ a ≤ a' ∧ a' ≤ b' ∧ b' ≤ b ∧ l' < 256 ∧ Hid (∃ ys, Ps w g a b xs rest a' b' ys wr)) (fun t1 t2 _ _ _ _ => (intOf t2 - intOf t1).toNat)
  case atStart => exact ⟨a, b, l, true, true, rfl, rfl, rfl, rfl, rfl, by omega, by omega, by omega, hl, xs, HH.out.1⟩
  case round =>
    clear HH
    obtain ⟨a', b', l', β, γ, rfl, rfl, rfl, rfl, rfl, h1, h2, h3, hl', HI⟩ := hrel
    by_cases c12 : b' ≤ a' + 12
    · obtain ⟨ys, hys⟩ := HI.out
      have C1 := CI.out wr ys a' b' h1 h2 h3 hys
      have c12' : (b' : Int) - (a' : Int) ≤ 12 := by omega
      clear CI CH CB CP CQ CT CE CL CR HI hys
      go_wp2_with (go_at_call 57; refine C1.mono ?_; clear C1; rintro e w2 ⟨rfl, zs, k1, k2⟩)
      exact bodyPost_ret (results_none rfl _ _ _) rfl ⟨rfl, zs, k1, k2⟩
    · have c12' : ¬ (b' : Int) - (a' : Int) ≤ 12 := by omega
      by_cases c0 : l' = 0
      · obtain ⟨ys, hys⟩ := HI.out
        have C1 := CH.out wr ys a' b' h1 (by omega) h3 hys
        subst c0
        clear CI CH CB CP CQ CT CE CL CR HI hys
        go_wp2_with (go_at_call 58; refine C1.mono ?_; clear C1; rintro e w2 ⟨rfl, zs, k1, k2⟩)
        exact bodyPost_ret (results_none rfl _ _ _) rfl ⟨rfl, zs, k1, k2⟩
      · have c0' : ¬ (l' : Int) = 0 := by omega
        have h13 : a' + 13 ≤ b' := by omega
        clear CI CH
        obtain ⟨ys0, hys0⟩ := HI.out
        clear HI
        cases β with
        | false =>
          have C1 := CB.out wr ys0 a' b' h1 h13 h3 hys0
          clear CB CQ hys0
          go_upto_region 11 with (first | (go_at_call 59; refine C1.mono ?_; clear C1; rintro e w2 ⟨rfl, ys, k1⟩; have HP : Hid (Ps w g a b xs rest a' b' ys w2) := k1; clear k1) | (go_at_call 60; refine (CP.out _ ys a' b' h1 h13 h3 HP.out).mono ?_; clear CP HP; rintro e w3 ⟨p, hint, rfl, hp1, hp2, hh, k1⟩; have HP : Hid (Ps w g a b xs rest a' b' ys w3) := k1; clear k1))
          have hn2 : ¬ hint = 2 := by omega
          go_wp2
          obtain ⟨n1, n2, n3, n4⟩ := CE.out _ ys a' b' p h1 hp1 hp2 h3 HP.out
          by_cases c7 : 0 < a'
          · have hlt := n4 c7
            obtain ⟨cp, _⟩ := HP.out.rg.bx.at (i := p) (by omega)
            obtain ⟨ca, _⟩ := HP.out.rg.bx.at (i := a' - 1) (by omega)
            obtain ⟨vp, hvp⟩ : ∃ vp, nth ys p = vp := ⟨_, rfl⟩
            obtain ⟨va, hva⟩ : ∃ va, nth ys (a' - 1) = va := ⟨_, rfl⟩
            rw [hvp] at cp hlt
            rw [hva] at ca hlt
            have c7' : (0 : Int) < (a' : Int) := by omega
            have e7 : ((a' : Int) - 1).toNat = a' - 1 := by omega
            have b7 : 0 ≤ (a' : Int) - 1 ∧ (a' : Int) - 1 < (N : Int) := by omega
            have b8 : (p : Int) < (N : Int) := by omega
            have w7 : IntKind.i64.wrap ((a' : Int) - 1) = (a' : Int) - 1 := wi64 (by omega) (by omega)
            have hlt' : decide (va < vp) = true := decide_eq_true hlt
            clear n1 n2 n3 n4 hvp hva
            go_quiet (first | (go_at_call 63; refine Calls.quiet_of_same (less_any _ _ _)))
            go_upto_region 22 with (first | (go_at_call 65; refine (CT.out _ ys a' b' p h1 hp1 hp2 h3 (HP.out.drewN _)).mono ?_; clear CT HP; rintro e w5 ⟨mid, al, zs, rfl, m1, m2, m3, m4, m5⟩; obtain ⟨q1, q2, q3, _⟩ := CE.out _ zs a' b' p h1 hp1 hp2 h3 m3; have HM : Hid (Ps w g a b xs rest a' b' zs w5 ∧ (∀ k, a' ≤ k → k < mid → nth zs k < nth zs mid) ∧ (∀ k, mid < k → k < b' → nth zs mid ≤ nth zs k) ∧ (zs.Nodup ∧ Pre a' b' zs ∧ zs.length = N)) := ⟨m3, m4, m5, q1, q2, q3⟩; clear m3 m4 m5 q1 q2 q3 CE))
            by_cases c8 : mid - a' < b' - mid
            · have c8' : (mid : Int) - (a' : Int) < (b' : Int) - (mid : Int) := by omega
              have C9 := CL.out _ zs a' b' mid (l' - 1) (by omega) h1 m1 m2 h3 HM.out.1 HM.out.2.1 HM.out.2.2.1 HM.out.2.2.2
              rw [show ((l' - 1 : Nat) : Int) = (l' : Int) - 1 by omega] at C9
              clear CL CR HM
              go_wp2_with (go_at_call 55; refine C9.mono ?_; clear C9; rintro e w6 ⟨rfl, vs, k1⟩; have HK : Hid (Ps w g a b xs rest (mid + 1) b' vs w6) := k1; clear k1)
              exact ⟨⟨mid + 1, b', l' - 1, _, _, by go_num, rfl, by first | rfl | (congr 1; omega), rfl, rfl, by omega, by omega, by omega, by omega, vs, HK.out⟩, by simp [intOf]; omega⟩
            · have c8' : ¬ (mid : Int) - (a' : Int) < (b' : Int) - (mid : Int) := by omega
              have C9 := CR.out _ zs a' b' mid (l' - 1) (by omega) h1 m1 m2 h3 HM.out.1 HM.out.2.1 HM.out.2.2.1 HM.out.2.2.2
              rw [show ((l' - 1 : Nat) : Int) = (l' : Int) - 1 by omega] at C9
              clear CL CR HM
              go_wp2_with (go_at_call 55; refine C9.mono ?_; clear C9; rintro e w6 ⟨rfl, vs, k1⟩; have HK : Hid (Ps w g a b xs rest a' mid vs w6) := k1; clear k1)
              exact ⟨⟨a', mid, l' - 1, _, _, rfl, rfl, by first | rfl | (congr 1; omega), rfl, rfl, by omega, by omega, by omega, by omega, vs, HK.out⟩, by simp [intOf]; omega⟩
          · have c7' : ¬ (0 : Int) < (a' : Int) := by omega
            clear n1 n2 n3 n4
            go_quiet (first | (go_at_call 63; refine Calls.quiet_of_same (less_any _ _ _)))
            go_upto_region 22 with (first | (go_at_call 65; refine (CT.out _ ys a' b' p h1 hp1 hp2 h3 (HP.out.drewN _)).mono ?_; clear CT HP; rintro e w5 ⟨mid, al, zs, rfl, m1, m2, m3, m4, m5⟩; obtain ⟨q1, q2, q3, _⟩ := CE.out _ zs a' b' p h1 hp1 hp2 h3 m3; have HM : Hid (Ps w g a b xs rest a' b' zs w5 ∧ (∀ k, a' ≤ k → k < mid → nth zs k < nth zs mid) ∧ (∀ k, mid < k → k < b' → nth zs mid ≤ nth zs k) ∧ (zs.Nodup ∧ Pre a' b' zs ∧ zs.length = N)) := ⟨m3, m4, m5, q1, q2, q3⟩; clear m3 m4 m5 q1 q2 q3 CE))
            by_cases c8 : mid - a' < b' - mid
            · have c8' : (mid : Int) - (a' : Int) < (b' : Int) - (mid : Int) := by omega
              have C9 := CL.out _ zs a' b' mid (l' - 1) (by omega) h1 m1 m2 h3 HM.out.1 HM.out.2.1 HM.out.2.2.1 HM.out.2.2.2
              rw [show ((l' - 1 : Nat) : Int) = (l' : Int) - 1 by omega] at C9
              clear CL CR HM
              go_wp2_with (go_at_call 55; refine C9.mono ?_; clear C9; rintro e w6 ⟨rfl, vs, k1⟩; have HK : Hid (Ps w g a b xs rest (mid + 1) b' vs w6) := k1; clear k1)
              exact ⟨⟨mid + 1, b', l' - 1, _, _, by go_num, rfl, by first | rfl | (congr 1; omega), rfl, rfl, by omega, by omega, by omega, by omega, vs, HK.out⟩, by simp [intOf]; omega⟩
            · have c8' : ¬ (mid : Int) - (a' : Int) < (b' : Int) - (mid : Int) := by omega
              have C9 := CR.out _ zs a' b' mid (l' - 1) (by omega) h1 m1 m2 h3 HM.out.1 HM.out.2.1 HM.out.2.2.1 HM.out.2.2.2
              rw [show ((l' - 1 : Nat) : Int) = (l' : Int) - 1 by omega] at C9
              clear CL CR HM
              go_wp2_with (go_at_call 55; refine C9.mono ?_; clear C9; rintro e w6 ⟨rfl, vs, k1⟩; have HK : Hid (Ps w g a b xs rest a' mid vs w6) := k1; clear k1)
              exact ⟨⟨a', mid, l' - 1, _, _, rfl, rfl, by first | rfl | (congr 1; omega), rfl, rfl, by omega, by omega, by omega, by omega, vs, HK.out⟩, by simp [intOf]; omega⟩
        | true =>
          obtain ⟨ys, hys⟩ : ∃ ys, Ps w g a b xs rest a' b' ys wr := ⟨ys0, hys0⟩
          have HP : Hid (Ps w g a b xs rest a' b' ys wr) := hys
          clear CB hys hys0
          cases γ with
          | false =>
            clear CQ
            go_upto_region 11 with (first | (go_at_call 60; refine (CP.out _ ys a' b' h1 h13 h3 HP.out).mono ?_; clear CP HP; rintro e w3 ⟨p, hint, rfl, hp1, hp2, hh, k1⟩; have HP : Hid (Ps w g a b xs rest a' b' ys w3) := k1; clear k1))
            have hn2 : ¬ hint = 2 := by omega
            go_wp2
            obtain ⟨n1, n2, n3, n4⟩ := CE.out _ ys a' b' p h1 hp1 hp2 h3 HP.out
            by_cases c7 : 0 < a'
            · have hlt := n4 c7
              obtain ⟨cp, _⟩ := HP.out.rg.bx.at (i := p) (by omega)
              obtain ⟨ca, _⟩ := HP.out.rg.bx.at (i := a' - 1) (by omega)
              obtain ⟨vp, hvp⟩ : ∃ vp, nth ys p = vp := ⟨_, rfl⟩
              obtain ⟨va, hva⟩ : ∃ va, nth ys (a' - 1) = va := ⟨_, rfl⟩
              rw [hvp] at cp hlt
              rw [hva] at ca hlt
              have c7' : (0 : Int) < (a' : Int) := by omega
              have e7 : ((a' : Int) - 1).toNat = a' - 1 := by omega
              have b7 : 0 ≤ (a' : Int) - 1 ∧ (a' : Int) - 1 < (N : Int) := by omega
              have b8 : (p : Int) < (N : Int) := by omega
              have w7 : IntKind.i64.wrap ((a' : Int) - 1) = (a' : Int) - 1 := wi64 (by omega) (by omega)
              have hlt' : decide (va < vp) = true := decide_eq_true hlt
              clear n1 n2 n3 n4 hvp hva
              go_quiet (first | (go_at_call 63; refine Calls.quiet_of_same (less_any _ _ _)))
              go_upto_region 22 with (first | (go_at_call 65; refine (CT.out _ ys a' b' p h1 hp1 hp2 h3 (HP.out.drewN _)).mono ?_; clear CT HP; rintro e w5 ⟨mid, al, zs, rfl, m1, m2, m3, m4, m5⟩; obtain ⟨q1, q2, q3, _⟩ := CE.out _ zs a' b' p h1 hp1 hp2 h3 m3; have HM : Hid (Ps w g a b xs rest a' b' zs w5 ∧ (∀ k, a' ≤ k → k < mid → nth zs k < nth zs mid) ∧ (∀ k, mid < k → k < b' → nth zs mid ≤ nth zs k) ∧ (zs.Nodup ∧ Pre a' b' zs ∧ zs.length = N)) := ⟨m3, m4, m5, q1, q2, q3⟩; clear m3 m4 m5 q1 q2 q3 CE))
              by_cases c8 : mid - a' < b' - mid
              · have c8' : (mid : Int) - (a' : Int) < (b' : Int) - (mid : Int) := by omega
                have C9 := CL.out _ zs a' b' mid (l') (by omega) h1 m1 m2 h3 HM.out.1 HM.out.2.1 HM.out.2.2.1 HM.out.2.2.2
                rw [show ((l' : Nat) : Int) = (l' : Int) by omega] at C9
                clear CL CR HM
                go_wp2_with (go_at_call 55; refine C9.mono ?_; clear C9; rintro e w6 ⟨rfl, vs, k1⟩; have HK : Hid (Ps w g a b xs rest (mid + 1) b' vs w6) := k1; clear k1)
                exact ⟨⟨mid + 1, b', l', _, _, by go_num, rfl, by first | rfl | (congr 1; omega), rfl, rfl, by omega, by omega, by omega, by omega, vs, HK.out⟩, by simp [intOf]; omega⟩
              · have c8' : ¬ (mid : Int) - (a' : Int) < (b' : Int) - (mid : Int) := by omega
                have C9 := CR.out _ zs a' b' mid (l') (by omega) h1 m1 m2 h3 HM.out.1 HM.out.2.1 HM.out.2.2.1 HM.out.2.2.2
                rw [show ((l' : Nat) : Int) = (l' : Int) by omega] at C9
                clear CL CR HM
                go_wp2_with (go_at_call 55; refine C9.mono ?_; clear C9; rintro e w6 ⟨rfl, vs, k1⟩; have HK : Hid (Ps w g a b xs rest a' mid vs w6) := k1; clear k1)
                exact ⟨⟨a', mid, l', _, _, rfl, rfl, by first | rfl | (congr 1; omega), rfl, rfl, by omega, by omega, by omega, by omega, vs, HK.out⟩, by simp [intOf]; omega⟩
            · have c7' : ¬ (0 : Int) < (a' : Int) := by omega
              clear n1 n2 n3 n4
              go_quiet (first | (go_at_call 63; refine Calls.quiet_of_same (less_any _ _ _)))
              go_upto_region 22 with (first | (go_at_call 65; refine (CT.out _ ys a' b' p h1 hp1 hp2 h3 (HP.out.drewN _)).mono ?_; clear CT HP; rintro e w5 ⟨mid, al, zs, rfl, m1, m2, m3, m4, m5⟩; obtain ⟨q1, q2, q3, _⟩ := CE.out _ zs a' b' p h1 hp1 hp2 h3 m3; have HM : Hid (Ps w g a b xs rest a' b' zs w5 ∧ (∀ k, a' ≤ k → k < mid → nth zs k < nth zs mid) ∧ (∀ k, mid < k → k < b' → nth zs mid ≤ nth zs k) ∧ (zs.Nodup ∧ Pre a' b' zs ∧ zs.length = N)) := ⟨m3, m4, m5, q1, q2, q3⟩; clear m3 m4 m5 q1 q2 q3 CE))
              by_cases c8 : mid - a' < b' - mid
              · have c8' : (mid : Int) - (a' : Int) < (b' : Int) - (mid : Int) := by omega
                have C9 := CL.out _ zs a' b' mid (l') (by omega) h1 m1 m2 h3 HM.out.1 HM.out.2.1 HM.out.2.2.1 HM.out.2.2.2
                rw [show ((l' : Nat) : Int) = (l' : Int) by omega] at C9
                clear CL CR HM
                go_wp2_with (go_at_call 55; refine C9.mono ?_; clear C9; rintro e w6 ⟨rfl, vs, k1⟩; have HK : Hid (Ps w g a b xs rest (mid + 1) b' vs w6) := k1; clear k1)
                exact ⟨⟨mid + 1, b', l', _, _, by go_num, rfl, by first | rfl | (congr 1; omega), rfl, rfl, by omega, by omega, by omega, by omega, vs, HK.out⟩, by simp [intOf]; omega⟩
              · have c8' : ¬ (mid : Int) - (a' : Int) < (b' : Int) - (mid : Int) := by omega
                have C9 := CR.out _ zs a' b' mid (l') (by omega) h1 m1 m2 h3 HM.out.1 HM.out.2.1 HM.out.2.2.1 HM.out.2.2.2
                rw [show ((l' : Nat) : Int) = (l' : Int) by omega] at C9
                clear CL CR HM
                go_wp2_with (go_at_call 55; refine C9.mono ?_; clear C9; rintro e w6 ⟨rfl, vs, k1⟩; have HK : Hid (Ps w g a b xs rest a' mid vs w6) := k1; clear k1)
                exact ⟨⟨a', mid, l', _, _, rfl, rfl, by first | rfl | (congr 1; omega), rfl, rfl, by omega, by omega, by omega, by omega, vs, HK.out⟩, by simp [intOf]; omega⟩
          | true =>
            go_upto_region 11 with (first | (go_at_call 60; refine (CP.out _ ys a' b' h1 h13 h3 HP.out).mono ?_; clear CP HP; rintro e w3 ⟨p, hint, rfl, hp1, hp2, hh, k1⟩; have HP : Hid (Ps w g a b xs rest a' b' ys w3) := k1; clear k1))
            rcases hh with rfl | rfl
            · clear CQ
              go_wp2
              obtain ⟨n1, n2, n3, n4⟩ := CE.out _ ys a' b' p h1 hp1 hp2 h3 HP.out
              by_cases c7 : 0 < a'
              · have hlt := n4 c7
                obtain ⟨cp, _⟩ := HP.out.rg.bx.at (i := p) (by omega)
                obtain ⟨ca, _⟩ := HP.out.rg.bx.at (i := a' - 1) (by omega)
                obtain ⟨vp, hvp⟩ : ∃ vp, nth ys p = vp := ⟨_, rfl⟩
                obtain ⟨va, hva⟩ : ∃ va, nth ys (a' - 1) = va := ⟨_, rfl⟩
                rw [hvp] at cp hlt
                rw [hva] at ca hlt
                have c7' : (0 : Int) < (a' : Int) := by omega
                have e7 : ((a' : Int) - 1).toNat = a' - 1 := by omega
                have b7 : 0 ≤ (a' : Int) - 1 ∧ (a' : Int) - 1 < (N : Int) := by omega
                have b8 : (p : Int) < (N : Int) := by omega
                have w7 : IntKind.i64.wrap ((a' : Int) - 1) = (a' : Int) - 1 := wi64 (by omega) (by omega)
                have hlt' : decide (va < vp) = true := decide_eq_true hlt
                clear n1 n2 n3 n4 hvp hva
                go_quiet (first | (go_at_call 63; refine Calls.quiet_of_same (less_any _ _ _)))
                go_upto_region 22 with (first | (go_at_call 65; refine (CT.out _ ys a' b' p h1 hp1 hp2 h3 (HP.out.drewN _)).mono ?_; clear CT HP; rintro e w5 ⟨mid, al, zs, rfl, m1, m2, m3, m4, m5⟩; obtain ⟨q1, q2, q3, _⟩ := CE.out _ zs a' b' p h1 hp1 hp2 h3 m3; have HM : Hid (Ps w g a b xs rest a' b' zs w5 ∧ (∀ k, a' ≤ k → k < mid → nth zs k < nth zs mid) ∧ (∀ k, mid < k → k < b' → nth zs mid ≤ nth zs k) ∧ (zs.Nodup ∧ Pre a' b' zs ∧ zs.length = N)) := ⟨m3, m4, m5, q1, q2, q3⟩; clear m3 m4 m5 q1 q2 q3 CE))
                by_cases c8 : mid - a' < b' - mid
                · have c8' : (mid : Int) - (a' : Int) < (b' : Int) - (mid : Int) := by omega
                  have C9 := CL.out _ zs a' b' mid (l') (by omega) h1 m1 m2 h3 HM.out.1 HM.out.2.1 HM.out.2.2.1 HM.out.2.2.2
                  rw [show ((l' : Nat) : Int) = (l' : Int) by omega] at C9
                  clear CL CR HM
                  go_wp2_with (go_at_call 55; refine C9.mono ?_; clear C9; rintro e w6 ⟨rfl, vs, k1⟩; have HK : Hid (Ps w g a b xs rest (mid + 1) b' vs w6) := k1; clear k1)
                  exact ⟨⟨mid + 1, b', l', _, _, by go_num, rfl, by first | rfl | (congr 1; omega), rfl, rfl, by omega, by omega, by omega, by omega, vs, HK.out⟩, by simp [intOf]; omega⟩
                · have c8' : ¬ (mid : Int) - (a' : Int) < (b' : Int) - (mid : Int) := by omega
                  have C9 := CR.out _ zs a' b' mid (l') (by omega) h1 m1 m2 h3 HM.out.1 HM.out.2.1 HM.out.2.2.1 HM.out.2.2.2
                  rw [show ((l' : Nat) : Int) = (l' : Int) by omega] at C9
                  clear CL CR HM
                  go_wp2_with (go_at_call 55; refine C9.mono ?_; clear C9; rintro e w6 ⟨rfl, vs, k1⟩; have HK : Hid (Ps w g a b xs rest a' mid vs w6) := k1; clear k1)
                  exact ⟨⟨a', mid, l', _, _, rfl, rfl, by first | rfl | (congr 1; omega), rfl, rfl, by omega, by omega, by omega, by omega, vs, HK.out⟩, by simp [intOf]; omega⟩
              · have c7' : ¬ (0 : Int) < (a' : Int) := by omega
                clear n1 n2 n3 n4
                go_quiet (first | (go_at_call 63; refine Calls.quiet_of_same (less_any _ _ _)))
                go_upto_region 22 with (first | (go_at_call 65; refine (CT.out _ ys a' b' p h1 hp1 hp2 h3 (HP.out.drewN _)).mono ?_; clear CT HP; rintro e w5 ⟨mid, al, zs, rfl, m1, m2, m3, m4, m5⟩; obtain ⟨q1, q2, q3, _⟩ := CE.out _ zs a' b' p h1 hp1 hp2 h3 m3; have HM : Hid (Ps w g a b xs rest a' b' zs w5 ∧ (∀ k, a' ≤ k → k < mid → nth zs k < nth zs mid) ∧ (∀ k, mid < k → k < b' → nth zs mid ≤ nth zs k) ∧ (zs.Nodup ∧ Pre a' b' zs ∧ zs.length = N)) := ⟨m3, m4, m5, q1, q2, q3⟩; clear m3 m4 m5 q1 q2 q3 CE))
                by_cases c8 : mid - a' < b' - mid
                · have c8' : (mid : Int) - (a' : Int) < (b' : Int) - (mid : Int) := by omega
                  have C9 := CL.out _ zs a' b' mid (l') (by omega) h1 m1 m2 h3 HM.out.1 HM.out.2.1 HM.out.2.2.1 HM.out.2.2.2
                  rw [show ((l' : Nat) : Int) = (l' : Int) by omega] at C9
                  clear CL CR HM
                  go_wp2_with (go_at_call 55; refine C9.mono ?_; clear C9; rintro e w6 ⟨rfl, vs, k1⟩; have HK : Hid (Ps w g a b xs rest (mid + 1) b' vs w6) := k1; clear k1)
                  exact ⟨⟨mid + 1, b', l', _, _, by go_num, rfl, by first | rfl | (congr 1; omega), rfl, rfl, by omega, by omega, by omega, by omega, vs, HK.out⟩, by simp [intOf]; omega⟩
                · have c8' : ¬ (mid : Int) - (a' : Int) < (b' : Int) - (mid : Int) := by omega
                  have C9 := CR.out _ zs a' b' mid (l') (by omega) h1 m1 m2 h3 HM.out.1 HM.out.2.1 HM.out.2.2.1 HM.out.2.2.2
                  rw [show ((l' : Nat) : Int) = (l' : Int) by omega] at C9
                  clear CL CR HM
                  go_wp2_with (go_at_call 55; refine C9.mono ?_; clear C9; rintro e w6 ⟨rfl, vs, k1⟩; have HK : Hid (Ps w g a b xs rest a' mid vs w6) := k1; clear k1)
                  exact ⟨⟨a', mid, l', _, _, rfl, rfl, by first | rfl | (congr 1; omega), rfl, rfl, by omega, by omega, by omega, by omega, vs, HK.out⟩, by simp [intOf]; omega⟩
            · go_wp2_with (go_at_call 62; refine (CQ.out _ ys a' b' h1 h13 h3 HP.out).mono ?_; clear CQ HP; rintro e w4 ⟨q, rfl, k1, k2⟩; have HQ : Hid (q = true → SrtOn a b ys) := k1; have HP : Hid (Ps w g a b xs rest a' b' ys w4) := k2; clear k1 k2)
              · have hq : q = true := by assumption
                exact bodyPost_ret (results_none rfl _ _ _) rfl ⟨rfl, ys, HP.out.rg, HQ.out hq⟩
              · clear HQ
                obtain ⟨n1, n2, n3, n4⟩ := CE.out _ ys a' b' p h1 hp1 hp2 h3 HP.out
                by_cases c7 : 0 < a'
                · have hlt := n4 c7
                  obtain ⟨cp, _⟩ := HP.out.rg.bx.at (i := p) (by omega)
                  obtain ⟨ca, _⟩ := HP.out.rg.bx.at (i := a' - 1) (by omega)
                  obtain ⟨vp, hvp⟩ : ∃ vp, nth ys p = vp := ⟨_, rfl⟩
                  obtain ⟨va, hva⟩ : ∃ va, nth ys (a' - 1) = va := ⟨_, rfl⟩
                  rw [hvp] at cp hlt
                  rw [hva] at ca hlt
                  have c7' : (0 : Int) < (a' : Int) := by omega
                  have e7 : ((a' : Int) - 1).toNat = a' - 1 := by omega
                  have b7 : 0 ≤ (a' : Int) - 1 ∧ (a' : Int) - 1 < (N : Int) := by omega
                  have b8 : (p : Int) < (N : Int) := by omega
                  have w7 : IntKind.i64.wrap ((a' : Int) - 1) = (a' : Int) - 1 := wi64 (by omega) (by omega)
                  have hlt' : decide (va < vp) = true := decide_eq_true hlt
                  clear n1 n2 n3 n4 hvp hva
                  go_quiet (first | (go_at_call 63; refine Calls.quiet_of_same (less_any _ _ _)))
                  go_upto_region 22 with (first | (go_at_call 65; refine (CT.out _ ys a' b' p h1 hp1 hp2 h3 (HP.out.drewN _)).mono ?_; clear CT HP; rintro e w5 ⟨mid, al, zs, rfl, m1, m2, m3, m4, m5⟩; obtain ⟨q1, q2, q3, _⟩ := CE.out _ zs a' b' p h1 hp1 hp2 h3 m3; have HM : Hid (Ps w g a b xs rest a' b' zs w5 ∧ (∀ k, a' ≤ k → k < mid → nth zs k < nth zs mid) ∧ (∀ k, mid < k → k < b' → nth zs mid ≤ nth zs k) ∧ (zs.Nodup ∧ Pre a' b' zs ∧ zs.length = N)) := ⟨m3, m4, m5, q1, q2, q3⟩; clear m3 m4 m5 q1 q2 q3 CE))
                  by_cases c8 : mid - a' < b' - mid
                  · have c8' : (mid : Int) - (a' : Int) < (b' : Int) - (mid : Int) := by omega
                    have C9 := CL.out _ zs a' b' mid (l') (by omega) h1 m1 m2 h3 HM.out.1 HM.out.2.1 HM.out.2.2.1 HM.out.2.2.2
                    rw [show ((l' : Nat) : Int) = (l' : Int) by omega] at C9
                    clear CL CR HM
                    go_wp2_with (go_at_call 55; refine C9.mono ?_; clear C9; rintro e w6 ⟨rfl, vs, k1⟩; have HK : Hid (Ps w g a b xs rest (mid + 1) b' vs w6) := k1; clear k1)
                    exact ⟨⟨mid + 1, b', l', _, _, by go_num, rfl, by first | rfl | (congr 1; omega), rfl, rfl, by omega, by omega, by omega, by omega, vs, HK.out⟩, by simp [intOf]; omega⟩
                  · have c8' : ¬ (mid : Int) - (a' : Int) < (b' : Int) - (mid : Int) := by omega
                    have C9 := CR.out _ zs a' b' mid (l') (by omega) h1 m1 m2 h3 HM.out.1 HM.out.2.1 HM.out.2.2.1 HM.out.2.2.2
                    rw [show ((l' : Nat) : Int) = (l' : Int) by omega] at C9
                    clear CL CR HM
                    go_wp2_with (go_at_call 55; refine C9.mono ?_; clear C9; rintro e w6 ⟨rfl, vs, k1⟩; have HK : Hid (Ps w g a b xs rest a' mid vs w6) := k1; clear k1)
                    exact ⟨⟨a', mid, l', _, _, rfl, rfl, by first | rfl | (congr 1; omega), rfl, rfl, by omega, by omega, by omega, by omega, vs, HK.out⟩, by simp [intOf]; omega⟩
                · have c7' : ¬ (0 : Int) < (a' : Int) := by omega
                  clear n1 n2 n3 n4
                  go_quiet (first | (go_at_call 63; refine Calls.quiet_of_same (less_any _ _ _)))
                  go_upto_region 22 with (first | (go_at_call 65; refine (CT.out _ ys a' b' p h1 hp1 hp2 h3 (HP.out.drewN _)).mono ?_; clear CT HP; rintro e w5 ⟨mid, al, zs, rfl, m1, m2, m3, m4, m5⟩; obtain ⟨q1, q2, q3, _⟩ := CE.out _ zs a' b' p h1 hp1 hp2 h3 m3; have HM : Hid (Ps w g a b xs rest a' b' zs w5 ∧ (∀ k, a' ≤ k → k < mid → nth zs k < nth zs mid) ∧ (∀ k, mid < k → k < b' → nth zs mid ≤ nth zs k) ∧ (zs.Nodup ∧ Pre a' b' zs ∧ zs.length = N)) := ⟨m3, m4, m5, q1, q2, q3⟩; clear m3 m4 m5 q1 q2 q3 CE))
                  by_cases c8 : mid - a' < b' - mid
                  · have c8' : (mid : Int) - (a' : Int) < (b' : Int) - (mid : Int) := by omega
                    have C9 := CL.out _ zs a' b' mid (l') (by omega) h1 m1 m2 h3 HM.out.1 HM.out.2.1 HM.out.2.2.1 HM.out.2.2.2
                    rw [show ((l' : Nat) : Int) = (l' : Int) by omega] at C9
                    clear CL CR HM
                    go_wp2_with (go_at_call 55; refine C9.mono ?_; clear C9; rintro e w6 ⟨rfl, vs, k1⟩; have HK : Hid (Ps w g a b xs rest (mid + 1) b' vs w6) := k1; clear k1)
                    exact ⟨⟨mid + 1, b', l', _, _, by go_num, rfl, by first | rfl | (congr 1; omega), rfl, rfl, by omega, by omega, by omega, by omega, vs, HK.out⟩, by simp [intOf]; omega⟩
                  · have c8' : ¬ (mid : Int) - (a' : Int) < (b' : Int) - (mid : Int) := by omega
                    have C9 := CR.out _ zs a' b' mid (l') (by omega) h1 m1 m2 h3 HM.out.1 HM.out.2.1 HM.out.2.2.1 HM.out.2.2.2
                    rw [show ((l' : Nat) : Int) = (l' : Int) by omega] at C9
                    clear CL CR HM
                    go_wp2_with (go_at_call 55; refine C9.mono ?_; clear C9; rintro e w6 ⟨rfl, vs, k1⟩; have HK : Hid (Ps w g a b xs rest a' mid vs w6) := k1; clear k1)
                    exact ⟨⟨a', mid, l', _, _, rfl, rfl, by first | rfl | (congr 1; omega), rfl, rfl, by omega, by omega, by omega, by omega, vs, HK.out⟩, by simp [intOf]; omega⟩
set_option maxRecDepth 100000 in
theorem sort_all {n : Nat} (_h0 : 0 < n) (hn : n ≤ 27) : SortsTo n := by
  intro w g cap xs rest hl hnd h
  have CL := blen_any (n := n) (by omega) w
  have CP : Hid (∀ l : Nat, l < 256 → Calls Try.prog 55 #[.slice (some ⟨g, 0, none⟩) n cap, .int .i64 0, .int .i64 n, .int .i64 l] w fun e w' => e = .returned (.tuple #[]) ∧ ∃ ys, ys.Perm xs ∧ Srt ys ∧ Bx w' g ys rest ∧ w.grownBy w' (some g)) := fun l hl256 => by
    refine (pdq_all g cap n rest (by omega) n hn 0 n w xs l (by omega) (Nat.le_refl _) hl hnd (fun h0 => by omega) h hl256).mono ?_
    rintro e w' ⟨rfl, ys, hr, hs⟩
    refine ⟨rfl, ys, hr.sm.perm, ?_, hr.bx, hr.gr⟩
    refine List.pairwise_iff_getElem.2 fun i j hi hj hij => ?_
    have hyl := hr.sm.len
    have := hs i j (Nat.zero_le _) hij (by omega)
    have e1 := nth_get (xs := ys) hi
    have e2 := nth_get (xs := ys) hj
    rw [List.getElem?_eq_getElem hi] at e1
    rw [List.getElem?_eq_getElem hj] at e2
    rw [Option.some.inj e1, Option.some.inj e2]
    exact this
  clear h hl hnd
  go_enter Try.func51, Try.ntmps51
  go_wp2_with (first | (go_at_call 56; refine CL.mono ?_; rintro e w1 ⟨⟨r, hr, rfl⟩, rfl⟩) | (go_at_call 55; refine (CP.out _ hr).mono ?_; rintro e w2 ⟨rfl, q⟩))
  go_end0
  exact ⟨rfl, q⟩
end Go.Proofs.Ytolafffpgkgadaa
