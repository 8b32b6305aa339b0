/-
  The law ClusterSteps returns true for every text: going on by Next and back by Prev meets just the ends that List lists; Boundary says so of these alone; Snap stays on them and leads onto them. Its conditions: the text has at most 1048576 letters; the two tables of unicode/utf8 start as the program's text lays them (the card ties that).
-/
import Derived.Test.YtjgeeimkcghmoaaDoorCQuiet
namespace Go.Proofs.YtjgeeimkcghmoaaDoor.clusterSteps
open Go.RowKit Go.Sort Bod Wid

theorem drop_at {l : List Clu} {k : Nat} (h : k < l.length) : ∃ c, l[k]? = some c ∧ l.drop k = c :: l.drop (k + 1) :=
  ⟨l[k], List.getElem?_eq_getElem h, List.drop_eq_getElem_cons h⟩
theorem next_of {s : ByteArray} {c : Clu} (h : Sp s c) {j : Int} (h1 : (c.fr : Int) ≤ j) (h2 : j < c.to) : IsNext s j c.to := ⟨h.1, .inl h2, fun k h3 h4 => h.2 k (by omega) h4⟩
theorem prev_of {s : ByteArray} {c : Clu} (h : Sp s c) (hf : cbZ s c.fr = true) {j : Int} (h1 : (c.fr : Int) < j) (h2 : j ≤ c.to) : IsPrev s j c.fr := ⟨hf, .inl h1, fun k h3 h4 => h.2 k h3 (by omega)⟩
theorem snap_of {s : ByteArray} {c : Clu} (h : Sp s c) {j : Int} (h1 : (c.fr : Int) < j) (h2 : j < c.to) : IsSnap s j c.to := (next_of h (by omega) h2).snap (h.2 j h1 h2)
theorem next_at_end (s : ByteArray) : IsNext s s.size s.size := ⟨cb_end s, .inr ⟨rfl, Int.le_refl _⟩, fun k h1 h2 => by omega⟩
theorem prev_at_zero (s : ByteArray) : IsPrev s 0 0 := ⟨by exact cb_zero s, .inr ⟨rfl, Int.le_refl _⟩, fun k h1 h2 => by omega⟩

set_option maxRecDepth 100000 in
set_option maxHeartbeats 4000000 in
theorem walk (s : ByteArray) (hs : s.size ≤ 1048576) (h0 : 0 < s.size) (w : World) (hT : Lib.Utf8Tabs 0 1 w) (hlo0 : 0 < w.heap.size) (hlo1 : 1 < w.heap.size) :
    Calls Tryd.prog 6 #[.string s] w fun e w' => e = .returned (.bool true) ∧ Below w.heap.size w w' := by
  have hs' : s.size ≤ maxLen := by unfold maxLen; omega
  have cF := fixed_any w hT hlo0 hlo1
  obtain ⟨l, hl⟩ : ∃ l, cl s = l := ⟨_, rfl⟩
  obtain ⟨N, hN⟩ : ∃ N, l.length = N := ⟨_, rfl⟩
  have hNs : N ≤ s.size := by rw [← hN, ← hl]; exact cl_len s
  have HT : Hid (tiled 0 l s.size) := by rw [← hl]; exact cl_tile s
  have HS : Hid (∀ c ∈ l, Sp s c ∧ cbZ s c.fr = true) := by rw [← hl]; exact fun c hc => ⟨cl_cb s c hc, cl_fr s c hc⟩
  have hne : l ≠ [] := fun e => by have := HT.out; rw [e] at this; have : 0 = s.size := this; omega
  have CL : Hid (∀ W, Below w.heap.size w W → Calls Tryd.prog 19 #[.string s] W fun e w' => ∃ g cap, e = .returned (.slice (some ⟨g, 0, none⟩) N cap) ∧ g < w'.heap.size ∧ (∀ k c, l[k]? = some c → w'.cell? ⟨g, k * 4, none⟩ = some (.int .i64 c.fr) ∧ w'.cell? ⟨g, k * 4 + 1, none⟩ = some (.int .i64 c.to) ∧ w'.cell? ⟨g, k * 4 + 2, none⟩ = some (.int .i64 c.k) ∧ w'.cell? ⟨g, k * 4 + 3, none⟩ = some (.int .i64 c.n)) ∧ Below w.heap.size w w') := fun W hW => by
    have h := list_any s hs' (by omega) W (tabs_below hT hW) (Nat.lt_of_lt_of_le hlo0 hW.size) (Nat.lt_of_lt_of_le hlo1 hW.size)
    rw [hl] at h
    refine h.mono ?_
    rintro e w' ⟨v, rfl, ⟨hrow, _⟩, hb⟩
    obtain ⟨a, cap, rfl, hr⟩ := Rd4.of_row hrow
    obtain ⟨g, rfl, hg, hcell⟩ := hr hne
    exact ⟨g, cap, by rw [hN], hg, hcell, hW.trans (hb.mono hW.size)⟩
  have CC : Hid (∀ W, Below w.heap.size w W → Calls Tryd.prog 21 #[.string s] W fun e w' => e = .returned (.int .i64 N) ∧ Below w.heap.size w w') := fun W hW => by
    have h := count_any s hs' W (tabs_below hT hW) (Nat.lt_of_lt_of_le hlo0 hW.size) (Nat.lt_of_lt_of_le hlo1 hW.size)
    rw [hl, hN] at h
    exact h.mono fun e w' ⟨h1, h2⟩ => ⟨h1, hW.trans (h2.mono hW.size)⟩
  have HN : Hid (l.length = N) := hN
  have hmx : Tryd.prog.follows .mixedOrders = true := by kernel_rfl
  have HMx : Hid (Tryd.prog.follows .mixedOrders = true) := hmx
  clear hmx
  clear hl hN
  go_enter Tryd.func6, Tryd.ntmps6
  go_wp2_with (first | (go_at_call 9; refine cF.mono ?_; clear cF; rintro e w1 ⟨rfl, hb1⟩) | (go_at_call 19; refine (CL.out _ hb1).mono ?_; clear CL; rintro e w2 ⟨g, cap, rfl, hg, hcell, hb2⟩; have HG : Hid (∀ k c, l[k]? = some c → w2.cell? ⟨g, k * 4, none⟩ = some (.int .i64 c.fr) ∧ w2.cell? ⟨g, k * 4 + 1, none⟩ = some (.int .i64 c.to) ∧ w2.cell? ⟨g, k * 4 + 2, none⟩ = some (.int .i64 c.k) ∧ w2.cell? ⟨g, k * 4 + 3, none⟩ = some (.int .i64 c.n)) := hcell; clear hcell; have HB2 : Hid (Below w.heap.size w w2) := hb2; clear hb2))
  clear hb1
  go_loopw [4, 5] (fun t u wr => ∃ a k : Nat, t = .int .i64 a ∧ u = .int .i64 k ∧ k ≤ N ∧ a ≤ s.size ∧ tiled a (l.drop k) s.size ∧ Below w2.heap.size w2 wr) (fun _ u _ => N - (intOf u).toNat)
  case atStart => exact ⟨0, 0, rfl, rfl, Nat.zero_le _, Nat.zero_le _, by simpa using HT.out, Below.refl _ _⟩
  case round =>
    obtain ⟨a, k, rfl, rfl, hk, ha, htl, hB⟩ := hrel
    have HBw : Hid (Below w.heap.size w wr) := HB2.out.trans (hB.mono HB2.out.size)
    by_cases hlt : k < N
    · obtain ⟨c, hck, hdr⟩ := drop_at (l := l) (k := k) (by rw [HN.out]; exact hlt)
      rw [hdr] at htl
      obtain ⟨hfr, hft, htr⟩ := htl
      have hto := tiled_le htr
      obtain ⟨hsp, hcf⟩ := HS.out c (List.mem_of_getElem? hck)
      obtain ⟨x0, x1, x2, x3⟩ := HG.out k c hck
      have y0 := (hB.cell (p := ⟨g, k * 4, none⟩) hg).trans x0
      have y1 := (hB.cell (p := ⟨g, k * 4 + 1, none⟩) hg).trans x1
      have y2 := (hB.cell (p := ⟨g, k * 4 + 2, none⟩) hg).trans x2
      have y3 := (hB.cell (p := ⟨g, k * 4 + 3, none⟩) hg).trans x3
      clear x0 x1 x2 x3
      have HSP : Hid (Sp s c ∧ cbZ s c.fr = true) := ⟨hsp, hcf⟩
      have HTR : Hid (tiled c.to (l.drop (k + 1)) s.size) := htr
      clear hsp hcf htr hdr hck
      obtain ⟨f, hf⟩ : ∃ f, c.fr = f := ⟨_, rfl⟩
      obtain ⟨t, ht⟩ : ∃ t, c.to = t := ⟨_, rfl⟩
      obtain ⟨ck, hk'⟩ : ∃ ck, c.k = ck := ⟨_, rfl⟩
      obtain ⟨cn, hn'⟩ : ∃ cn, c.n = cn := ⟨_, rfl⟩
      rw [hf] at y0 hfr
      rw [ht] at y1 hft hto HTR
      rw [hk'] at y2
      rw [hn'] at y3
      subst hfr
      have HE : Hid (c.fr = f ∧ c.to = t) := ⟨hf, ht⟩
      clear hf ht hk' hn'
      have KN : Hid (∀ j : Nat, f ≤ j → j < t → IsNext s j t) := fun j h1 h2 => by
        have := HE.out; have := next_of HSP.out.1 (j := j) (by omega) (by omega); rw [HE.out.2] at this; exact this
      have KP : Hid (∀ j : Nat, f < j → j ≤ t → IsPrev s j f) := fun j h1 h2 => by
        have := HE.out; have := prev_of HSP.out.1 HSP.out.2 (j := j) (by omega) (by omega); rw [HE.out.1] at this; exact this
      have KS : Hid (∀ j : Nat, f < j → j < t → IsSnap s j t) := fun j h1 h2 => by
        have := HE.out; have := snap_of HSP.out.1 (j := j) (by omega) (by omega); rw [HE.out.2] at this; exact this
      have KB : Hid (∀ j : Nat, f < j → j < t → cbZ s j = false) := fun j h1 h2 => by
        have := HE.out; exact HSP.out.1.2 j (by omega) (by omega)
      have KT : Hid (cbZ s t = true) := by have := HSP.out.1.1; rw [HE.out.2] at this; exact this
      clear HSP
      go_wp2
      obtain ⟨W1, hW1⟩ : ∃ W1, wr.alloc (.cells #[.int .i64 (f : Int), .int .i64 (t : Int), .int .i64 ck, .int .i64 cn] 41) = W1 := ⟨_, rfl⟩
      rw [hW1]
      have c0 : W1.cell? ⟨wr.heap.size, 0, none⟩ = some (.int .i64 f) := by rw [← hW1]; simp
      have c1 : W1.cell? ⟨wr.heap.size, 1, none⟩ = some (.int .i64 t) := by rw [← hW1]; simp
      have hlt1 : wr.heap.size < W1.heap.size := by rw [← hW1]; simp
      have HB1 : Hid (Below w2.heap.size w2 W1) := by rw [← hW1]; exact hB.alloc hB.size _
      have HB1w : Hid (Below w.heap.size w W1) := HB2.out.trans (HB1.out.mono HB2.out.size)
      clear hW1 y0 y1 y2 y3 hB HBw
      obtain ⟨bx, hbx⟩ : ∃ bx, wr.heap.size = bx := ⟨_, rfl⟩
      rw [hbx] at c0 c1 hlt1 ⊢
      clear hbx
      have g1 : decide (t ≤ f) = false := decide_eq_false (by omega)
      have g2 : decide (s.size < t) = false := decide_eq_false (by omega)
      have q1 := regrown (next_q hs' (KN.out f (Nat.le_refl _) (by omega)) (tabs_below hT HB1w.out))
      have q2 := regrown (prev_q hs' (by omega) (KP.out t (by omega) (Nat.le_refl _)) (tabs_below hT HB1w.out))
      have q3 := regrown (bound_q hs' (by omega) KT.out (tabs_below hT HB1w.out))
      have q4 := regrown (snap_q hs' (by omega) (IsSnap.self KT.out) (tabs_below hT HB1w.out))
      have r0 := cell_regrown c0
      have r1 := cell_regrown c1
      refine wp_region_quiet_below HMx.out (by kernel_rfl) ?_
      repeat (quiet_step (fail))
      quiet_step (exact q1 _ _)
      repeat (quiet_step (fail))
      quiet_step (exact q2 _ _)
      repeat (quiet_step (fail))
      quiet_step (exact q3 _ _)
      repeat (quiet_step (fail))
      quiet_step (exact q4 _ _)
      repeat (quiet_step (fail))
      refine wpQuiet_nil ?_
      intro _ hw'
      obtain ⟨⟨dq, osq⟩, hw''⟩ := hw'
      subst hw''
      clear q1 q2 q3 q4
      dsimp only
      have e0 := r0 dq osq
      have e1 := r1 dq osq
      have HB3 : Hid (Below W1.heap.size W1 (grow (redrawn W1 dq) osq)) := below_regrown W1 dq osq
      clear r0 r1 c0 c1
      obtain ⟨W3, hW3⟩ : ∃ W3, grow (redrawn W1 dq) osq = W3 := ⟨_, rfl⟩
      rw [hW3] at e0 e1 HB3 ⊢
      clear hW3
      have hlt3 : bx < W3.heap.size := Nat.lt_of_lt_of_le hlt1 HB3.out.size
      go_wp2
      go_loopw [7] (fun z wr2 => ∃ j : Nat, z = .int .i64 j ∧ f < j ∧ j ≤ t ∧ Below W3.heap.size W3 wr2) (fun z _ => t - (intOf z).toNat)
      case atStart => exact ⟨f + 1, by go_num, by omega, by omega, Below.refl _ _⟩
      case round =>
        obtain ⟨j, rfl, hj1, hj2, hB5⟩ := hrel
        have d0 := (hB5.cell (p := ⟨bx, 0, none⟩) hlt3).trans e0
        have d1 := (hB5.cell (p := ⟨bx, 1, none⟩) hlt3).trans e1
        have HB5 : Hid (Below W3.heap.size W3 wr) := hB5
        have HBj : Hid (Below w.heap.size w wr) := HB1w.out.trans ((HB3.out.trans (hB5.mono HB3.out.size)).mono HB1w.out.size)
        clear hB5
        by_cases hjt : j < t
        · by_cases hj70 : j < f + 70
          · have q1 := regrown (bound_q hs' (by omega) (KB.out j hj1 hjt) (tabs_below hT HBj.out))
            have q2 := regrown (next_q hs' (KN.out j (by omega) hjt) (tabs_below hT HBj.out))
            have q3 := regrown (prev_q hs' (by omega) (KP.out j hj1 hj2) (tabs_below hT HBj.out))
            have q4 := regrown (snap_q hs' (by omega) (KS.out j hj1 hjt) (tabs_below hT HBj.out))
            have r0 := cell_regrown d0
            have r1 := cell_regrown d1
            go_wp2
            refine wp_region_quiet_below HMx.out (by kernel_rfl) ?_
            repeat (quiet_step (fail))
            quiet_step (exact q1 _ _)
            repeat (quiet_step (fail))
            quiet_step (exact q2 _ _)
            repeat (quiet_step (fail))
            quiet_step (exact q3 _ _)
            repeat (quiet_step (fail))
            quiet_step (exact q4 _ _)
            repeat (quiet_step (fail))
            refine wpQuiet_nil ?_
            intro _ hw'
            obtain ⟨⟨dr, osr⟩, hw''⟩ := hw'
            subst hw''
            clear q1 q2 q3 q4 r0 r1
            go_wp2
            go_roundw
            case rel => first | exact ⟨j + 1, by go_num, by omega, by omega, HB5.out.trans ((below_regrown wr dr osr).mono HB5.out.size)⟩ | ((repeat apply Exists.intro); exact ⟨⟨j + 1, by go_num, by omega, by omega, HB5.out.trans ((below_regrown wr dr osr).mono HB5.out.size)⟩, rfl⟩)
            case measure => simp [intOf]; omega
          · go_wp2
            go_roundw
            case rel => first | exact ⟨t, k + 1, rfl, by go_num, by omega, hto, HTR.out, HB1.out.trans ((HB3.out.trans (HB5.out.mono HB3.out.size)).mono HB1.out.size)⟩ | ((repeat apply Exists.intro); exact ⟨⟨t, k + 1, rfl, by go_num, by omega, hto, HTR.out, HB1.out.trans ((HB3.out.trans (HB5.out.mono HB3.out.size)).mono HB1.out.size)⟩, rfl⟩)
            case measure => simp [intOf]; omega
        · go_wp2
          go_roundw
          case rel => first | exact ⟨t, k + 1, rfl, by go_num, by omega, hto, HTR.out, HB1.out.trans ((HB3.out.trans (HB5.out.mono HB3.out.size)).mono HB1.out.size)⟩ | ((repeat apply Exists.intro); exact ⟨⟨t, k + 1, rfl, by go_num, by omega, hto, HTR.out, HB1.out.trans ((HB3.out.trans (HB5.out.mono HB3.out.size)).mono HB1.out.size)⟩, rfl⟩)
          case measure => simp [intOf]; omega
    · have hend : a = s.size := by
        rw [List.drop_eq_nil_of_le (by rw [HN.out]; omega)] at htl
        exact htl
      subst hend
      clear htl ha hB
      have C1 : Hid (∀ W, Below w.heap.size w W → Calls Tryd.prog 10 #[.string s, .int .i64 0] W fun e w' => e = .returned (.bool true) ∧ Below w.heap.size w w') := fun W hW => from_q (bound_q hs' (by decide) (cb_zero s) (tabs_below hT hW)) hW
      have C2 : Hid (∀ W, Below w.heap.size w W → Calls Tryd.prog 10 #[.string s, .int .i64 s.size] W fun e w' => e = .returned (.bool true) ∧ Below w.heap.size w w') := fun W hW => from_q (bound_q hs' (by omega) (cb_end s) (tabs_below hT hW)) hW
      have C3 : Hid (∀ W, Below w.heap.size w W → Calls Tryd.prog 10 #[.string s, .int .i64 (-1)] W fun e w' => e = .returned (.bool false) ∧ Below w.heap.size w w') := fun W hW => from_q (bound_q hs' (by decide) (cb_out (.inl (by decide))) (tabs_below hT hW)) hW
      have C4 : Hid (∀ W, Below w.heap.size w W → Calls Tryd.prog 10 #[.string s, .int .i64 ((s.size : Int) + 1)] W fun e w' => e = .returned (.bool false) ∧ Below w.heap.size w w') := fun W hW => from_q (bound_q hs' (by omega) (cb_out (.inr (by omega))) (tabs_below hT hW)) hW
      have C5 : Hid (∀ W, Below w.heap.size w W → Calls Tryd.prog 12 #[.string s, .int .i64 s.size] W fun e w' => e = .returned (.int .i64 s.size) ∧ Below w.heap.size w w') := fun W hW => from_q (next_q hs' (next_at_end s) (tabs_below hT hW)) hW
      have C6 : Hid (∀ W, Below w.heap.size w W → Calls Tryd.prog 14 #[.string s, .int .i64 0] W fun e w' => e = .returned (.int .i64 0) ∧ Below w.heap.size w w') := fun W hW => from_q (prev_q hs' (by decide) (prev_at_zero s) (tabs_below hT hW)) hW
      have HB : Hid (Below w.heap.size w wr) := HBw
      clear HBw
      go_wp2_with (first | (go_at_call 10; refine (C1.out _ HB.out).mono ?_; clear C1 HB; rintro e v1 ⟨rfl, hv⟩; have HB : Hid (Below w.heap.size w v1) := hv; clear hv) | (go_at_call 10; refine (C2.out _ HB.out).mono ?_; clear C2 HB; rintro e v2 ⟨rfl, hv⟩; have HB : Hid (Below w.heap.size w v2) := hv; clear hv) | (go_at_call 10; refine (C3.out _ HB.out).mono ?_; clear C3 HB; rintro e v3 ⟨rfl, hv⟩; have HB : Hid (Below w.heap.size w v3) := hv; clear hv) | (go_at_call 10; refine (C4.out _ HB.out).mono ?_; clear C4 HB; rintro e v4 ⟨rfl, hv⟩; have HB : Hid (Below w.heap.size w v4) := hv; clear hv) | (go_at_call 12; refine (C5.out _ HB.out).mono ?_; clear C5 HB; rintro e v5 ⟨rfl, hv⟩; have HB : Hid (Below w.heap.size w v5) := hv; clear hv) | (go_at_call 14; refine (C6.out _ HB.out).mono ?_; clear C6 HB; rintro e v6 ⟨rfl, hv⟩; have HB : Hid (Below w.heap.size w v6) := hv; clear hv) | (go_at_call 21; refine (CC.out _ HB.out).mono ?_; clear CC HB; rintro e v7 ⟨rfl, hv⟩; have HB : Hid (Below w.heap.size w v7) := hv; clear hv))
      go_ret
      exact ⟨rfl, HB.out⟩

theorem nil_next : IsNext ⟨#[]⟩ 0 0 := next_at_end ⟨#[]⟩
set_option maxRecDepth 100000 in
set_option maxHeartbeats 1000000 in
theorem walk_nil (w : World) (hT : Lib.Utf8Tabs 0 1 w) (hlo0 : 0 < w.heap.size) (hlo1 : 1 < w.heap.size) :
    Calls Tryd.prog 6 #[.string ⟨#[]⟩] w fun e w' => e = .returned (.bool true) ∧ Below w.heap.size w w' := by
  have hs' : (⟨#[]⟩ : ByteArray).size ≤ maxLen := by decide +kernel
  have hcl : cl ⟨#[]⟩ = [] := cl_nil rfl
  have cF := fixed_any w hT hlo0 hlo1
  have CL : Hid (∀ W, Below w.heap.size w W → Calls Tryd.prog 19 #[.string ⟨#[]⟩] W fun e w' => e = .returned (.slice none 0 0) ∧ Below w.heap.size w w') := fun W hW => by
    have h := list_any ⟨#[]⟩ hs' (by decide +kernel) W (tabs_below hT hW) (Nat.lt_of_lt_of_le hlo0 hW.size) (Nat.lt_of_lt_of_le hlo1 hW.size)
    rw [hcl] at h
    refine h.mono ?_
    rintro e w' ⟨v, rfl, ⟨_, hv⟩, hb⟩
    exact ⟨by rw [hv.2 rfl], hW.trans (hb.mono hW.size)⟩
  have CC : Hid (∀ W, Below w.heap.size w W → Calls Tryd.prog 21 #[.string ⟨#[]⟩] W fun e w' => e = .returned (.int .i64 0) ∧ Below w.heap.size w w') := fun W hW => by
    have h := count_any ⟨#[]⟩ hs' W (tabs_below hT hW) (Nat.lt_of_lt_of_le hlo0 hW.size) (Nat.lt_of_lt_of_le hlo1 hW.size)
    rw [hcl] at h
    exact h.mono fun e w' ⟨h1, h2⟩ => ⟨h1, hW.trans (h2.mono hW.size)⟩
  have C1 : Hid (∀ W, Below w.heap.size w W → Calls Tryd.prog 10 #[.string ⟨#[]⟩, .int .i64 0] W fun e w' => e = .returned (.bool true) ∧ Below w.heap.size w w') := fun W hW => from_q (bound_q hs' (by decide) (cb_zero _) (tabs_below hT hW)) hW
  have C2 : Hid (∀ W, Below w.heap.size w W → Calls Tryd.prog 10 #[.string ⟨#[]⟩, .int .i64 0] W fun e w' => e = .returned (.bool true) ∧ Below w.heap.size w w') := C1
  have C3 : Hid (∀ W, Below w.heap.size w W → Calls Tryd.prog 10 #[.string ⟨#[]⟩, .int .i64 (-1)] W fun e w' => e = .returned (.bool false) ∧ Below w.heap.size w w') := fun W hW => from_q (bound_q hs' (by decide) (cb_out (.inl (by decide))) (tabs_below hT hW)) hW
  have C4 : Hid (∀ W, Below w.heap.size w W → Calls Tryd.prog 10 #[.string ⟨#[]⟩, .int .i64 1] W fun e w' => e = .returned (.bool false) ∧ Below w.heap.size w w') := fun W hW => from_q (bound_q hs' (by decide) (cb_out (.inr (by decide))) (tabs_below hT hW)) hW
  have C5 : Hid (∀ W, Below w.heap.size w W → Calls Tryd.prog 12 #[.string ⟨#[]⟩, .int .i64 0] W fun e w' => e = .returned (.int .i64 0) ∧ Below w.heap.size w w') := fun W hW => from_q (next_q hs' nil_next (tabs_below hT hW)) hW
  have C6 : Hid (∀ W, Below w.heap.size w W → Calls Tryd.prog 14 #[.string ⟨#[]⟩, .int .i64 0] W fun e w' => e = .returned (.int .i64 0) ∧ Below w.heap.size w w') := fun W hW => from_q (prev_q hs' (by decide) (prev_at_zero _) (tabs_below hT hW)) hW
  go_enter Tryd.func6, Tryd.ntmps6
  go_wp2_with (first | (go_at_call 9; refine cF.mono ?_; clear cF; rintro e w1 ⟨rfl, hb1⟩) | (go_at_call 19; refine (CL.out _ hb1).mono ?_; clear CL; rintro e w2 ⟨rfl, hb2⟩))
  go_loopw [4, 5] (fun t u wr => t = .int .i64 0 ∧ u = .int .i64 0 ∧ w2 = wr) (fun _ _ _ => 0)
  case atStart => exact ⟨rfl, rfl, rfl⟩
  case round =>
    obtain ⟨rfl, rfl, rfl⟩ := hrel
    have HB : Hid (Below w.heap.size w w2) := hb2
    clear hb2
    go_wp2_with (first | (go_at_call 10; refine (C1.out _ HB.out).mono ?_; clear C1 HB; rintro e v1 ⟨rfl, hv⟩; have HB : Hid (Below w.heap.size w v1) := hv; clear hv) | (go_at_call 10; refine (C2.out _ HB.out).mono ?_; clear C2 HB; rintro e v2 ⟨rfl, hv⟩; have HB : Hid (Below w.heap.size w v2) := hv; clear hv) | (go_at_call 10; refine (C3.out _ HB.out).mono ?_; clear C3 HB; rintro e v3 ⟨rfl, hv⟩; have HB : Hid (Below w.heap.size w v3) := hv; clear hv) | (go_at_call 10; refine (C4.out _ HB.out).mono ?_; clear C4 HB; rintro e v4 ⟨rfl, hv⟩; have HB : Hid (Below w.heap.size w v4) := hv; clear hv) | (go_at_call 12; refine (C5.out _ HB.out).mono ?_; clear C5 HB; rintro e v5 ⟨rfl, hv⟩; have HB : Hid (Below w.heap.size w v5) := hv; clear hv) | (go_at_call 14; refine (C6.out _ HB.out).mono ?_; clear C6 HB; rintro e v6 ⟨rfl, hv⟩; have HB : Hid (Below w.heap.size w v6) := hv; clear hv) | (go_at_call 21; refine (CC.out _ HB.out).mono ?_; clear CC HB; rintro e v7 ⟨rfl, hv⟩; have HB : Hid (Below w.heap.size w v7) := hv; clear hv))
    go_ret
    exact ⟨rfl, HB.out⟩
theorem walk_of {H : Type} (s : ByteArray) (w : World) (hT : Lib.Utf8Tabs 0 1 w) (hlo0 : 0 < w.heap.size) (hlo1 : 1 < w.heap.size) (_hs : s.size ≤ 140737488351232) (hk : Rows.uptoSmall H ([DataW.lit (.string s.data.toList)] ++ []) = true) :
    Calls Tryd.prog 6 #[.string s] w fun e w' => e = .returned (.bool true) ∧ Below w.heap.size w w' := by
  have h : Rows.uptoBulkAll ([DataW.lit (H := H) (.string s.data.toList)] ++ []) ≤ 1048576 := of_decide_eq_true hk
  simp only [List.append_nil, Rows.uptoBulkAll, Rows.uptoBulk] at h
  by_cases h0 : 0 < s.size
  · exact walk s (by rw [Lib.size_eq]; omega) h0 w hT hlo0 hlo1
  · have e : s = ⟨#[]⟩ := ByteArray.ext (Array.eq_empty_of_size_eq_zero (by show s.size = 0; omega))
    subst e
    exact walk_nil w hT hlo0 hlo1
end Go.Proofs.YtjgeeimkcghmoaaDoor.clusterSteps
