/-
  The document's own changes (layer 17): chars. Conditions: the text has at most 2097152 bytes.
-/
import Derived.Test.YtdggbnkhbmffoaaGreatDoorPkFR
import Derived.Test.YtdggbnkhbmffoaaGreatDoorUThenC
import Derived.BigRegion
import Derived.Deep.CutRange
import Derived.Deep.RegionHeld3
namespace Go.Proofs.YtdggbnkhbmffoaaGreatDoor
open Go.RowKit Go.Shelf Go.Sort Bod Wid

theorem drew_b (W : World) : Below W.heap.size W W.drew := ⟨rfl, rfl, rfl, Nat.le_refl _, fun _ _ => rfl⟩
/-- the answer's box, the line's box, and the clusters of the line, which are read -/
structure Rc (w : World) (g0 p b : Nat) (v : Value) (L : List Clu) (W : World) : Prop where
  f : Rx w W
  bx : W.heap[g0]? = some (.cells #[.int .i64 p, .int .i64 b] 53 (0, 0))
  hb : w.heap.size < g0
  rd : Rd4 W v L
section
variable {w W X : World} {g0 p b g n cap : Nat} {v : Value} {L : List Clu}
theorem Rc.below (h : Rc w g0 p b v L W) (hb : Below W.heap.size W X) : Rc w g0 p b v L X :=
  ⟨h.f.below hb, (hb.block _ (Array.getElem?_eq_some_iff.1 h.bx).1).trans h.bx, h.hb, h.rd.below hb⟩
theorem Rc.cells (h : Rc w g0 p b (.slice (some ⟨g, 0, none⟩) n cap) L W) {k : Nat} {c : Clu} (hk : L[k]? = some c) : W.cell? ⟨g0, 0, none⟩ = some (.int .i64 p) ∧ W.cell? ⟨g, k * 4, none⟩ = some (.int .i64 c.fr) ∧ W.cell? ⟨g, k * 4 + 1, none⟩ = some (.int .i64 c.to) := by
  obtain ⟨a, cap', e, hc⟩ := h.rd
  obtain ⟨g', h1, h2, h3⟩ := hc (fun e => by subst e; simp at hk)
  cases e
  cases h1
  obtain ⟨u0, u1, -⟩ := h3 k c hk
  exact ⟨(box2' h.bx).1, u0, u1⟩
end
set_option maxRecDepth 100000 in
set_option maxHeartbeats 2000000 in
theorem rchars_any (w : World) (s : ByteArray) (a : Nat) (ha : cbZ s a = true) (hs : s.size ≤ 2097152) :
    Calls Tryz.prog 18 #[.string s, .int .i64 a] w fun e W' => e = .returned (rsv (charsP s a)) ∧ Below w.heap.size w W' := by
  have HF : Hid (Rx w (w.alloc (.cells #[.int .i64 0, .int .i64 0, .string ⟨#[]⟩, .int .i64 0, .string ⟨#[]⟩, .bool false] 37))) := rx0 w
  have hle := (lnP_pl ha).le
  have C1 : Hid (∀ W, Rx w W → Calls Tryz.prog 17 #[.string s, .int .i64 a] W fun e W' => e = .returned (.agg #[.int .i64 (lnP s a).1, .int .i64 (lnP s a).2]) ∧ Hid (Rx w W')) := fun W hW => (rline_at W s a ha (by omega)).mono fun e W' ⟨q1, q2⟩ => ⟨q1, hW.below q2⟩
  have hlc := lc_of ha
  have hhit : ∀ {i : Nat} {c d : Clu}, _ → _ → _ → _ := fun {i c d} => chars_hit (s := s) (a := a) (i := i) (c := c) (d := d) ha
  have hnone := chars_none (s := s) (a := a) ha
  obtain ⟨p, hp⟩ : ∃ p, (lnP s a).1 = p := ⟨_, rfl⟩
  obtain ⟨b, hb⟩ : ∃ b, (lnP s a).2 = b := ⟨_, rfl⟩
  rw [hp, hb] at hle C1 hlc hhit hnone
  obtain ⟨L, hL⟩ : ∃ L, cl (s.extract p b) = L := ⟨_, rfl⟩
  obtain ⟨n, hn⟩ : ∃ n, L.length = n := ⟨_, rfl⟩
  rw [hL] at hlc hhit hnone
  rw [hn] at hhit hnone
  have hnb : n ≤ 2097152 := by
    have := (pre_bd (List.prefix_refl (cl (s.extract p b)))).1
    rw [hL, hn] at this
    have h2 := size_extract s p b hle.2.2
    omega
  have C2 : Hid (∀ W g0, Rx w W → w.heap.size < g0 → W.heap[g0]? = some (.cells #[.int .i64 p, .int .i64 b] 53 (0, 0)) → Calls Tryz.prog 31 #[.string (s.extract p b)] W fun e W' => ∃ ao cap, e = .returned (.slice ao n cap) ∧ Hid (Rc w g0 p b (.slice ao n cap) L W')) := fun W g0 hW hg hbx => (rlist_any (s.extract p b) (by rw [size_extract s p b hle.2.2]; omega) W).mono fun e W' ⟨v, q1, q2, q3⟩ => by
    rw [hL] at q2
    obtain ⟨ao, cap, hv, hc⟩ := Rd4.of_row q2
    rw [hn] at hv
    exact ⟨ao, cap, by rw [q1, hv], hW.below q3, (q3.block _ (Array.getElem?_eq_some_iff.1 hbx).1).trans hbx, hg, ⟨ao, cap, by rw [hn], hc⟩⟩
  have HH : Hid (∀ (j : Nat) (c d : Clu), L[j]? = some c → L[j + 1]? = some d → (d.fr + p = a ∨ (j + 1 + 1 = n ∧ d.to + p = a)) → charsP s a = (swapP s (c.fr + p, c.to + p) (d.fr + p, d.to + p), 0)) := fun j c d h1 h2 h3 => hhit h1 h2 h3
  have HE : Hid ((∀ (j : Nat) (d : Clu), L[j + 1]? = some d → ¬ d.fr + p = a ∧ ¬ (j + 1 + 1 = n ∧ d.to + p = a)) → charsP s a = (chz, 8)) := fun h => hnone h
  have HT : Hid (∀ (W : World) (j : Nat) (c d : Clu), L[j]? = some c → L[j + 1]? = some d → Calls Tryz.prog 32 #[.string s, .agg #[.int .i64 (c.fr + p : Nat), .int .i64 (c.to + p : Nat)], .agg #[.int .i64 (d.fr + p : Nat), .int .i64 (d.to + p : Nat)]] W fun e W' => e = .returned (.agg (chc (swapP s (c.fr + p, c.to + p) (d.fr + p, d.to + p)))) ∧ Below W.heap.size W W') := fun W j c d h1 h2 => by
    have k1 := hlc.one h1
    have k2 := hlc.one h2
    have k3 := (hlc.two h1 h2).1
    exact rtrans_any W s (c.fr + p, c.to + p) (d.fr + p, d.to + p) (by omega) (by simp only; omega) (by simp only; omega) (by simp only; omega) (by simp only; omega)
  have HO : Hid (∀ (j : Nat) (c : Clu), L[j]? = some c → c.to + p ≤ 2097152 ∧ c.fr < c.to) := fun j c h => by have := hlc.one h; omega
  have HN : Hid (L.length = n) := hn
  have e2 : (p : Int) ≤ b := by omega
  have e3 : (b : Int) ≤ s.size := by omega
  clear hlc hhit hnone hp hb hL hn ha hle
  go_enter Tryz.func18, Tryz.ntmps18
  go_upto_region 2 with (go_at_call 17; refine (C1.out _ HF.out).mono ?_; clear C1 HF; rintro e w1 ⟨rfl, HF⟩)
  have HG : Hid (Rx w (w1.alloc (.cells #[.int .i64 p, .int .i64 b] 53)) ∧ w.heap.size < w1.heap.size ∧ (w1.alloc (.cells #[.int .i64 p, .int .i64 b] 53)).heap[w1.heap.size]? = some (.cells #[.int .i64 p, .int .i64 b] 53 (0, 0))) := ⟨HF.out.below ((Below.refl _ w1).alloc (Nat.le_refl _) _), HF.out.sz, World.alloc_heap_new _ _⟩
  generalize w1.alloc (.cells #[.int .i64 p, .int .i64 b] 53) = w2 at HG ⊢
  generalize w1.heap.size = g0 at HG ⊢
  clear HF
  obtain ⟨u0, u1⟩ := box2' HG.out.2.2
  go_upto_region 4 with (go_at_call 31; refine (C2.out _ _ HG.out.1 HG.out.2.1 HG.out.2.2).mono ?_; clear C2 HG u0 u1; rintro e w3 ⟨ao, cap, rfl, HC⟩)
  go_loopw [8] (fun t8 wr => ∃ i : Nat, t8 = .int .i64 (i : Int) ∧ 1 ≤ i ∧ i ≤ 2097153 ∧ Hid (Rc w g0 p b (.slice ao n cap) L wr ∧ ∀ (j : Nat) (d : Clu), j + 1 < i → L[j + 1]? = some d → ¬ d.fr + p = a ∧ ¬ (j + 1 + 1 = n ∧ d.to + p = a))) (fun t8 _ => n - (intOf t8).toNat)
  case atStart => exact ⟨1, rfl, Nat.le_refl _, by omega, HC.out, fun j d h => by omega⟩
  case round =>
    obtain ⟨i, rfl, hi1, hi2, HI⟩ := hrel
    by_cases hlt : i < n
    · obtain ⟨j, hij⟩ : ∃ j, i = j + 1 := ⟨i - 1, by omega⟩
      obtain ⟨g, rfl⟩ : ∃ g, ao = some ⟨g, 0, none⟩ := by
        obtain ⟨_, _, e, hc⟩ := HI.out.1.rd
        obtain ⟨g, h1, _⟩ := hc (fun e => by have := HN.out; rw [e] at this; simp at this; omega)
        cases e
        exact ⟨g, h1⟩
      obtain ⟨c, hc⟩ : ∃ c, L[j]? = some c := ⟨_, List.getElem?_eq_getElem (by have := HN.out; omega)⟩
      obtain ⟨d, hd⟩ : ∃ d, L[i]? = some d := ⟨_, List.getElem?_eq_getElem (by have := HN.out; omega)⟩
      have HJ : Hid (L[j]? = some c ∧ L[i]? = some d ∧ i = j + 1) := ⟨hc, hd, hij⟩
      have HSc : Hid (∀ W, Rc w g0 p b (.slice (some ⟨g, 0, none⟩) n cap) L W → W.cell? ⟨g0, 0, none⟩ = some (.int .i64 p) ∧ W.cell? ⟨g, j * 4, none⟩ = some (.int .i64 c.fr) ∧ W.cell? ⟨g, j * 4 + 1, none⟩ = some (.int .i64 c.to)) := fun W h => h.cells HJ.out.1
      have HSd : Hid (∀ W, Rc w g0 p b (.slice (some ⟨g, 0, none⟩) n cap) L W → W.cell? ⟨g0, 0, none⟩ = some (.int .i64 p) ∧ W.cell? ⟨g, i * 4, none⟩ = some (.int .i64 d.fr) ∧ W.cell? ⟨g, i * 4 + 1, none⟩ = some (.int .i64 d.to)) := fun W h => h.cells HJ.out.2.1
      obtain ⟨o1, o2⟩ := HO.out _ _ hc
      obtain ⟨o3, o4⟩ := HO.out _ _ hd
      clear hc hd
      have HR : Hid (Rc w g0 p b (.slice (some ⟨g, 0, none⟩) n cap) L wr) := HI.out.1
      have HP : Hid (∀ W', Below wr.heap.size wr W' → Rc w g0 p b (.slice (some ⟨g, 0, none⟩) n cap) L W') := fun W' h => HR.out.below h
      have l1 : (i : Int) < n := by omega
      have l2 : (j : Int) < n := by omega
      have l3 : (0 : Int) ≤ j := by omega
      have l7 : (i : Int) - 1 = j := by omega
      have l11 : (0 : Int) ≤ i := by omega
      clear hij
      go_upto_region 6 with fail
      obtain ⟨f1, hf1⟩ : ∃ f1, c.fr + p = f1 := ⟨_, rfl⟩
      obtain ⟨t1, ht1⟩ : ∃ t1, c.to + p = t1 := ⟨_, rfl⟩
      have HR6 : Hid (Rc w g0 p b (.slice (some ⟨g, 0, none⟩) n cap) L (wr.alloc (.cells #[.int .i64 ((p : Int) + c.fr), .int .i64 ((p : Int) + c.to)] 53)).drew ∧ (wr.alloc (.cells #[.int .i64 ((p : Int) + c.fr), .int .i64 ((p : Int) + c.to)] 53)).drew.heap[wr.heap.size]? = some (.cells #[.int .i64 f1, .int .i64 t1] 53 (0, 0))) := by
        refine ⟨HR.out.below (below_ad _ _), ?_⟩
        rw [← hf1, ← ht1, show (p : Int) + c.fr = ((c.fr + p : Nat) : Int) by omega, show (p : Int) + c.to = ((c.to + p : Nat) : Int) by omega]
        exact World.alloc_heap_new _ _
      have HF1 : Hid (c.fr + p = f1) := hf1
      have HT1 : Hid (c.to + p = t1) := ht1
      clear hf1 ht1
      go_cut [9] from 21 to 83 (fun v9 wx => ∃ b9, v9 = .pointer (some ⟨b9, 0, none⟩) ∧ Hid (Rc w g0 p b (.slice (some ⟨g, 0, none⟩) n cap) L wx ∧ wx.heap[b9]? = some (.cells #[.int .i64 f1, .int .i64 t1] 53 (0, 0))))
      case first =>
        obtain ⟨y0, y1, y2⟩ := HSc.out _ HR.out
        have hg0 : g0 < wr.heap.size := block_cell y0
        have hg : g < wr.heap.size := block_cell y1
        clear HP HI HR HSc HSd
        go_region
        go_wp2_with fail
        go_meet
        exact ⟨_, rfl, HR6⟩
      case rest =>
      obtain ⟨b9, rfl, HX6⟩ := hcut
      have HNH : Hid (∀ (m : Nat) (z : Clu), m + 1 < i → L[m + 1]? = some z → ¬ z.fr + p = a ∧ ¬ (m + 1 + 1 = n ∧ z.to + p = a)) := HI.out.2
      obtain ⟨f2, hf2⟩ : ∃ f2, d.fr + p = f2 := ⟨_, rfl⟩
      obtain ⟨t2, ht2⟩ : ∃ t2, d.to + p = t2 := ⟨_, rfl⟩
      clear HR6 HP HI HR l7 l2 l3
      obtain ⟨W6, hW6⟩ : ∃ W6, W6 = wc := ⟨_, rfl⟩
      subst hW6
      have HR6 : Hid (Rc w g0 p b (.slice (some ⟨g, 0, none⟩) n cap) L W6 ∧ W6.heap[b9]? = some (.cells #[.int .i64 f1, .int .i64 t1] 53 (0, 0))) := HX6
      have HP : Hid (∀ W', Below W6.heap.size W6 W' → Rc w g0 p b (.slice (some ⟨g, 0, none⟩) n cap) L W') := fun W' h => HR6.out.1.below h
      have m1 : IntKind.i64.wrap ((p : Int) + d.fr) = (p : Int) + d.fr := by rw [IntKind.wrap_i64]; omega
      have m2 : IntKind.i64.wrap ((p : Int) + d.to) = (p : Int) + d.to := by rw [IntKind.wrap_i64]; omega
      go_upto_region 7 with fail
      have HR7a : Hid (Rc w g0 p b (.slice (some ⟨g, 0, none⟩) n cap) L (W6.alloc (.cells #[.int .i64 ((p : Int) + d.fr), .int .i64 ((p : Int) + d.to)] 53)).drew ∧ (W6.alloc (.cells #[.int .i64 ((p : Int) + d.fr), .int .i64 ((p : Int) + d.to)] 53)).drew.heap[b9]? = some (.cells #[.int .i64 f1, .int .i64 t1] 53 (0, 0)) ∧ (W6.alloc (.cells #[.int .i64 ((p : Int) + d.fr), .int .i64 ((p : Int) + d.to)] 53)).drew.heap[W6.heap.size]? = some (.cells #[.int .i64 f2, .int .i64 t2] 53 (0, 0))) := by
        refine ⟨HR6.out.1.below (below_ad _ _), ((below_ad W6 _).block _ (Array.getElem?_eq_some_iff.1 HR6.out.2).1).trans HR6.out.2, ?_⟩
        rw [← hf2, ← ht2, show (p : Int) + d.fr = ((d.fr + p : Nat) : Int) by omega, show (p : Int) + d.to = ((d.to + p : Nat) : Int) by omega]
        exact World.alloc_heap_new _ _
      have HF2 : Hid (d.fr + p = f2) := hf2
      have HT2 : Hid (d.to + p = t2) := ht2
      clear hf2 ht2
      go_cut [10] from 21 to 83 (fun v10 wx => ∃ b10, v10 = .pointer (some ⟨b10, 0, none⟩) ∧ Hid (Rc w g0 p b (.slice (some ⟨g, 0, none⟩) n cap) L wx ∧ wx.heap[b9]? = some (.cells #[.int .i64 f1, .int .i64 t1] 53 (0, 0)) ∧ wx.heap[b10]? = some (.cells #[.int .i64 f2, .int .i64 t2] 53 (0, 0))))
      case first =>
        go_region_held3 (fun W => W.cell? ⟨g0, 0, none⟩ = some (.int .i64 p) ∧ W.cell? ⟨g, i * 4, none⟩ = some (.int .i64 d.fr) ∧ W.cell? ⟨g, i * 4 + 1, none⟩ = some (.int .i64 d.to)) (first | exact HSd.out _ HR6.out.1 | exact HSd.out _ (HP.out _ (drew_b _)) | exact HSd.out _ (HP.out _ (below_ad _ _)) | exact HSd.out _ (HP.out _ ((Below.refl _ _).alloc (Nat.le_refl _) _))) (fail)
        go_wp2_with fail
        go_meet
        exact ⟨_, rfl, HR7a⟩
      case rest =>
      obtain ⟨b10, rfl, HR7⟩ := hcut
      clear HR6 HP m1 m2 HR7a
      obtain ⟨W7, hW7⟩ : ∃ W7, W7 = wc := ⟨_, rfl⟩
      subst hW7
      obtain ⟨x0, x1⟩ := box2' HR7.out.2.1
      obtain ⟨x2, x3⟩ := box2' HR7.out.2.2
      obtain ⟨q, hq⟩ : ∃ q, swapP s (c.fr + p, c.to + p) (d.fr + p, d.to + p) = q := ⟨_, rfl⟩
      have HTj : Hid (∀ W, Calls Tryz.prog 32 #[.string s, .agg #[.int .i64 f1, .int .i64 t1], .agg #[.int .i64 f2, .int .i64 t2]] W fun e W' => e = .returned (.agg (chc q)) ∧ Below W.heap.size W W') := fun W => by have := HT.out W j c d HJ.out.1 (by rw [← HJ.out.2.2]; exact HJ.out.2.1); rw [hq, HF1.out, HT1.out, HF2.out, HT2.out] at this; exact this
      have HHj : Hid ((f2 = a ∨ (i + 1 = n ∧ t2 = a)) → charsP s a = (q, 0)) := fun h => by have := HH.out j c d HJ.out.1 (by rw [← HJ.out.2.2]; exact HJ.out.2.1) (by rw [HF2.out, HT2.out, ← HJ.out.2.2]; exact h); rw [hq] at this; exact this
      obtain ⟨q0, q1, q2, q3, q4, q5⟩ := q
      clear hq HSc HSd o1 o2 o3 o4
      by_cases h1 : f2 = a
      · have HQ : Hid (charsP s a = (⟨q0, q1, q2, q3, q4, q5⟩, 0)) := HHj.out (.inl h1)
        obtain rfl := h1
        have CT : Hid (∀ W, Calls Tryz.prog 32 #[.string s, .agg #[.int .i64 f1, .int .i64 t1], .agg #[.int .i64 f2, .int .i64 t2]] W fun e W' => e = .returned (.agg #[.int .i64 q0, .int .i64 q1, .string q2, .int .i64 q3, .string q4, .bool q5]) ∧ Hid (Below W.heap.size W W')) := HTj.out
        go_wp2_with (go_at_call 32; refine (CT.out _).mono ?_; clear CT x0 x1 x2 x3; rintro e w8 ⟨rfl, HB8⟩; obtain ⟨⟨z0, z1, z2, z3, z4, z5⟩, r0, r1, r2, r3, r4, r5, hlz⟩ := cbox (HR7.out.1.f.below HB8.out).rs)
        obtain ⟨k1, k2, k3, k4, k5, k6, k7⟩ := (HR7.out.1.f.below HB8.out).fin (.int .i64 q0) (.int .i64 q1) (.string q2) (.int .i64 q3) (.string q4) (.bool q5)
        rw [HQ.out]
        exact bodyPost_ret (v := rsv (⟨q0, q1, q2, q3, q4, q5⟩, 0)) (by simp [results, Tryz.results18, go_sem, rsv, chc, k2, k3, k4, k5, k6, k7]) rfl ⟨rfl, k1⟩
      have h1' : ¬ (f2 : Int) = a := by omega
      by_cases h2 : i + 1 = n
      · have l9 : (n : Int) - 1 = i := by omega
        by_cases h3 : t2 = a
        · have HQ : Hid (charsP s a = (⟨q0, q1, q2, q3, q4, q5⟩, 0)) := HHj.out (.inr ⟨h2, h3⟩)
          obtain rfl := h3
          have CT : Hid (∀ W, Calls Tryz.prog 32 #[.string s, .agg #[.int .i64 f1, .int .i64 t1], .agg #[.int .i64 f2, .int .i64 t2]] W fun e W' => e = .returned (.agg #[.int .i64 q0, .int .i64 q1, .string q2, .int .i64 q3, .string q4, .bool q5]) ∧ Hid (Below W.heap.size W W')) := HTj.out
          go_wp2_with (go_at_call 32; refine (CT.out _).mono ?_; clear CT x0 x1 x2 x3; rintro e w8 ⟨rfl, HB8⟩; obtain ⟨⟨z0, z1, z2, z3, z4, z5⟩, r0, r1, r2, r3, r4, r5, hlz⟩ := cbox (HR7.out.1.f.below HB8.out).rs)
          obtain ⟨k1, k2, k3, k4, k5, k6, k7⟩ := (HR7.out.1.f.below HB8.out).fin (.int .i64 q0) (.int .i64 q1) (.string q2) (.int .i64 q3) (.string q4) (.bool q5)
          rw [HQ.out]
          exact bodyPost_ret (v := rsv (⟨q0, q1, q2, q3, q4, q5⟩, 0)) (by simp [results, Tryz.results18, go_sem, rsv, chc, k2, k3, k4, k5, k6, k7]) rfl ⟨rfl, k1⟩
        have h3' : ¬ (t2 : Int) = a := by omega
        have h3b : ((t2 : Int) == (a : Int)) = false := by simp; omega
        have h3c : decide ((t2 : Int) = a) = false := by simp; omega
        have h3d : decide (t2 = a) = false := by simp; omega
        clear h2
        have HNE : Hid (¬ (i + 1 = n ∧ t2 = a)) := fun h => h3 h.2
        go_wp2
        refine ⟨⟨i + 1, by simp, by omega, by omega, HR7.out.1, fun m z hm hz => ?_⟩, by simp only [intOf]; omega⟩
        rcases Nat.lt_or_ge (m + 1) i with e | e
        · exact HNH.out m z e hz
        · have hmi : m + 1 = i := by omega
          rw [hmi, HJ.out.2.1] at hz; cases hz
          exact ⟨by rw [HF2.out]; exact h1, by rw [HT2.out, hmi]; exact HNE.out⟩
      · have h2' : ¬ ((i : Int) = (n : Int) - 1) := by omega
        have HNE : Hid (¬ (i + 1 = n ∧ t2 = a)) := fun h => h2 h.1
        go_wp2
        refine ⟨⟨i + 1, by simp, by omega, by omega, HR7.out.1, fun m z hm hz => ?_⟩, by simp only [intOf]; omega⟩
        rcases Nat.lt_or_ge (m + 1) i with e | e
        · exact HNH.out m z e hz
        · have hmi : m + 1 = i := by omega
          rw [hmi, HJ.out.2.1] at hz; cases hz
          exact ⟨by rw [HF2.out]; exact h1, by rw [HT2.out, hmi]; exact HNE.out⟩
    · have hlt' : ¬ (i : Int) < n := by omega
      have HQ : Hid (charsP s a = (chz, 8)) := HE.out fun m z hz => HI.out.2 m z (by have := HN.out; have := (List.getElem?_eq_some_iff.1 hz).1; omega) hz
      have HX : Hid (Rx w wr) := HI.out.1.f
      clear HI
      obtain ⟨⟨z0, z1, z2, z3, z4, z5⟩, r0, r1, r2, r3, r4, r5, hlz⟩ := cbox HX.out.rs
      go_wp2
      obtain ⟨k1, k2, k3, k4, k5, k6, k7⟩ := HX.out.fin (.int .i64 0) (.int .i64 0) (.string ⟨#[]⟩) (.int .i64 0) (.string ⟨#[]⟩) (.bool false)
      rw [HQ.out]
      exact bodyPost_ret (v := rsv (chz, 8)) (by simp [results, Tryz.results18, go_sem, rsv, chc, chz, k2, k3, k4, k5, k6, k7]) rfl ⟨rfl, k1⟩
end Go.Proofs.YtdggbnkhbmffoaaGreatDoor
