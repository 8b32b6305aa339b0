/-
  The document's own set of marks, on: Drop, Clone, Move, SnapTo. Conditions: those of each theorem.
-/
import Derived.Test.YtolafffpgkgadaaERefC
import Derived.Test.YtolafffpgkgadaaEMovC
namespace Go.Proofs.Ytolafffpgkgadaa
open Go.RowKit

/-- the marks behind Drop -/
def drpL (n : Nat) (L : Ml) : Ml := if gd n then out n L else L
theorem out_none {n : Nat} {L : Ml} (h : got n L = none) : out n L = L := List.filter_eq_self.2 fun p hp => by have := got_none.1 h p hp; simpa using this
theorem out_at {n : Nat} : ∀ {L : Ml} {k : Nat} {p : Nat × Int}, Ris L → L[k]? = some p → p.1 = n → out n L = L.take k ++ L.drop (k + 1)
  | [], _, _, _, h, _ => by simp at h
  | q :: r, 0, p, hr, h, hn => by
    simp at h
    subst h
    obtain ⟨h1, _⟩ := List.pairwise_cons.1 hr
    show (q :: r).filter _ = _
    rw [List.filter_cons_of_neg (by simp [hn])]
    simp only [List.take_zero, List.nil_append, List.drop_succ_cons, List.drop_zero]
    exact List.filter_eq_self.2 fun p hp => by have := h1 p hp; simp; omega
  | q :: r, k + 1, p, hr, h, hn => by
    obtain ⟨h1, h2⟩ := List.pairwise_cons.1 hr
    have hp : r[k]? = some p := by simpa using h
    have := h1 p (List.mem_of_getElem? hp)
    show (q :: r).filter _ = _
    rw [List.filter_cons_of_pos (by simp; omega)]
    simp only [List.take_succ_cons, List.cons_append, List.drop_succ_cons]
    exact congrArg (q :: ·) (out_at h2 hp hn)
theorem Rs.base {W : World} {base base' rb : Nat} {v : Value} {L : Ml} (h : Rs W base rb v L) (hb : base' ≤ base) : Rs W base' rb v L :=
  ⟨h.box, ⟨h.row.1, h.row.2.imp id (fun ⟨g, cap, cur, h1, h2, h3⟩ => ⟨g, cap, cur, h1, by omega, h3⟩)⟩, by have := h.low; omega, h.ris, h.fit⟩

set_option maxRecDepth 100000 in
theorem rclone_any {w : World} {base rb : Nat} {v : Value} {L : Ml} (h : Rs w base rb v L) :
    Calls Try.prog 13 #[.pointer (some ⟨rb, 0, none⟩)] w fun e w' => ∃ rb' v', e = .returned (.pointer (some ⟨rb', 0, none⟩)) ∧ Rs w' w.heap.size rb' v' L ∧ Below w.heap.size w w' := by
  have CA := rall_any h
  have HF : Hid (Ris L ∧ Fit8 L) := ⟨h.ris, h.fit⟩
  clear h
  go_enter Try.func13, Try.ntmps13
  go_wp2_with (go_at_call 16; refine CA.mono ?_; clear CA; rintro e w1 ⟨v1, rfl, hr1, hb1⟩; have H1 : Hid (w1.ownsRow w.heap.size 26 2 v1 L.length (kcl L) ∧ Below w.heap.size w w1) := ⟨hr1, hb1⟩; clear hr1 hb1; obtain ⟨ta, tm, tc, rfl⟩ := row_slice H1.out.1)
  go_ret
  obtain ⟨h1, h2⟩ := H1.out
  refine ⟨_, _, rfl, ⟨World.alloc_heap_new w1 _, h1.alloc _, h2.size, HF.out.1, HF.out.2⟩, h2.alloc h2.size _⟩

set_option maxRecDepth 100000 in
set_option maxHeartbeats 1000000 in
theorem rdrop_any {w : World} {base rb : Nat} {v : Value} {L : Ml} (h : Rs w base rb v L) {n : Nat} (hn : n < 256) :
    Calls Try.prog 37 #[.pointer (some ⟨rb, 0, none⟩), .int .u8 (n : Int)] w fun e w' => e = .returned (.int .i64 (getE n L).2) ∧ ∃ v', Rs w' base rb v' (drpL n L) ∧ Ch rb none w w' ∧ Nx w v.ownBlock v'.ownBlock := by
  have CG := rgood_any hn w
  cases hg : gd n with
  | false =>
    rw [hg] at CG
    go_enter Try.func37, Try.ntmps37
    go_wp2_with (go_at_call 22; refine CG.mono ?_; rintro e w1 ⟨rfl, rfl⟩)
    go_ret
    exact ⟨by simp [getE, hg], v, by simp [drpL, hg]; exact h, Ch.refl _ _ _, Nx.refl _ _⟩
  | true =>
    rw [hg] at CG
    have CP := rplace_any (n := n) h
    have HG : Hid (gd n = true) := hg
    cases hq : got n L with
    | none =>
      have CP2 : Calls Try.prog 47 #[.pointer (some ⟨rb, 0, none⟩), .int .u8 (n : Int)] w fun e w' => e = .returned (.int .i64 (-1)) ∧ w' = w := CP.mono (by
        rintro e w' ⟨z, rfl, rfl, ⟨rfl, _⟩ | ⟨k, p, _, _, _, h3⟩⟩
        · exact ⟨rfl, rfl⟩
        · rw [hq] at h3; cases h3)
      clear CP hg
      go_enter Try.func37, Try.ntmps37
      go_wp2_with (first
        | (go_at_call 22; refine CG.mono ?_; clear CG; rintro e w1 ⟨rfl, rfl⟩)
        | (go_at_call 47; refine CP2.mono ?_; clear CP2; rintro e w1 ⟨rfl, rfl⟩))
      go_ret
      exact ⟨by simp [getE, HG.out, hq], v, by simp [drpL, HG.out, out_none hq]; exact h, Ch.refl _ _ _, Nx.refl _ _⟩
    | some y =>
      have HQ : Hid (got n L = some y) := hq
      obtain ⟨k, p, hp, hpn, CP2⟩ : ∃ (k : Nat) (p : Nat × Int), L[k]? = some p ∧ p.1 = n ∧ Calls Try.prog 47 #[.pointer (some ⟨rb, 0, none⟩), .int .u8 (n : Int)] w fun e w' => e = .returned (.int .i64 (k : Int)) ∧ w' = w := by
        obtain ⟨k, hk⟩ : ∃ k, L[k]? = some (n, y) := by
          obtain ⟨k, hk, e⟩ := List.getElem_of_mem (got_mem hq)
          exact ⟨k, by rw [List.getElem?_eq_getElem hk, e]⟩
        refine ⟨k, (n, y), hk, rfl, CP.mono ?_⟩
        rintro e w' ⟨z, rfl, rfl, ⟨_, h3⟩ | ⟨k', p', rfl, h1, h2, h3⟩⟩
        · rw [hq] at h3; cases h3
        · have hpw := List.pairwise_iff_getElem.1 h.ris
          have a1 := (List.getElem?_eq_some_iff.1 h1)
          have a2 := (List.getElem?_eq_some_iff.1 hk)
          obtain ⟨b1, c1⟩ := a1
          obtain ⟨b2, c2⟩ := a2
          have hkk : k' = k := by
            rcases Nat.lt_trichotomy k' k with hlt | hlt | hlt
            · have := hpw k' k b1 b2 hlt; rw [c1, c2] at this; simp only at this; omega
            · exact hlt
            · have := hpw k k' b2 b1 hlt; rw [c1, c2] at this; simp only at this; omega
          subst hkk
          exact ⟨rfl, rfl⟩
      have HO : Hid (drpL n L = L.take k ++ L.drop (k + 1)) := by
        show drpL n L = _
        rw [drpL, HG.out, if_pos rfl]
        exact out_at h.ris hp hpn
      obtain ⟨N, hN⟩ : ∃ N, L.length = N := ⟨_, rfl⟩
      have hl8 := len8 h.ris h.fit
      have hk : k < N := by rw [← hN]; exact (List.getElem?_eq_some_iff.1 hp).1
      have hrow := h.row
      rcases hrow.2 with ⟨_, hz⟩ | ⟨g, vc, cur, hv, hbg, hcur, hNc, hvc, hsz, htk⟩
      · omega
      rw [hN] at hv hNc hl8
      have hg8 := (Array.getElem?_eq_some_iff.1 hcur).1
      have hc : w.cell? ⟨rb, 0, none⟩ = some (.slice (some ⟨g, 0, none⟩) N vc) := by rw [h.cell, hv]
      have hf := h.frozen
      have HRD : Hid (RdK w (.slice (some ⟨g, 0, none⟩) N vc) L) := by have := h.rd; rw [hv] at this; exact this
      have HB : Hid (∀ W, Below w.heap.size w W → W.cell? ⟨rb, 0, none⟩ = some (.slice (some ⟨g, 0, none⟩) N vc) ∧ W.frozen? ⟨rb, 0, none⟩ = false ∧ RdK W (.slice (some ⟨g, 0, none⟩) N vc) L) := fun W hb => ⟨by rw [(h.below hb).cell, hv], (h.below hb).frozen, by have := (h.below hb).rd; rw [hv] at this; exact this⟩
      have HT : Hid (∀ W, RdK W (.slice (some ⟨g, 0, none⟩) N vc) L → RdK W (.slice (some ⟨g, 0, none⟩) k vc) (L.take k)) := fun W hr => by
        obtain ⟨a', c', e, hr⟩ := hr
        obtain ⟨rfl, _, rfl⟩ := Value.slice.inj e
        refine ⟨some ⟨g, 0, none⟩, vc, by rw [List.length_take, hN, Nat.min_eq_left (by omega)], fun h0 => ?_⟩
        obtain ⟨g', o', e', hg', hcs⟩ := hr (fun e => by rw [e] at h0; simp at h0)
        refine ⟨g', o', e', hg', fun j q hj => hcs j q ?_⟩
        rw [List.getElem?_take] at hj
        split at hj
        · exact hj
        · cases hj
      have HD : Hid (∀ W o, RdK W (.slice (some ⟨g, 0, none⟩) N vc) L → (N - (k + 1) = 0 ∨ o = (k + 1) * 2) → RdK W (.slice (some ⟨g, o, none⟩) (N - (k + 1)) (vc - (k + 1))) (L.drop (k + 1))) := fun W o hr ho => by
        obtain ⟨a', c', e, hr⟩ := hr
        obtain ⟨rfl, _, rfl⟩ := Value.slice.inj e
        refine ⟨some ⟨g, o, none⟩, vc - (k + 1), by rw [List.length_drop, hN], fun h0 => ?_⟩
        obtain ⟨g', o', e', hg', hcs⟩ := hr (fun e => by rw [e] at h0; simp at h0)
        cases e'
        rcases ho with ho | ho
        · exact absurd (List.eq_nil_of_length_eq_zero (by rw [List.length_drop, hN]; exact ho)) h0
        subst ho
        refine ⟨g, _, rfl, hg', fun j q hj => ?_⟩
        rw [List.getElem?_drop] at hj
        have := hcs _ q hj
        rw [show 0 + (k + 1 + j) * 2 = (k + 1) * 2 + j * 2 by omega] at this
        exact this
      have HFN : Hid (∀ t' W, W.ownsRow w.heap.size 26 2 t' (drpL n L).length (kcl (drpL n L)) → Below w.heap.size w W → ∃ v', Rs (W.setCell ⟨rb, 0, none⟩ t') base rb v' (drpL n L) ∧ Ch rb none w (W.setCell ⟨rb, 0, none⟩ t') ∧ Nx w (some g) v'.ownBlock) := fun t' W hr hb => by
        have hx := set1 (i := 0) t' (h.below hb).box
        have hg := gcell W rb 0 t'
        have hr2 := hr.kept hg (.inr (fun e => by have := (hr.lt rb e).1; have := h.lt; omega))
        have hbl := h.low
        have hbt := h.lt
        have hdr : drpL n L = out n L := by unfold drpL; rw [HG.out, if_pos rfl]
        refine ⟨t', ⟨hx, ⟨hr2.1, hr2.2.imp id (fun ⟨g, cap, cur, h1, h2, h3⟩ => ⟨g, cap, cur, h1, by omega, h3⟩)⟩, h.low, by rw [hdr]; exact h.ris.out, by rw [hdr]; exact h.fit.out⟩, ⟨hg.os.trans hb.os, hg.tape.trans hb.tape, hg.output.trans hb.output, Nat.le_trans hb.size hg.size, fun k hk hn _ => (hg.block k (by have := hb.size; omega) (fun e => hn (Option.some.inj e))).trans (hb.block k hk)⟩, fun k hk => .inr (hr.lt k hk).1⟩
      have hvb : v.ownBlock = some g := by rw [hv]; rfl
      rw [hvb]
      have HN : Hid (L.length = N) := hN
      have hgE : (getE n L).2 = 0 := by simp [getE, HG.out, hq]
      rw [hgE]
      have hkc : k + 1 ≤ vc := by omega
      have hvc2 : vc ≤ 9223372036854775807 := by unfold maxLen at hvc; omega
      clear h hp hpn CP hg hq hrow hv hbg hcur hsz htk hvb hgE hN hvc hg8
      have two : ∀ (o : Nat), (N - (k + 1) = 0 ∨ o = (k + 1) * 2) → True := fun _ _ => trivial
      clear two
      by_cases hcap : vc = k + 1
      · obtain rfl : N = k + 1 := by omega
        subst hcap
        go_enter Try.func37, Try.ntmps37
        go_wp2_with (first
          | (go_at_call 22; refine CG.mono ?_; clear CG; rintro e w1 ⟨rfl, rfl⟩)
          | (go_at_call 47; refine CP2.mono ?_; clear CP2; rintro e w1 ⟨rfl, rfl⟩)
          | (at_builtin; refine app_rd rfl _ _ rfl w1.heap.size _ 0 [] rfl (World.ownsRow_nil _ _ _ _) (some ⟨g, 0, none⟩) k (k + 1) (L.take k) rfl (fun e => by cases e) (by rw [List.length_take, HN.out]; omega) (HT.out _ HRD.out) (by omega) (Nat.le_refl _) ?_; intro v2 w2 hown hg _; have H2 : Hid (w2.ownsRow w1.heap.size 26 2 v2 k (kcl (L.take k)) ∧ Below w1.heap.size w1 w2) := ⟨by simpa using hown, hg.os, hg.tape, hg.output, hg.size, fun j hj => hg.block j hj (fun e => by cases e)⟩; have hc2 := (HB.out _ H2.out.2).1; clear hown hg HRD)
          | (at_builtin; refine app_rd rfl _ _ rfl w1.heap.size _ k (kcl (L.take k)) rfl H2.out.1 (some ⟨g, 0, none⟩) 0 0 (L.drop (k + 1)) rfl (fun e => by cases e) (by rw [List.length_drop, HN.out]; omega) (by have := HD.out _ 0 (HB.out _ H2.out.2).2.2 (by simp); simpa using this) (by omega) H2.out.2.size ?_; intro v3 w3 hown hg _; have H3 : Hid (w3.ownsRow w1.heap.size 26 2 v3 (drpL n L).length (kcl (drpL n L)) ∧ Below w1.heap.size w1 w3) := (by have e1 := HN.out; have e2 := H2.out.1.lt; have e3 := H2.out.2.size; refine ⟨?_, hg.os.trans H2.out.2.os, hg.tape.trans H2.out.2.tape, hg.output.trans H2.out.2.output, Nat.le_trans H2.out.2.size hg.size, fun j hj => (hg.block j (by omega) (fun e => by have := (e2 j e.symm).1; omega)).trans (H2.out.2.block j hj)⟩; rw [HO.out, kcl_app, List.length_append, List.length_take, List.length_drop, e1, Nat.min_eq_left (by omega)]; simpa using hown); have hc3 := (HB.out _ H3.out.2).1; have hf3 := (HB.out _ H3.out.2).2.1; clear hown hg H2 hc2; obtain ⟨ta, tm, tc, rfl⟩ := row_slice H3.out.1))
        go_ret
        exact ⟨rfl, HFN.out _ _ H3.out.1 H3.out.2⟩
      · have hkc2 : k + 1 < vc := by omega
        clear hcap
        go_enter Try.func37, Try.ntmps37
        go_wp2_with (first
          | (go_at_call 22; refine CG.mono ?_; clear CG; rintro e w1 ⟨rfl, rfl⟩)
          | (go_at_call 47; refine CP2.mono ?_; clear CP2; rintro e w1 ⟨rfl, rfl⟩)
          | (at_builtin; refine app_rd rfl _ _ rfl w1.heap.size _ 0 [] rfl (World.ownsRow_nil _ _ _ _) (some ⟨g, 0, none⟩) k vc (L.take k) rfl (fun e => by cases e) (by rw [List.length_take, HN.out]; omega) (HT.out _ HRD.out) (by omega) (Nat.le_refl _) ?_; intro v2 w2 hown hg _; have H2 : Hid (w2.ownsRow w1.heap.size 26 2 v2 k (kcl (L.take k)) ∧ Below w1.heap.size w1 w2) := ⟨by simpa using hown, hg.os, hg.tape, hg.output, hg.size, fun j hj => hg.block j hj (fun e => by cases e)⟩; have hc2 := (HB.out _ H2.out.2).1; clear hown hg HRD)
          | (at_builtin; refine app_rd rfl _ _ rfl w1.heap.size _ k (kcl (L.take k)) rfl H2.out.1 (some ⟨g, (k + 1) * 2, none⟩) (N - (k + 1)) (vc - (k + 1)) (L.drop (k + 1)) rfl (fun e => by cases e) (by rw [List.length_drop, HN.out]) (HD.out _ _ (HB.out _ H2.out.2).2.2 (.inr rfl)) (by omega) H2.out.2.size ?_; intro v3 w3 hown hg _; have H3 : Hid (w3.ownsRow w1.heap.size 26 2 v3 (drpL n L).length (kcl (drpL n L)) ∧ Below w1.heap.size w1 w3) := (by have e1 := HN.out; have e2 := H2.out.1.lt; have e3 := H2.out.2.size; refine ⟨?_, hg.os.trans H2.out.2.os, hg.tape.trans H2.out.2.tape, hg.output.trans H2.out.2.output, Nat.le_trans H2.out.2.size hg.size, fun j hj => (hg.block j (by omega) (fun e => by have := (e2 j e.symm).1; omega)).trans (H2.out.2.block j hj)⟩; rw [HO.out, kcl_app, List.length_append, List.length_take, List.length_drop, e1, Nat.min_eq_left (by omega)]; exact hown); have hc3 := (HB.out _ H3.out.2).1; have hf3 := (HB.out _ H3.out.2).2.1; clear hown hg H2 hc2; obtain ⟨ta, tm, tc, rfl⟩ := row_slice H3.out.1))
        go_ret
        exact ⟨rfl, HFN.out _ _ H3.out.1 H3.out.2⟩

/-- a row of marks, one place of it written -/
theorem row_set {W : World} {base g cap k : Nat} {L : Ml} {n : Nat} {x y : Int} (h : W.ownsRow base 26 2 (.slice (some ⟨g, 0, none⟩) L.length cap) L.length (kcl L)) (hk : L[k]? = some (n, x)) :
    (W.setCell ⟨g, k * 2 + 1, none⟩ (.int .i64 y)).ownsRow base 26 2 (.slice (some ⟨g, 0, none⟩) L.length cap) L.length (kcl (L.set k (n, y))) ∧ W.grownBy (W.setCell ⟨g, k * 2 + 1, none⟩ (.int .i64 y)) (some g) := by
  have h1 := h.stored (k * 2 + 1) (.int .i64 y)
  have e : (kcl L).set (k * 2 + 1) (.int .i64 y) = kcl (L.set k (n, y)) := by
    clear h h1
    induction L generalizing k with
    | nil => simp at hk
    | cons q r ih =>
      have e : ∀ (q : Nat × Int) l, kcl (q :: l) = .int .u8 (q.1 : Int) :: .int .i64 q.2 :: kcl l := fun _ _ => rfl
      cases k with
      | zero => simp at hk; subst hk; rfl
      | succ k =>
        rw [show (q :: r).set (k + 1) (n, y) = q :: r.set k (n, y) from rfl, e, e, show (k + 1) * 2 + 1 = (k * 2 + 1) + 1 + 1 by omega, List.set_cons_succ, List.set_cons_succ, ih (by simpa using hk)]
  rw [e] at h1
  exact h1
theorem set_mv {ds : List Dl} {L : Ml} {k : Nat} {p : Nat × Int} (hp : L[k]? = some p) :
    (mvL ds (L.take k) ++ L.drop k).set k (p.1, mvs p.2 ds) = mvL ds (L.take (k + 1)) ++ L.drop (k + 1) := by
  have hk := (List.getElem?_eq_some_iff.1 hp).1
  have hl : (mvL ds (L.take k)).length = k := by simp [mvL]; omega
  have e : L.drop k = p :: L.drop (k + 1) := by
    rw [List.drop_eq_getElem_cons hk]
    congr 1
    rw [List.getElem?_eq_getElem hk] at hp
    exact Option.some.inj hp
  rw [e, List.set_append_right _ _ (by omega), hl, Nat.sub_self, List.set_cons_zero, List.take_add_one, hp]
  simp [mvL]
theorem mv_at {ds : List Dl} {L : Ml} {k : Nat} {p : Nat × Int} (hp : L[k]? = some p) : (mvL ds (L.take k) ++ L.drop k)[k]? = some p := by
  have hk := (List.getElem?_eq_some_iff.1 hp).1
  have hl : (mvL ds (L.take k)).length = k := by simp [mvL]; omega
  rw [List.getElem?_append_right (by omega), hl, Nat.sub_self, List.getElem?_drop]
  simpa using hp
theorem mv_len {ds : List Dl} {L : Ml} {k : Nat} (hk : k ≤ L.length) : (mvL ds (L.take k) ++ L.drop k).length = L.length := by
  simp [mvL]; omega
theorem mv_ris {ds : List Dl} {L : Ml} (k : Nat) (h : Ris L) : Ris (mvL ds (L.take k) ++ L.drop k) := by
  have e : (mvL ds (L.take k) ++ L.drop k).map (·.1) = L.map (·.1) := by
    conv => rhs; rw [← List.take_append_drop k L, List.map_append]
    rw [List.map_append, mvL, List.map_map]
    rfl
  have h1 : (L.map (·.1)).Pairwise (· < ·) := List.pairwise_map.2 h
  rw [← e] at h1
  exact List.pairwise_map.1 h1
theorem mv_fit {ds : List Dl} {L : Ml} (k : Nat) (hd : ∀ d ∈ ds, d.fit) (h : Fit8 L) : Fit8 (mvL ds (L.take k) ++ L.drop k) := fun p hp => by
  rcases List.mem_append.1 hp with hp | hp
  · obtain ⟨q, hq, rfl⟩ := List.mem_map.1 hp
    have := h q (List.mem_of_mem_take hq)
    exact ⟨this.1, mvs_ok hd this.2⟩
  · exact h p (List.mem_of_mem_drop hp)

set_option maxRecDepth 100000 in
set_option maxHeartbeats 1000000 in
theorem rmove_any {w : World} {base rb : Nat} {v : Value} {L : Ml} (h : Rs w base rb v L) {a : Option Addr} {N cap : Nat} {ds : List Dl} (hN : ds.length = N) (hl : N ≤ 140737488351232) (hf : ∀ d ∈ ds, d.fit) (hd : ∀ d ∈ ds, 0 ≤ d.a ∧ d.a ≤ 1099511627776) (hs : dls ds ≤ 1048576) (hL : ∀ p ∈ L, 0 ≤ p.2 ∧ p.2 ≤ 1125899906842624) (hR : ∀ W', Ch rb v.ownBlock w W' → RdD W' (.slice a N cap) ds) :
    Calls Try.prog 29 #[.pointer (some ⟨rb, 0, none⟩), .slice a N cap] w fun e w' => e = .returned (.tuple #[]) ∧ Rs w' base rb v (mvL ds L) ∧ Ch rb v.ownBlock w w' := by
  rcases id h.row.2 with ⟨hv, hz⟩ | ⟨g, vc, cur, hv, hbg, hcur, hNc, hvc, hsz, htk⟩
  · obtain rfl : L = [] := List.eq_nil_of_length_eq_zero hz
    have hc := h.cell
    rw [hv] at hc
    have H : Hid (Rs w base rb v (mvL ds [])) := h
    clear h hR hv
    go_enter Try.func29, Try.ntmps29
    go_wp2
    go_loopw [4] (fun t4 wr => t4 = .int .i64 0 ∧ wr = w) (fun _ _ => 0)
    case atStart => exact ⟨rfl, rfl⟩
    case round =>
      obtain ⟨rfl, rfl⟩ := hrel
      go_wp2
      go_end0
      exact ⟨rfl, H.out, Ch.refl _ _ _⟩
  · obtain ⟨M, hM⟩ : ∃ M, L.length = M := ⟨_, rfl⟩
    have hl8 := len8 h.ris h.fit
    rw [hM] at hv hl8
    subst hv
    have CM : Hid (∀ W', Ch rb (some g) w W' → ∀ p, 0 ≤ p → p ≤ 1125899906842624 → Calls Try.prog 44 #[.int .i64 p, .slice a N cap] W' fun e w' => e = .returned (.int .i64 (mvs p ds)) ∧ Below W'.heap.size W' w') := fun W' hc p h0 h1 => RMoved_any hN hl (hR W' hc) hd (by omega) p h0 (by omega)
    have HF : Hid (L.length = M ∧ (∀ p ∈ L, 0 ≤ p.2 ∧ p.2 ≤ 1125899906842624) ∧ Ris L ∧ Fit8 L ∧ (∀ d ∈ ds, d.fit) ∧ base ≤ rb) := ⟨hM, hL, h.ris, h.fit, hf, h.low⟩
    have H0 : Hid (Rs w base rb (.slice (some ⟨g, 0, none⟩) M vc) L) := h
    clear h hR hM hL hf hd hcur hsz htk hNc hvc hbg hN hs
    go_enter Try.func29, Try.ntmps29
    go_wp2
    go_loopw [4] (fun t4 wr => ∃ k : Nat, k ≤ M ∧ t4 = .int .i64 k ∧ Hid (Rs wr base rb (.slice (some ⟨g, 0, none⟩) M vc) (mvL ds (L.take k) ++ L.drop k) ∧ Ch rb (some g) w wr)) (fun t4 _ => M - (intOf t4).toNat)
    case atStart => exact ⟨0, Nat.zero_le _, rfl, by simpa [mvL] using H0.out, Ch.refl _ _ _⟩
    case round =>
      obtain ⟨k, hk, rfl, HK⟩ := hrel
      clear H0
      have hc := HK.out.1.cell
      by_cases hlt : k < M
      · obtain ⟨p, hp⟩ : ∃ p, L[k]? = some p := ⟨L[k]'(by rw [HF.out.1]; exact hlt), List.getElem?_eq_getElem _⟩
        have hpb := HF.out.2.1 p (List.mem_of_getElem? hp)
        have CMp : Hid (∀ W', Ch rb (some g) w W' → Calls Try.prog 44 #[.int .i64 p.2, .slice a N cap] W' fun e w' => e = .returned (.int .i64 (mvs p.2 ds)) ∧ Below W'.heap.size W' w') := fun W' hc => CM.out W' hc p.2 hpb.1 hpb.2
        have HP : Hid (L[k]? = some p) := hp
        have HW : Hid (∀ W, Rs W base rb (.slice (some ⟨g, 0, none⟩) M vc) (mvL ds (L.take k) ++ L.drop k) → W.cell? ⟨rb, 0, none⟩ = some (.slice (some ⟨g, 0, none⟩) M vc) ∧ W.cell? ⟨g, k * 2 + 1, none⟩ = some (.int .i64 p.2) ∧ W.frozen? ⟨g, k * 2 + 1, none⟩ = false) := fun W hW => by
          have hl := mv_len (ds := ds) (L := L) (k := k) (by rw [HF.out.1]; exact hk)
          have hr := hW.row
          rw [hl, HF.out.1] at hr
          refine ⟨hW.cell, ?_, hr.frozenAt _⟩
          have := hr.cellAt (k * 2 + 1) (by omega)
          rw [(kcl_get _ k p (mv_at HP.out)).2] at this
          exact this
        obtain ⟨x, hx⟩ : ∃ x, mvs p.2 ds = x := ⟨_, rfl⟩
        have HX : Hid (mvs p.2 ds = x) := hx
        rw [hx] at CMp
        obtain ⟨_, q1, q2⟩ := HW.out _ HK.out.1
        clear hp hx CM hpb
        go_upto_region 3 with fail
        have HB : Hid (∀ W W', Rs W base rb (.slice (some ⟨g, 0, none⟩) M vc) (mvL ds (L.take k) ++ L.drop k) ∧ Ch rb (some g) w W → Below W.heap.size W W' → Rs W' base rb (.slice (some ⟨g, 0, none⟩) M vc) (mvL ds (L.take k) ++ L.drop k) ∧ Ch rb (some g) w W') := fun W W' hW hb => ⟨hW.1.below hb, hW.2.transx (Nx.refl _ _) (Ch.below hb)⟩
        go_region_with (first
          | (go_at_call 44; guard_target = Calls _ _ _ (World.drew _) _; have HK1 : Hid _ := HB.out _ wr.drew HK.out ⟨rfl, rfl, rfl, Nat.le_refl _, fun _ _ => rfl⟩; refine (CMp.out _ HK1.out.2).mono ?_; clear CMp; rintro e w2 ⟨rfl, hb2⟩; have HK2 : Hid _ := HB.out _ _ HK1.out hb2; obtain ⟨r0, r1, r2⟩ := HW.out _ HK2.out.1; clear hb2 HK HK1)
          | (go_at_call 44; refine (CMp.out _ HK.out.2).mono ?_; clear CMp; rintro e w2 ⟨rfl, hb2⟩; have HK2 : Hid _ := HB.out _ _ HK.out hb2; obtain ⟨r0, r1, r2⟩ := HW.out _ HK2.out.1; clear hb2 HK))
        all_goals go_wp2
        all_goals
          refine ⟨⟨k + 1, by omega, by go_num, ?_⟩, by simp [intOf]; omega⟩
          have hl := mv_len (ds := ds) (L := L) (k := k) (by rw [HF.out.1]; exact hk)
          have hl2 := mv_len (ds := ds) (L := L) (k := k + 1) (by rw [HF.out.1]; omega)
          have hr := HK2.out.1.row
          rw [show Value.slice (some ⟨g, 0, none⟩) M vc = .slice (some ⟨g, 0, none⟩) (mvL ds (L.take k) ++ L.drop k).length vc by rw [hl, HF.out.1]] at hr
          have hs := row_set (y := x) (n := p.1) (x := p.2) hr (mv_at HP.out)
          rw [← HX.out, set_mv HP.out, hl, HF.out.1] at hs
          rw [← HX.out]
          refine ⟨⟨(hs.2.block rb HK2.out.1.lt (fun e => ?_)).trans HK2.out.1.box, by rw [hl2, HF.out.1]; exact hs.1, HF.out.2.2.2.2.2, mv_ris _ HF.out.2.2.1, mv_fit _ HF.out.2.2.2.2.1 HF.out.2.2.2.1⟩, HK2.out.2.transx (Nx.refl _ _) ⟨hs.2.os, hs.2.tape, hs.2.output, hs.2.size, fun j hj _ hn => hs.2.block j hj (fun e => hn e.symm)⟩⟩
          obtain ⟨cur, hcur, _⟩ := HK2.out.1.blk (g := g) rfl
          have hbx := HK2.out.1.box
          rw [Option.some.inj e, hcur] at hbx
          injection hbx with h1
          injection h1 with _ ht _
          exact absurd ht (by decide)
      · go_wp2
        go_end0
        obtain rfl : k = M := by omega
        obtain ⟨h1, h2⟩ := HK.out
        rw [List.take_of_length_le (by rw [HF.out.1]; exact Nat.le_refl _), List.drop_eq_nil_of_le (by rw [HF.out.1]; exact Nat.le_refl _), List.append_nil] at h1
        exact ⟨rfl, h1, h2⟩
end Go.Proofs.Ytolafffpgkgadaa
