/-
  The document's own history, on: Add. Conditions: those of each theorem.
-/
import Derived.Test.YtgakgebhhmkclaaHRef
namespace Go.Proofs.Ytgakgebhhmkclaa
open Go.RowKit

/-- a list without its first -/
theorem run_tail {W0 : World} {base g m c : Nat} {x : ByteArray} {l : Tl} (h : W0.ownsRow base 9 1 (.slice (some ⟨g, 0, none⟩) (m + 1) c) (m + 1) (sv (x :: l))) (hm : 0 < m) :
    (∀ W, (Instr.sliceAt 38 (.slice (some ⟨g, 0, none⟩) (m + 1) c) (some (.int .i64 1)) none none).run Try.prog W = .ok (.slice (some ⟨g, 1, none⟩) m (c - 1)) W) ∧ RdR W0 base (.slice (some ⟨g, 1, none⟩) m (c - 1)) l := by
  have hl : l.length = m := by have := h.1; rw [sv_len] at this; simp at this; omega
  have hcap : m + 1 ≤ c := by
    rcases h.2 with ⟨e, _⟩ | ⟨g, cap, cur, e, _, _, hle, _⟩
    · cases e
    · obtain ⟨_, _, rfl⟩ := Value.slice.inj e; exact hle
  refine ⟨fun W => ?_, ⟨⟨_, c - 1, by rw [hl], fun e => (by cases e), fun _ => by omega, fun k s hk => ?_⟩, fun g' hg => ?_⟩⟩
  · rw [run_sliceAt_slice _ _ _ _ _ _ unLS, run_slice_l _ _ _ _ _ unLS _ _ (by omega) (by omega), szLS]
    simp only [Result.andThen, sliced, Option.map_some]
    have e1 : (1 : Int).toNat = 1 := rfl
    rw [e1, Nat.add_sub_cancel, if_neg (by omega), Go.WideShapes.add_plain]
  · obtain ⟨g', e, hc⟩ := row_at (k := k + 1) h (by simpa using hk)
    cases e
    exact ⟨g, 1, rfl, by rw [Nat.add_comm]; exact hc⟩
  · cases hg
    obtain ⟨h1, h2, h3⟩ := row_blk h rfl
    exact ⟨h2, h3, h1⟩
/-- the document's history with another row of entries, a new one -/
theorem Rv.listed {w W W' : World} {base pb : Nat} {v v' : Value} {h : Hs} {es : Tl} {F : Nat → Prop} (k : Rv W base pb v (.slice none 0 0) h) (hm : Mv w F W (Fp pb v (.slice none 0 0))) (hb : Below W.heap.size W W') (hr : RdR W' W.heap.size v' es) (hpl : h.pl = h.es.length) :
    W'.heap[pb]? = some (.cells #[.int .i64 (h.b : Int), v, .int .i64 (h.pl : Int), .slice none 0 0] 57 (0, 0)) ∧ (W'.setCell ⟨pb, 1, none⟩ v').heap[pb]? = some (.cells #[.int .i64 (h.b : Int), v', .int .i64 (h.es.length : Int), .slice none 0 0] 57 (0, 0)) ∧ RdR (W'.setCell ⟨pb, 1, none⟩ v') base v' es ∧ Mv w F (W'.setCell ⟨pb, 1, none⟩ v') (Fp pb v' (.slice none 0 0)) := by
  have hbx : W'.heap[pb]? = some (.cells #[.int .i64 (h.b : Int), v, .int .i64 (h.pl : Int), .slice none 0 0] 57 (0, 0)) := (hb.block pb k.lt).trans (by have := k.box; exact this)
  have hlt := k.lt
  have hlow := k.low
  refine ⟨hbx, by have := set1 (i := 1) v' hbx; rw [hpl] at this; exact this, ?_, ?_⟩
  · have h1 := hr.of_heap (W' := W'.setCell ⟨pb, 1, none⟩ v') (fun g hg => (gcell W' pb 1 v').block g (hr.blk g hg).2.1 (fun e => by have := (hr.blk g hg).1; have := Option.some.inj e; omega))
    exact ⟨h1.sl, fun g hg => ⟨by have := (h1.blk g hg).1; omega, (h1.blk g hg).2⟩⟩
  · have hF : ∀ k, Fp pb v' (.slice none 0 0) k → k = pb ∨ W.heap.size ≤ k := fun g e => by
      rcases e with e | e | e
      · exact .inl e
      · exact .inr (hr.blk g e).1
      · cases e
    have m1 : Mv W (Fp pb v (.slice none 0 0)) W' (Fp pb v' (.slice none 0 0)) := ⟨(Mv.below hb).ch, fun g e => (hF g e).imp .inl id⟩
    exact hm.trans (m1.trans (Mv.cell (.inl rfl) (fun _ e => .inl e)))
theorem row_some {W : World} {base n : Nat} {v : Value} {xs : List Value} (h : W.ownsRow base 9 1 v (n + 1) xs) : ∃ g c, v = .slice (some ⟨g, 0, none⟩) (n + 1) c ∧ n + 1 ≤ c := by
  rcases h.2 with ⟨_, e⟩ | ⟨g, cap, cur, e, _, _, hle, _⟩
  · omega
  · exact ⟨g, cap, e, hle⟩
set_option maxRecDepth 100000 in
set_option maxHeartbeats 4000000 in
theorem radd_any {w : World} {base pb : Nat} {F : Nat → Prop} {h : Hs} (k : Rr w base pb F h) {t : ByteArray} (ht : t.size ≤ 1099511627776) :
    Calls Try.prog 17 #[.pointer (some ⟨pb, 0, none⟩), .string t] w fun e w' => e = .returned (.bool (h.took t)) ∧ ∃ F', Rr w' base pb F' (h.add t) ∧ Mv w F w' F' := by
  obtain ⟨v, d, k, rfl⟩ := k
  have CH : Hid (Calls Try.prog 40 #[.pointer (some ⟨pb, 0, none⟩)] w fun e w' => e = .returned (.tuple #[]) ∧ Hid (Rv w' base pb v (.slice none 0 0) h.home ∧ Mv w (Fp pb v d) w' (Fp pb v (.slice none 0 0)))) := rhome_any k
  have HX : Hid (∀ W m, h.add t = h.home → Rv W base pb v (.slice none 0 0) h.home ∧ Mv w (Fp pb v d) W (Fp pb v (.slice none 0 0)) → ∃ F', Rr (W.drewN m) base pb F' (h.add t) ∧ Mv w (Fp pb v d) (W.drewN m) F') := fun W m e q => ⟨_, ⟨_, _, by rw [e]; exact q.1.of_heap (fun _ _ => rfl), rfl⟩, q.2.trans (Mv.below (drewN_below _ _ _))⟩
  obtain ⟨n, hn⟩ : ∃ n, h.es.length = n := ⟨_, rfl⟩
  have hn3 : n ≤ 1000 := hn ▸ k.small
  have hlen : n ≤ h.b := hn ▸ k.ok.len
  obtain ⟨a, c, hv, hz, hcap, hcl0⟩ := k.row.sl
  subst hv
  rw [hn] at hcap
  have HCl : Hid (∀ W, Rv W base pb (.slice a h.es.length c) (.slice none 0 0) h.home → (W.cell? ⟨pb, 0, none⟩ = some (.int .i64 (h.b : Int)) ∧ W.cell? ⟨pb, 1, none⟩ = some (.slice a n c)) ∧ ∀ j s, h.es[j]? = some s → ∃ g o, a = some ⟨g, o, none⟩ ∧ W.cell? ⟨g, o + j, none⟩ = some (.string s)) := fun W q => by
    obtain ⟨⟨c0, c1, c2, c3⟩, -⟩ := box4 q.box
    obtain ⟨a', c', e, _, _, hcl⟩ := q.row.sl
    obtain ⟨rfl, _, rfl⟩ := Value.slice.inj e
    exact ⟨⟨c0, hn ▸ c1⟩, hcl⟩
  by_cases h0 : t = ⟨#[]⟩
  · have e1 : h.took t = false := by simp [Hs.took, h0]
    have e2 : h.add t = h.home := by simp [Hs.add, e1]
    rw [e1]
    have HX2 : Hid _ := fun W m => HX.out W m e2
    subst h0
    clear k HX e1 e2 hcl0
    go_enter Try.func17, Try.ntmps17
    go_upto_region 2 with (go_at_call 40; refine CH.out.mono ?_; clear CH; rintro e w1 ⟨rfl, H1⟩)
    go_quiet (fail)
    go_wp2
    go_ret
    exact ⟨rfl, HX2.out _ _ H1.out⟩
  · have hemp := not_emp h0
    by_cases hb : h.b = 0
    · have e1 : h.took t = false := by simp [Hs.took, hb]
      have e2 : h.add t = h.home := by simp [Hs.add, e1]
      rw [e1]
      have HX2 : Hid _ := fun W m => HX.out W m e2
      rw [hb] at HCl
      clear k HX e1 e2 hcl0
      go_enter Try.func17, Try.ntmps17
      go_upto_region 2 with (go_at_call 40; refine CH.out.mono ?_; clear CH; rintro e w1 ⟨rfl, H1⟩)
      obtain ⟨⟨c0, c1⟩, -⟩ := HCl.out _ H1.out.1
      go_quiet (fail)
      go_wp2
      go_ret
      exact ⟨rfl, HX2.out _ _ H1.out⟩
    · obtain ⟨b, hbe⟩ : ∃ b, h.b = b := ⟨_, rfl⟩
      have hb3 : b ≤ 1000 := hbe ▸ k.ok.b
      have hb1 : ¬ (b : Int) = 0 := by omega
      have hb2 : ((b : Int) == 0) = false := by simp; omega
      have CE : Hid (∀ W, Rv W base pb (.slice a h.es.length c) (.slice none 0 0) h.home → Calls Try.prog 20 #[.pointer (some ⟨pb, 0, none⟩)] W fun e W' => ∃ a2 c2, e = .returned (.slice a2 n c2) ∧ Hid (W'.ownsRow W.heap.size 9 1 (.slice a2 n c2) n (sv h.es) ∧ Below W.heap.size W W')) := fun W q => (rentries_any (h := h.home) q).mono (by
        rintro e W' ⟨u, rfl, q1, q2⟩
        obtain ⟨a2, c2, rfl, _⟩ := row_slice q1
        change W'.ownsRow _ _ _ (.slice a2 h.es.length c2) h.es.length (sv h.es) at q1
        rw [hn] at q1
        exact ⟨a2, c2, congrArg Ending.returned (by show Value.slice a2 h.es.length c2 = _; rw [hn]), q1, q2⟩)
      have HF0 : Hid (∀ W1 w6 v6 es', Rv W1 base pb (.slice a h.es.length c) (.slice none 0 0) h.home ∧ Mv w (Fp pb (.slice a h.es.length c) d) W1 (Fp pb (.slice a h.es.length c) (.slice none 0 0)) → RdR w6 W1.heap.size v6 es' → Below W1.heap.size W1 w6 → (⟨h.b, es', h.es.length, []⟩ : Hs).Ok → w6.heap[pb]? = some (.cells #[.int .i64 (b : Int), .slice a n c, .int .i64 (n : Int), .slice none 0 0] 57 (0, 0)) ∧ Rv (w6.setCell ⟨pb, 1, none⟩ v6) base pb v6 (.slice none 0 0) ⟨h.b, es', h.es.length, []⟩ ∧ Mv w (Fp pb (.slice a h.es.length c) d) (w6.setCell ⟨pb, 1, none⟩ v6) (Fp pb v6 (.slice none 0 0))) := fun W1 w6 v6 es' q hr hb hok => by
        obtain ⟨r1, r2, r3, r4⟩ := q.1.listed q.2 hb hr rfl
        refine ⟨?_, ⟨r2, r3, World.ownsRow_nil _ _ _ _, k.low, hok⟩, r4⟩
        have r5 : w6.heap[pb]? = some (.cells #[.int .i64 (h.b : Int), .slice a h.es.length c, .int .i64 (h.es.length : Int), .slice none 0 0] 57 (0, 0)) := r1
        rw [hn, hbe] at r5
        exact r5
      have hokp : ∀ es', pushL h.b h.es t = es' → (⟨h.b, es', h.es.length, []⟩ : Hs).Ok := fun es' e => by
        have q := k.ok.push (t := t) (by omega) ht
        subst e
        refine ⟨q.b, q.len, ?_, q.nd, q.nl, q.fe, q.fn⟩
        show h.es.length ≤ (pushL h.b h.es t).length
        unfold pushL
        split
        · rw [List.length_append, List.length_tail]; simp; omega
        · rw [List.length_append]; omega
      have CH2 : Hid (∀ W v', Rv W base pb v' (.slice none 0 0) ⟨h.b, pushL h.b h.es t, h.es.length, []⟩ ∧ Mv w (Fp pb (.slice a h.es.length c) d) W (Fp pb v' (.slice none 0 0)) → Calls Try.prog 40 #[.pointer (some ⟨pb, 0, none⟩)] W fun e w' => e = .returned (.tuple #[]) ∧ Hid (∃ F', Rr w' base pb F' (h.push t) ∧ Mv w (Fp pb (.slice a h.es.length c) d) w' F')) := fun W v' q => (rhome_any q.1).mono (by
        rintro e w' ⟨rfl, q1, q2⟩
        exact ⟨rfl, _, ⟨_, _, q1, rfl⟩, q.2.trans q2⟩)
      have HPU : Hid (∀ e0 : h.es.getLast? ≠ some t, h.took t = true ∧ h.add t = h.push t) := fun e0 => by
        have e1 : h.took t = true := by simp [Hs.took, e0, h0]; omega
        exact ⟨e1, by simp [Hs.add, e1]⟩
      by_cases hes : n = 0
      · have hnil : h.es = [] := List.eq_nil_of_length_eq_zero (by omega)
        obtain ⟨e1, e2⟩ := HPU.out (by rw [hnil]; simp)
        rw [e1, e2]
        have hpu : pushL h.b h.es t = h.es ++ [t] := by unfold pushL; rw [if_neg (by omega)]
        have HF : Hid (∀ W1 w6 g6 c6, Rv W1 base pb (.slice a h.es.length c) (.slice none 0 0) h.home ∧ Mv w (Fp pb (.slice a h.es.length c) d) W1 (Fp pb (.slice a h.es.length c) (.slice none 0 0)) → w6.ownsRow W1.heap.size 9 1 (.slice (some ⟨g6, 0, none⟩) (n + 1) c6) (n + 1) (sv (h.es ++ [t])) ∧ Below W1.heap.size W1 w6 → w6.heap[pb]? = some (.cells #[.int .i64 (b : Int), .slice a n c, .int .i64 (n : Int), .slice none 0 0] 57 (0, 0)) ∧ True ∧ Hid (Rv (w6.setCell ⟨pb, 1, none⟩ (.slice (some ⟨g6, 0, none⟩) (n + 1) c6)) base pb (.slice (some ⟨g6, 0, none⟩) (n + 1) c6) (.slice none 0 0) ⟨h.b, pushL h.b h.es t, h.es.length, []⟩ ∧ Mv w (Fp pb (.slice a h.es.length c) d) (w6.setCell ⟨pb, 1, none⟩ (.slice (some ⟨g6, 0, none⟩) (n + 1) c6)) (Fp pb (.slice (some ⟨g6, 0, none⟩) (n + 1) c6) (.slice none 0 0)))) := fun W1 w6 g6 c6 q r => by
          obtain ⟨s1, s2⟩ := HF0.out W1 w6 _ _ q (RdR.of_row r.1) r.2 (hokp _ hpu)
          exact ⟨s1, trivial, by rw [hpu]; exact s2⟩
        rw [hbe] at HCl
        have hgt : ¬ (b : Int) < (n : Int) + 1 := by omega
        have hdz : decide ((0 : Int) < (n : Int)) = false := by simp; omega
        have hdz2 : decide (0 < n) = false := by simp; omega
        have hdz3 : ¬ (0 : Int) < (n : Int) := by omega
        have hdz4 : ¬ 0 < n := by omega
        clear k HX e1 e2 hcl0 HPU HF0 hokp
        go_enter Try.func17, Try.ntmps17
        go_upto_region 2 with (go_at_call 40; refine CH.out.mono ?_; clear CH; rintro e w1 ⟨rfl, H1⟩)
        obtain ⟨⟨c0, c1⟩, -⟩ := HCl.out _ H1.out.1
        clear HCl hes hnil
        go_quiet (fail)
        go_upto_region 4 with fail
        obtain ⟨W1, hW1⟩ : ∃ W1, w1.drewN nq = W1 := ⟨_, rfl⟩
        have HH : Hid (Rv W1 base pb (.slice a h.es.length c) (.slice none 0 0) h.home ∧ Mv w (Fp pb (.slice a h.es.length c) d) W1 (Fp pb (.slice a h.es.length c) (.slice none 0 0))) := by rw [← hW1]; exact ⟨H1.out.1.of_heap (fun _ _ => rfl), H1.out.2.trans (Mv.below (drewN_below _ _ _))⟩
        rw [hW1]
        clear hW1 H1
        clear c0 c1
        go_upto_region 5 with (first
          | (go_at_call 20; refine (CE.out _ HH.out.1).mono ?_; clear CE; rintro e w2 ⟨a2, c2', rfl, H2⟩)
          | (at_builtin; refine app_one rfl _ _ rfl W1.heap.size (.slice a2 n c2') n (sv h.es) rfl t H2.out.1 rfl (by omega) H2.out.2.size ?_; intro v6 w6 hown6 hg6 _; have H6 : Hid (w6.ownsRow W1.heap.size 9 1 v6 (n + 1) (sv (h.es ++ [t])) ∧ Below W1.heap.size W1 w6) := ⟨(by rw [sv_app]; exact hown6), (H2.out.2.alloc H2.out.2.size _).grown hg6 (by have := H2.out.2.size; simp; omega) (fun j e => (H2.out.1.lt j e).1)⟩; clear hown6 hg6))
        obtain ⟨g6, c6, hv6, hc6⟩ := row_some H6.out.1
        subst hv6
        obtain ⟨hb6, hsl6, HL6⟩ := HF.out _ _ _ _ HH.out H6.out
        obtain ⟨⟨x0, x1, x2, x3⟩, z0, z1, z2, z3⟩ := box4 hb6
        clear hb6 HF
        go_wp2_with (go_at_call 40; refine (CH2.out _ _ HL6.out).mono ?_; clear CH2; rintro e w7 ⟨rfl, H7⟩)
        go_ret
        exact ⟨rfl, H7.out⟩
      · obtain ⟨j, hj⟩ : ∃ j, n = j + 1 := ⟨n - 1, by omega⟩
        obtain ⟨s, hs⟩ : ∃ s, h.es[j]? = some s := ⟨h.es[j]'(by omega), List.getElem?_eq_getElem _⟩
        have HS : Hid (h.es[j]? = some s) := hs
        have hlast : h.es.getLast? = some s := by rw [List.getLast?_eq_getElem?, hn, hj, Nat.add_sub_cancel, hs]
        obtain ⟨g, o, rfl, -⟩ := hcl0 j s hs
        have hdz : decide ((0 : Int) < (n : Int)) = true := by simp; omega
        have hdz2 : decide (0 < n) = true := by simp; omega
        have hdz3 : (0 : Int) < (n : Int) := by omega
        have hdz4 : 0 < n := by omega
        have hjj : ((n : Int) - 1) = (j : Int) := by omega
        have hj1 : (j : Int) < (n : Int) := by omega
        have hj2 : j < n := by omega
        by_cases hst : s = t
        · have e1 : h.took t = false := by simp [Hs.took, hlast, hst]
          have e2 : h.add t = h.home := by simp [Hs.add, e1]
          rw [e1]
          have HX2 : Hid _ := fun W m => HX.out W m e2
          rw [hbe] at HCl
          have HST : Hid (s = t) := hst
          clear k HX e1 e2 hcl0 HPU HF0 hokp CE CH2 hs hlast hst hj
          go_enter Try.func17, Try.ntmps17
          go_upto_region 2 with (go_at_call 40; refine CH.out.mono ?_; clear CH; rintro e w1 ⟨rfl, H1⟩)
          obtain ⟨⟨c0, c1⟩, hcx⟩ := HCl.out _ H1.out.1
          obtain ⟨g', o', e', hcz⟩ := hcx j s HS.out
          cases e'
          rw [HST.out] at hcz
          clear HCl hcx HS
          go_quiet (fail)
          go_wp2
          go_ret
          exact ⟨rfl, HX2.out _ _ H1.out⟩
        · obtain ⟨e1, e2⟩ := HPU.out (by rw [hlast]; simpa using hst)
          rw [e1, e2]
          have hsn := not_same hst
          by_cases hfull : n = h.b
          · obtain ⟨x, tl, hex⟩ : ∃ x tl, h.es = x :: tl := List.exists_cons_of_ne_nil (fun e => by rw [e] at hs; cases hs)
            have hpu : pushL h.b h.es t = tl ++ [t] := by unfold pushL; rw [if_pos (by omega), hex]; rfl
            have HF : Hid (∀ W1 w6 g6 c6, Rv W1 base pb (.slice (some ⟨g, o, none⟩) h.es.length c) (.slice none 0 0) h.home ∧ Mv w (Fp pb (.slice (some ⟨g, o, none⟩) h.es.length c) d) W1 (Fp pb (.slice (some ⟨g, o, none⟩) h.es.length c) (.slice none 0 0)) → w6.ownsRow W1.heap.size 9 1 (.slice (some ⟨g6, 0, none⟩) (n + 1) c6) (n + 1) (sv (h.es ++ [t])) ∧ Below W1.heap.size W1 w6 → w6.heap[pb]? = some (.cells #[.int .i64 (b : Int), .slice (some ⟨g, o, none⟩) n c, .int .i64 (n : Int), .slice none 0 0] 57 (0, 0)) ∧ (∀ W, (Instr.sliceAt 38 (.slice (some ⟨g6, 0, none⟩) (n + 1) c6) (some (.int .i64 1)) none none).run Try.prog W = .ok (.slice (some ⟨g6, 1, none⟩) n (c6 - 1)) W) ∧ Hid (Rv (w6.setCell ⟨pb, 1, none⟩ (.slice (some ⟨g6, 1, none⟩) n (c6 - 1))) base pb (.slice (some ⟨g6, 1, none⟩) n (c6 - 1)) (.slice none 0 0) ⟨h.b, pushL h.b h.es t, h.es.length, []⟩ ∧ Mv w (Fp pb (.slice (some ⟨g, o, none⟩) h.es.length c) d) (w6.setCell ⟨pb, 1, none⟩ (.slice (some ⟨g6, 1, none⟩) n (c6 - 1))) (Fp pb (.slice (some ⟨g6, 1, none⟩) n (c6 - 1)) (.slice none 0 0)))) := fun W1 w6 g6 c6 q r => by
              have r1 := r.1
              rw [hex, List.cons_append] at r1
              obtain ⟨r3, r4⟩ := run_tail r1 (by omega)
              obtain ⟨s1, s2⟩ := HF0.out W1 w6 _ _ q r4 r.2 (hokp _ hpu)
              exact ⟨s1, r3, by rw [hpu]; exact s2⟩
            rw [hbe] at HCl
            have hgt : (b : Int) < (n : Int) + 1 := by omega
            clear k HX e1 e2 hcl0 HPU HF0 hokp hs hlast hj hfull hlen hex
            go_enter Try.func17, Try.ntmps17
            go_upto_region 2 with (go_at_call 40; refine CH.out.mono ?_; clear CH; rintro e w1 ⟨rfl, H1⟩)
            obtain ⟨⟨c0, c1⟩, hcx⟩ := HCl.out _ H1.out.1
            obtain ⟨g', o', e', hcz⟩ := hcx j s HS.out
            cases e'
            clear HCl hcx
            go_quiet (fail)
            go_upto_region 4 with fail
            obtain ⟨W1, hW1⟩ : ∃ W1, w1.drewN nq = W1 := ⟨_, rfl⟩
            have HH : Hid (Rv W1 base pb (.slice (some ⟨g, o, none⟩) h.es.length c) (.slice none 0 0) h.home ∧ Mv w (Fp pb (.slice (some ⟨g, o, none⟩) h.es.length c) d) W1 (Fp pb (.slice (some ⟨g, o, none⟩) h.es.length c) (.slice none 0 0))) := by rw [← hW1]; exact ⟨H1.out.1.of_heap (fun _ _ => rfl), H1.out.2.trans (Mv.below (drewN_below _ _ _))⟩
            rw [hW1]
            clear hW1 H1
            clear c0 c1 hcz
            go_upto_region 5 with (first
              | (go_at_call 20; refine (CE.out _ HH.out.1).mono ?_; clear CE; rintro e w2 ⟨a2, c2', rfl, H2⟩)
              | (at_builtin; refine app_one rfl _ _ rfl W1.heap.size (.slice a2 n c2') n (sv h.es) rfl t H2.out.1 rfl (by omega) H2.out.2.size ?_; intro v6 w6 hown6 hg6 _; have H6 : Hid (w6.ownsRow W1.heap.size 9 1 v6 (n + 1) (sv (h.es ++ [t])) ∧ Below W1.heap.size W1 w6) := ⟨(by rw [sv_app]; exact hown6), (H2.out.2.alloc H2.out.2.size _).grown hg6 (by have := H2.out.2.size; simp; omega) (fun j e => (H2.out.1.lt j e).1)⟩; clear hown6 hg6))
            obtain ⟨g6, c6, hv6, hc6⟩ := row_some H6.out.1
            subst hv6
            obtain ⟨hb6, hsl6, HL6⟩ := HF.out _ _ _ _ HH.out H6.out
            obtain ⟨⟨x0, x1, x2, x3⟩, z0, z1, z2, z3⟩ := box4 hb6
            clear hb6 HF
            go_wp2_with (go_at_call 40; refine (CH2.out _ _ HL6.out).mono ?_; clear CH2; rintro e w7 ⟨rfl, H7⟩)
            go_ret
            exact ⟨rfl, H7.out⟩
          · have hpu : pushL h.b h.es t = h.es ++ [t] := by unfold pushL; rw [if_neg (by omega)]
            have HF : Hid (∀ W1 w6 g6 c6, Rv W1 base pb (.slice (some ⟨g, o, none⟩) h.es.length c) (.slice none 0 0) h.home ∧ Mv w (Fp pb (.slice (some ⟨g, o, none⟩) h.es.length c) d) W1 (Fp pb (.slice (some ⟨g, o, none⟩) h.es.length c) (.slice none 0 0)) → w6.ownsRow W1.heap.size 9 1 (.slice (some ⟨g6, 0, none⟩) (n + 1) c6) (n + 1) (sv (h.es ++ [t])) ∧ Below W1.heap.size W1 w6 → w6.heap[pb]? = some (.cells #[.int .i64 (b : Int), .slice (some ⟨g, o, none⟩) n c, .int .i64 (n : Int), .slice none 0 0] 57 (0, 0)) ∧ True ∧ Hid (Rv (w6.setCell ⟨pb, 1, none⟩ (.slice (some ⟨g6, 0, none⟩) (n + 1) c6)) base pb (.slice (some ⟨g6, 0, none⟩) (n + 1) c6) (.slice none 0 0) ⟨h.b, pushL h.b h.es t, h.es.length, []⟩ ∧ Mv w (Fp pb (.slice (some ⟨g, o, none⟩) h.es.length c) d) (w6.setCell ⟨pb, 1, none⟩ (.slice (some ⟨g6, 0, none⟩) (n + 1) c6)) (Fp pb (.slice (some ⟨g6, 0, none⟩) (n + 1) c6) (.slice none 0 0)))) := fun W1 w6 g6 c6 q r => by
              obtain ⟨s1, s2⟩ := HF0.out W1 w6 _ _ q (RdR.of_row r.1) r.2 (hokp _ hpu)
              exact ⟨s1, trivial, by rw [hpu]; exact s2⟩
            rw [hbe] at HCl
            have hgt : ¬ (b : Int) < (n : Int) + 1 := by omega
            clear k HX e1 e2 hcl0 HPU HF0 hokp hs hlast hj hfull hlen
            go_enter Try.func17, Try.ntmps17
            go_upto_region 2 with (go_at_call 40; refine CH.out.mono ?_; clear CH; rintro e w1 ⟨rfl, H1⟩)
            obtain ⟨⟨c0, c1⟩, hcx⟩ := HCl.out _ H1.out.1
            obtain ⟨g', o', e', hcz⟩ := hcx j s HS.out
            cases e'
            clear HCl hcx
            go_quiet (fail)
            go_upto_region 4 with fail
            obtain ⟨W1, hW1⟩ : ∃ W1, w1.drewN nq = W1 := ⟨_, rfl⟩
            have HH : Hid (Rv W1 base pb (.slice (some ⟨g, o, none⟩) h.es.length c) (.slice none 0 0) h.home ∧ Mv w (Fp pb (.slice (some ⟨g, o, none⟩) h.es.length c) d) W1 (Fp pb (.slice (some ⟨g, o, none⟩) h.es.length c) (.slice none 0 0))) := by rw [← hW1]; exact ⟨H1.out.1.of_heap (fun _ _ => rfl), H1.out.2.trans (Mv.below (drewN_below _ _ _))⟩
            rw [hW1]
            clear hW1 H1
            clear c0 c1 hcz
            go_upto_region 5 with (first
              | (go_at_call 20; refine (CE.out _ HH.out.1).mono ?_; clear CE; rintro e w2 ⟨a2, c2', rfl, H2⟩)
              | (at_builtin; refine app_one rfl _ _ rfl W1.heap.size (.slice a2 n c2') n (sv h.es) rfl t H2.out.1 rfl (by omega) H2.out.2.size ?_; intro v6 w6 hown6 hg6 _; have H6 : Hid (w6.ownsRow W1.heap.size 9 1 v6 (n + 1) (sv (h.es ++ [t])) ∧ Below W1.heap.size W1 w6) := ⟨(by rw [sv_app]; exact hown6), (H2.out.2.alloc H2.out.2.size _).grown hg6 (by have := H2.out.2.size; simp; omega) (fun j e => (H2.out.1.lt j e).1)⟩; clear hown6 hg6))
            obtain ⟨g6, c6, hv6, hc6⟩ := row_some H6.out.1
            subst hv6
            obtain ⟨hb6, hsl6, HL6⟩ := HF.out _ _ _ _ HH.out H6.out
            obtain ⟨⟨x0, x1, x2, x3⟩, z0, z1, z2, z3⟩ := box4 hb6
            clear hb6 HF
            go_wp2_with (go_at_call 40; refine (CH2.out _ _ HL6.out).mono ?_; clear CH2; rintro e w7 ⟨rfl, H7⟩)
            go_ret
            exact ⟨rfl, H7.out⟩
end Go.Proofs.Ytgakgebhhmkclaa
