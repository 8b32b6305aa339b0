/-
  What package hist's calls answer, and what they leave: New, Bound, Len, Place, Home, Entry, Entries, Drafts, newest. Conditions: those of each theorem.
-/
import Derived.Test.YtgakgebhhmkclabHClo
namespace Go.Proofs.Ytgakgebhhmkclab
open Go.RowKit

section
variable {w : World} {base pb : Nat} {v d : Value} {h : Hs}
theorem Pv.small (k : Pv w base pb v d h) : h.es.length ≤ 1000 := by have := k.ok.len; have := k.ok.b; omega
set_option maxRecDepth 100000 in
theorem bound_any (k : Pv w base pb v d h) : Calls Try.prog 19 #[.pointer (some ⟨pb, 0, none⟩)] w fun e w' => e = .returned (.int .i64 (h.b : Int)) ∧ w' = w := by
  obtain ⟨⟨c0, c1, c2, c3⟩, _⟩ := box4 k.box
  clear k
  go_enter Try.func19, Try.ntmps19
  go_wp2
  go_ret
  exact ⟨rfl, rfl⟩
set_option maxRecDepth 100000 in
theorem len_any (k : Pv w base pb v d h) : Calls Try.prog 10 #[.pointer (some ⟨pb, 0, none⟩)] w fun e w' => e = .returned (.int .i64 (h.es.length : Int)) ∧ w' = w := by
  obtain ⟨⟨c0, c1, c2, c3⟩, _⟩ := box4 k.box
  obtain ⟨a, c, rfl, _⟩ := row_slice k.row
  clear k
  go_enter Try.func10, Try.ntmps10
  go_wp2
  go_ret
  exact ⟨rfl, rfl⟩
set_option maxRecDepth 100000 in
theorem place_any (k : Pv w base pb v d h) : Calls Try.prog 9 #[.pointer (some ⟨pb, 0, none⟩)] w fun e w' => e = .returned (.int .i64 (h.pl : Int)) ∧ w' = w := by
  obtain ⟨⟨c0, c1, c2, c3⟩, _⟩ := box4 k.box
  clear k
  go_enter Try.func9, Try.ntmps9
  go_wp2
  go_ret
  exact ⟨rfl, rfl⟩
/-- the box with other cells, the rows as they were -/
theorem Pv.home (k : Pv w base pb v d h) : Pv ((w.setCell ⟨pb, 2, none⟩ (.int .i64 (h.es.length : Int))).setCell ⟨pb, 3, none⟩ (.slice none 0 0)) base pb v (.slice none 0 0) h.home ∧ Mv w (Fp pb v d) ((w.setCell ⟨pb, 2, none⟩ (.int .i64 (h.es.length : Int))).setCell ⟨pb, 3, none⟩ (.slice none 0 0)) (Fp pb v (.slice none 0 0)) := by
  have hm : Mv w (Fp pb v d) ((w.setCell ⟨pb, 2, none⟩ (.int .i64 (h.es.length : Int))).setCell ⟨pb, 3, none⟩ (.slice none 0 0)) (Fp pb v (.slice none 0 0)) :=
    (Mv.cell (F' := Fp pb v d) (.inl rfl) (fun _ e => .inl e)).trans (Mv.cell (.inl rfl) (fun g e => by
      rcases e with e | e | e
      · exact .inl (.inl e)
      · exact .inl (.inr (.inl e))
      · cases e))
  refine ⟨⟨set1 (i := 3) _ (set1 (i := 2) _ k.box), row_of_heap k.row (fun g hg => ?_), ⟨0, .inl ⟨rfl, rfl⟩, World.ownsRow_nil _ _ _ _⟩, k.low, k.ok.home⟩, hm⟩
  have hne := k.ne.1 g hg
  rw [(gcell _ pb 3 _).block g (by rw [World.setCell]; simpa using (row_blk k.row hg).2.2) (fun e => hne (Option.some.inj e)), (gcell w pb 2 _).block g (row_blk k.row hg).2.2 (fun e => hne (Option.some.inj e))]
set_option maxRecDepth 100000 in
theorem home_any (k : Pv w base pb v d h) : Calls Try.prog 18 #[.pointer (some ⟨pb, 0, none⟩)] w fun e w' => e = .returned (.tuple #[]) ∧ Pv w' base pb v (.slice none 0 0) h.home ∧ Mv w (Fp pb v d) w' (Fp pb v (.slice none 0 0)) := by
  obtain ⟨⟨c0, c1, c2, c3⟩, f0, f1, f2, f3⟩ := box4 k.box
  have HX : Hid _ := k.home
  obtain ⟨a, c, rfl, _⟩ := row_slice k.row
  obtain ⟨n, hn⟩ : ∃ n, h.es.length = n := ⟨_, rfl⟩
  rw [hn] at c1 HX ⊢
  obtain ⟨m, hm⟩ : ∃ m a c, d = .slice a m c := by obtain ⟨m, _, hr⟩ := k.dr; obtain ⟨a, c, e, _⟩ := row_slice hr; exact ⟨m, a, c, e⟩
  obtain ⟨da, dc, rfl⟩ := hm
  clear k hn
  go_enter Try.func18, Try.ntmps18
  go_wp2
  go_end0
  exact ⟨rfl, HX.out⟩
set_option maxRecDepth 100000 in
theorem newest_any (k : Pv w base pb v d h) : Calls Try.prog 20 #[.pointer (some ⟨pb, 0, none⟩)] w fun e w' => e = .returned (.string (h.es.getLast?.getD ⟨#[]⟩)) ∧ Below w.heap.size w w' := by
  obtain ⟨⟨c0, c1, c2, c3⟩, _⟩ := box4 k.box
  obtain ⟨a, c, rfl, _⟩ := row_slice k.row
  have hs := k.small
  obtain ⟨n, hn⟩ : ∃ n, h.es.length = n := ⟨_, rfl⟩
  by_cases h0 : n = 0
  · have e : h.es = [] := List.eq_nil_of_length_eq_zero (by omega)
    rw [e]
    rw [hn] at c1
    subst h0
    clear k
    go_enter Try.func20, Try.ntmps20
    go_wp2
    go_ret
    exact ⟨rfl, Below.refl _ _⟩
  · obtain ⟨s, hs2⟩ : ∃ s, h.es[n - 1]? = some s := ⟨h.es[n - 1]'(by omega), List.getElem?_eq_getElem _⟩
    have e1 : h.es.getLast?.getD ⟨#[]⟩ = s := by rw [List.getLast?_eq_getElem?, hn, hs2]; rfl
    obtain ⟨g, rfl, hc⟩ := row_at k.row hs2
    rw [e1]
    rw [hn] at c1 hs
    have h1 : ¬ (n : Int) = 0 := by omega
    have h2 : ((n : Int) == 0) = false := by simp; omega
    obtain ⟨j, hj⟩ : ∃ j, n = j + 1 := ⟨n - 1, by omega⟩
    subst hj
    have h3 : (j : Int) < (j : Int) + 1 := by omega
    have h4 : ((j : Int) + 1 - 1) = (j : Int) := by omega
    rw [Nat.add_sub_cancel] at hc
    clear k hs2 e1 hn
    go_enter Try.func20, Try.ntmps20
    go_wp2
    go_quiet (fail)
    go_wp2
    go_ret
    exact ⟨rfl, drewN_below _ _ _⟩
end
theorem bound_nil (w : World) : Calls Try.prog 19 #[.pointer none] w fun e w' => e = .returned (.int .i64 0) ∧ w' = w := by
  go_enter Try.func19, Try.ntmps19
  go_wp2
  go_ret
  exact ⟨rfl, rfl⟩
theorem len_nil (w : World) : Calls Try.prog 10 #[.pointer none] w fun e w' => e = .returned (.int .i64 0) ∧ w' = w := by
  go_enter Try.func10, Try.ntmps10
  go_wp2
  go_ret
  exact ⟨rfl, rfl⟩
theorem place_nil (w : World) : Calls Try.prog 9 #[.pointer none] w fun e w' => e = .returned (.int .i64 0) ∧ w' = w := by
  go_enter Try.func9, Try.ntmps9
  go_wp2
  go_ret
  exact ⟨rfl, rfl⟩
theorem drafts_nil (w : World) : Calls Try.prog 11 #[.pointer none] w fun e w' => e = .returned (.int .i64 0) ∧ w' = w := by
  go_enter Try.func11, Try.ntmps11
  go_wp2
  go_ret
  exact ⟨rfl, rfl⟩
theorem home_nil (w : World) : Calls Try.prog 18 #[.pointer none] w fun e w' => e = .returned (.tuple #[]) ∧ w' = w := by
  go_enter Try.func18, Try.ntmps18
  go_wp2
  (try simp only [Exit.inBlock, Exit.then])
  refine bodyPost_ret (results_none rfl _ _ _) rfl ?_
  exact ⟨rfl, rfl⟩
set_option maxRecDepth 100000 in
theorem new_any {b : Int} (hb : -9223372036854775808 ≤ b ∧ b ≤ 9223372036854775807) (w : World) (base : Nat) (h0 : base ≤ w.heap.size) : Calls Try.prog 12 #[.int .i64 b] w fun e w' => e = .returned (.pointer (some ⟨w.heap.size, 0, none⟩)) ∧ Pv w' base w.heap.size (.slice none 0 0) (.slice none 0 0) (Hs.new b) ∧ Below w.heap.size w w' := by
  have HX : Hid (∀ x : Int, x = ((Hs.new b).b : Int) → Pv (w.alloc (.cells #[.int .i64 x, .slice none 0 0, .int .i64 0, .slice none 0 0] 40)) base w.heap.size (.slice none 0 0) (.slice none 0 0) (Hs.new b) ∧ Below w.heap.size w (w.alloc (.cells #[.int .i64 x, .slice none 0 0, .int .i64 0, .slice none 0 0] 40))) := fun x hn =>
    ⟨⟨by rw [hn]; exact World.alloc_heap_new w _, World.ownsRow_nil _ _ _ _, ⟨0, .inl ⟨rfl, rfl⟩, World.ownsRow_nil _ _ _ _⟩, h0, Hs.Ok.new b⟩, (Below.refl _ w).alloc (Nat.le_refl _) _⟩
  have HM : Hid (min (max b 0) 1000 = ((Hs.new b).b : Int)) := by
    show min (max b 0) 1000 = ((if b < 0 then 0 else if 1000 < b then 1000 else b.toNat : Nat) : Int)
    split
    · omega
    · split <;> omega
  go_enter Try.func12, Try.ntmps12
  go_wp2
  go_ret
  exact ⟨rfl, HX.out _ HM.out⟩
set_option maxRecDepth 100000 in
set_option maxHeartbeats 1000000 in
/-- the entries, in a row of their own -/
theorem entries_any {w : World} {base pb : Nat} {v d : Value} {h : Hs} (k : Pv w base pb v d h) : Calls Try.prog 6 #[.pointer (some ⟨pb, 0, none⟩)] w fun e W' => ∃ u, e = .returned u ∧ W'.ownsRow w.heap.size 9 1 u h.es.length (sv h.es) ∧ Below w.heap.size w W' := by
  obtain ⟨i0, hi, hz0, hz1, hz2⟩ := info_parts infoS
  obtain ⟨N, hN⟩ : ∃ N, h.es.length = N := ⟨_, rfl⟩
  have hN3 : N ≤ 1000 := by have := k.small; omega
  have HL : Hid (h.es.length = N) := hN
  have CL : Hid (∀ W, Below w.heap.size w W → Calls Try.prog 10 #[.pointer (some ⟨pb, 0, none⟩)] W fun e w' => e = .returned (.int .i64 (N : Int)) ∧ w' = W) := fun W hb => hN ▸ len_any (k.below hb)
  have CC : Hid (∀ W (s : ByteArray), s ∈ h.es → Calls Try.prog 16 #[.string s] W fun e w' => e = .returned (.string s) ∧ Below W.heap.size W w') := fun W s hs => sclone_any s (by have := k.ok.fe s hs; omega) W
  obtain ⟨a, c, hv, _⟩ := row_slice k.row
  have HR : Hid (∀ W, Below w.heap.size w W → W.cell? ⟨pb, 1, none⟩ = some (.slice a N c) ∧ W.ownsRow base 9 1 (.slice a N c) N (sv h.es)) := fun W hb => by
    have hx := (k.below hb).box
    rw [hN] at hv
    have := (k.below hb).row
    rw [hN, hv] at this
    exact ⟨hv ▸ (box4 hx).1.2.1, this⟩
  rw [hN]
  clear k hN hv
  go_enter Try.func6, Try.ntmps6
  go_wp2_with (first
    | (go_at_call 10; refine (CL.out _ (Below.refl _ _)).mono ?_; rintro e w1 ⟨rfl, rfl⟩)
    | (at_make; refine wpList_make_own _ rfl _ _ 22 rfl _ 9 i0 _ 1 Try.underlying22 hi hz0 hz1 .i64 .i64 _ N rfl rfl rfl (by rw [hz2]; omega) (by unfold maxLen; omega) (Nat.le_refl _) ?_; intro w2 hown2 hg2; have HB2 : Hid (Below w1.heap.size w1 w2) := ⟨hg2.os, hg2.tape, hg2.output, hg2.size, fun k hk => hg2.block k hk (by simp)⟩; have HO2 : Hid (w2.ownsRow w1.heap.size 9 1 (.slice (some ⟨w1.heap.size, 0, none⟩) 0 N) 0 []) := hown2; clear hg2 hown2)
    | (go_at_call 10; refine (CL.out _ HB2.out).mono ?_; clear CL; rintro e w3 ⟨rfl, hw3⟩; subst hw3))
  go_loopw [3, 10] (fun t3 t10 wr => ∃ (k : Nat) (tv : Value), k ≤ N ∧ t10 = .int .i64 k ∧ tv = t3 ∧ Hid (wr.ownsRow w1.heap.size 9 1 tv k (sv (h.es.take k)) ∧ Below w1.heap.size w1 wr)) (fun _ t10 _ => N - (intOf t10).toNat)
  case atStart => exact ⟨0, _, Nat.zero_le _, rfl, rfl, by simpa [sv] using HO2.out, HB2.out⟩
  case round =>
    obtain ⟨k, tv, hk, rfl, rfl, HK⟩ := hrel
    clear HB2 HO2
    by_cases hlt : k < N
    · obtain ⟨s, hs⟩ : ∃ s, h.es[k]? = some s := ⟨h.es[k]'(by rw [HL.out]; exact hlt), List.getElem?_eq_getElem _⟩
      obtain ⟨hc, hrow⟩ := HR.out _ HK.out.2
      obtain ⟨g, rfl, hcell⟩ := row_at hrow hs
      have HS : Hid (h.es[k]? = some s) := hs
      have C1 : Hid (∀ W, Calls Try.prog 16 #[.string s] W fun e w' => e = .returned (.string s) ∧ Below W.heap.size W w') := fun W => CC.out W s (List.mem_of_getElem? hs)
      clear hrow hs
      go_upto_region 5 with fail
      go_wp2_with (first
        | (go_at_call 16; refine (C1.out _).mono ?_; clear C1; rintro e w4 ⟨rfl, hb4⟩; have HK4 : Hid (w4.ownsRow w1.heap.size 9 1 tv k (sv (h.es.take k)) ∧ Below w1.heap.size w1 w4) := ⟨row_below HK.out.1 hb4, HK.out.2.trans (hb4.mono HK.out.2.size)⟩; clear hb4)
        | (at_builtin; refine app_one rfl _ _ rfl w1.heap.size tv k (sv (h.es.take k)) rfl s HK4.out.1 rfl (by omega) HK4.out.2.size ?_; intro v' w6 hown' hgrow _; have HN1 : Hid _ := hown'; have HN2 : Hid _ := hgrow; clear hown' hgrow))
      have h1 := HN1.out
      have h2 := HN2.out
      obtain ⟨q1, q2⟩ := HK4.out
      refine ⟨⟨k + 1, _, by omega, by go_num, rfl, by rw [sv_snoc HS.out]; exact h1, (q2.alloc q2.size _).grown h2 (by have := q2.size; simp; omega) (fun j e => (q1.lt j e).1)⟩, by simp [intOf]; omega⟩
    · go_wp2
      go_ret
      obtain rfl : k = N := by omega
      obtain ⟨h1, h2⟩ := HK.out
      rw [List.take_of_length_le (by rw [HL.out]; omega)] at h1
      exact ⟨_, rfl, h1, h2⟩
theorem entries_nil (w : World) : Calls Try.prog 6 #[.pointer none] w fun e W' => ∃ u, e = .returned (.slice u 0 0) ∧ Below w.heap.size w W' := by
  obtain ⟨i0, hi, hz0, hz1, hz2⟩ := info_parts infoS
  have CL := len_nil w
  go_enter Try.func6, Try.ntmps6
  go_wp2_with (first
    | (go_at_call 10; refine CL.mono ?_; clear CL; rintro e w1 ⟨rfl, rfl⟩)
    | (at_make; refine wpList_make_own _ rfl _ _ 22 rfl _ 9 i0 _ 1 Try.underlying22 hi hz0 hz1 .i64 .i64 _ 0 rfl rfl rfl (by rw [hz2]; omega) (by unfold maxLen; omega) (Nat.le_refl _) ?_; intro w2 hown2 hg2; have HB2 : Hid (Below w1.heap.size w1 w2) := ⟨hg2.os, hg2.tape, hg2.output, hg2.size, fun k hk => hg2.block k hk (by simp)⟩; have CL2 := len_nil w2; clear hg2 hown2)
    | (go_at_call 10; refine CL2.mono ?_; clear CL2; rintro e w3 ⟨rfl, hw3⟩; subst hw3))
  go_loopw [3, 10] (fun t3 t10 wr => t3 = .slice (some ⟨w1.heap.size, 0, none⟩) 0 0 ∧ t10 = .int .i64 0 ∧ wr = w3) (fun _ _ _ => 0)
  case atStart => exact ⟨rfl, rfl, rfl⟩
  case round =>
    obtain ⟨rfl, rfl, rfl⟩ := hrel
    go_wp2
    go_ret
    exact ⟨_, rfl, HB2.out⟩
end Go.Proofs.Ytgakgebhhmkclab
