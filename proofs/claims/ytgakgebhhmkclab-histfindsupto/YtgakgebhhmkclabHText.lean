/-
  What package hist's keep does of any history, text, and Go, Back, Forward. Conditions: those of each theorem.
-/
import Derived.Test.YtgakgebhhmkclabHKeep
namespace Go.Proofs.Ytgakgebhhmkclab
open Go.RowKit

set_option maxRecDepth 100000 in
set_option maxHeartbeats 2000000 in
theorem keep_any {w : World} {base pb n : Nat} {v d : Value} {h : Hs} (k : Pv w base pb v d h) (hn : h.es.length = n) {t : ByteArray} (ht : t.size ≤ 1099511627776) :
    Calls Try.prog 26 #[.pointer (some ⟨pb, 0, none⟩), .string t] w fun e w' => e = .returned (.tuple #[]) ∧ ∃ dg dc, Pk w (Fp pb v d) base pb v n dg dc ⟨h.b, h.es, h.pl, noted h.nt h.pl t⟩ w' := by
  obtain ⟨m, hm, hr⟩ := k.dr
  obtain ⟨a, c, hd, hz⟩ := row_slice hr
  rcases hm with ⟨rfl, hnt⟩ | rfl
  · have hs := k.small
    rw [hn] at hs
    obtain ⟨i0, hi, hz0, hz1, hz2⟩ := info_parts infoD
    have hmk : ∀ W, (Instr.makeSlice 38 (.int .i64 ((n : Int) + 1)) (.int .i64 ((n : Int) + 1))).run Try.prog W = .ok (.slice (some ⟨W.heap.size, 0, none⟩) (n + 1) (n + 1)) (W.alloc (.cells (madeCells (Value.agg #[.bool false, .string ⟨#[]⟩]).cells ((n + 1) * 2)) 43)) := fun W => by
      have := run_make (P := Try.prog) W 38 43 i0 _ Try.underlying38 hi hz0 .i64 .i64 ((n : Int) + 1) ((n : Int) + 1) (by omega) (Int.le_refl _) (by rw [hz2]; omega) (by omega)
      rw [hz1, show ((n : Int) + 1).toNat = n + 1 by omega] at this
      exact this
    have hL := made_dvs (n + 1)
    have hSz : (madeCells (Value.agg #[.bool false, .string ⟨#[]⟩]).cells ((n + 1) * 2)).size = (n + 1) * 2 := size_madeCells _ _
    generalize madeCells (Value.agg #[.bool false, .string ⟨#[]⟩]).cells ((n + 1) * 2) = Z at hmk hL hSz
    have HPK : Hid (Pk w (Fp pb v d) base pb v n w.heap.size (n + 1) h ((w.alloc (.cells Z 43)).setCell ⟨pb, 3, none⟩ (.slice (some ⟨w.heap.size, 0, none⟩) (n + 1) (n + 1)))) := by
      have hb : Below w.heap.size w (w.alloc (.cells Z 43)) := (Below.refl _ w).alloc (Nat.le_refl _) _
      have k1 := k.below hb
      have hst : ∀ g, g < (w.alloc (.cells Z 43)).heap.size → g ≠ pb → ((w.alloc (.cells Z 43)).setCell ⟨pb, 3, none⟩ (.slice (some ⟨w.heap.size, 0, none⟩) (n + 1) (n + 1))).heap[g]? = (w.alloc (.cells Z 43)).heap[g]? := fun g hg hne => (gcell _ pb 3 _).block g hg (fun e => hne (Option.some.inj e))
      have hlt := k.lt
      have hrow : ((w.alloc (.cells Z 43)).setCell ⟨pb, 3, none⟩ (.slice (some ⟨w.heap.size, 0, none⟩) (n + 1) (n + 1))).ownsRow base 43 2 (.slice (some ⟨w.heap.size, 0, none⟩) (n + 1) (n + 1)) (n + 1) (dvs h.nt (n + 1)) := by
        refine ⟨dvs_len _ _, .inr ⟨w.heap.size, n + 1, Z, rfl, by have := k.low; omega, (hst w.heap.size (Array.getElem?_eq_some_iff.1 (World.alloc_heap_new w (.cells Z 43))).1 (by omega)).trans (World.alloc_heap_new w _), Nat.le_refl _, by unfold maxLen; omega, hSz, ?_⟩⟩
        rw [hnt, ← hL, List.take_of_length_le (by rw [Array.length_toList, hSz]; omega)]
      refine ⟨⟨set1 (i := 3) _ k1.box, row_of_heap k1.row (fun g hg => hst g (row_blk k1.row hg).2.2 (k1.ne.1 g hg)), ⟨n + 1, .inr (by rw [hn]), hrow⟩, k.low, k.ok⟩, hrow, (Mv.grown (F' := fun g => Fp pb v d g ∨ g = w.heap.size) (World.grownBy_alloc w _ none) (fun k e => by cases e) (fun g e => e.imp id (fun e => by omega))).trans (Mv.cell (.inl (.inl rfl)) (fun g e => ?_))⟩
      rcases e with e | e | e
      · exact .inl (.inl (.inl e))
      · exact .inl (.inl (.inr (.inl e)))
      · cases e; exact .inl (.inr rfl)
    obtain ⟨⟨c0, c1, c2, c3⟩, f0, f1, f2, f3⟩ := box4 k.box
    obtain ⟨va, vc, rfl, _⟩ := row_slice k.row
    rw [hn] at c1 HPK ⊢
    subst hd
    have hpl : h.pl < n + 1 := by have := k.ok.pl; omega
    have hpl' : (h.pl : Int) < (n : Int) + 1 := by omega
    have hlt := k.lt
    have HA : Hid (∀ o, (w.alloc o).cell? ⟨pb, 3, none⟩ = some (.slice a 0 c) ∧ (w.alloc o).frozen? ⟨pb, 3, none⟩ = false) := fun o => by
      have := (k.below ((Below.refl _ w).alloc (Nat.le_refl _) o)).box
      obtain ⟨⟨_, _, _, q3⟩, _, _, _, g3⟩ := box4 this
      exact ⟨q3, g3⟩
    obtain ⟨x3, y3⟩ := HA.out (.cells Z 43)
    have CK : Hid (∀ W, Pk w (Fp pb (.slice va n vc) (.slice a 0 c)) base pb (.slice va n vc) n w.heap.size (n + 1) h W → Calls Try.prog 16 #[.string t] W fun e w' => e = .returned (.string t) ∧ Below W.heap.size W w') := fun W _ => sclone_any t (by omega) W
    have HP : Hid (∀ W, Pk w (Fp pb (.slice va n vc) (.slice a 0 c)) base pb (.slice va n vc) n w.heap.size (n + 1) h W → Pk w (Fp pb (.slice va n vc) (.slice a 0 c)) base pb (.slice va n vc) n w.heap.size (n + 1) ⟨h.b, h.es, h.pl, noted h.nt h.pl t⟩ ((W.setCell ⟨w.heap.size, h.pl * 2, none⟩ (.bool true)).setCell ⟨w.heap.size, h.pl * 2 + 1, none⟩ (.string t))) := fun W kW => kW.put hn ht
    have HC : Hid (∀ W, Pk w (Fp pb (.slice va n vc) (.slice a 0 c)) base pb (.slice va n vc) n w.heap.size (n + 1) h W → W.cell? ⟨w.heap.size, h.pl * 2, none⟩ = some (.bool (gt h.nt h.pl).isSome) ∧ W.cell? ⟨w.heap.size, h.pl * 2 + 1, none⟩ = some (.string ((gt h.nt h.pl).getD ⟨#[]⟩)) ∧ W.frozen? ⟨w.heap.size, h.pl * 2, none⟩ = false ∧ W.frozen? ⟨w.heap.size, h.pl * 2 + 1, none⟩ = false) := fun W kW => by
      obtain ⟨g1, e1, q1, q2⟩ := row_cell kW.row (dvs_get h.nt hpl).1
      obtain ⟨g2, e2, q3, q4⟩ := row_cell kW.row (dvs_get h.nt hpl).2
      cases e1
      cases e2
      exact ⟨q1, q3, q2, q4⟩
    have HB : Hid (∀ W, Pk w (Fp pb (.slice va n vc) (.slice a 0 c)) base pb (.slice va n vc) n w.heap.size (n + 1) h W → W.heap[pb]? = some (.cells #[.int .i64 (h.b : Int), .slice va n vc, .int .i64 (h.pl : Int), .slice (some ⟨w.heap.size, 0, none⟩) (n + 1) (n + 1)] 40 (0, 0))) := fun W kW => kW.pv.box
    obtain ⟨pl, hpe⟩ : ∃ pl, h.pl = pl := ⟨_, rfl⟩
    rw [hpe] at hpl hpl' HP HC HB c2 ⊢
    generalize (gt h.nt pl).isSome = β at HC
    generalize (gt h.nt pl).getD ⟨#[]⟩ = o at HC
    clear k hn hpe ht hr hz hnt hL hSz HA hi hz0 hz1 hz2
    go_enter Try.func26, Try.ntmps26
    go_upto_region 2 with fail
    have HK : Hid (Pk w (Fp pb (.slice va n vc) (.slice a 0 c)) base pb (.slice va n vc) n w.heap.size (n + 1) h ((w.alloc (.cells Z 43)).setCell ⟨pb, 3, none⟩ (.slice (some ⟨w.heap.size, 0, none⟩) (n + 1) (n + 1))).drew) := HPK.out.drew
    obtain ⟨⟨z0, z1, z2, z3⟩, -⟩ := box4 (HB.out _ HPK.out)
    obtain ⟨W1, hW1⟩ : ∃ W1, (w.alloc (.cells Z 43)).setCell ⟨pb, 3, none⟩ (.slice (some ⟨w.heap.size, 0, none⟩) (n + 1) (n + 1)) = W1 := ⟨_, rfl⟩
    rw [← World.setCell_alloc_past _ _ _ _ hlt, hW1]
    rw [hW1] at z0 z1 z2 z3 HK
    clear HPK hW1 c0 c1 c2 c3 f0 f1 f2 f3 x3 y3
    obtain ⟨dg, hdg⟩ : ∃ dg, w.heap.size = dg := ⟨_, rfl⟩
    rw [hdg] at HP HC HB HK z3 CK ⊢
    go_region_with (first
      | (go_at_call 16; refine (CK.out _ HK.out).mono ?_; clear CK; rintro e w1 ⟨rfl, hb1⟩; have HK1 : Hid (Pk w (Fp pb (.slice va n vc) (.slice a 0 c)) base pb (.slice va n vc) n dg (n + 1) h w1) := HK.out.below hb1; clear hb1 HK; obtain ⟨⟨d0, d1, d2, d3⟩, -⟩ := box4 (HB.out _ HK1.out); obtain ⟨x0, x1, x2, x3⟩ := HC.out _ HK1.out))
    all_goals go_wp2
    all_goals go_end0
    all_goals exact ⟨rfl, _, _, HP.out _ HK1.out⟩
  · obtain ⟨dg, rfl⟩ : ∃ dg, a = some ⟨dg, 0, none⟩ := by
      rcases hr.2 with ⟨_, e⟩ | ⟨g, cap, cur, e, _⟩
      · omega
      · rw [hd] at e; exact ⟨g, (Value.slice.inj e).1⟩
    subst hn
    subst hd
    exact (keep_room ⟨k, hr, Mv.refl _ _⟩ rfl ht).mono fun e w' q => ⟨q.1, dg, c, q.2⟩
end Go.Proofs.Ytgakgebhhmkclab
