/-
  What package hist's text, Go, Back and Forward do. Conditions: those of each theorem.
-/
import Derived.Test.YtgakgebhhmkclabHText
namespace Go.Proofs.Ytgakgebhhmkclab
open Go.RowKit

set_option maxRecDepth 100000 in
set_option maxHeartbeats 2000000 in
theorem text_any {w0 w : World} {F : Nat → Prop} {base pb n dg dc : Nat} {v : Value} {h : Hs} (k : Pk w0 F base pb v n dg dc h w) (hn : h.es.length = n) :
    Calls Try.prog 27 #[.pointer (some ⟨pb, 0, none⟩)] w fun e w' => e = .returned (.string (h.txt h.pl)) ∧ Below w.heap.size w w' := by
  have hs := k.pv.small
  have hple := k.pv.ok.pl
  rw [hn] at hs hple
  have hpl : h.pl < n + 1 := by omega
  have hpl' : (h.pl : Int) < (n : Int) + 1 := by omega
  obtain ⟨⟨c0, c1, c2, c3⟩, f0, f1, f2, f3⟩ := box4 k.pv.box
  obtain ⟨va, vc, rfl, _⟩ := row_slice k.pv.row
  obtain ⟨g1, e1, q1, q2⟩ := row_cell k.row (dvs_get h.nt hpl).1
  obtain ⟨g2, e2, q3, q4⟩ := row_cell k.row (dvs_get h.nt hpl).2
  cases e1
  cases e2
  have hdl : dg < w.heap.size := (row_blk k.row rfl).2.2
  have hpb := k.pv.lt
  have hne : dg ≠ pb := k.pv.ne.2.1 dg rfl
  rw [hn] at c1
  have HA : Hid (∀ x, Below w.heap.size w (w.alloc x)) := fun x => (Below.refl _ w).alloc (Nat.le_refl _) x
  cases e : gt h.nt h.pl with
  | some t =>
    have et : h.txt h.pl = t := by simp [Hs.txt, e]
    rw [et]
    rw [e] at q1 q3
    simp only [Option.isSome_some, Option.getD_some] at q1 q3
    obtain ⟨pl, hpe⟩ : ∃ pl, h.pl = pl := ⟨_, rfl⟩
    rw [hpe] at c2 q1 q2 q3 q4 hpl hpl'
    clear k e et hpe hple hn
    go_enter Try.func27, Try.ntmps27
    go_upto_region 1 with fail
    go_region
    all_goals go_wp2
    all_goals go_quiet (fail)
    all_goals go_wp2
    all_goals go_ret
    all_goals exact ⟨rfl, (HA.out _).trans (drewN_below _ _ _)⟩
  | none =>
    rw [e] at q1 q3
    simp only [Option.isSome_none, Option.getD_none] at q1 q3
    by_cases hb : h.pl = n
    · have et : h.txt h.pl = ⟨#[]⟩ := by rw [Hs.txt, e, Option.getD_none, List.getD_eq_getElem?_getD, List.getElem?_eq_none (by omega)]; rfl
      rw [et]
      rw [hb] at c2 q1 q2 q3 q4 hpl hpl'
      clear k e et hple hn hb
      go_enter Try.func27, Try.ntmps27
      go_upto_region 1 with fail
      go_region
      all_goals go_wp2
      all_goals go_quiet (fail)
      all_goals go_wp2
      all_goals go_ret
      all_goals exact ⟨rfl, (HA.out _).trans (drewN_below _ _ _)⟩
    · have hlt : h.pl < n := by omega
      obtain ⟨s, hs2⟩ : ∃ s, h.es[h.pl]? = some s := ⟨h.es[h.pl]'(by omega), List.getElem?_eq_getElem _⟩
      have et : h.txt h.pl = s := by rw [Hs.txt, e, Option.getD_none, List.getD_eq_getElem?_getD, hs2]; rfl
      rw [et]
      obtain ⟨g, rfl, hc⟩ := row_at k.pv.row hs2
      have hgl : g < w.heap.size := (row_blk k.pv.row rfl).2.2
      obtain ⟨pl, hpe⟩ : ∃ pl, h.pl = pl := ⟨_, rfl⟩
      rw [hpe] at c2 q1 q2 q3 q4 hpl hpl' hb hlt hc
      have hlt' : (pl : Int) < (n : Int) := by omega
      have hb1 : ¬ (pl : Int) = (n : Int) := by omega
      have hb2 : ((pl : Int) == (n : Int)) = false := by simp; omega
      clear k e et hple hn hb hpe hs2
      go_enter Try.func27, Try.ntmps27
      go_upto_region 1 with fail
      go_region
      all_goals go_wp2
      all_goals go_quiet (fail)
      all_goals go_wp2
      all_goals go_region
      all_goals go_wp2
      all_goals go_ret
      all_goals exact ⟨rfl, (HA.out _).trans (drewN_below _ _ _)⟩
/-- another place -/
theorem Pk.place {w W : World} {F : Nat → Prop} {base pb n dg dc : Nat} {v : Value} {h : Hs} (k : Pk w F base pb v n dg dc h W) {p : Nat} (hp : p ≤ h.es.length) : Pk w F base pb v n dg dc ⟨h.b, h.es, p, h.nt⟩ (W.setCell ⟨pb, 2, none⟩ (.int .i64 (p : Int))) := by
  have hst : ∀ g, g < W.heap.size → g ≠ pb → (W.setCell ⟨pb, 2, none⟩ (.int .i64 (p : Int))).heap[g]? = W.heap[g]? := fun g hg hne => (gcell W pb 2 _).block g hg (fun e => hne (Option.some.inj e))
  have hr := row_of_heap k.row (fun g hg => hst g (row_blk k.row hg).2.2 (k.pv.ne.2.1 g hg))
  obtain ⟨m, hm, hd⟩ := k.pv.dr
  refine ⟨⟨set1 (i := 2) _ k.pv.box, row_of_heap k.pv.row (fun g hg => hst g (row_blk k.pv.row hg).2.2 (k.pv.ne.1 g hg)), ⟨m, hm, row_of_heap hd (fun g hg => hst g (row_blk hd hg).2.2 (k.pv.ne.2.1 g hg))⟩, k.pv.low, ?_⟩, hr, k.mv.trans (Mv.cell (.inl rfl) (fun _ e => .inl e))⟩
  have ok := k.pv.ok
  exact ⟨ok.b, ok.len, hp, ok.nd, ok.nl, ok.fe, ok.fn⟩
/-- what Go leaves, and answers -/
def Hs.goes (p : Int) (t : ByteArray) (h : Hs) : Hs := if 0 ≤ p ∧ p ≤ (h.es.length : Int) then h.go p.toNat t else h
def Hs.goA (p : Int) (t : ByteArray) (h : Hs) : ByteArray × Int := if 0 ≤ p ∧ p ≤ (h.es.length : Int) then ((h.go p.toNat t).txt p.toNat, 0) else (⟨#[]⟩, 1)
set_option maxRecDepth 100000 in
set_option maxHeartbeats 2000000 in
theorem go_any {w : World} {base pb : Nat} {F : Nat → Prop} {h : Hs} (k : Pr w base pb F h) {p : Int} (hp : -9223372036854775808 ≤ p ∧ p ≤ 9223372036854775807) {t : ByteArray} (ht : t.size ≤ 1099511627776) :
    Calls Try.prog 22 #[.pointer (some ⟨pb, 0, none⟩), .int .i64 p, .string t] w fun e w' => e = .returned (.tuple #[.string (h.goA p t).1, .int .i64 (h.goA p t).2]) ∧ ∃ F', Pr w' base pb F' (h.goes p t) ∧ Mv w F w' F' := by
  obtain ⟨v, d, k, rfl⟩ := k
  have CL := len_any k
  obtain ⟨n, hn⟩ : ∃ n, h.es.length = n := ⟨_, rfl⟩
  have hs := k.small
  by_cases h1 : p < 0
  · have e1 : h.goA p t = (⟨#[]⟩, 1) := by rw [Hs.goA, if_neg (by omega)]
    have e2 : h.goes p t = h := by rw [Hs.goes, if_neg (by omega)]
    rw [e1, e2]
    have HX : Hid (∃ F', Pr w base pb F' h ∧ Mv w (Fp pb v d) w F') := ⟨_, ⟨v, d, k, rfl⟩, Mv.refl _ _⟩
    rw [hn] at CL
    clear k e1 e2
    go_enter Try.func22, Try.ntmps22
    go_wp2
    go_ret2
    exact ⟨rfl, HX.out⟩
  · by_cases h2 : (n : Int) < p
    · have e1 : h.goA p t = (⟨#[]⟩, 1) := by rw [Hs.goA, if_neg (by omega)]
      have e2 : h.goes p t = h := by rw [Hs.goes, if_neg (by omega)]
      rw [e1, e2]
      have HX : Hid (∃ F', Pr w base pb F' h ∧ Mv w (Fp pb v d) w F') := ⟨_, ⟨v, d, k, rfl⟩, Mv.refl _ _⟩
      rw [hn] at CL
      clear k e1 e2
      go_enter Try.func22, Try.ntmps22
      go_wp2_with (go_at_call 10; refine CL.mono ?_; clear CL; rintro e w1 ⟨rfl, hw⟩; subst hw)
      go_ret2
      exact ⟨rfl, HX.out⟩
    · obtain ⟨j, hj⟩ : ∃ j : Nat, p = (j : Int) := ⟨p.toNat, by omega⟩
      subst hj
      have e1 : h.goA (j : Int) t = ((h.go j t).txt j, 0) := by rw [Hs.goA, if_pos (by omega)]; rfl
      have e2 : h.goes (j : Int) t = h.go j t := by rw [Hs.goes, if_pos (by omega)]; rfl
      rw [e1, e2]
      have hjl : j ≤ h.es.length := by omega
      have CK : Hid (Calls Try.prog 26 #[.pointer (some ⟨pb, 0, none⟩), .string t] w fun e w' => e = .returned (.tuple #[]) ∧ ∃ dg dc, Hid (Pk w (Fp pb v d) base pb v n dg dc ⟨h.b, h.es, h.pl, noted h.nt h.pl t⟩ w')) := keep_any k hn ht
      have HM : Hid (∀ W dg dc, Pk w (Fp pb v d) base pb v n dg dc ⟨h.b, h.es, h.pl, noted h.nt h.pl t⟩ W → W.heap[pb]? = some (.cells #[.int .i64 (h.b : Int), v, .int .i64 (h.pl : Int), .slice (some ⟨dg, 0, none⟩) (n + 1) dc] 40 (0, 0)) ∧ Pk w (Fp pb v d) base pb v n dg dc (h.go j t) (W.setCell ⟨pb, 2, none⟩ (.int .i64 (j : Int)))) := fun W dg dc kW => ⟨kW.pv.box, kW.place hjl⟩
      have CT : Hid (∀ W dg dc, Pk w (Fp pb v d) base pb v n dg dc (h.go j t) W → Calls Try.prog 27 #[.pointer (some ⟨pb, 0, none⟩)] W fun e w' => e = .returned (.string ((h.go j t).txt j)) ∧ Hid (Pk w (Fp pb v d) base pb v n dg dc (h.go j t) w')) := fun W dg dc kW => (text_any kW hn).mono fun e w' q => ⟨q.1, kW.below q.2⟩
      have hsz := (k.ok.go (p := j) (now := t) hjl ht).txt j
      have CC : Hid (∀ W dg dc, Pk w (Fp pb v d) base pb v n dg dc (h.go j t) W → Calls Try.prog 16 #[.string ((h.go j t).txt j)] W fun e w' => e = .returned (.string ((h.go j t).txt j)) ∧ Hid (Pk w (Fp pb v d) base pb v n dg dc (h.go j t) w')) := fun W dg dc kW => (sclone_any _ (by omega) W).mono fun e w' q => ⟨q.1, kW.below q.2⟩
      have HE : Hid (∀ W dg dc, Pk w (Fp pb v d) base pb v n dg dc (h.go j t) W → ∃ F', Pr W base pb F' (h.go j t) ∧ Mv w (Fp pb v d) W F') := fun W dg dc kW => ⟨_, ⟨_, _, kW.pv, rfl⟩, kW.mv⟩
      generalize (h.go j t).txt j = o at CT CC
      rw [hn] at CL
      clear k e1 e2 hsz
      go_enter Try.func22, Try.ntmps22
      go_wp2_with (first
        | (go_at_call 10; refine CL.mono ?_; clear CL; rintro e w1 ⟨rfl, hw⟩; subst hw)
        | (go_at_call 26; refine CK.out.mono ?_; clear CK; rintro e w2 ⟨rfl, dg, dc, H2⟩; have HM2 : Hid _ := HM.out _ _ _ H2.out; obtain ⟨⟨d0, d1, d2, d3⟩, g0, g1, g2, g3⟩ := box4 HM2.out.1; clear HM H2)
        | (go_at_call 27; refine (CT.out _ _ _ HM2.out.2).mono ?_; clear CT; rintro e w3 ⟨rfl, H3⟩)
        | (go_at_call 16; refine (CC.out _ _ _ H3.out).mono ?_; clear CC; rintro e w4 ⟨rfl, H4⟩))
      go_ret2
      exact ⟨rfl, HE.out _ _ _ H4.out⟩
theorem go_nil {p : Int} (hp : -9223372036854775808 ≤ p ∧ p ≤ 9223372036854775807) (t : ByteArray) (w : World) : Calls Try.prog 22 #[.pointer none, .int .i64 p, .string t] w fun e w' => e = .returned (.tuple #[.string ⟨#[]⟩, .int .i64 (if p = 0 then 0 else 1)]) ∧ w' = w := by
  have CL := len_nil w
  by_cases h1 : p < 0
  · rw [if_neg (by omega)]
    go_enter Try.func22, Try.ntmps22
    go_wp2
    go_ret2
    exact ⟨rfl, rfl⟩
  · by_cases h2 : 0 < p
    · rw [if_neg (by omega)]
      go_enter Try.func22, Try.ntmps22
      go_wp2_with (go_at_call 10; refine CL.mono ?_; clear CL; rintro e w1 ⟨rfl, hw⟩; subst hw)
      go_ret2
      exact ⟨rfl, rfl⟩
    · obtain rfl : p = 0 := by omega
      rw [if_pos rfl]
      go_enter Try.func22, Try.ntmps22
      go_wp2_with (go_at_call 10; refine CL.mono ?_; clear CL; rintro e w1 ⟨rfl, hw⟩; subst hw)
      go_ret2
      exact ⟨rfl, rfl⟩
end Go.Proofs.Ytgakgebhhmkclab
