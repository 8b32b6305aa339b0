/-
  What package hist's keep and text do. Conditions: those of each theorem.
-/
import Derived.Test.YtgakgebhhmkclabHWork
namespace Go.Proofs.Ytgakgebhhmkclab
open Go.RowKit

/-- a history with room for drafts, since w -/
structure Pk (w : World) (F : Nat → Prop) (base pb : Nat) (v : Value) (n dg dc : Nat) (h : Hs) (W : World) : Prop where
  pv : Pv W base pb v (.slice (some ⟨dg, 0, none⟩) (n + 1) dc) h
  row : W.ownsRow base 43 2 (.slice (some ⟨dg, 0, none⟩) (n + 1) dc) (n + 1) (dvs h.nt (n + 1))
  mv : Mv w F W (Fp pb v (.slice (some ⟨dg, 0, none⟩) (n + 1) dc))
theorem Pk.below {w W W' : World} {F : Nat → Prop} {base pb n dg dc : Nat} {v : Value} {h : Hs} (k : Pk w F base pb v n dg dc h W) (hb : Below W.heap.size W W') : Pk w F base pb v n dg dc h W' :=
  ⟨k.pv.below hb, row_below k.row hb, k.mv.trans (Mv.below hb)⟩
theorem Pk.drew {w W : World} {F : Nat → Prop} {base pb n dg dc : Nat} {v : Value} {h : Hs} (k : Pk w F base pb v n dg dc h W) : Pk w F base pb v n dg dc h W.drew := k.below ⟨rfl, rfl, rfl, Nat.le_refl _, fun _ _ => rfl⟩
/-- a draft put down -/
theorem Pk.put {w W : World} {F : Nat → Prop} {base pb n dg dc : Nat} {v : Value} {h : Hs} (k : Pk w F base pb v n dg dc h W) (hn : h.es.length = n) {t : ByteArray} (ht : t.size ≤ 1099511627776) :
    Pk w F base pb v n dg dc ⟨h.b, h.es, h.pl, noted h.nt h.pl t⟩ ((W.setCell ⟨dg, h.pl * 2, none⟩ (.bool true)).setCell ⟨dg, h.pl * 2 + 1, none⟩ (.string t)) := by
  have hpl : h.pl < n + 1 := by have := k.pv.ok.pl; omega
  have hr := row_put2 (i := h.pl * 2) (x := .bool true) (y := .string t) k.row
  rw [← dvs_noted _ _ _ hpl] at hr
  have hm : Mv W (Fp pb v (.slice (some ⟨dg, 0, none⟩) (n + 1) dc)) ((W.setCell ⟨dg, h.pl * 2, none⟩ (.bool true)).setCell ⟨dg, h.pl * 2 + 1, none⟩ (.string t)) (Fp pb v (.slice (some ⟨dg, 0, none⟩) (n + 1) dc)) :=
    (Mv.cell (F' := Fp pb v (.slice (some ⟨dg, 0, none⟩) (n + 1) dc)) (.inr (.inr rfl)) (fun _ e => .inl e)).trans (Mv.cell (.inr (.inr rfl)) (fun _ e => .inl e))
  have hst : ∀ g, g < W.heap.size → g ≠ dg → ((W.setCell ⟨dg, h.pl * 2, none⟩ (.bool true)).setCell ⟨dg, h.pl * 2 + 1, none⟩ (.string t)).heap[g]? = W.heap[g]? := fun g hg hne => by
    rw [(gcell _ dg _ _).block g (by rw [World.setCell]; simpa using hg) (fun e => hne (Option.some.inj e)), (gcell W dg _ _).block g hg (fun e => hne (Option.some.inj e))]
  have hok := (k.pv.ok.go (p := h.pl) (now := t) k.pv.ok.pl ht)
  refine ⟨⟨(hst pb k.pv.lt (fun e => k.pv.ne.2.1 dg rfl e.symm)).trans k.pv.box, row_of_heap k.pv.row (fun g hg => hst g (row_blk k.pv.row hg).2.2 (fun e => k.pv.ne.2.2 g hg (by rw [e]; rfl))), ⟨n + 1, .inr (by rw [← hn]), hr⟩, k.pv.low, hok⟩, hr, k.mv.trans hm⟩
theorem infoD : (Try.prog.info? 43).map (fun i => (i.zero, i.size, i.bytes)) = some (some (.agg #[.bool false, .string ⟨#[]⟩]), 2, 24) := by kernel_rfl
theorem made_dvs (n : Nat) : (madeCells (Value.agg #[.bool false, .string ⟨#[]⟩]).cells (n * 2)).toList = dvs [] n := by
  have hc : (Value.agg #[.bool false, .string ⟨#[]⟩]).cells = #[.bool false, .string ⟨#[]⟩] := by kernel_rfl
  rw [hc]
  apply List.ext_getElem?
  intro j
  by_cases hj : j < n * 2
  · obtain ⟨q, hq⟩ : ∃ q, j = q * 2 ∨ j = q * 2 + 1 := ⟨j / 2, by omega⟩
    have h1 := dvs_get [] (m := n) (p := q) (by omega)
    have e : ∀ j, j < n * 2 → (madeCells #[.bool false, .string ⟨#[]⟩] (n * 2)).toList[j]? = some ((#[.bool false, .string ⟨#[]⟩] : Array Value)[j % 2]!) := fun j hj => by
      simp [madeCells, hj]
    rw [e j hj]
    rcases hq with rfl | rfl
    · rw [h1.1, show q * 2 % 2 = 0 by omega]; rfl
    · rw [h1.2, show (q * 2 + 1) % 2 = 1 by omega]; rfl
  · rw [List.getElem?_eq_none (by rw [Array.length_toList, size_madeCells]; omega), List.getElem?_eq_none (by rw [dvs_len]; omega)]
set_option maxRecDepth 100000 in
set_option maxHeartbeats 2000000 in
theorem keep_room {w0 w : World} {F : Nat → Prop} {base pb n dg dc : Nat} {v : Value} {h : Hs} (k : Pk w0 F base pb v n dg dc h w) (hn : h.es.length = n) {t : ByteArray} (ht : t.size ≤ 1099511627776) :
    Calls Try.prog 26 #[.pointer (some ⟨pb, 0, none⟩), .string t] w fun e w' => e = .returned (.tuple #[]) ∧ Pk w0 F base pb v n dg dc ⟨h.b, h.es, h.pl, noted h.nt h.pl t⟩ w' := by
  have hs := k.pv.small
  have hpl : h.pl < n + 1 := by have := k.pv.ok.pl; omega
  have hpl' : (h.pl : Int) < (n : Int) + 1 := by omega
  have CC : Hid (∀ W, Calls Try.prog 16 #[.string t] W fun e w' => e = .returned (.string t) ∧ Below W.heap.size W w') := fun W => sclone_any t (by omega) W
  have HP : Hid (∀ W, Pk w0 F base pb v n dg dc h W → Pk w0 F base pb v n dg dc ⟨h.b, h.es, h.pl, noted h.nt h.pl t⟩ ((W.setCell ⟨dg, h.pl * 2, none⟩ (.bool true)).setCell ⟨dg, h.pl * 2 + 1, none⟩ (.string t))) := fun W kW => kW.put hn ht
  have HC : Hid (∀ W, Pk w0 F base pb v n dg dc h W → W.cell? ⟨dg, h.pl * 2, none⟩ = some (.bool (gt h.nt h.pl).isSome) ∧ W.cell? ⟨dg, h.pl * 2 + 1, none⟩ = some (.string ((gt h.nt h.pl).getD ⟨#[]⟩)) ∧ W.frozen? ⟨dg, h.pl * 2, none⟩ = false ∧ W.frozen? ⟨dg, h.pl * 2 + 1, none⟩ = false) := fun W kW => by
    obtain ⟨g1, e1, q1, q2⟩ := row_cell kW.row (dvs_get h.nt hpl).1
    obtain ⟨g2, e2, q3, q4⟩ := row_cell kW.row (dvs_get h.nt hpl).2
    cases e1
    cases e2
    exact ⟨q1, q3, q2, q4⟩
  have HB : Hid (∀ W, Pk w0 F base pb v n dg dc h W → W.heap[pb]? = some (.cells #[.int .i64 (h.b : Int), v, .int .i64 (h.pl : Int), .slice (some ⟨dg, 0, none⟩) (n + 1) dc] 40 (0, 0))) := fun W kW => kW.pv.box
  have HK : Hid (Pk w0 F base pb v n dg dc h w.drew) := k.drew
  obtain ⟨⟨c0, c1, c2, c3⟩, f0, f1, f2, f3⟩ := box4 k.pv.box
  obtain ⟨pl, hpe⟩ : ∃ pl, h.pl = pl := ⟨_, rfl⟩
  rw [hpe] at hpl hpl' HP HC HB c2 ⊢
  generalize (gt h.nt pl).isSome = β at HC
  generalize (gt h.nt pl).getD ⟨#[]⟩ = o at HC
  clear k hn hpe ht
  go_enter Try.func26, Try.ntmps26
  go_upto_region 2 with fail
  go_region_with (first
    | (go_at_call 16; refine (CC.out _).mono ?_; clear CC; rintro e w1 ⟨rfl, hb1⟩; have HK1 : Hid (Pk w0 F base pb v n dg dc h w1) := HK.out.below hb1; clear hb1 HK; obtain ⟨⟨d0, d1, d2, d3⟩, -⟩ := box4 (HB.out _ HK1.out); obtain ⟨x0, x1, x2, x3⟩ := HC.out _ HK1.out))
  all_goals go_wp2
  all_goals go_end0
  all_goals exact ⟨rfl, HP.out _ HK1.out⟩
end Go.Proofs.Ytgakgebhhmkclab
