/-
  Package ring's Yank, Pop and Clone. Conditions: those of each theorem.
-/
import Derived.Test.YtihagjkdghbkdaaJPro
import Derived.Deep.RegionHeld3
import Derived.BigQuiet
namespace Go.Proofs.Ytihagjkdghbkdaa
open Go.RowKit

/-- the ring yanking at another place -/
theorem Pr.place {w W : World} {base pb b pl' : Nat} {v : Value} {r : Rg} (h : Pr w base pb v r) (hW : W.heap[pb]? = some (.cells #[.int .i64 (r.b : Int), v, .int .i64 2, .int .i64 (pl' : Int)] 52 (0, 0))) (hc : Ch pb none w W) (hp : pl' < r.es.length) (hb : b = r.b) : Pr W base pb v ⟨b, r.es, 2, pl'⟩ := by
  subst hb
  exact ⟨⟨pl', fun _ => rfl, hW⟩, row_of_heap h.row (fun g hg => hc.2.2.2.2 g (h.blk hg).2.2 (h.blk hg).1 (by simp)), h.low, h.ok.b, h.ok.len, Nat.le_refl _, fun _ => hp⟩

set_option maxRecDepth 100000 in
set_option maxHeartbeats 2000000 in
theorem yank_any {w : World} {base pb : Nat} {v : Value} {r : Rg} (h : Pr w base pb v r) (hf : r.Fit 281474976710656) :
    Calls Try.prog 19 #[.pointer (some ⟨pb, 0, none⟩)] w fun e w' => e = .returned (.tuple #[.string r.yankT, .int .i64 r.yankE]) ∧ Pr w' base pb v r.yank ∧ Ch pb none w w' := by
  have CL := len_any h
  by_cases h0 : r.es = []
  · have CS := stop_any h
    have e1 : r.yank = r.stop := by simp [Rg.yank, h0]
    have e2 : r.yankT = ⟨#[]⟩ := by simp [Rg.yankT, h0]
    have e3 : r.yankE = 5 := by simp [Rg.yankE, h0]
    rw [e1, e2, e3]
    rw [h0] at CL
    clear h hf
    go_enter Try.func19, Try.ntmps19
    go_wp2_with (first
      | (go_at_call 25; refine CL.mono ?_; clear CL; rintro e w1 ⟨rfl, rfl⟩)
      | (go_at_call 17; refine CS.mono ?_; clear CS; rintro e w2 ⟨rfl, hp2, hc2⟩; have H2 : Hid (Pr w2 base pb v r.stop ∧ Ch pb none w1 w2) := ⟨hp2, hc2⟩; clear hp2 hc2))
    go_ret2
    exact ⟨rfl, H2.out⟩
  · obtain ⟨x, l, hes⟩ : ∃ x l, r.es = x :: l := List.exists_cons_of_ne_nil h0
    have e1 : r.yank = ⟨r.b, r.es, 2, 0⟩ := by simp [Rg.yank, h0]
    have e2 : r.yankT = x := by simp [Rg.yankT, hes]
    have e3 : r.yankE = 0 := by simp [Rg.yankE, h0]
    rw [e1, e2, e3]
    obtain ⟨va, c, hv, _⟩ := row_slice h.row
    subst hv
    obtain ⟨g, rfl, hcell⟩ := row_at (k := 0) h.row (by rw [hes]; rfl)
    obtain ⟨n, hn⟩ : ∃ n, r.es.length = n := ⟨_, rfl⟩
    have hn0 : 0 < n := by rw [← hn, hes]; simp
    have hnz : ¬ (n : Int) = 0 := by omega
    have hnz' : ((n : Int) == 0) = false := by simp; omega
    have hnp : (0 : Int) < (n : Int) := by omega
    obtain ⟨p, hp, hbox⟩ := h.box
    obtain ⟨⟨c0, c1, c2, c3⟩, f0, f1, f2, f3⟩ := box4 hbox
    have hb2 := set1 (i := 3) (.int .i64 0) (set1 (i := 2) (.int .i64 2) hbox)
    have hCh : Ch pb none w ((w.setCell ⟨pb, 2, none⟩ (.int .i64 2)).setCell ⟨pb, 3, none⟩ (.int .i64 0)) := Ch.cell.trans (Nx.refl _ _) Ch.cell
    obtain ⟨W2, hW2⟩ : ∃ W2, (w.setCell ⟨pb, 2, none⟩ (.int .i64 2)).setCell ⟨pb, 3, none⟩ (.int .i64 0) = W2 := ⟨_, rfl⟩
    rw [hW2] at hb2 hCh
    have HP : Hid (Pr W2 base pb (.slice (some ⟨g, 0, none⟩) r.es.length c) ⟨r.b, r.es, 2, 0⟩ ∧ Ch pb none w W2) := ⟨h.place (pl' := 0) hb2 hCh (by omega) rfl, hCh⟩
    have CC := sclone_any x (hf x (by rw [hes]; exact List.mem_cons_self)) W2
    obtain ⟨⟨d0, d1, d2, d3⟩, -⟩ := box4 hb2
    obtain ⟨g', eg, hcell2⟩ := row_at (k := 0) HP.out.1.row (by show r.es[0]? = _; rw [hes]; rfl)
    cases eg
    rw [hn] at CL HP c1 d1 ⊢
    clear h hf hbox hp hb2 hCh
    go_enter Try.func19, Try.ntmps19
    go_upto_region 5 with (first
      | (go_at_call 25; refine CL.mono ?_; clear CL; rintro e w1 ⟨rfl, hw1⟩; subst hw1))
    clear hW2 c0 c1 c2 c3 f0 f1 f2 f3 hcell
    go_wp2_with (first
      | (go_at_call 38; refine CC.mono ?_; clear CC; rintro e w2 ⟨rfl, hb2⟩; have HB : Hid (Below W2.heap.size W2 w2) := hb2; clear hb2))
    go_ret2
    exact ⟨rfl, HP.out.1.below HB.out, HP.out.2.trans (Nx.refl _ _) (Ch.below HB.out)⟩
theorem yank_nil (w : World) : Calls Try.prog 19 #[.pointer none] w fun e w' => e = .returned (.tuple #[.string ⟨#[]⟩, .int .i64 5]) ∧ w' = w := by
  have CL := len_nil w
  have CS := stop_nil w
  go_enter Try.func19, Try.ntmps19
  go_wp2_with (first
    | (go_at_call 25; refine CL.mono ?_; clear CL; rintro e w1 ⟨rfl, rfl⟩)
    | (go_at_call 17; refine CS.mono ?_; clear CS; rintro e w2 ⟨rfl, rfl⟩))
  go_ret2
  exact ⟨rfl, rfl⟩
theorem pop_nil (w : World) : Calls Try.prog 20 #[.pointer none] w fun e w' => e = .returned (.tuple #[.string ⟨#[]⟩, .string ⟨#[]⟩, .int .i64 6]) ∧ w' = w := by
  have CL := yanking_nil w
  have CS := stop_nil w
  go_enter Try.func20, Try.ntmps20
  go_wp2_with (first
    | (go_at_call 26; refine CL.mono ?_; clear CL; rintro e w1 ⟨rfl, rfl⟩)
    | (go_at_call 17; refine CS.mono ?_; clear CS; rintro e w2 ⟨rfl, rfl⟩))
  go_ret3
  exact ⟨rfl, rfl⟩
theorem clone_nil (w : World) : Calls Try.prog 13 #[.pointer none] w fun e w' => e = .returned (.pointer none) ∧ w' = w := by
  go_enter Try.func13, Try.ntmps13
  go_wp2
  go_ret
  exact ⟨rfl, rfl⟩
set_option maxRecDepth 100000 in
set_option maxHeartbeats 2000000 in
theorem pop_any {w : World} {base pb : Nat} {v : Value} {r : Rg} (h : Pr w base pb v r) (hf : r.Fit 281474976710656) :
    Calls Try.prog 20 #[.pointer (some ⟨pb, 0, none⟩)] w fun e w' => e = .returned (.tuple #[.string r.popA, .string r.popB, .int .i64 r.popE]) ∧ Pr w' base pb v r.pop ∧ Ch pb none w w' := by
  have CL := yanking_any h
  by_cases h0 : r.st = 2
  · have e1 : r.pop = ⟨r.b, r.es, 2, (r.pl + 1) % r.es.length⟩ := by simp [Rg.pop, h0]
    have e2 : r.popA = r.es.getD r.pl ⟨#[]⟩ := by simp [Rg.popA, h0]
    have e3 : r.popB = r.es.getD ((r.pl + 1) % r.es.length) ⟨#[]⟩ := by simp [Rg.popB, h0]
    have e4 : r.popE = 0 := by simp [Rg.popE, h0]
    rw [e1, e2, e3, e4]
    have hpl := h.ok.pl h0
    have hlen := h.ok.len
    have hbb := h.ok.b
    obtain ⟨k', hk'⟩ : ∃ k', (r.pl + 1) % r.es.length = k' := ⟨_, rfl⟩
    have hkl : k' < r.es.length := by rw [← hk']; exact Nat.mod_lt _ (by omega)
    obtain ⟨x, hx⟩ : ∃ x, r.es[r.pl]? = some x := ⟨_, List.getElem?_eq_getElem hpl⟩
    obtain ⟨y, hy⟩ : ∃ y, r.es[k']? = some y := ⟨_, List.getElem?_eq_getElem hkl⟩
    have e5 : r.es.getD r.pl ⟨#[]⟩ = x := by simp [List.getD, hx]
    have e6 : r.es.getD k' ⟨#[]⟩ = y := by simp [List.getD, hy]
    rw [hk', e5, e6]
    have hmod : ((r.pl : Int) + 1) % (r.es.length : Int) = (k' : Int) := by rw [← hk', Int.natCast_emod, Int.natCast_add]; rfl
    have hmod' : ((r.pl : Int) + 1).tmod (r.es.length : Int) = (k' : Int) := by rw [Int.tmod_eq_emod_of_nonneg (by omega)]; exact hmod
    obtain ⟨va, c, hv, _⟩ := row_slice h.row
    subst hv
    obtain ⟨g, rfl, hcell⟩ := row_at h.row hx
    obtain ⟨p, hp, hbox⟩ := h.box
    obtain rfl := hp h0
    rw [h0] at hbox
    obtain ⟨⟨c0, c1, c2, c3⟩, f0, f1, f2, f3⟩ := box4 hbox
    have hb2 : ∀ m, ((w.drewN m).setCell ⟨pb, 3, none⟩ (.int .i64 (k' : Int))).heap[pb]? = some (.cells #[.int .i64 (r.b : Int), .slice (some ⟨g, 0, none⟩) r.es.length c, .int .i64 2, .int .i64 (k' : Int)] 52 (0, 0)) := fun m => set1 (W := w.drewN m) (i := 3) (.int .i64 (k' : Int)) hbox
    have HP : Hid (∀ m, Pr ((w.drewN m).setCell ⟨pb, 3, none⟩ (.int .i64 (k' : Int))) base pb (.slice (some ⟨g, 0, none⟩) r.es.length c) ⟨r.b, r.es, 2, k'⟩ ∧ Ch pb none w ((w.drewN m).setCell ⟨pb, 3, none⟩ (.int .i64 (k' : Int)))) := fun m => by
      have hc : Ch pb none w ((w.drewN m).setCell ⟨pb, 3, none⟩ (.int .i64 (k' : Int))) := Ch.trans (w1 := w.drewN m) (Ch.below ⟨rfl, rfl, rfl, Nat.le_refl _, fun _ _ => rfl⟩) (Nx.refl _ _) Ch.cell
      exact ⟨h.place (pl' := k') (hb2 m) hc hkl rfl, hc⟩
    obtain ⟨n, hn⟩ : ∃ n, r.es.length = n := ⟨_, rfl⟩
    rw [h0] at CL
    have C1 : Hid (∀ W, Calls Try.prog 38 #[.string x] W fun e w' => e = .returned (.string x) ∧ Below W.heap.size W w') := fun W => sclone_any x (hf x (List.mem_of_getElem? hx)) W
    have C2 : Hid (∀ W, Calls Try.prog 38 #[.string y] W fun e w' => e = .returned (.string y) ∧ Below W.heap.size W w') := fun W => sclone_any y (hf y (List.mem_of_getElem? hy)) W
    have HY : Hid (r.es[k']? = some y) := hy
    have HN : Hid (r.es.length = n) := hn
    rw [hn] at HP c1 hmod hmod' hpl hkl hlen ⊢
    have hnz : ¬ (n : Int) = 0 := by omega
    have hpl1 : (r.pl : Int) < (n : Int) := by omega
    obtain ⟨pl, hpl2⟩ : ∃ pl, r.pl = pl := ⟨_, rfl⟩
    rw [hpl2] at c3 hcell hmod hmod' hpl hpl1
    clear h hf hbox hp hb2 hx hk' hy hpl2
    go_enter Try.func20, Try.ntmps20
    go_wp2_with (first
      | (go_at_call 26; refine CL.mono ?_; clear CL; rintro e w1 ⟨rfl, hw1⟩; subst hw1))
    go_quiet (fail)
    go_wp2
    go_region
    have HQ0 : Hid _ := HP.out (nq + 1)
    obtain ⟨W2, hW2⟩ : ∃ W2, (w1.drewN (nq + 1)).setCell ⟨pb, 3, none⟩ (.int .i64 (k' : Int)) = W2 := ⟨_, rfl⟩
    rw [hW2] at HQ0 ⊢
    have HQ : Hid (Pr W2 base pb (.slice (some ⟨g, 0, none⟩) n c) ⟨r.b, r.es, 2, k'⟩ ∧ Ch pb none w1 W2) := HQ0.out
    clear HP HQ0 hW2 c0 c1 c2 c3 f0 f1 f2 f3 hcell
    have HS : Hid (∀ W, Below W2.heap.size W2 W → W.cell? ⟨pb, 1, none⟩ = some (.slice (some ⟨g, 0, none⟩) n c) ∧ W.cell? ⟨pb, 3, none⟩ = some (.int .i64 (k' : Int)) ∧ W.cell? ⟨g, k', none⟩ = some (.string y)) := fun W hb => by
      have hP := HQ.out.1.below hb
      obtain ⟨p, hp, hbox⟩ := hP.box
      obtain rfl := hp rfl
      obtain ⟨⟨c0, c1, c2, c3⟩, -⟩ := box4 hbox
      obtain ⟨g', eg, hc⟩ := row_at (n := n) (HN.out ▸ hP.row) HY.out
      cases eg
      exact ⟨c1, c3, hc⟩
    have HB : Hid (Below W2.heap.size W2 W2.drew) := ⟨rfl, rfl, rfl, Nat.le_refl _, fun _ _ => rfl⟩
    obtain ⟨z1, z2, z3⟩ := HS.out _ (Below.refl _ _)
    have hkl1 : (k' : Int) < (n : Int) := by omega
    go_wp2
    go_region_held3 (fun W => W.cell? ⟨pb, 1, none⟩ = some (.slice (some ⟨g, 0, none⟩) n c) ∧ W.cell? ⟨pb, 3, none⟩ = some (.int .i64 (k' : Int)) ∧ W.cell? ⟨g, k', none⟩ = some (.string y)) (first | exact HS.out _ HB.out | exact HS.out _ (Below.refl _ _))
      (first
        | (go_at_call 38; refine (C1.out _).mono ?_; clear C1; rintro e w3 ⟨rfl, hb3⟩; have HB3 : Hid (Below W2.heap.size W2 w3) := HB.out.trans (hb3.mono HB.out.size); clear HB hb3; have HB := HB3; clear HB3)
        | (go_at_call 38; refine (C2.out _).mono ?_; clear C2; rintro e w4 ⟨rfl, hb4⟩; have HB4 : Hid (Below W2.heap.size W2 w4) := HB.out.trans (hb4.mono HB.out.size); clear HB hb4; have HB := HB4; clear HB4))
    all_goals go_wp2
    all_goals go_ret3
    all_goals exact ⟨rfl, HQ.out.1.below HB.out, HQ.out.2.trans (Nx.refl _ _) (Ch.below HB.out)⟩
  · have CS := stop_any h
    have e1 : r.pop = r.stop := by simp [Rg.pop, h0]
    have e2 : r.popA = ⟨#[]⟩ := by simp [Rg.popA, h0]
    have e3 : r.popB = ⟨#[]⟩ := by simp [Rg.popB, h0]
    have e4 : r.popE = 6 := by simp [Rg.popE, h0]
    rw [e1, e2, e3, e4]
    rw [show decide (r.st = 2) = false from decide_eq_false h0] at CL
    clear h hf
    go_enter Try.func20, Try.ntmps20
    go_wp2_with (first
      | (go_at_call 26; refine CL.mono ?_; clear CL; rintro e w1 ⟨rfl, rfl⟩)
      | (go_at_call 17; refine CS.mono ?_; clear CS; rintro e w2 ⟨rfl, hp2, hc2⟩; have H2 : Hid (Pr w2 base pb v r.stop ∧ Ch pb none w1 w2) := ⟨hp2, hc2⟩; clear hp2 hc2))
    go_ret3
    exact ⟨rfl, H2.out⟩
set_option maxRecDepth 100000 in
set_option maxHeartbeats 2000000 in
theorem clone_any {w : World} {base pb : Nat} {v : Value} {r : Rg} (h : Pr w base pb v r) (hf : r.Fit 281474976710656) :
    Calls Try.prog 13 #[.pointer (some ⟨pb, 0, none⟩)] w fun e w' => ∃ cb u, e = .returned (.pointer (some ⟨cb, 0, none⟩)) ∧ Pr w' w.heap.size cb u r ∧ Below w.heap.size w w' := by
  obtain ⟨p, hp, hbox⟩ := h.box
  have CA := all_any h hf
  have HX : Hid (∀ W u, W.ownsRow w.heap.size 9 1 u r.es.length (sv r.es) ∧ Below w.heap.size w W → ∃ cb u', Value.pointer (some ⟨W.heap.size, 0, none⟩) = Value.pointer (some ⟨cb, 0, none⟩) ∧ Pr (W.alloc (.cells #[.int .i64 (r.b : Int), u, .int .i64 (r.st : Int), .int .i64 (p : Int)] 52)) w.heap.size cb u' r ∧ Below w.heap.size w (W.alloc (.cells #[.int .i64 (r.b : Int), u, .int .i64 (r.st : Int), .int .i64 (p : Int)] 52))) := fun W u ⟨h1, h2⟩ =>
    ⟨_, u, rfl, ⟨⟨p, hp, World.alloc_heap_new W _⟩, h1.alloc _, h2.size, h.ok⟩, h2.alloc h2.size _⟩
  have HS : Hid (∀ W, Below w.heap.size w W → W.cell? ⟨pb, 0, none⟩ = some (.int .i64 (r.b : Int)) ∧ W.cell? ⟨pb, 2, none⟩ = some (.int .i64 (r.st : Int)) ∧ W.cell? ⟨pb, 3, none⟩ = some (.int .i64 (p : Int))) := fun W hb => by
    have hB : W.heap[pb]? = _ := (hb.block pb h.lt).trans hbox
    obtain ⟨⟨c0, c1, c2, c3⟩, -⟩ := box4 hB
    exact ⟨c0, c2, c3⟩
  have CA2 : Hid (Calls Try.prog 18 #[.pointer (some ⟨pb, 0, none⟩)] w.drew fun e W' => ∃ ua uc, e = .returned (.slice ua r.es.length uc) ∧ Hid (W'.ownsRow w.heap.size 9 1 (.slice ua r.es.length uc) r.es.length (sv r.es) ∧ Below w.heap.size w W')) := by
    refine (all_any (w := w.drew) (h.of_heap rfl (fun _ _ => rfl)) hf).mono ?_
    rintro e W' ⟨u, rfl, h1, h2⟩
    obtain ⟨ua, uc, rfl, _⟩ := row_slice h1
    exact ⟨ua, uc, rfl, h1, h2.os, h2.tape, h2.output, h2.size, h2.block⟩
  obtain ⟨z0, z2, z3⟩ := HS.out _ (Below.refl _ _)
  have HB : Hid (Below w.heap.size w w.drew) := ⟨rfl, rfl, rfl, Nat.le_refl _, fun _ _ => rfl⟩
  have HA : Hid (∀ W o, Below w.heap.size w W → Below w.heap.size w (W.alloc o)) := fun W o hW => hW.alloc hW.size o
  obtain ⟨n, hn⟩ : ∃ n, r.es.length = n := ⟨_, rfl⟩
  rw [hn] at CA2 HX
  clear h hf hbox hp CA
  go_enter Try.func13, Try.ntmps13
  go_wp2
  go_region_held3 (fun W => W.cell? ⟨pb, 0, none⟩ = some (.int .i64 (r.b : Int)) ∧ W.cell? ⟨pb, 2, none⟩ = some (.int .i64 (r.st : Int)) ∧ W.cell? ⟨pb, 3, none⟩ = some (.int .i64 (p : Int))) (first | exact HS.out _ HB.out | exact HS.out _ (HA.out _ _ HB.out))
    (first
      | (go_at_call 18; refine CA2.out.mono ?_; clear CA2; rintro e w3 ⟨ua, uc, rfl, H3⟩; clear HB; have HB : Hid (Below w.heap.size w w3) := H3.out.2))
  all_goals go_wp2
  all_goals go_ret
  all_goals (obtain ⟨cb, u', q1, q2, q3⟩ := HX.out _ _ H3.out; exact ⟨cb, u', congrArg Ending.returned q1, q2, q3⟩)
end Go.Proofs.Ytihagjkdghbkdaa
