/-
  The document's own ring, on: Yank, Pop, Clone; SameTexts of two rows with the same texts. Conditions: those of each theorem.
-/
import Derived.Test.YtihagjkdghbkdaaJRef
namespace Go.Proofs.Ytihagjkdghbkdaa
open Go.RowKit

set_option maxRecDepth 100000 in
set_option maxHeartbeats 2000000 in
theorem ryank_any {w : World} {base pb : Nat} {v : Value} {r : Rg} (h : Rr w base pb v r) :
    Calls Try.prog 34 #[.pointer (some ⟨pb, 0, none⟩)] w fun e w' => e = .returned (.tuple #[.string r.yankT, .int .i64 r.yankE]) ∧ Rr w' base pb v r.yank ∧ Ch pb none w w' := by
  obtain ⟨va, c, hv, _⟩ := row_slice h.row
  subst hv
  obtain ⟨⟨c0, c1, c2, c3⟩, f0, f1, f2, f3⟩ := box4 h.box
  by_cases h0 : r.es = []
  · have e1 : r.yank = r.stop := by simp [Rg.yank, h0]
    have e2 : r.yankT = ⟨#[]⟩ := by simp [Rg.yankT, h0]
    have e3 : r.yankE = 5 := by simp [Rg.yankE, h0]
    have hl : r.es.length = 0 := by rw [h0]; rfl
    rw [e1, e2, e3]
    have HX : Hid _ := h.state (i := 3) (j := 2) (x := .int .i64 0) (y := .int .i64 0) (st := 0) (pl := 0) h.ok.stop rfl rfl rfl
    obtain ⟨⟨g0, g1, g2, g3⟩, i0, i1, i2, i3⟩ := box4 (set1 (i := 3) (.int .i64 0) h.box)
    rw [hl] at c1 g1 HX ⊢
    clear h
    go_enter Try.func34, Try.ntmps34
    go_wp2
    go_ret2
    exact ⟨rfl, HX.out⟩
  · obtain ⟨x, l, hes⟩ : ∃ x l, r.es = x :: l := List.exists_cons_of_ne_nil h0
    have e1 : r.yank = ⟨r.b, r.es, 2, 0⟩ := by simp [Rg.yank, h0]
    have e2 : r.yankT = x := by simp [Rg.yankT, hes]
    have e3 : r.yankE = 0 := by simp [Rg.yankE, h0]
    rw [e1, e2, e3]
    have hok : (⟨r.b, r.es, 2, 0⟩ : Rg).Ok := e1 ▸ h.ok.yank
    obtain ⟨g, rfl, hcell⟩ := row_at (k := 0) h.row (by rw [hes]; rfl)
    have hne : g ≠ pb := (h.blk rfl).1
    have HX : Hid _ := h.state (i := 3) (j := 2) (x := .int .i64 0) (y := .int .i64 2) (st := 2) (pl := 0) hok rfl rfl rfl
    obtain ⟨n, hn⟩ : ∃ n, r.es.length = n := ⟨_, rfl⟩
    have hn0 : 0 < n := by rw [← hn, hes]; simp
    have hnz : ¬ (n : Int) = 0 := by omega
    have hnz' : ((n : Int) == 0) = false := by simp; omega
    have hnp : (0 : Int) < (n : Int) := by omega
    rw [hn] at c1 HX ⊢
    clear h
    go_enter Try.func34, Try.ntmps34
    go_wp2
    go_ret2
    exact ⟨rfl, HX.out⟩
set_option maxRecDepth 100000 in
set_option maxHeartbeats 2000000 in
theorem rpop_any {w : World} {base pb : Nat} {v : Value} {r : Rg} (h : Rr w base pb v r) :
    Calls Try.prog 35 #[.pointer (some ⟨pb, 0, none⟩)] w fun e w' => e = .returned (.tuple #[.string r.popA, .string r.popB, .int .i64 r.popE]) ∧ Rr w' base pb v r.pop ∧ Ch pb none w w' := by
  by_cases h0 : r.st = 2
  · have e1 : r.pop = ⟨r.b, r.es, 2, (r.pl + 1) % r.es.length⟩ := by simp [Rg.pop, h0]
    have e2 : r.popA = r.es.getD r.pl ⟨#[]⟩ := by simp [Rg.popA, h0]
    have e3 : r.popB = r.es.getD ((r.pl + 1) % r.es.length) ⟨#[]⟩ := by simp [Rg.popB, h0]
    have e4 : r.popE = 0 := by simp [Rg.popE, h0]
    have hok : (⟨r.b, r.es, 2, (r.pl + 1) % r.es.length⟩ : Rg).Ok := e1 ▸ h.ok.pop
    rw [e1, e2, e3, e4]
    have hpl := h.ok.pl h0
    have hlen := h.ok.len
    have hbb := h.ok.b
    obtain ⟨k', hk'⟩ : ∃ k', (r.pl + 1) % r.es.length = k' := ⟨_, rfl⟩
    have hkl : k' < r.es.length := by rw [← hk']; exact Nat.mod_lt _ (by omega)
    obtain ⟨x, hx⟩ : ∃ x, r.es[r.pl]? = some x := ⟨_, List.getElem?_eq_getElem hpl⟩
    obtain ⟨y, hy⟩ : ∃ y, r.es[k']? = some y := ⟨_, List.getElem?_eq_getElem hkl⟩
    have e5 : r.es.getD r.pl ⟨#[]⟩ = x := by simp [List.getD, hx]
    have e6 : r.es.getD k' ⟨#[]⟩ = y := by simp [List.getD, hy]
    rw [hk'] at hok
    rw [hk', e5, e6]
    have hmod : ((r.pl : Int) + 1) % (r.es.length : Int) = (k' : Int) := by rw [← hk', Int.natCast_emod, Int.natCast_add]; rfl
    have hmod' : ((r.pl : Int) + 1).tmod (r.es.length : Int) = (k' : Int) := by rw [Int.tmod_eq_emod_of_nonneg (by omega)]; exact hmod
    obtain ⟨va, c, hv, _⟩ := row_slice h.row
    subst hv
    obtain ⟨g, rfl, hcell⟩ := row_at h.row hx
    have hbox := h.box
    rw [h0] at hbox
    obtain ⟨⟨c0, c1, c2, c3⟩, f0, f1, f2, f3⟩ := box4 hbox
    have HP : Hid (∀ m m', Rr (((w.drewN m).setCell ⟨pb, 3, none⟩ (.int .i64 (k' : Int))).drewN m') base pb (.slice (some ⟨g, 0, none⟩) r.es.length c) ⟨r.b, r.es, 2, k'⟩ ∧ Ch pb none w (((w.drewN m).setCell ⟨pb, 3, none⟩ (.int .i64 (k' : Int))).drewN m')) := fun m m' => by
      have hc : Ch pb none w ((w.drewN m).setCell ⟨pb, 3, none⟩ (.int .i64 (k' : Int))) := Ch.trans (w1 := w.drewN m) (Ch.below ⟨rfl, rfl, rfl, Nat.le_refl _, fun _ _ => rfl⟩) (Nx.refl _ _) Ch.cell
      have hh : Rr ((w.drewN m).setCell ⟨pb, 3, none⟩ (.int .i64 (k' : Int))) base pb (.slice (some ⟨g, 0, none⟩) r.es.length c) ⟨r.b, r.es, 2, k'⟩ := ⟨set1 (W := w.drewN m) (i := 3) (.int .i64 (k' : Int)) hbox, row_of_heap h.row (fun g hg => hc.2.2.2.2 g (h.blk hg).2.2 (h.blk hg).1 (by simp)), h.low, hok⟩
      exact ⟨hh.of_heap rfl (fun _ _ => rfl), hc⟩
    have hcy : w.cell? ⟨g, k', none⟩ = some (.string y) := by
      obtain ⟨g', e, hc⟩ := row_at h.row hy
      cases e
      exact hc
    have hne : g ≠ pb := (h.blk rfl).1
    obtain ⟨n, hn⟩ : ∃ n, r.es.length = n := ⟨_, rfl⟩
    rw [hn] at HP c1 hmod hmod' hpl hkl hlen ⊢
    have hnz : ¬ (n : Int) = 0 := by omega
    have hpl1 : (r.pl : Int) < (n : Int) := by omega
    have hkl1 : (k' : Int) < (n : Int) := by omega
    obtain ⟨pl, hpl2⟩ : ∃ pl, r.pl = pl := ⟨_, rfl⟩
    rw [hpl2] at c3 hcell hmod hmod' hpl hpl1
    clear h hbox hx hk' hy hpl2
    go_enter Try.func35, Try.ntmps35
    go_wp2
    go_quiet (fail)
    go_wp2
    go_region
    have HQ0 : Hid _ := HP.out (nq + 1)
    obtain ⟨W2, hW2⟩ : ∃ W2, (w.drewN (nq + 1)).setCell ⟨pb, 3, none⟩ (.int .i64 (k' : Int)) = W2 := ⟨_, rfl⟩
    rw [hW2] at HQ0 ⊢
    have HQ : Hid (∀ m', Rr (W2.drewN m') base pb (.slice (some ⟨g, 0, none⟩) n c) ⟨r.b, r.es, 2, k'⟩ ∧ Ch pb none w (W2.drewN m')) := HQ0.out
    have d1 : W2.cell? ⟨g, k', none⟩ = some (.string y) := by
      rw [← hW2]
      exact ((gcell (w.drewN (nq + 1)) pb 3 (.int .i64 (k' : Int))).cell (a := ⟨g, k', none⟩) hcy (fun e => hne (Option.some.inj e)))
    clear HP HQ0 hW2 c0 c1 c2 c3 f0 f1 f2 f3 hcell hcy
    obtain ⟨⟨c0, c1, c2, c3⟩, -⟩ := box4 (HQ.out 0).1.box
    change W2.cell? _ = _ at c0 c1 c2 c3
    go_wp2
    go_quiet (fail)
    go_wp2
    go_ret3
    exact ⟨rfl, HQ.out _⟩
  · have e1 : r.pop = r.stop := by simp [Rg.pop, h0]
    have e2 : r.popA = ⟨#[]⟩ := by simp [Rg.popA, h0]
    have e3 : r.popB = ⟨#[]⟩ := by simp [Rg.popB, h0]
    have e4 : r.popE = 6 := by simp [Rg.popE, h0]
    rw [e1, e2, e3, e4]
    obtain ⟨⟨c0, c1, c2, c3⟩, f0, f1, f2, f3⟩ := box4 h.box
    have HX : Hid _ := h.state (i := 2) (j := 3) (x := .int .i64 0) (y := .int .i64 0) (st := 0) (pl := 0) h.ok.stop rfl rfl rfl
    have e5 : ¬ (r.st : Int) = 2 := by omega
    have e6 : ((r.st : Int) == 2) = false := by simp; omega
    clear h
    go_enter Try.func35, Try.ntmps35
    go_wp2
    go_ret3
    exact ⟨rfl, HX.out⟩
set_option maxRecDepth 100000 in
set_option maxHeartbeats 2000000 in
theorem rclone_any {w : World} {base pb : Nat} {v : Value} {r : Rg} (h : Rr w base pb v r) :
    Calls Try.prog 14 #[.pointer (some ⟨pb, 0, none⟩)] w fun e w' => ∃ cb u, e = .returned (.pointer (some ⟨cb, 0, none⟩)) ∧ Rr w' w.heap.size cb u r ∧ Below w.heap.size w w' := by
  have hbox := h.box
  have HX : Hid (∀ W u, W.ownsRow w.heap.size 9 1 u r.es.length (sv r.es) ∧ Below w.heap.size w W → ∃ cb u', Value.pointer (some ⟨W.heap.size, 0, none⟩) = Value.pointer (some ⟨cb, 0, none⟩) ∧ Rr (W.alloc (.cells #[.int .i64 (r.b : Int), u, .int .i64 (r.st : Int), .int .i64 (r.pl : Int)] 56)) w.heap.size cb u' r ∧ Below w.heap.size w (W.alloc (.cells #[.int .i64 (r.b : Int), u, .int .i64 (r.st : Int), .int .i64 (r.pl : Int)] 56))) := fun W u ⟨h1, h2⟩ =>
    ⟨_, u, rfl, ⟨World.alloc_heap_new W _, h1.alloc _, h2.size, h.ok⟩, h2.alloc h2.size _⟩
  have HS : Hid (∀ W, Below w.heap.size w W → W.cell? ⟨pb, 0, none⟩ = some (.int .i64 (r.b : Int)) ∧ W.cell? ⟨pb, 2, none⟩ = some (.int .i64 (r.st : Int)) ∧ W.cell? ⟨pb, 3, none⟩ = some (.int .i64 (r.pl : Int))) := fun W hb => by
    have hB : W.heap[pb]? = _ := (hb.block pb h.lt).trans hbox
    obtain ⟨⟨c0, c1, c2, c3⟩, -⟩ := box4 hB
    exact ⟨c0, c2, c3⟩
  have CA2 : Hid (Calls Try.prog 31 #[.pointer (some ⟨pb, 0, none⟩)] w.drew fun e W' => ∃ ua uc, e = .returned (.slice ua r.es.length uc) ∧ Hid (W'.ownsRow w.heap.size 9 1 (.slice ua r.es.length uc) r.es.length (sv r.es) ∧ Below w.heap.size w W')) := by
    refine (rall_any (w := w.drew) (h.of_heap rfl (fun _ _ => rfl))).mono ?_
    rintro e W' ⟨u, rfl, h1, h2⟩
    obtain ⟨ua, uc, rfl, _⟩ := row_slice h1
    exact ⟨ua, uc, rfl, h1, h2.os, h2.tape, h2.output, h2.size, h2.block⟩
  obtain ⟨z0, z2, z3⟩ := HS.out _ (Below.refl _ _)
  have HB : Hid (Below w.heap.size w w.drew) := ⟨rfl, rfl, rfl, Nat.le_refl _, fun _ _ => rfl⟩
  have HA : Hid (∀ W o, Below w.heap.size w W → Below w.heap.size w (W.alloc o)) := fun W o hW => hW.alloc hW.size o
  obtain ⟨n, hn⟩ : ∃ n, r.es.length = n := ⟨_, rfl⟩
  rw [hn] at CA2 HX
  clear h hbox
  go_enter Try.func14, Try.ntmps14
  go_wp2
  go_region_held3 (fun W => W.cell? ⟨pb, 0, none⟩ = some (.int .i64 (r.b : Int)) ∧ W.cell? ⟨pb, 2, none⟩ = some (.int .i64 (r.st : Int)) ∧ W.cell? ⟨pb, 3, none⟩ = some (.int .i64 (r.pl : Int))) (first | exact HS.out _ HB.out | exact HS.out _ (HA.out _ _ HB.out))
    (first
      | (go_at_call 31; refine CA2.out.mono ?_; clear CA2; rintro e w3 ⟨ua, uc, rfl, H3⟩; clear HB; have HB : Hid (Below w.heap.size w w3) := H3.out.2))
  all_goals go_wp2
  all_goals go_ret
  all_goals (obtain ⟨cb, u', q1, q2, q3⟩ := HX.out _ _ H3.out; exact ⟨cb, u', congrArg Ending.returned q1, q2, q3⟩)
theorem drewN_below (n : Nat) (W : World) (m : Nat) : Below n W (W.drewN m) := ⟨rfl, rfl, rfl, Nat.le_refl _, fun _ _ => rfl⟩
/-- a slice that reads as the texts l -/
def RdS (W : World) (v : Value) (l : Tl) : Prop := ∃ a c, v = .slice a l.length c ∧ (l ≠ [] → ∃ g o, a = some ⟨g, o, none⟩ ∧ g < W.heap.size ∧ ∀ (k : Nat) s, l[k]? = some s → W.cell? ⟨g, o + k, none⟩ = some (.string s))
theorem RdS.below {W W' : World} {n : Nat} {v : Value} {l : Tl} (h : RdS W v l) (hn : W.heap.size ≤ n) (hb : Below n W W') : RdS W' v l := by
  obtain ⟨a, cap, e, h⟩ := h
  refine ⟨a, cap, e, fun h0 => ?_⟩
  obtain ⟨g, o, e, hg, hc⟩ := h h0
  exact ⟨g, o, e, by have := hb.size; omega, fun k x hk => (hb.cell (p := ⟨g, o + k, none⟩) (by simp; omega)).trans (hc k x hk)⟩
theorem RdS.of_row {W : World} {base n : Nat} {v : Value} {l : Tl} (h : W.ownsRow base 9 1 v n (sv l)) : RdS W v l := by
  have hl : l.length = n := by have := h.1; rw [sv_len] at this; omega
  obtain ⟨a, c, rfl, _⟩ := row_slice h
  refine ⟨a, c, by rw [hl], fun h0 => ?_⟩
  obtain ⟨x, l', rfl⟩ := List.exists_cons_of_ne_nil h0
  obtain ⟨g, rfl, _⟩ := row_at (k := 0) h rfl
  refine ⟨g, 0, rfl, (row_blk h rfl).2.2, fun k s hk => ?_⟩
  obtain ⟨g', e, hc⟩ := row_at h hk
  cases e
  rw [Nat.zero_add]
  exact hc
theorem str_eq (s : ByteArray) (w : World) : (binOp .neq 9 (.string s) (.string s)).run Try.prog w = .ok (.bool false) w := by simp [go_sem]
set_option maxRecDepth 100000 in
set_option maxHeartbeats 1000000 in
theorem same_any {w : World} {a b : Option Addr} {N c1 c2 : Nat} {l : Tl} (hN : l.length = N) (hl : N ≤ 140737488351232) (h1 : RdS w (.slice a N c1) l) (h2 : RdS w (.slice b N c2) l) :
    Calls Try.prog 21 #[.slice a N c1, .slice b N c2] w fun e w' => e = .returned (.bool true) ∧ Below w.heap.size w w' := by
  have HR : Hid (∀ W', Below w.heap.size w W' → RdS W' (.slice a N c1) l ∧ RdS W' (.slice b N c2) l) := fun W' hb => ⟨h1.below (Nat.le_refl _) hb, h2.below (Nat.le_refl _) hb⟩
  have HF : Hid (l.length = N) := hN
  clear h1 h2 hN
  go_enter Try.func21, Try.ntmps21
  go_wp2
  go_loopw [5] (fun t5 wr => ∃ k : Nat, k ≤ N ∧ t5 = .int .i64 k ∧ Hid (Below w.heap.size w wr)) (fun t5 _ => N - (intOf t5).toNat)
  case atStart => exact ⟨0, Nat.zero_le _, rfl, Below.refl _ _⟩
  case round =>
    obtain ⟨k, hk, rfl, HB⟩ := hrel
    by_cases hlt : k < N
    · obtain ⟨p, hp⟩ : ∃ p, l[k]? = some p := ⟨l[k]'(by rw [HF.out]; exact hlt), List.getElem?_eq_getElem _⟩
      obtain ⟨⟨a', cap', ev, hrd⟩, ⟨b', cap2, ev2, hrd2⟩⟩ := HR.out _ HB.out
      cases ev
      cases ev2
      obtain ⟨g, o, rfl, hg, hcs⟩ := hrd (fun e => by rw [e] at hp; cases hp)
      obtain ⟨g2, o2, rfl, hg2, hcs2⟩ := hrd2 (fun e => by rw [e] at hp; cases hp)
      have y0 := hcs k p hp
      have z0 := hcs2 k p hp
      have hlt' : (k : Int) < (l.length : Int) := by omega
      clear hrd hcs hrd2 hcs2 hp
      go_wp2
      go_quiet (fail)
      go_wp2
      exact ⟨⟨k + 1, by omega, by go_num, HB.out.trans (drewN_below _ _ _)⟩, by simp [intOf]; omega⟩
    · go_wp2
      go_ret
      exact ⟨rfl, HB.out⟩
end Go.Proofs.Ytihagjkdghbkdaa
