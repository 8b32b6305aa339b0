/-
  Package marks' Snap of a set, with the law's own Snapper; ask, whose deferred recover finds nothing. Conditions: those of each theorem.
-/
import Derived.Test.YtolafffpgkgadaaUMop
import Derived.Defers
import Derived.Recover
import Derived.Laws.Pointers
import Derived.BigQuiet
import Derived.Deep.QuietTactic
namespace Go.Proofs.Ytolafffpgkgadaa
open Go.RowKit Go.ChangeMaps Go.MapKept

/-- the law's Snapper in memory: its answers, and what it was asked -/
structure Sn (W : World) (base tb : Nat) (ta : Option Addr) (tc : Nat) (va : Value) (ts asked : List Int) : Prop where
  box : W.heap[tb]? = some (.cells #[.slice ta ts.length tc, va] 44 (0, 0))
  rd : RdI W (.slice ta ts.length tc) ts
  row : W.ownsRow base 3 1 va asked.length (asked.map (.int .i64))
  low : base ≤ tb
  far : ∀ g o, ta = some ⟨g, o, none⟩ → ts ≠ [] → g < base ∨ va.ownBlock ≠ some g ∧ g ≠ tb
theorem infoI : (Try.prog.info? 3).map (fun i => (i.zero, i.size, i.bytes)) = some (some (.int .i64 0), 1, 8) := by kernel_rfl
/-- what the Snapper answers next -/
def nxt (ts : List Int) (k : Nat) : Int := match ts[k]? with | some x => x | none => -1
theorem catch_idle (p : Addr) (w : World) :
    CallsD Try.prog 49 #[.pointer (some p)] .returning w fun e u' w' => e = .returned (.tuple #[]) ∧ u' = .returning ∧ w' = w := by
  refine callsD_of_wpS Try.func49 rfl fun c₀ cs hu => ?_
  apply wpS_seq
  apply wpS_region
  simp [wpOpsS, go_sem, recoverD, hu, Try.ntmps49, Exit.thenS]
  refine wpS_cond (t := false) (by simp [Act.eval, Array.replicate]) ?_
  simp only [Bool.false_eq_true, if_false]
  refine wpS_of_wp (wp_skip ?_)
  cases c₀
  simp_all [bodyPostS, results, Try.results49]
theorem Sn.lt {W : World} {base tb tc : Nat} {ta : Option Addr} {va : Value} {ts asked : List Int} (h : Sn W base tb ta tc va ts asked) : tb < W.heap.size := (Array.getElem?_eq_some_iff.1 h.box).1
theorem Sn.below {W W' : World} {base tb tc : Nat} {ta : Option Addr} {va : Value} {ts asked : List Int} (h : Sn W base tb ta tc va ts asked) (hb : Below W.heap.size W W') : Sn W' base tb ta tc va ts asked :=
  ⟨(hb.block tb h.lt).trans h.box, h.rd.below (Nat.le_refl _) hb, ⟨h.row.1, h.row.2.imp id (fun ⟨g, cap, cur, h1, h2, h3, h4⟩ => ⟨g, cap, cur, h1, h2, (hb.block g (Array.getElem?_eq_some_iff.1 h3).1).trans h3, h4⟩)⟩, h.low, h.far⟩
theorem Sn.blk {W : World} {base tb tc g : Nat} {ta : Option Addr} {va : Value} {ts asked : List Int} (h : Sn W base tb ta tc va ts asked) (hg : va.ownBlock = some g) : ∃ cur, W.heap[g]? = some (.cells cur 3 (0, 0)) ∧ base ≤ g := by
  rcases h.row.2 with ⟨rfl, _⟩ | ⟨g', cap, cur, rfl, hb, hc, _⟩
  · cases hg
  · cases hg; exact ⟨cur, hc, hb⟩
theorem RdI.of_heap {W W' : World} {ta : Option Addr} {n tc : Nat} {ts : List Int} (h : RdI W (.slice ta n tc) ts) (hs : W.heap.size ≤ W'.heap.size) (he : ∀ g o, ta = some ⟨g, o, none⟩ → ts ≠ [] → W'.heap[g]? = W.heap[g]?) : RdI W' (.slice ta n tc) ts := by
  obtain ⟨a, c, e, hr⟩ := h
  cases e
  refine ⟨ta, tc, rfl, fun h0 => ?_⟩
  obtain ⟨g, o, e, hg, hc⟩ := hr h0
  refine ⟨g, o, e, by omega, fun k x hk => ?_⟩
  rw [World.cell?_of_block (he g o e h0)]
  exact hc k x hk
set_option maxRecDepth 100000 in
set_option maxHeartbeats 1000000 in
theorem snap_own {w : World} {base tb tc : Nat} {ta : Option Addr} {va : Value} {ts asked : List Int} (h : Sn w base tb ta tc va ts asked) (hb : base ≤ w.heap.size) (ht : ts.length ≤ 1048576) (ha : asked.length ≤ 1048576) {a : Int} :
    Calls Try.prog 90 #[.pointer (some ⟨tb, 0, none⟩), .int .i64 a] w fun e w' => e = .returned (.int .i64 (nxt ts asked.length)) ∧ ∃ va', Sn w' base tb ta tc va' ts (asked ++ [a]) ∧ Ch tb va.ownBlock w w' ∧ Nx w va.ownBlock va'.ownBlock := by
  obtain ⟨i0, hi, hz0, hz1, hz2⟩ := info_parts infoI
  have HH : Hid (Sn w base tb ta tc va ts asked) := h
  obtain ⟨N, hN⟩ : ∃ N, ts.length = N := ⟨_, rfl⟩
  obtain ⟨K, hK⟩ : ∃ K, asked.length = K := ⟨_, rfl⟩
  have c0 : w.cell? ⟨tb, 0, none⟩ = some (.slice ta N tc) := by simp [World.cell?, h.box, hN]
  have c1 : w.cell? ⟨tb, 1, none⟩ = some va := by simp [World.cell?, h.box]
  have HN : Hid (ts.length = N ∧ asked.length = K) := ⟨hN, hK⟩
  have HO : Hid (w.ownsRow base 3 1 va K (asked.map (.int .i64))) := by have := h.row; rw [hK] at this; exact this
  have hlt := h.lt
  have HNB : Hid (va.ownBlock ≠ some tb) := fun e => by
    obtain ⟨cur, hc, _⟩ := h.blk e
    have := h.box; rw [hc] at this; injection this with this; injection this with _ ht _; exact absurd ht (by decide)
  have HS : Hid (∀ w3 va3, (w.alloc (.cells #[.int .i64 a] 3)).grownBy w3 va.ownBlock → w3.ownsRow base 3 1 va3 (K + 1) ((asked ++ [a]).map (.int .i64)) → (va3.ownBlock = va.ownBlock ∨ va3.ownBlock = some (w.heap.size + 1)) →
      w3.cell? ⟨tb, 0, none⟩ = some (.slice ta N tc) ∧ w3.cell? ⟨tb, 1, none⟩ = some va ∧ w3.frozen? ⟨tb, 1, none⟩ = false ∧ Sn (w3.setCell ⟨tb, 1, none⟩ va3) base tb ta tc va3 ts (asked ++ [a]) ∧ Ch tb va.ownBlock w (w3.setCell ⟨tb, 1, none⟩ va3) ∧ Nx w va.ownBlock va3.ownBlock) := fun w3 va3 hg hr ho => by
    have hb1 : Below w.heap.size w (w.alloc (.cells #[.int .i64 a] 3)) := (Below.refl _ w).alloc (Nat.le_refl _) _
    have hbx : w3.heap[tb]? = some (.cells #[.slice ta ts.length tc, va] 44 (0, 0)) := (hg.block tb (by have := hb1.size; omega) (fun e => HNB.out e.symm)).trans ((hb1.block tb hlt).trans h.box)
    have hx := set1 (i := 1) va3 hbx
    have hgc := gcell w3 tb 1 va3
    have hsz := Nat.le_trans hb1.size hg.size
    have hne3 : va3.ownBlock ≠ some tb := fun e => by
      rcases ho with ho | ho
      · exact HNB.out (ho ▸ e)
      · rw [ho] at e; cases e; omega
    have hch : Ch tb va.ownBlock w (w3.setCell ⟨tb, 1, none⟩ va3) := ⟨(hgc.os.trans hg.os).trans hb1.os, (hgc.tape.trans hg.tape).trans hb1.tape, (hgc.output.trans hg.output).trans hb1.output, Nat.le_trans hsz hgc.size, fun k hk h1 h2 => (hgc.block k (by omega) (fun e => h1 (Option.some.inj e))).trans ((hg.block k (by have := hb1.size; omega) (fun e => h2 e.symm)).trans (hb1.block k hk))⟩
    refine ⟨by simp [World.cell?, hbx, hN], by simp [World.cell?, hbx], by simp [World.frozen?, hbx], ⟨hx, h.rd.of_heap hch.2.2.2.1 (fun g o e h0 => ?_), ?_, h.low, fun g o e h0 => ?_⟩, hch, fun k hk => ?_⟩
    · obtain ⟨_, _, e2, hr2⟩ := h.rd
      cases e2
      obtain ⟨g2, o2, e2, hg2, _⟩ := hr2 h0
      rw [e] at e2
      cases e2
      refine hch.2.2.2.2 g hg2 (fun e3 => ?_) (fun e3 => ?_)
      · rcases h.far g o e h0 with h1 | h1
        · have := h.low; omega
        · exact h1.2 e3
      · rcases h.far g o e h0 with h1 | h1
        · obtain ⟨_, _, h2⟩ := h.blk e3; omega
        · exact h1.1 e3
    · have := hr.kept hgc (.inr hne3)
      rw [List.length_append, hK]
      exact this
    · rcases h.far g o e h0 with h1 | h1
      · exact .inl h1
      · refine .inr ⟨fun e3 => ?_, h1.2⟩
        rcases ho with ho | ho
        · exact h1.1 (ho ▸ e3)
        · rw [ho] at e3
          cases e3
          obtain ⟨_, _, e2, hr2⟩ := h.rd
          cases e2
          obtain ⟨g2, o2, e2, hg2, _⟩ := hr2 h0
          rw [e] at e2
          cases e2
          omega
    · rcases ho with ho | ho
      · exact .inl (ho ▸ hk)
      · rw [ho] at hk; cases hk; exact .inr (by omega)
  have htN : N ≤ 1048576 := hN ▸ ht
  rw [hK] at ha
  rw [hK]
  clear h hN hK hlt
  obtain ⟨ra, rm, rc, hva⟩ := row_slice HO.out
  have hrm : rm = K := by
    rcases HO.out.2 with ⟨e, e2⟩ | ⟨g, cap, cur, e, _⟩
    · rw [hva] at e; cases e; exact e2.symm
    · rw [hva] at e; cases e; rfl
  subst hva hrm
  obtain ⟨x, hx⟩ : ∃ x, nxt ts rm = x := ⟨_, rfl⟩
  have HX : Hid (nxt ts rm = x) := hx
  rw [hx]
  clear hx
  have HRD : Hid (∀ w4 va4, Sn w4 base tb ta tc va4 ts (asked ++ [a]) → rm < N → ∃ g o, ta = some ⟨g, o, none⟩ ∧ w4.cell? ⟨g, o + rm, none⟩ = some (.int .i64 x)) := fun w4 va4 hs hlt => by
    obtain ⟨y, hy⟩ : ∃ y, ts[rm]? = some y := ⟨ts[rm]'(by rw [HN.out.1]; exact hlt), List.getElem?_eq_getElem _⟩
    obtain ⟨_, _, e2, hr2⟩ := hs.rd
    cases e2
    obtain ⟨g, o, e, hg, hc⟩ := hr2 (fun e => by rw [e] at hy; cases hy)
    have e2 := HX.out
    unfold nxt at e2
    rw [hy] at e2
    simp only at e2
    exact ⟨g, o, e, e2 ▸ hc rm y hy⟩
  have HL : Hid (∀ w4 va4, Sn w4 base tb ta tc va4 ts (asked ++ [a]) → w4.cell? ⟨tb, 0, none⟩ = some (.slice ta N tc) ∧ ∃ a4 c4, va4 = .slice a4 (rm + 1) c4 ∧ w4.cell? ⟨tb, 1, none⟩ = some (.slice a4 (rm + 1) c4)) := fun w4 va4 hs => by
    refine ⟨by simp [World.cell?, hs.box, HN.out.1], ?_⟩
    have hl : (asked ++ [a]).length = rm + 1 := by rw [List.length_append, HN.out.2]; rfl
    rcases hs.row.2 with ⟨_, e2⟩ | ⟨g, cap, cur, e, _⟩
    · omega
    · rw [hl] at e
      exact ⟨_, _, e, by simp [World.cell?, hs.box, e]⟩
  go_enter Try.func90, Try.ntmps90
  go_upto_region 2 with (first
    | (at_builtin; refine wpList_append_own_at _ rfl _ _ 39 rfl base 3 i0 _ 1 8 Try.underlying39 hi hz0 hz1 hz2 rfl (by decide) (.slice ra rm rc) rm (asked.map (.int .i64)) rfl (HO.out.alloc _) ⟨w.heap.size, 0, none⟩ 1 1 [.int .i64 a] rfl rfl (World.news_of_block (World.alloc_heap_new w _)) (by simp [Value.oneCell']) (by unfold maxLen; omega) (by omega) (by simp; omega) ?_; intro v' w3 hown hg _ hob; obtain ⟨q0, q1, q2, HS3⟩ := HS.out w3 v' hg (by rw [List.map_append]; exact hown) (hob.imp id (fun e => by simpa using e)); have HS4 : Hid _ := HS3; clear hown hg hob HS HS3 c0 c1; obtain ⟨a4, c4, hv4, _⟩ := (HL.out _ _ HS4.out.1).2; subst hv4))
  obtain ⟨r0, a5, c5, ev5, r1⟩ := HL.out _ _ HS4.out.1
  cases ev5
  obtain ⟨w5, hw5⟩ : ∃ w5, w3.setCell ⟨tb, 1, none⟩ (.slice a4 (rm + 1) c4) = w5 := ⟨_, rfl⟩
  rw [hw5] at HS4 r0 r1 ⊢
  have HY : Hid (∀ W', Below w5.heap.size w5 W' → ∃ va', Sn W' base tb ta tc va' ts (asked ++ [a]) ∧ Ch tb (Value.slice ra rm rc).ownBlock w W' ∧ Nx w (Value.slice ra rm rc).ownBlock va'.ownBlock) := fun W' hb => ⟨_, HS4.out.1.below hb, HS4.out.2.1.transx HS4.out.2.2 (Ch.below hb), HS4.out.2.2⟩
  by_cases hlt : rm < N
  · obtain ⟨g, o, rfl, hgc⟩ := HRD.out _ _ HS4.out.1 hlt
    clear q0 q1 q2 hw5 HL HRD
    have hd : decide ((N : Int) < (rm : Int) + 1) = false := decide_eq_false (by omega)
    have hw1 : IntKind.i64.wrap ((rm : Int) + 1 - 1) = (rm : Int) := by rw [show (rm : Int) + 1 - 1 = (rm : Int) by omega]; exact wi64 (by omega) (by omega)
    go_quiet (fail)
    go_wp2
    go_quiet (fail)
    go_wp2
    go_ret
    exact ⟨rfl, HY.out _ ⟨rfl, rfl, rfl, Nat.le_refl _, fun _ _ => rfl⟩⟩
  · clear q0 q1 q2 hw5 HL HRD
    have hd : decide ((N : Int) < (rm : Int) + 1) = true := decide_eq_true (by omega)
    have hxm : x = -1 := by
      have := HX.out
      unfold nxt at this
      rw [List.getElem?_eq_none (by rw [HN.out.1]; omega)] at this
      exact this.symm
    have HXM : Hid (x = -1) := hxm
    clear hxm
    go_quiet (fail)
    go_wp2
    go_ret
    exact ⟨congrArg (fun z => Ending.returned (.int .i64 z)) HXM.out.symm, HY.out _ ⟨rfl, rfl, rfl, Nat.le_refl _, fun _ _ => rfl⟩⟩
set_option maxRecDepth 100000 in
theorem ask_own {w : World} {base tb tc : Nat} {ta : Option Addr} {va : Value} {ts asked : List Int} (h : Sn w base tb ta tc va ts asked) (hb : base ≤ w.heap.size) (ht : ts.length ≤ 1048576) (ha : asked.length ≤ 1048576) {a : Int} :
    Calls Try.prog 40 #[.iface 42 (.pointer (some ⟨tb, 0, none⟩)), .int .i64 a] w fun e w' => e = .returned (.int .i64 (nxt ts asked.length)) ∧ ∃ va', Sn w' base tb ta tc va' ts (asked ++ [a]) ∧ Ch tb va.ownBlock w w' ∧ Nx w va.ownBlock va'.ownBlock := by
  have hmf : ∀ (fn : Fn) (first cap : Array Value) (w : World), (Instr.makeFunc fn first cap).run Try.prog w = .ok (.func fn first cap) w := fun _ _ _ _ => rfl
  have hmt : ∀ W, (method 227 42 (.pointer (some ⟨tb, 0, none⟩)) "Snap").run Try.prog W = .ok (90, .pointer (some ⟨tb, 0, none⟩)) W := fun W => by kernel_rfl
  have hb1 : Below w.heap.size w (w.alloc (.cells #[.int .i64 0] 3)) := (Below.refl _ w).alloc (Nat.le_refl _) _
  have CS := snap_own (h.below hb1) (Nat.le_trans hb hb1.size) ht ha (a := a)
  obtain ⟨x, hx⟩ : ∃ x, nxt ts asked.length = x := ⟨_, rfl⟩
  rw [hx] at CS ⊢
  have HT : Hid (tb < w.heap.size ∧ (∀ g, va.ownBlock = some g → g < w.heap.size) ∧ Below w.heap.size w (w.alloc (.cells #[.int .i64 0] 3))) := ⟨h.lt, fun g hg => by obtain ⟨cur, hc, _⟩ := h.blk hg; exact (Array.getElem?_eq_some_iff.1 hc).1, hb1⟩
  have HSB : Hid (∀ va' : Value, Nx (w.alloc (.cells #[.int .i64 0] 3)) va.ownBlock va'.ownBlock → va'.ownBlock ≠ some w.heap.size) := fun va' hn e => by
    rcases hn _ e with e2 | e2
    · obtain ⟨cur, hc, _⟩ := h.blk e2
      have := (Array.getElem?_eq_some_iff.1 hc).1
      omega
    · simp at e2; omega
  have HFR : Hid (∀ g o, ta = some ⟨g, o, none⟩ → ts ≠ [] → g < w.heap.size) := fun g o e h0 => by
    obtain ⟨_, _, e2, hr2⟩ := h.rd
    cases e2
    obtain ⟨g2, o2, e2, hg2, _⟩ := hr2 h0
    rw [e] at e2
    cases e2
    exact hg2
  clear hx h hb1
  go_enter_defers Try.func40, Try.ntmps40
  go_wp2_with (first | (go_at_call 90; refine CS.mono ?_; clear CS; rintro e w2 ⟨rfl, va2, hs2, hc2, hn2⟩; have H2 : Hid (Sn w2 base tb ta tc va2 ts (asked ++ [a]) ∧ Ch tb va.ownBlock (w.alloc (.cells #[.int .i64 0] 3)) w2 ∧ Nx (w.alloc (.cells #[.int .i64 0] 3)) va.ownBlock va2.ownBlock) := ⟨hs2, hc2, hn2⟩; have hbk : w2.heap[w.heap.size]? = some (.cells #[.int .i64 0] 3 (0, 0)) := (hc2.2.2.2.2 w.heap.size (by simp) (by have := HT.out.1; omega) (fun e => by have := HT.out.2.1 _ e; omega)).trans (World.alloc_heap_new w _); have d0 : w2.cell? ⟨w.heap.size, 0, none⟩ = some (.int .i64 0) := (by simp [World.cell?, hbk]); have d1 : w2.frozen? ⟨w.heap.size, 0, none⟩ = false := (by simp [World.frozen?, hbk]); have HBK : Hid (w2.heap[w.heap.size]? = some (.cells #[.int .i64 0] 3 (0, 0))) := hbk; clear hs2 hc2 hn2 hbk))
  refine leaves_cons (f := 49) (args := #[.pointer (some ⟨w.heap.size, 0, none⟩)]) (by simp) (by simp [go_sem]) ?_
  refine (catch_idle ⟨w.heap.size, 0, none⟩ _).mono ?_
  rintro e u' w'' ⟨rfl, rfl, rfl⟩
  have hgc := gcell w2 w.heap.size 0 (.int .i64 x)
  have hx2 := set1 (i := 0) (.int .i64 x) HBK.out
  have d2 : (w2.setCell ⟨w.heap.size, 0, none⟩ (.int .i64 x)).cell? ⟨w.heap.size, 0, none⟩ = some (.int .i64 x) := by simp [World.cell?, hx2]
  have HFIN : ∃ va', Sn (w2.setCell ⟨w.heap.size, 0, none⟩ (.int .i64 x)) base tb ta tc va' ts (asked ++ [a]) ∧ Ch tb va.ownBlock w (w2.setCell ⟨w.heap.size, 0, none⟩ (.int .i64 x)) ∧ Nx w va.ownBlock va'.ownBlock := by
    obtain ⟨h1, h2, h3⟩ := H2.out
    have hsz := h2.2.2.2.1
    have hsz0 := HT.out.2.2.size
    refine ⟨va2, ⟨(hgc.block tb h1.lt (fun e => by have := HT.out.1; have := Option.some.inj e; omega)).trans h1.box, h1.rd.of_heap hgc.size (fun g o e h0 => ?_), h1.row.kept hgc (.inr (HSB.out _ h3)), h1.low, h1.far⟩, ⟨(hgc.os.trans h2.1).trans HT.out.2.2.os, (hgc.tape.trans h2.2.1).trans HT.out.2.2.tape, (hgc.output.trans h2.2.2.1).trans HT.out.2.2.output, Nat.le_trans (Nat.le_trans hsz0 hsz) hgc.size, fun k hk e1 e2 => (hgc.block k (by omega) (fun e => by have := Option.some.inj e; omega)).trans ((h2.2.2.2.2 k (by omega) e1 e2).trans (HT.out.2.2.block k hk))⟩, (Nx.refl _ _).trans hsz0 h3⟩
    have := HFR.out g o e h0
    exact hgc.block g (by omega) (fun e => by have := Option.some.inj e; omega)
  simp [Leaves, settle, results, Try.results40, go_sem, d2]
  exact HFIN
/-- where a mark goes by the Snapper's answer -/
def ans (ts : List Int) (k : Nat) (a : Int) : Int := if 0 ≤ nxt ts k then nxt ts k else a
def snl (ts : List Int) : Nat → Ml → Ml
  | _, [] => []
  | k, p :: L => (p.1, ans ts k p.2) :: snl ts (k + 1) L
def wn (ts : List Int) : Nat → Ml → Nat
  | _, [] => 0
  | k, p :: L => (if ans ts k p.2 = p.2 then 0 else 1) + wn ts (k + 1) L
theorem snl_snoc {ts : List Int} {p : Nat × Int} : ∀ {L : Ml} {k : Nat}, snl ts k (L ++ [p]) = snl ts k L ++ [(p.1, ans ts (k + L.length) p.2)]
  | [], k => rfl
  | q :: L, k => by
    show _ :: snl ts (k + 1) (L ++ [p]) = _
    rw [snl_snoc, List.length_cons, show k + 1 + L.length = k + (L.length + 1) by omega]
    rfl
theorem wn_snoc {ts : List Int} {p : Nat × Int} : ∀ {L : Ml} {k : Nat}, wn ts k (L ++ [p]) = wn ts k L + (if ans ts (k + L.length) p.2 = p.2 then 0 else 1)
  | [], k => by show _ + 0 = 0 + _; rw [Nat.zero_add, Nat.add_zero]; rfl
  | q :: L, k => by
    show _ + wn ts (k + 1) (L ++ [p]) = _ + wn ts (k + 1) L + _
    rw [wn_snoc, List.length_cons, show k + 1 + L.length = k + (L.length + 1) by omega, Nat.add_assoc]
theorem snl_len {ts : List Int} : ∀ {L : Ml} {k : Nat}, (snl ts k L).length = L.length
  | [], _ => rfl
  | q :: L, k => by show (snl ts (k + 1) L).length + 1 = _; rw [snl_len]; rfl
theorem wn_le {ts : List Int} : ∀ {L : Ml} {k : Nat}, wn ts k L ≤ L.length
  | [], _ => Nat.le_refl _
  | q :: L, k => by have := wn_le (ts := ts) (L := L) (k := k + 1); show _ + wn ts (k + 1) L ≤ L.length + 1; split <;> omega
theorem snl_names {ts : List Int} : ∀ {L : Ml} {k : Nat}, (snl ts k L).map (·.1) = L.map (·.1)
  | [], _ => rfl
  | q :: L, k => by show q.1 :: (snl ts (k + 1) L).map (·.1) = _; rw [snl_names]; rfl
theorem snl_mem {ts : List Int} {p : Nat × Int} : ∀ {L : Ml} {k : Nat}, p ∈ snl ts k L → ∃ q j, q ∈ L ∧ p = (q.1, ans ts j q.2)
  | q :: L, k, h => by
    rcases List.mem_cons.1 h with rfl | h
    · exact ⟨q, k, List.mem_cons_self, rfl⟩
    · obtain ⟨r, j, hr, e⟩ := snl_mem h
      exact ⟨r, j, List.mem_cons_of_mem _ hr, e⟩
theorem nxt_ok {ts : List Int} (h : ∀ x ∈ ts, i64ok x) (k : Nat) : i64ok (nxt ts k) := by
  unfold nxt
  cases e : ts[k]? with
  | none => unfold i64ok; simp only; omega
  | some x => exact h x (List.mem_of_getElem? e)
theorem ans_ok {ts : List Int} (h : ∀ x ∈ ts, i64ok x) {k : Nat} {a : Int} (ha : i64ok a) : i64ok (ans ts k a) := by
  unfold ans
  split
  · exact nxt_ok h k
  · exact ha
theorem Gdl.snl {ts : List Int} {L : Ml} {k : Nat} (h : Gdl L) : Gdl (snl ts k L) := fun p hp => by
  obtain ⟨q, j, hq, rfl⟩ := snl_mem hp
  exact h q hq
theorem Nng.snl {ts : List Int} {L : Ml} {k : Nat} (h : Nng L) : Nng (snl ts k L) := fun p hp => by
  obtain ⟨q, j, hq, rfl⟩ := snl_mem hp
  show 0 ≤ ans ts j q.2
  unfold ans
  split
  · assumption
  · exact h q hq
/-- what stays while the marks are asked for -/
structure Sx (w : World) (base sb b tb tc : Nat) (ta : Option Addr) (va0 : Value) (ts : List Int) (g n c : Nat) (L : Ml) (k : Nat) (X : Ml) (va : Value) (W : World) : Prop where
  st : St W sb (some b) X
  sn : Sn W base tb ta tc va ts ((L.take k).map (·.2))
  rd : RdK W (.slice (some ⟨g, 0, none⟩) n c) L
  ty : ∃ cur, W.heap[g]? = some (.cells cur 26 (0, 0))
  ch : PCh sb (some b) tb va0.ownBlock w W
  nx : Nx w va0.ownBlock va.ownBlock
theorem Sx.below {w W W' : World} {base sb b tb tc : Nat} {ta : Option Addr} {va0 va : Value} {ts : List Int} {g n c : Nat} {L X : Ml} {k : Nat} (h : Sx w base sb b tb tc ta va0 ts g n c L k X va W) (hb : Below W.heap.size W W') : Sx w base sb b tb tc ta va0 ts g n c L k X va W' :=
  ⟨h.st.below hb, h.sn.below hb, h.rd.below (Nat.le_refl _) hb, (by obtain ⟨cur, hc⟩ := h.ty; exact ⟨cur, (hb.block g (Array.getElem?_eq_some_iff.1 hc).1).trans hc⟩), h.ch.trans (Nx.refl _ _) h.nx (.below hb), h.nx⟩
/-- one is asked -/
theorem Sx.asked {w W W' : World} {base sb b tb tc : Nat} {ta : Option Addr} {va0 va va' : Value} {ts : List Int} {g n c : Nat} {L X : Ml} {k : Nat} {p : Nat × Int} (h : Sx w base sb b tb tc ta va0 ts g n c L k X va W) (hp : L[k]? = some p)
    (hs : Sn W' base tb ta tc va' ts ((L.take k).map (·.2) ++ [p.2])) (hc : Ch tb va.ownBlock W W') (hn : Nx W va.ownBlock va'.ownBlock) : Sx w base sb b tb tc ta va0 ts g n c L (k + 1) X va' W' := by
  have nb : ∀ (q : Nat) (cur : Array Value) (t : TypeId), W.heap[q]? = some (Obj.cells cur t (0, 0)) → t ≠ 44 → t ≠ 3 → W'.heap[q]? = W.heap[q]? := fun q cur t hq h1 h2 => hc.2.2.2.2 q (Array.getElem?_eq_some_iff.1 hq).1 (fun e => by
      rw [e, h.sn.box] at hq; injection hq with hq; injection hq with _ ht _; exact h1 ht.symm) (fun e => by
      obtain ⟨cur2, h3, _⟩ := h.sn.blk e; rw [h3] at hq; injection hq with hq; injection hq with _ ht _; exact h2 ht.symm)
  have nm : W'.heap[b]? = W.heap[b]? := hc.2.2.2.2 b (h.st.own b rfl).2.lt (fun e => by
      obtain ⟨es, clock, hb, _⟩ := (h.st.own b rfl).2.1; rw [e, h.sn.box] at hb; cases hb) (fun e => by
      obtain ⟨es, clock, hb, _⟩ := (h.st.own b rfl).2.1; obtain ⟨cur2, h3, _⟩ := h.sn.blk e; rw [h3] at hb; cases hb)
  obtain ⟨cur, hcur⟩ := h.ty
  refine ⟨⟨(nb _ _ _ h.st.box (by decide) (by decide)).trans h.st.box, fun e => (by cases e), fun b' e => (by cases e; exact ⟨(h.st.own b rfl).1, (h.st.own b rfl).2.of_heap nm⟩)⟩, ?_, h.rd.of_block (nb _ _ _ hcur (by decide) (by decide)) (by have := (Array.getElem?_eq_some_iff.1 hcur).1; have := hc.2.2.2.1; omega), ⟨cur, (nb _ _ _ hcur (by decide) (by decide)).trans hcur⟩, h.ch.trans (Nx.refl _ _) h.nx (.ofR hc), h.nx.trans h.ch.2.2.2.1 hn⟩
  rw [List.take_add_one, hp, List.map_append]
  exact hs
/-- a mark is brought where the answer says -/
theorem Sx.put {w W W' : World} {base sb b tb tc : Nat} {ta : Option Addr} {va0 va : Value} {ts : List Int} {g n c : Nat} {L X Y : Ml} {k : Nat} (h : Sx w base sb b tb tc ta va0 ts g n c L k X va W) (hg : W.grownBy W' (some b)) (hm : Mp W' b Y) : Sx w base sb b tb tc ta va0 ts g n c L k Y va W' := by
  have ht := h.st.turned hg hm
  have nb : ∀ (q : Nat) (cur : Array Value) (t : TypeId), W.heap[q]? = some (Obj.cells cur t (0, 0)) → W'.heap[q]? = W.heap[q]? := fun q cur t hq => hg.block q (Array.getElem?_eq_some_iff.1 hq).1 (fun e => by
      obtain ⟨es, clock, hb, _⟩ := (h.st.own b rfl).2.1; rw [← Option.some.inj e, hq] at hb; cases hb)
  obtain ⟨cur, hcur⟩ := h.ty
  refine ⟨ht.1, ⟨(nb _ _ _ h.sn.box).trans h.sn.box, h.sn.rd.of_heap hg.size (fun g o e h0 => ?_), ⟨h.sn.row.1, h.sn.row.2.imp id (fun ⟨g, cap, cur, h1, h2, h3, h4⟩ => ⟨g, cap, cur, h1, h2, (nb _ _ _ h3).trans h3, h4⟩)⟩, h.sn.low, h.sn.far⟩, h.rd.of_block (nb _ _ _ hcur) (by have := (Array.getElem?_eq_some_iff.1 hcur).1; have := hg.size; omega), ⟨cur, (nb _ _ _ hcur).trans hcur⟩, h.ch.trans (Nx.refl _ _) h.nx (.ofS ht.2), h.nx⟩
  obtain ⟨_, _, e2, hr2⟩ := h.sn.rd
  cases e2
  obtain ⟨g2, o2, e2, hg2, hc2⟩ := hr2 h0
  rw [e] at e2
  cases e2
  refine hg.block g hg2 (fun e3 => ?_)
  obtain ⟨es, clock, hb, _⟩ := (h.st.own b rfl).2.1
  obtain ⟨x, hx⟩ : ∃ x, ts[0]? = some x := by cases ts with | nil => exact absurd rfl h0 | cons x r => exact ⟨x, rfl⟩
  have := hc2 0 x hx
  rw [Option.some.inj e3] at this
  simp [World.cell?, hb] at this
theorem iface_nn (v : Value) (w : World) : (binOp .eql 72 (.iface 42 v) .nilIface).run Try.prog w = .ok (.bool false) w := by kernel_rfl
theorem iface_nil (w : World) : (binOp .eql 72 .nilIface .nilIface).run Try.prog w = .ok (.bool true) w := by kernel_rfl
/-- with no Snapper nothing is asked -/
theorem snap_nil (r : Value) (w : World) : Calls Try.prog 15 #[r, .nilIface] w fun e w' => e = .returned (.int .i64 0) ∧ w' = w := by
  have hq := iface_nil
  go_enter Try.func15, Try.ntmps15
  go_wp2
  go_ret
  exact ⟨rfl, rfl⟩
set_option maxRecDepth 100000 in
/-- of a set without marks nothing is asked -/
theorem snap_emp {w : World} (r u : Value) (mb : Option Nat) (hA : Calls Try.prog 39 #[r] w fun e w' => e = .returned (.map mb) ∧ w' = w) (hB : Calls Try.prog 25 #[r] w fun e W' => ∃ v, e = .returned v ∧ W'.ownsRow w.heap.size 26 2 v 0 [] ∧ Below w.heap.size w W') :
    Calls Try.prog 15 #[r, .iface 42 u] w fun e w' => e = .returned (.int .i64 0) ∧ Below w.heap.size w w' := by
  have hq := iface_nn u
  go_enter Try.func15, Try.ntmps15
  go_wp2_with (first
    | (go_at_call 39; refine hA.mono ?_; clear hA; rintro e w1 ⟨rfl, rfl⟩)
    | (go_at_call 25; refine hB.mono ?_; clear hB; rintro e w2 ⟨v1, rfl, hr1, hb1⟩; have H1 : Hid (Below w1.heap.size w1 w2) := hb1; clear hb1; obtain ⟨ta, tc, rfl⟩ : ∃ ta tc, v1 = .slice ta 0 tc := (by rcases hr1.2 with ⟨rfl, _⟩ | ⟨g, cap, cur, rfl, _⟩ <;> exact ⟨_, _, rfl⟩); clear hr1))
  go_loopw [6, 17] (fun t6 t17 wr => t6 = .int .i64 0 ∧ t17 = .int .i64 0 ∧ wr = w2) (fun _ _ _ => 0)
  case atStart => exact ⟨rfl, rfl, rfl⟩
  case round =>
    obtain ⟨rfl, rfl, rfl⟩ := hrel
    go_wp2
    go_ret
    exact ⟨rfl, H1.out⟩
set_option maxRecDepth 100000 in
set_option maxHeartbeats 2000000 in
theorem snap_any {w : World} {sb : Nat} {mb : Option Nat} {L : Ml} (h : St w sb mb L) (hg : Gdl L) {base tb tc : Nat} {ta : Option Addr} {va : Value} {ts : List Int} (hs : Sn w base tb ta tc va ts []) (hb : base ≤ w.heap.size) (ht : ts.length ≤ 1048576) (hok : ∀ x ∈ ts, i64ok x) :
    Calls Try.prog 15 #[.pointer (some ⟨sb, 0, none⟩), .iface 42 (.pointer (some ⟨tb, 0, none⟩))] w fun e w' => e = .returned (.int .i64 (wn ts 0 L : Nat)) ∧ St w' sb mb (snl ts 0 L) ∧ ∃ va', Sn w' base tb ta tc va' ts (L.map (·.2)) ∧ PCh sb mb tb va.ownBlock w w' ∧ Nx w va.ownBlock va'.ownBlock := by
  rcases hL : L with _ | ⟨q0, r0⟩
  · subst hL
    refine (snap_emp _ _ mb (all_any h) (All_any h hg)).mono ?_
    rintro e w' ⟨rfl, hb1⟩
    exact ⟨rfl, h.below hb1, va, hs.below hb1, .below hb1, Nx.refl _ _⟩
  · rw [← hL]
    have hL0 : L ≠ [] := by rw [hL]; simp
    clear hL
    cases mb with
    | none => exact absurd (h.nil rfl) hL0
    | some b =>
      have CA := all_any h
      have hq := iface_nn (.pointer (some ⟨tb, 0, none⟩))
      have hl27 := len27 h.ris.1 hg
      have CB : Hid (Calls Try.prog 25 #[.pointer (some ⟨sb, 0, none⟩)] w fun e W' => ∃ g c, e = .returned (.slice (some ⟨g, 0, none⟩) L.length c) ∧ (∃ cur, W'.heap[g]? = some (.cells cur 26 (0, 0))) ∧ RdK W' (.slice (some ⟨g, 0, none⟩) L.length c) L ∧ Below w.heap.size w W') := by
        refine (All_any h hg).mono ?_
        rintro e W' ⟨v, rfl, hr, hb⟩
        have hk := RdK.of_row hr
        rcases hr.2 with ⟨rfl, hz⟩ | ⟨g, c, cur, rfl, hbg, hg, _⟩
        · exact absurd (List.eq_nil_of_length_eq_zero hz) hL0
        · exact ⟨g, c, rfl, ⟨cur, hg⟩, hk, hb⟩
      have HS : Hid (St w sb (some b) L ∧ Sn w base tb ta tc va ts [] ∧ base ≤ w.heap.size ∧ ts.length ≤ 1048576 ∧ ∀ x ∈ ts, i64ok x) := ⟨h, hs, hb, ht, hok⟩
      obtain ⟨M, hM⟩ : ∃ M, L.length = M := ⟨_, rfl⟩
      rw [hM] at CB hl27
      have HM : Hid (L.length = M) := hM
      have hkp : ∀ n : Nat, n < 256 → keyOf Try.prog 5 (.int .u8 (n : Int)) = some (.int .u8 (n : Int)) := fun n h => key8 h
      have HKP : Hid (∀ n : Nat, n < 256 → keyOf Try.prog 5 (.int .u8 (n : Int)) = some (.int .u8 (n : Int))) := hkp
      clear h hg hs hb ht hok hL0 hM hkp
      go_enter Try.func15, Try.ntmps15
      go_wp2_with (first
        | (go_at_call 39; refine CA.mono ?_; clear CA; rintro e w1 ⟨rfl, rfl⟩)
        | (go_at_call 25; refine CB.out.mono ?_; clear CB; rintro e w2 ⟨g, c, rfl, hty, hrd, hb2⟩; have HX : Hid (Sx w1 base sb b tb tc ta va ts g M c L 0 L va w2) := ⟨HS.out.1.below hb2, HS.out.2.1.below hb2, hrd, hty, .below hb2, Nx.refl _ _⟩; clear hty hrd hb2))
      go_loopw [6, 17] (fun t6 t17 wr => ∃ k : Nat, k ≤ M ∧ t17 = .int .i64 k ∧ ∃ z : Nat, z ≤ 27 ∧ t6 = .int .i64 z ∧ Hid (z = wn ts 0 (L.take k) ∧ ∃ va', Sx w1 base sb b tb tc ta va ts g M c L k (snl ts 0 (L.take k) ++ L.drop k) va' wr)) (fun _ t17 _ => M - (intOf t17).toNat)
      case atStart => exact ⟨0, Nat.zero_le _, rfl, 0, by omega, rfl, rfl, va, HX.out⟩
      case round =>
        obtain ⟨k, hk, rfl, z, hz, rfl, HK⟩ := hrel
        clear HX
        by_cases hlt : k < M
        · obtain ⟨p, hp⟩ : ∃ p, L[k]? = some p := ⟨L[k]'(by rw [HM.out]; exact hlt), List.getElem?_eq_getElem _⟩
          have hpf := HS.out.1.ris.2 p (List.mem_of_getElem? hp)
          obtain ⟨hzz, va', hsx⟩ := HK.out
          obtain ⟨a', cap', ev, hrd⟩ := hsx.rd
          obtain ⟨ea, hmq, rfl⟩ := Value.slice.inj ev
          obtain ⟨g', o', ev', hg, hcs⟩ := hrd (fun e => by rw [e] at hp; cases hp)
          rw [← ea] at ev'
          cases ev'
          obtain ⟨y0, y1⟩ := hcs k p hp
          rw [Nat.zero_add] at y0 y1
          obtain ⟨z0, z1⟩ := new2 wr (.int .u8 (p.1 : Int)) (.int .i64 p.2) 26
          have HX : Hid (Sx w1 base sb b tb tc ta va ts g M c L k (snl ts 0 (L.take k) ++ L.drop k) va' (wr.alloc (.cells #[.int .u8 (p.1 : Int), .int .i64 p.2] 26)) ∧ z = wn ts 0 (L.take k)) := ⟨hsx.below ((Below.refl _ wr).alloc (Nat.le_refl _) _), hzz⟩
          have HP : Hid (L[k]? = some p ∧ p.1 < 256 ∧ i64ok p.2) := ⟨hp, hpf⟩
          have HTK : Hid (L.take (k + 1) = L.take k ++ [p] ∧ (L.take k).length = k ∧ L.drop k = p :: L.drop (k + 1)) := by
            have hkl := (List.getElem?_eq_some_iff.1 hp)
            refine ⟨by rw [List.take_add_one, hp]; rfl, by rw [List.length_take]; omega, ?_⟩
            rw [List.drop_eq_getElem_cons hkl.1, hkl.2]
          have hkey := HKP.out p.1 hpf.1
          obtain ⟨x, hx⟩ : ∃ x, nxt ts k = x := ⟨_, rfl⟩
          have HN : Hid (nxt ts k = x ∧ i64ok x) := ⟨hx, hx ▸ nxt_ok HS.out.2.2.2.2 k⟩
          clear hrd hcs hp hpf hzz hsx ev hmq ea hg HKP hx HK
          go_upto_region 7 with fail
          clear y0 y1
          obtain ⟨xb, hxb⟩ : ∃ xb, wr.heap.size = xb := ⟨_, rfl⟩
          obtain ⟨W2, hW2⟩ : ∃ W2, wr.alloc (.cells #[.int .u8 (p.1 : Int), .int .i64 p.2] 26) = W2 := ⟨_, rfl⟩
          have HXB : Hid (∃ cur, W2.heap[xb]? = some (.cells cur 26 (0, 0))) := by
            rw [← hxb, ← hW2]; exact ⟨_, World.alloc_heap_new wr _⟩
          rw [hW2] at HX z0 z1 ⊢
          rw [hxb] at z0 z1 ⊢
          clear hxb hW2
          have CK : Calls Try.prog 40 #[.iface 42 (.pointer (some ⟨tb, 0, none⟩)), .int .i64 p.2] W2 fun e w' => e = .returned (.int .i64 x) ∧ ∃ va2, Sx w1 base sb b tb tc ta va ts g M c L (k + 1) (snl ts 0 (L.take k) ++ L.drop k) va2 w' ∧ w'.cell? ⟨xb, 0, none⟩ = some (.int .u8 (p.1 : Int)) ∧ w'.cell? ⟨xb, 1, none⟩ = some (.int .i64 p.2) := by
            have hlen : ((L.take k).map (·.2)).length = k := by rw [List.length_map]; exact HTK.out.2.1
            refine (ask_own HX.out.1.sn (Nat.le_trans HS.out.2.2.1 HX.out.1.ch.2.2.2.1) HS.out.2.2.2.1 (by rw [hlen]; omega)).mono ?_
            rintro e w' ⟨rfl, va2, hs2, hc2, hn2⟩
            rw [hlen, HN.out.1]
            refine ⟨rfl, va2, HX.out.1.asked HP.out.1 hs2 hc2 hn2, ?_⟩
            obtain ⟨cur, hcur⟩ := HXB.out
            have hblk : w'.heap[xb]? = W2.heap[xb]? := hc2.2.2.2.2 xb (Array.getElem?_eq_some_iff.1 hcur).1 (fun e => by
              rw [e, HX.out.1.sn.box] at hcur; injection hcur with hq; injection hq with _ ht _; exact absurd ht (by decide)) (fun e => by
              obtain ⟨cur2, h3, _⟩ := HX.out.1.sn.blk e; rw [h3] at hcur; injection hcur with hq; injection hq with _ ht _; exact absurd ht (by decide))
            exact ⟨(World.cell?_of_block hblk).trans z0, (World.cell?_of_block hblk).trans z1⟩
          have HSN : Hid (snl ts 0 (L.take (k + 1)) ++ L.drop (k + 1) = snl ts 0 (L.take k) ++ (p.1, ans ts k p.2) :: L.drop (k + 1) ∧ wn ts 0 (L.take (k + 1)) = wn ts 0 (L.take k) + (if ans ts k p.2 = p.2 then 0 else 1) ∧ snl ts 0 (L.take k) ++ L.drop k = snl ts 0 (L.take k) ++ (p.1, p.2) :: L.drop (k + 1)) := by
            refine ⟨?_, ?_, by rw [HTK.out.2.2]⟩
            · rw [HTK.out.1, snl_snoc, HTK.out.2.1, Nat.zero_add]; simp
            · rw [HTK.out.1, wn_snoc, HTK.out.2.1, Nat.zero_add]
          by_cases c1 : x < 0
          · have HA : Hid (ans ts k p.2 = p.2) := by show ans ts k p.2 = _; unfold ans; rw [HN.out.1, if_neg (by omega)]
            go_wp2_with (first
              | (go_at_call 40; refine CK.mono ?_; clear CK; rintro e w3 ⟨rfl, va2, hx3, d0, d1⟩; have HX3 : Hid _ := hx3; clear hx3))
            refine ⟨⟨k + 1, by omega, by go_num, z, hz, rfl, ?_, va2, ?_⟩, by simp [intOf]; omega⟩
            · have h1 := HSN.out.2.1; rw [HA.out, if_pos rfl] at h1; have := HX.out.2; omega
            · rw [HSN.out.1, HA.out, ← HSN.out.2.2]; exact HX3.out
          · by_cases c2 : x = p.2
            · have HA : Hid (ans ts k p.2 = p.2) := by show ans ts k p.2 = _; unfold ans; rw [HN.out.1, if_pos (by omega), c2]
              go_wp2_with (first
                | (go_at_call 40; refine CK.mono ?_; clear CK; rintro e w3 ⟨rfl, va2, hx3, d0, d1⟩; have HX3 : Hid _ := hx3; clear hx3))
              refine ⟨⟨k + 1, by omega, by go_num, z, hz, rfl, ?_, va2, ?_⟩, by simp [intOf]; omega⟩
              · have h1 := HSN.out.2.1; rw [HA.out, if_pos rfl] at h1; have := HX.out.2; omega
              · rw [HSN.out.1, HA.out, ← HSN.out.2.2]; exact HX3.out
            · have HA : Hid (ans ts k p.2 = x) := by show ans ts k p.2 = _; unfold ans; rw [HN.out.1, if_pos (by omega)]
              have HC2 : Hid (x ≠ p.2) := c2
              have c3 : (x == p.2) = false := by simpa using c2
              have c4 : decide (x = p.2) = false := decide_eq_false c2
              have hz27 : z < 27 := by
                have := HX.out.2
                have hw := wn_le (ts := ts) (L := L.take k) (k := 0)
                rw [HTK.out.2.1] at hw
                omega
              go_wp2_with (first
                | (go_at_call 40; refine CK.mono ?_; clear CK; rintro e w3 ⟨rfl, va2, hx3, d0, d1⟩; have HX3 : Hid (Sx w1 base sb b tb tc ta va ts g M c L (k + 1) (snl ts 0 (L.take k) ++ L.drop k) va2 w3) := hx3; clear hx3)
                | (at_mapUpdate; (refine wpList_mapUpdate_own _ rfl _ _ _ 47 rfl 5 3 law8 Try.underlying47 _ b _ _ rfl (HX3.out.st.own b rfl).2.1 (HX3.out.st.own b rfl).2.room _ _ _ rfl rfl hkey _ [] (plainElem_int Try.underlying3 (wf64 HN.out.2)) ?_; intro w4 hown4 hg4; have HX4 : Hid (Sx w1 base sb b tb tc ta va ts g M c L (k + 1) (snl ts 0 (L.take (k + 1)) ++ L.drop (k + 1)) va2 w4) := (by have hm := (HX3.out.st.own b rfl).2; rw [put_mk hm.2.1] at hown4; have hm2 : Mp w4 b (lay p.1 x (snl ts 0 (L.take k) ++ L.drop k)) := ⟨owns_tight hown4, hm.2.1.lay, hm.2.2.lay HP.out.2.1 HN.out.2⟩; have hr := hm.2.1; rw [HSN.out.2.2] at hr; rw [HSN.out.2.2, lay_at hr, ← HA.out, ← HSN.out.1] at hm2; exact HX3.out.put hg4 hm2); clear hown4 hg4))
                | go_in)
              refine ⟨⟨k + 1, by omega, by go_num, z + 1, by omega, by go_num, ?_, va2, HX4.out⟩, by simp [intOf]; omega⟩
              have h1 := HSN.out.2.1
              rw [HA.out, if_neg HC2.out] at h1
              have := HX.out.2
              omega
        · go_wp2
          go_ret
          obtain rfl : k = M := by omega
          obtain ⟨h1, va', h2⟩ := HK.out
          have e1 : L.take k = L := List.take_of_length_le (by rw [HM.out]; exact Nat.le_refl _)
          have e2 : L.drop k = [] := List.drop_eq_nil_of_le (by rw [HM.out]; exact Nat.le_refl _)
          have hst := h2.st
          have hsn := h2.sn
          rw [e1] at h1 hsn
          rw [e1, e2, List.append_nil] at hst
          exact ⟨congrArg (fun z : Nat => Ending.returned (.int .i64 (z : Int))) h1, hst, va', hsn, h2.ch, h2.nx⟩
end Go.Proofs.Ytolafffpgkgadaa
