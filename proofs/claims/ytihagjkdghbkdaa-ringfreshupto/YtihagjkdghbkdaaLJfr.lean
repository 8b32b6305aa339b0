/-
  The walk of the law RingFresh: lists that are answered share no memory with the ring, nor with one another. Conditions: what the law reads is of at most 1048576 values and letters.
-/
import Derived.Test.YtihagjkdghbkdaaJLk
import Derived.Lib.AppendZeros
import Derived.Laws.CopyRow
namespace Go.Proofs.Ytihagjkdghbkdaa
open Go.RowKit

/-- append(a, make([]string, 40)...): whatever room there is, no other row is turned -/
theorem app_zeros {W : World} {base n : Nat} {v : Value} {xs : List Value} (h : W.ownsRow base 9 1 v n xs) (hn : n ≤ 1048576) : ∃ v' W', (Builtin.append_ #[35, 3] 35 #[v, .int .i64 40]).run Try.prog W = .ok v' W' ∧ W.grownBy W' v.ownBlock := by
  obtain ⟨i, hi, hz0, hz1, hz2⟩ := info_parts infoS
  have hw : IntKind.i64.wrap (40 : Int) = 40 := by rw [IntKind.wrap_i64]; omega
  rcases h.2 with ⟨rfl, rfl⟩ | ⟨g, cap, cur, rfl, hb, hg, hnc, hcm, hcs, htk⟩
  · have hr := Lib.run_append_nil_zeros (P := Try.prog) W 35 3 35 9 i _ .i64 .i64 Try.underlying35 Try.underlying3 hi hz0 40 (by omega) (by omega) (by omega) (by omega)
    exact ⟨_, _, hr, ⟨rfl, rfl, rfl, by simp, fun k hk _ => (World.grownBy_alloc W.drew _ none).block k hk (by simp)⟩⟩
  · by_cases hroom : n + 40 ≤ cap
    · have hzs : (Builtin.zeroCells #[Value.string ⟨#[]⟩] 40).toList.length = 40 := by simp [Builtin.zeroCells]
      have hst := run_storeCells_at Try.prog g n 9 (Builtin.zeroCells #[Value.string ⟨#[]⟩] 40).toList 0 cur W hg (by rw [hcs, hzs]; omega) (fun u hu => by
        simp [Builtin.zeroCells] at hu
        obtain ⟨j, _, rfl⟩ := hu
        simp [Nat.mod_one, Value.oneCell'])
      simp only [Nat.add_zero] at hst
      obtain ⟨zs, hzz⟩ : ∃ zs, Builtin.zeroCells #[Value.string ⟨#[]⟩] 40 = zs := ⟨_, rfl⟩
      rw [hzz] at hst
      generalize (List.take n cur.toList ++ zs.toList ++ List.drop (n + zs.toList.length) cur.toList).toArray = R at hst
      refine ⟨.slice (some ⟨g, 0, none⟩) (n + 40) cap, W.setRow g R, ?_, ⟨rfl, rfl, rfl, by simp, fun k _ hk => setRow_other W g k _ (fun e => hk (by simp [Value.ownBlock, e]))⟩⟩
      simp [Builtin.append_, run_underlying Try.underlying35, run_underlying Try.underlying3, sizeOf, typeInfo, zeroValue, hi, hz0, hz1, hz2, asInt, asIntOf, hw, hroom, Addr.add_lit, Value.cells, hzz, hst]
    · have hn2 : ¬ (n + 40 ≤ cap) := hroom
      have hfo := run_firstCells_some (P := Try.prog) W.drew 1 n ⟨g, 0, none⟩ n cap xs h.1 (fun j v hj => by
        have := h.cells (g := g) rfl j v hj
        exact this)
      have hfit := growslice_fits (need := n + 40) (old := cap) (bytes := 16) (by omega) (by omega)
      have h48' : ¬ (281474976710656 < Builtin.nextslicecap (n + 40) cap * 16) := by omega
      have key : ∃ (v' : Value) (o : Obj), (Builtin.append_ #[35, 3] 35 #[.slice (some ⟨g, 0, none⟩) n cap, .int .i64 40]).run Try.prog W = .ok v' (W.drew.alloc o) := by
        simp [Builtin.append_, run_underlying Try.underlying35, run_underlying Try.underlying3, sizeOf, typeInfo, zeroValue, hi, hz0, hz1, hz2, asInt, asIntOf, hw, hn2, h48', Question.forced, hfo, newRow]
        rw [if_neg (by omega)]
        exact ⟨_, _, rfl⟩
      obtain ⟨v', o, hr⟩ := key
      have hg2 := World.grownBy_alloc W.drew o none
      exact ⟨v', _, hr, ⟨hg2.os, hg2.tape, hg2.output, hg2.size, fun k hk hne => hg2.block k hk (by simp)⟩⟩
/-- a text of a row, another one -/
theorem row_put {W : World} {base n c g i : Nat} {s : ByteArray} {xs : List Value} (h : W.ownsRow base 9 1 (.slice (some ⟨g, 0, none⟩) n c) n xs) : (W.setCell ⟨g, i, none⟩ (.string s)).ownsRow base 9 1 (.slice (some ⟨g, 0, none⟩) n c) n (xs.set i (.string s)) := by
  obtain ⟨hl, h⟩ := h
  refine ⟨by rw [List.length_set]; exact hl, ?_⟩
  rcases h with ⟨h1, _⟩ | ⟨g', cap, cur, h1, h2, h3, h4, h5, h6, h7⟩
  · cases h1
  · obtain ⟨e, _, rfl⟩ := Value.slice.inj h1
    cases e
    refine .inr ⟨g, c, _, rfl, h2, set1 _ h3, h4, h5, by simpa using h6, ?_⟩
    rw [← h7, Array.toList_setIfInBounds, List.take_set]
/-- the ring and two lists of its texts below and above what is turned -/
structure Ls (w : World) (pb : Nat) (s : Rg) (x y : Value) (lo hi : Nat) (W : World) : Prop where
  pr : ∃ v, Pr W w.heap.size pb v s ∧ ∀ g, v.ownBlock = some g → g < lo
  px : pb < lo
  rx : W.ownsRow hi 9 1 x s.es.length (sv s.es)
  ry : W.ownsRow hi 9 1 y s.es.length (sv s.es)
  lh : lo ≤ hi
  wl : w.heap.size ≤ lo
  bel : Below w.heap.size w W
theorem Ls.mid {w W W' : World} {pb lo hi : Nat} {r : Option Nat} {s : Rg} {x y : Value} (h : Ls w pb s x y lo hi W) (hg : W.grownBy W' r) (h1 : ∀ g, r = some g → lo ≤ g ∧ g < hi) : Ls w pb s x y lo hi W' := by
  obtain ⟨v, q1, q2⟩ := h.pr
  refine ⟨⟨v, q1.of_heap (hg.block pb q1.lt (fun e => by have := h1 pb e.symm; have := h.px; omega)) (fun k e => hg.block k (q1.blk e).2.2 (fun e2 => by have := h1 k e2.symm; have := q2 k e; omega)), q2⟩, h.px, ?_, ?_, h.lh, h.wl, h.bel.grown hg (by have := h.bel.size; omega) (fun j e => by have := h1 j e; have := h.wl; omega)⟩
  · exact row_of_heap h.rx (fun k e => hg.block k (row_blk h.rx e).2.2 (fun e2 => by have := h1 k e2.symm; have := (row_blk h.rx e).2.1; omega))
  · exact row_of_heap h.ry (fun k e => hg.block k (row_blk h.ry e).2.2 (fun e2 => by have := h1 k e2.symm; have := (row_blk h.ry e).2.1; omega))
theorem Ls.below {w W W' : World} {pb lo hi : Nat} {s : Rg} {x y : Value} (h : Ls w pb s x y lo hi W) (hb : Below W.heap.size W W') : Ls w pb s x y lo hi W' := by
  obtain ⟨v, q1, q2⟩ := h.pr
  exact ⟨⟨v, q1.below hb, q2⟩, h.px, row_below h.rx hb, row_below h.ry hb, h.lh, h.wl, h.bel.trans (hb.mono h.bel.size)⟩
theorem Ls.ps {w W : World} {pb lo hi : Nat} {s : Rg} {x y : Value} (h : Ls w pb s x y lo hi W) : Ps w pb s W := by
  obtain ⟨v, q1, _⟩ := h.pr
  exact ⟨⟨v, q1⟩, h.bel⟩

set_option maxRecDepth 100000 in
set_option maxHeartbeats 4000000 in
theorem walk_of (b : Int) (oa : Option Addr) (on oc : Nat) (w : World) (hb : -9223372036854775808 ≤ b ∧ b ≤ 9223372036854775807) (os : Tl) (hO : RdS w (.slice oa on oc) os) (ho : tls os ≤ 1048576 ∧ True) :
    Calls Try.prog 8 #[.int .i64 b, .slice oa on oc] w fun e w' => e = .returned (.bool true) ∧ Below w.heap.size w w' := by
  have CK := kills_any w
  have hN1 : os.length = on := by obtain ⟨_, _, e, _⟩ := hO; cases e; rfl
  have hon : on ≤ 1048576 := by have := tls_len os; omega
  have HO : Hid (∀ W, Below w.heap.size w W → RdS W (.slice oa on oc) os) := fun W hW => hO.below (Nat.le_refl _) hW
  have HF : Hid (os.length = on ∧ (∀ s ∈ os, s.size ≤ 1048576)) := ⟨hN1, fun s hs => by have := tls_mem hs; omega⟩
  have C1 : Hid (∀ W, Below w.heap.size w W → Calls Try.prog 10 #[.int .i64 b] W fun e W' => ∃ pb, e = .returned (.pointer (some ⟨pb, 0, none⟩)) ∧ Hid (∃ s : Rg, Ps w pb s W' ∧ s.Fit 0)) := fun W hW => (new_ps hb hW).mono (by
    rintro e W' ⟨pb, rfl, q1, _⟩
    exact ⟨pb, rfl, _, q1, (fun s hs => by cases hs)⟩)
  clear hO ho hN1 hb
  go_enter Try.func8, Try.ntmps8
  go_wp2_with (first
    | (go_at_call 9; refine CK.mono ?_; clear CK; rintro e w1 ⟨rfl, hb1⟩; have HB1 : Hid (Below w.heap.size w w1) := hb1; clear hb1)
    | (go_at_call 10; refine (C1.out _ HB1.out).mono ?_; clear C1; rintro e w2 ⟨pb, rfl, H2⟩))
  go_loopw [21] (fun t21 wr => ∃ k : Nat, k ≤ on ∧ t21 = .int .i64 k ∧ Hid (∃ s : Rg, Ps w pb s wr ∧ s.Fit (1048576 * k))) (fun t21 _ => on - (intOf t21).toNat)
  case atStart => exact ⟨0, Nat.zero_le _, rfl, H2.out⟩
  case round =>
    obtain ⟨k, hk, rfl, HP⟩ := hrel
    clear H2 HB1
    obtain ⟨s, hps, hfit⟩ := HP.out
    clear HP
    by_cases hlt : k < on
    · obtain ⟨x, hx⟩ : ∃ x, os[k]? = some x := ⟨os[k]'(by rw [HF.out.1]; exact hlt), List.getElem?_eq_getElem _⟩
      obtain ⟨_, _, e, hr⟩ := HO.out _ hps.2
      obtain ⟨ea, en, ec⟩ := Value.slice.inj e
      obtain ⟨g, o, eg, hg, hc⟩ := hr (fun e => by rw [e] at hx; cases hx)
      rw [← ea] at eg
      subst eg
      have c0 := hc k x hx
      have hxs := HF.out.2 x (List.mem_of_getElem? hx)
      have CC : Hid (Calls Try.prog 22 #[.pointer (some ⟨pb, 0, none⟩), .string x] wr fun e W' => ∃ β, e = .returned (.bool β) ∧ Hid (∃ s : Rg, Ps w pb s W' ∧ s.Fit (1048576 * (k + 1)))) := (copy_ps hps (by omega)).mono fun e W' h => ⟨_, h.1, _, h.2, hfit.copy hxs⟩
      clear hr hc hx hps hfit e ea en ec
      go_wp2_with (first
        | (go_at_call 22; refine CC.out.mono ?_; clear CC; rintro e w3 ⟨β, rfl, H3⟩))
      exact ⟨⟨k + 1, by omega, by go_num, H3.out⟩, by simp [intOf]; omega⟩
    · obtain ⟨n, hn⟩ : ∃ n, s.es.length = n := ⟨_, rfl⟩
      have hok : s.Ok := by obtain ⟨⟨v, h⟩, _⟩ := hps; exact h.ok
      have hn3 : n ≤ 1000 := by have := hok.len; have := hok.b; omega
      have hf45 : s.Fit 35184372088832 := hfit.mono (by omega)
      have HN : Hid (s.es.length = n ∧ s.Fit 35184372088832) := ⟨hn, hf45⟩
      have CA : Hid (Calls Try.prog 18 #[.pointer (some ⟨pb, 0, none⟩)] wr fun e W' => ∃ a c, e = .returned (.slice a n c) ∧ Hid (W'.ownsRow wr.heap.size 9 1 (.slice a n c) n (sv s.es) ∧ Ps w pb s W' ∧ Below wr.heap.size wr W')) := (all_ps hps (hf45.mono (by omega))).mono (by
        rintro e W' ⟨a, c, rfl, q1, q2, q3⟩
        rw [hn] at q1 ⊢
        exact ⟨a, c, rfl, q1, q2, q3⟩)
      have CB : Hid (∀ W a c, (W.ownsRow wr.heap.size 9 1 (.slice a n c) n (sv s.es) ∧ Ps w pb s W ∧ Below wr.heap.size wr W) → Calls Try.prog 18 #[.pointer (some ⟨pb, 0, none⟩)] W fun e W' => ∃ a' c', e = .returned (.slice a' n c') ∧ Hid (W'.ownsRow wr.heap.size 9 1 (.slice a n c) n (sv s.es) ∧ (∀ g, (Value.slice a n c).ownBlock = some g → g < W.heap.size) ∧ W'.ownsRow W.heap.size 9 1 (.slice a' n c') n (sv s.es) ∧ Below wr.heap.size wr W' ∧ W.heap.size ≤ W'.heap.size ∧ wr.heap.size ≤ W.heap.size)) := fun W a c hW => (all_ps hW.2.1 (hf45.mono (by omega))).mono (by
        rintro e W' ⟨a', c', rfl, q1, q2, q3⟩
        rw [hn] at q1 ⊢
        exact ⟨a', c', rfl, row_below hW.1 q3, fun g e => (row_blk hW.1 e).2.2, q1, hW.2.2.trans (q3.mono hW.2.2.size), q3.size, hW.2.2.size⟩)
      have HR : Hid (∃ v, Pr wr w.heap.size pb v s ∧ (∀ g, v.ownBlock = some g → g < wr.heap.size) ∧ pb < wr.heap.size ∧ w.heap.size ≤ wr.heap.size ∧ Below w.heap.size w wr) := by
        obtain ⟨⟨v, h⟩, h2⟩ := hps
        exact ⟨v, h, fun g e => (h.blk e).2.2, h.lt, h2.size, h2⟩
      clear hps hfit hok hf45 hn HO HF
      go_upto_region 10 with (first
        | (go_at_call 18; refine CA.out.mono ?_; clear CA; rintro e w4 ⟨a4, c4, rfl, H4⟩)
        | (go_at_call 18; refine (CB.out _ _ _ H4.out).mono ?_; clear CB; rintro e w5 ⟨a5, c5, rfl, H5⟩))
      obtain ⟨lo, hlo⟩ : ∃ lo, wr.heap.size = lo := ⟨_, rfl⟩
      obtain ⟨hi, hhi⟩ : ∃ hi, w4.heap.size = hi := ⟨_, rfl⟩
      rw [hlo, hhi] at H5
      have HR5 : Hid (∃ v, Pr w5 w.heap.size pb v s ∧ (∀ g, v.ownBlock = some g → g < lo) ∧ pb < lo ∧ w.heap.size ≤ lo ∧ Below w.heap.size w w5) := by
        obtain ⟨v, q1, q2, q3, q4, q5⟩ := HR.out
        have hB : Below wr.heap.size wr w5 := hlo ▸ H5.out.2.2.2.1
        exact ⟨v, q1.below hB, hlo ▸ q2, hlo ▸ q3, hlo ▸ q4, q5.trans (hB.mono q5.size)⟩
      have HE : Hid ((w5.alloc (.cells #[] 9)).ownsRow hi 9 1 (.slice (some ⟨w5.heap.size, 0, none⟩) 0 0) 0 [] ∧ (w5.alloc (.cells #[] 9)).ownsRow hi 9 1 (.slice a5 n c5) n (sv s.es) ∧ (a5 = none → c5 = 0) ∧ hi ≤ (w5.alloc (.cells #[] 9)).heap.size) := by
        have hs5 := H5.out.2.2.2.2.1
        refine ⟨⟨rfl, .inr ⟨_, 0, #[], rfl, hs5, World.alloc_heap_new w5 _, Nat.le_refl _, Nat.zero_le _, rfl, rfl⟩⟩, H5.out.2.2.1.alloc _, ?_, by simp; omega⟩
        intro e
        rcases H5.out.2.2.1.2 with ⟨e1, _⟩ | ⟨g, cap, cur, e1, _⟩
        · cases e1; rfl
        · rw [e] at e1; cases e1
      have HZ : Hid (∀ v' w6, w6.ownsRow hi 9 1 v' (0 + n) ([] ++ sv s.es) → (w5.alloc (.cells #[] 9)).grownBy w6 (some w5.heap.size) → Ls w pb s (.slice a5 n c5) v' lo hi w6 ∧ (w6.ownsRow lo 9 1 (.slice a4 n c4) n (sv s.es) ∧ ∀ g, (Value.slice a4 n c4).ownBlock = some g → g < hi)) := fun v' w6 h1 h2 => by
        have hB : Below w5.heap.size w5 w6 := by
          have := ((Below.refl _ w5).alloc (Nat.le_refl _) (.cells #[] 9)).grown h2 (by simp) (fun j e => by have := Option.some.inj e; omega)
          exact this
        obtain ⟨v, q1, q2, q3, q4, q5⟩ := HR5.out
        rw [Nat.zero_add, List.nil_append] at h1
        have hn := HN.out.1
        refine ⟨⟨⟨v, q1.below hB, q2⟩, q3, ?_, ?_, H5.out.2.2.2.2.2, q4, q5.trans (hB.mono q5.size)⟩, row_below H5.out.1 hB, H5.out.2.1⟩
        · rw [hn]; exact row_below H5.out.2.2.1 hB
        · rw [hn]; exact h1
      clear HR hlo hhi
      go_wp2_with (first
        | (at_builtin; refine app_row rfl _ _ rfl hi (.slice (some ⟨w5.heap.size, 0, none⟩) 0 0) 0 [] rfl HE.out.1 hi a5 n c5 s.es rfl HE.out.2.2.1 HE.out.2.1 (by omega) HE.out.2.2.2 ?_; intro v6 w6 hown' hgrow _; have H6 : Hid _ := HZ.out _ _ hown' hgrow; clear hown' hgrow))
      obtain ⟨wq, hwq⟩ : ∃ wq, wq = wr := ⟨_, rfl⟩
      subst hwq
      go_loopw [38] (fun t38 wr => ∃ i : Nat, i ≤ n ∧ t38 = .int .i64 i ∧ Hid (∃ la, Ls w pb s (.slice a5 n c5) v6 lo hi wr ∧ (wr.ownsRow lo 9 1 (.slice a4 n c4) n la ∧ ∀ g, (Value.slice a4 n c4).ownBlock = some g → g < hi))) (fun t38 _ => n - (intOf t38).toNat)
      case atStart => exact ⟨0, Nat.zero_le _, rfl, _, H6.out⟩
      case round =>
        obtain ⟨i, hi', rfl, HL⟩ := hrel
        clear H6 HZ HE H5 HR5 H4
        obtain ⟨la, hLs, hrow, hbd⟩ := HL.out
        clear HL
        by_cases hlt2 : i < n
        · obtain ⟨ga, rfl⟩ : ∃ ga, a4 = some ⟨ga, 0, none⟩ := by
            rcases hrow.2 with ⟨e1, e2⟩ | ⟨g, cap, cur, e1, _⟩
            · omega
            · exact ⟨g, (Value.slice.inj e1).1⟩
          obtain ⟨u, hu⟩ : ∃ u, la[i]? = some u := ⟨_, List.getElem?_eq_getElem (by have := hrow.1; omega)⟩
          have o0 : wr.cell? ⟨ga, i, none⟩ = some u := (hrow.cellAt i (by omega)).trans hu
          have f0 : wr.frozen? ⟨ga, i, none⟩ = false := row_froz hrow
          have HX : Hid (∀ x : ByteArray, ∃ la, Ls w pb s (.slice a5 n c5) v6 lo hi (wr.setCell ⟨ga, i, none⟩ (.string x)) ∧ ((wr.setCell ⟨ga, i, none⟩ (.string x)).ownsRow lo 9 1 (.slice (some ⟨ga, 0, none⟩) n c4) n la ∧ ∀ g, (Value.slice (some ⟨ga, 0, none⟩) n c4).ownBlock = some g → g < hi)) := fun x => ⟨_, hLs.mid (gcell wr ga i _) (fun g e => by cases e; exact ⟨(row_blk hrow rfl).2.1, hbd ga rfl⟩), row_put hrow, hbd⟩
          clear hLs hrow hbd hu
          go_wp2
          exact ⟨⟨i + 1, by omega, by go_num, HX.out _⟩, by simp [intOf]; omega⟩
        · obtain ⟨vz, wz, run, hgz⟩ := app_zeros hrow (by omega)
          have HS : Hid (Ls w pb s (.slice a5 n c5) v6 lo hi wz) := hLs.mid hgz (fun g e => ⟨(row_blk hrow e).2.1, hbd g e⟩)
          have CC : Hid (Calls Try.prog 13 #[.pointer (some ⟨pb, 0, none⟩)] wz fun e W' => ∃ cb, e = .returned (.pointer (some ⟨cb, 0, none⟩)) ∧ Hid (Ps wz cb s W')) := by
            obtain ⟨v, q1, _⟩ := HS.out.pr
            refine (clone_any q1 (HN.out.2.mono (by omega))).mono ?_
            rintro e W' ⟨cb, x, rfl, k1, k2⟩
            exact ⟨cb, rfl, ⟨_, k1⟩, k2⟩
          have CKi : Hid (∀ W cb, Ps wz cb s W → Calls Try.prog 16 #[.pointer (some ⟨cb, 0, none⟩), .string ⟨#[109, 111, 114, 101]⟩, .bool false] W fun e W' => ∃ β, e = .returned (.bool β) ∧ Hid (∃ s', Ps wz cb s' W' ∧ s'.Fit 281474976710656)) := fun W cb hW => (kill_ps hW (by decide) HN.out.2 false).mono fun e W' h => ⟨_, h.1, _, h.2, (HN.out.2.kill (M := 4) (by decide)).mono (by omega)⟩
          have CD : Hid (∀ W cb, (∃ s', Ps wz cb s' W ∧ s'.Fit 281474976710656) → Calls Try.prog 18 #[.pointer (some ⟨cb, 0, none⟩)] W fun e W' => ∃ a m c, e = .returned (.slice a m c) ∧ m ≤ 1000 ∧ Hid (∃ ld, W'.ownsRow wz.heap.size 9 1 (.slice a m c) m ld ∧ Below wz.heap.size wz W')) := fun W cb ⟨s', hW, hf⟩ => (all_ps hW hf).mono (by
            rintro e W' ⟨a, c, rfl, q1, q2, q3⟩
            obtain ⟨⟨v, hv⟩, hb⟩ := hW
            exact ⟨a, _, c, rfl, by have := hv.ok.len; have := hv.ok.b; omega, _, row_base q1 hb.size, q2.2⟩)
          obtain ⟨k6, m6, hv6, -⟩ := row_slice HS.out.ry
          rw [HN.out.1] at hv6
          subst hv6
          have CS : Hid (∀ W a c a' c', RdS W (.slice a n c) s.es → RdS W (.slice a' n c') s.es → Calls Try.prog 21 #[.slice a n c, .slice a' n c'] W fun e W' => e = .returned (.bool true) ∧ Below W.heap.size W W') := fun W a c a' c' q1 q2 => same_any HN.out.1 (by omega) q1 q2
          have HW : Hid (∀ W, Below wz.heap.size wz W → RdS W (.slice a5 n c5) s.es ∧ RdS W (.slice k6 n m6) s.es ∧ Ps w pb s W) := fun W hb => ⟨RdS.of_row (HS.out.below hb).rx, RdS.of_row (HS.out.below hb).ry, (HS.out.below hb).ps⟩
          have CE : Hid (∀ W, Below wz.heap.size wz W → Calls Try.prog 18 #[.pointer (some ⟨pb, 0, none⟩)] W fun e W' => ∃ a c, e = .returned (.slice a n c) ∧ Hid (RdS W' (.slice a n c) s.es ∧ Below wz.heap.size wz W')) := fun W hb => (all_ps (HW.out W hb).2.2 (HN.out.2.mono (by omega))).mono (by
            rintro e W' ⟨a, c, rfl, q1, q2, q3⟩
            rw [HN.out.1] at q1 ⊢
            exact ⟨a, c, rfl, RdS.of_row q1, hb.trans (q3.mono hb.size)⟩)
          clear hLs hrow hbd hgz HS HN
          go_wp2_with (first
            | (at_builtin; refine Lib.wpList_append_run _ rfl _ _ 35 3 rfl _ _ rfl rfl _ _ run ?_)
            | (go_at_call 13; refine CC.out.mono ?_; clear CC; rintro e w8 ⟨cb, rfl, H8⟩)
            | (go_at_call 16; refine (CKi.out _ _ H8.out).mono ?_; clear CKi; rintro e w9 ⟨β9, rfl, H9⟩)
            | (go_at_call 18; refine (CD.out _ _ H9.out).mono ?_; clear CD; rintro e w10 ⟨a10, m, c10, rfl, hm, H10⟩))
          obtain ⟨wp, hwp⟩ : ∃ wp, wp = wr := ⟨_, rfl⟩
          subst hwp
          go_loopw [55] (fun t55 wr => ∃ i : Nat, i ≤ m ∧ t55 = .int .i64 i ∧ Hid (∃ ld, wr.ownsRow wz.heap.size 9 1 (.slice a10 m c10) m ld ∧ Below wz.heap.size wz wr)) (fun t55 _ => m - (intOf t55).toNat)
          case atStart => exact ⟨0, Nat.zero_le _, rfl, H10.out⟩
          case round =>
            obtain ⟨i2, hi2, rfl, HL⟩ := hrel
            clear H10 H9 H8
            obtain ⟨ld, hrow, hbw⟩ := HL.out
            clear HL
            by_cases hlt3 : i2 < m
            · obtain ⟨gd, rfl⟩ : ∃ gd, a10 = some ⟨gd, 0, none⟩ := by
                rcases hrow.2 with ⟨e1, e2⟩ | ⟨g, cap, cur, e1, _⟩
                · omega
                · exact ⟨g, (Value.slice.inj e1).1⟩
              obtain ⟨u, hu⟩ : ∃ u, ld[i2]? = some u := ⟨_, List.getElem?_eq_getElem (by have := hrow.1; omega)⟩
              have o0 : wr.cell? ⟨gd, i2, none⟩ = some u := (hrow.cellAt i2 (by omega)).trans hu
              have f0 : wr.frozen? ⟨gd, i2, none⟩ = false := row_froz hrow
              have HX : Hid (∀ x : ByteArray, ∃ ld, (wr.setCell ⟨gd, i2, none⟩ (.string x)).ownsRow wz.heap.size 9 1 (.slice (some ⟨gd, 0, none⟩) m c10) m ld ∧ Below wz.heap.size wz (wr.setCell ⟨gd, i2, none⟩ (.string x))) := fun x => ⟨_, row_put hrow, hbw.setCell (p := ⟨gd, i2, none⟩) (row_blk hrow rfl).2.1 _⟩
              clear hrow hbw hu
              go_wp2
              exact ⟨⟨i2 + 1, by omega, by go_num, HX.out _⟩, by simp [intOf]; omega⟩
            · have HB0 : Hid (Below wz.heap.size wz wr) := hbw
              clear hrow hbw
              go_wp2_with (first
                | (go_at_call 21; refine (CS.out _ _ _ _ _ (HW.out _ HB0.out).1 (HW.out _ HB0.out).2.1).mono ?_; rintro e w11 ⟨rfl, hb11⟩; have H11 : Hid (Below wz.heap.size wz w11) := HB0.out.trans (hb11.mono HB0.out.size); clear hb11 HB0)
                | (go_at_call 18; refine (CE.out _ H11.out).mono ?_; clear CE; rintro e w12 ⟨a12, c12, rfl, H12⟩)
                | (go_at_call 21; refine (CS.out _ _ _ _ _ H12.out.1 (HW.out _ H12.out.2).2.1).mono ?_; clear CS; rintro e w13 ⟨rfl, hb13⟩; have H13 : Hid (Below w.heap.size w w13) := (HW.out _ (H12.out.2.trans (hb13.mono H12.out.2.size))).2.2.2; clear hb13))
              go_ret
              exact ⟨rfl, H13.out⟩
end Go.Proofs.Ytihagjkdghbkdaa
