/-
  The walk of the law RingBounds: never more entries than the bound, and they are the last ones. Conditions: what the law reads is of at most 1048576 values and letters.
-/
import Derived.Test.YtihagjkdghbkdaaJLk
namespace Go.Proofs.Ytihagjkdghbkdaa
open Go.RowKit

theorem copy_lk {w W : World} {pb : Nat} {s : Rg} {l : Tl} {x : Value} (h : Lk w pb s l x W) {t : ByteArray} (ht : t.size ≤ 35184372088832) : Calls Try.prog 22 #[.pointer (some ⟨pb, 0, none⟩), .string t] W fun e W' => e = .returned (.bool (s.kept t)) ∧ Lk w pb (s.copy t) l x W' := by
  obtain ⟨v, h1, h2⟩ := h.pr
  exact (copy_any h1 ht).mono fun e W' ⟨e1, v', q1, q2, q3⟩ => ⟨e1, h.step h1 h2 q1 q2 q3⟩
theorem stop_lk {w W : World} {pb : Nat} {s : Rg} {l : Tl} {x : Value} (h : Lk w pb s l x W) : Calls Try.prog 17 #[.pointer (some ⟨pb, 0, none⟩)] W fun e W' => e = .returned (.tuple #[]) ∧ Lk w pb s.stop l x W' := by
  obtain ⟨v, h1, h2⟩ := h.pr
  exact (stop_any h1).mono fun e W' ⟨e1, q1, q2⟩ => ⟨e1, h.step h1 h2 q1 q2.more (Nx.refl _ _)⟩
/-- a text appended to the list -/
theorem Lk.app {w W W' : World} {pb : Nat} {s : Rg} {l : Tl} {x v' : Value} {p : ByteArray} (h : Lk w pb s l x W) (hr : W'.ownsRow w.heap.size 9 1 v' (l.length + 1) (sv l ++ [.string p])) (hg : (W.alloc (.cells #[.string p] 9)).grownBy W' x.ownBlock) (hv : v'.ownBlock = x.ownBlock ∨ v'.ownBlock = some (W.heap.size + 1)) : Lk w pb s (l ++ [p]) v' W' := by
  have h1 := h.below ((Below.refl _ W).alloc (Nat.le_refl _) (.cells #[.string p] 9))
  obtain ⟨v, q1, q2⟩ := h1.pr
  have hlt : ∀ g, v.ownBlock = some g → g < W.heap.size := fun g hgv => by
    obtain ⟨v0, p1, p2⟩ := h.pr
    have hb := (q1.blk hgv).2.2
    obtain ⟨k1, _, k2⟩ := p1.box
    obtain ⟨k3, _, k4⟩ := q1.box
    have hB := ((Below.refl _ W).alloc (Nat.le_refl _) (.cells #[.string p] 9)).block pb p1.lt
    rw [hB, k2] at k4
    injection k4 with k4; injection k4 with k4 _ _
    have e : v0 = v := by have := congrArg (fun a => a[1]?) k4; simpa using this
    rw [← e] at hgv
    exact (p1.blk hgv).2.2
  refine ⟨⟨v, q1.of_heap (hg.block pb q1.lt (fun e => ?_)) (fun g hgv => hg.block g (q1.blk hgv).2.2 (fun e => q2 g hgv e.symm)), fun g hgv e => ?_⟩, by rw [List.length_append, sv_app]; exact hr, h1.bel.grown hg (by have := h1.bel.size; omega) (fun j e => (row_blk h1.row e).2.1)⟩
  · obtain ⟨_, _, hb⟩ := q1.box
    obtain ⟨⟨cur, hc2⟩, _⟩ := row_blk h1.row e.symm
    rw [hb] at hc2; injection hc2 with hc; injection hc with _ ht _; exact absurd ht (by decide)
  · rcases hv with e2 | e2
    · exact q2 g hgv (e2 ▸ e)
    · have := hlt g hgv
      rw [e2] at e
      have := Option.some.inj e
      omega
/-- a ring whose texts are the last of the list A -/
structure Lst (b : Int) (A : Tl) (k : Nat) (s : Rg) : Prop where
  sb : s.b = (Rg.new b).b
  es : s.es = A.reverse.take s.b
  ne : ∀ x ∈ A, ¬ x = ⟨#[]⟩
  len : A.length ≤ k
  fit : s.Fit (1048576 * k)
theorem Lst.push {b : Int} {A : Tl} {k : Nat} {s s' : Rg} {t : ByteArray} (h : Lst b A k s) (ht : ¬ t = ⟨#[]⟩) (hts : t.size ≤ 1048576) (h1 : s'.b = s.b) (h2 : s'.es = (t :: s.es).take s.b) : Lst b (A ++ [t]) (k + 1) s' := by
  refine ⟨h1.trans h.sb, ?_, fun x hx => ?_, by rw [List.length_append]; have := h.len; simp; omega, fun x hx => ?_⟩
  · rw [h2, h1, h.es, List.reverse_append]
    show (t :: A.reverse.take s.b).take s.b = (t :: A.reverse).take s.b
    cases s.b with
    | zero => rfl
    | succ n =>
      rw [List.take_succ_cons, List.take_succ_cons, List.take_take, Nat.min_eq_left (by omega)]
  · rcases List.mem_append.1 hx with hx | hx
    · exact h.ne x hx
    · rw [List.mem_singleton.1 hx]; exact ht
  · rw [h2] at hx
    have := fit_push h.fit hts x hx
    omega
theorem Lst.same {b : Int} {A : Tl} {k : Nat} {s s' : Rg} (h : Lst b A k s) (h1 : s'.b = s.b) (h2 : s'.es = s.es) : Lst b A (k + 1) s' := ⟨h1.trans h.sb, by rw [h2, h1]; exact h.es, h.ne, by have := h.len; omega, fun x hx => by rw [h2] at hx; have := h.fit x hx; omega⟩

set_option maxRecDepth 100000 in
set_option maxHeartbeats 4000000 in
theorem walk_of (b : Int) (oa : Option Addr) (on oc : Nat) (ba : Option Addr) (bn bc : Nat) (w : World) (hb : -9223372036854775808 ≤ b ∧ b ≤ 9223372036854775807) (os : Tl) (hO : RdS w (.slice oa on oc) os) (ho : tls os ≤ 1048576 ∧ True) (bs : List Bool) (hB : RdB w (.slice ba bn bc) bs) (hbl : bs.length ≤ 1048576 ∧ True) :
    Calls Try.prog 6 #[.int .i64 b, .slice oa on oc, .slice ba bn bc] w fun e w' => e = .returned (.bool true) ∧ Below w.heap.size w w' := by
  have CK := kills_any w
  have hN1 : os.length = on := by obtain ⟨_, _, e, _⟩ := hO; cases e; rfl
  have hN3 : bs.length = bn := by obtain ⟨_, _, e, _⟩ := hB; cases e; rfl
  have hon : on ≤ 1048576 := by have := tls_len os; omega
  have hbn : bn ≤ 1048576 := by omega
  have HO : Hid (∀ W, Below w.heap.size w W → RdS W (.slice oa on oc) os) := fun W hW => hO.below (Nat.le_refl _) hW
  have HB : Hid (∀ W, Below w.heap.size w W → RdB W (.slice ba bn bc) bs) := fun W hW => hB.below (Nat.le_refl _) hW
  have HF : Hid (os.length = on ∧ (∀ s ∈ os, s.size ≤ 1048576) ∧ bs.length = bn) := ⟨hN1, fun s hs => by have := tls_mem hs; omega, hN3⟩
  have HM : Hid (min (max b 0) 1000 = ((Rg.new b).b : Int)) := by
    show min (max b 0) 1000 = ((if b < 0 then 0 else if 1000 < b then 1000 else b.toNat : Nat) : Int)
    split
    · omega
    · split <;> omega
  have hb3 : (Rg.new b).b ≤ 1000 := (Rg.Ok.new b).b
  have C1 : Hid (∀ W, Below w.heap.size w W → Calls Try.prog 10 #[.int .i64 b] W fun e W' => ∃ pb, e = .returned (.pointer (some ⟨pb, 0, none⟩)) ∧ Hid (Lk w pb (Rg.new b) [] (.slice none 0 0) W')) := fun W hW => (new_ps hb hW).mono (by
    rintro e W' ⟨pb, rfl, ⟨⟨v, q1⟩, q2⟩, _⟩
    exact ⟨pb, rfl, ⟨v, q1, fun g _ e => by cases e⟩, World.ownsRow_nil _ _ _ _, q2⟩)
  have HL0 : Hid (Lst b [] 0 (Rg.new b)) := ⟨rfl, by simp [Rg.new], (fun x hx => by cases hx), Nat.zero_le _, (fun x hx => by cases hx)⟩
  obtain ⟨bb, hbb⟩ : ∃ bb, (Rg.new b).b = bb := ⟨_, rfl⟩
  have HBB : Hid ((Rg.new b).b = bb) := hbb
  rw [hbb] at hb3 HM
  clear hO ho hB hbl hN1 hN3 hb hbb
  go_enter Try.func6, Try.ntmps6
  go_wp2_with (first
    | (go_at_call 9; refine CK.mono ?_; clear CK; rintro e w1 ⟨rfl, hb1⟩; have HB1 : Hid (Below w.heap.size w w1) := hb1; clear hb1)
    | (go_at_call 10; refine (C1.out _ HB1.out).mono ?_; clear C1; rintro e w2 ⟨pb, rfl, H2⟩))
  go_loopw [8, 19] (fun t8 t19 wr => ∃ (k : Nat) (tv : Value) (A : Tl) (s : Rg), k ≤ on ∧ t19 = .int .i64 k ∧ tv = t8 ∧ Hid (Lk w pb s A tv wr ∧ Lst b A k s)) (fun _ t19 _ => on - (intOf t19).toNat)
  case atStart => exact ⟨0, _, [], _, Nat.zero_le _, rfl, rfl, H2.out, HL0.out⟩
  case round =>
    obtain ⟨k, tv, A, s, hk, rfl, rfl, HK⟩ := hrel
    clear H2 HB1 HL0
    by_cases hlt : k < on
    · obtain ⟨x, hx⟩ : ∃ x, os[k]? = some x := ⟨os[k]'(by rw [HF.out.1]; exact hlt), List.getElem?_eq_getElem _⟩
      obtain ⟨_, _, e, hr⟩ := HO.out _ HK.out.1.bel
      obtain ⟨ea, en, ec⟩ := Value.slice.inj e
      obtain ⟨g, o, eg, hg, hc⟩ := hr (fun e => by rw [e] at hx; cases hx)
      rw [← ea] at eg
      subst eg
      have c0 := hc k x hx
      have hxs := HF.out.2.1 x (List.mem_of_getElem? hx)
      have hx45 : x.size ≤ 35184372088832 := by omega
      have hfit := HK.out.2.fit
      have CC : Hid (∀ W, Lk w pb s A tv W → Calls Try.prog 22 #[.pointer (some ⟨pb, 0, none⟩), .string x] W fun e W' => ∃ β, e = .returned (.bool β) ∧ Hid (∃ s', Lk w pb s' A tv W' ∧ (x = ⟨#[]⟩ → Lst b A (k + 1) s') ∧ (¬ x = ⟨#[]⟩ → Lst b (A ++ [x]) (k + 1) s'))) := fun W hW => (copy_lk hW hx45).mono fun e W' h => ⟨_, h.1, _, h.2, fun h0 => HK.out.2.same (by simp [Rg.copy, h0]) (by simp [Rg.copy, h0]), fun h0 => HK.out.2.push h0 hxs (by simp [Rg.copy, h0]) (by simp [Rg.copy, h0])⟩
      have CKi : Hid (∀ W, Lk w pb s.stop A tv W → Calls Try.prog 16 #[.pointer (some ⟨pb, 0, none⟩), .string x, .bool true] W fun e W' => ∃ β, e = .returned (.bool β) ∧ Hid (∃ s', Lk w pb s' A tv W' ∧ (x = ⟨#[]⟩ → Lst b A (k + 1) s') ∧ (¬ x = ⟨#[]⟩ → Lst b (A ++ [x]) (k + 1) s'))) := fun W hW => (kill_lk hW hx45 (fun s hs => by have := hfit s hs; omega) true).mono fun e W' h => ⟨_, h.1, _, h.2, fun h0 => HK.out.2.same (by simp [Rg.kill, Rg.stop, h0]) (by simp [Rg.kill, Rg.stop, h0]), fun h0 => HK.out.2.push h0 hxs (by simp [Rg.kill, Rg.stop, h0]) (by simp [Rg.kill, Rg.stop, h0])⟩
      -- the second part of the round, from the ring and the list as they are then
      have HA : Hid (A.length ≤ 1048576) := by have := HK.out.2.len; show A.length ≤ 1048576; omega
      clear hr hc hx e ea en ec hfit
      by_cases hjb : k < bn
      · have hjb' : (k : Int) < (bn : Int) := by omega
        obtain ⟨β, hβ⟩ : ∃ β, bs[k]? = some β := ⟨bs[k]'(by rw [HF.out.2.2]; exact hjb), List.getElem?_eq_getElem _⟩
        obtain ⟨_, _, e, hr⟩ := HB.out _ HK.out.1.bel
        obtain ⟨ea, en, ec⟩ := Value.slice.inj e
        obtain ⟨gb, ob, eg, hgb, hcb⟩ := hr (fun e => by rw [e] at hβ; cases hβ)
        rw [← ea] at eg
        subst eg
        have c1 := hcb k β hβ
        clear hr hcb hβ e ea en ec
        cases β with
        | false =>
          by_cases hxe : x = ⟨#[]⟩
          · have hem : x.toList.isEmpty = true := by rw [hxe, Lib.toList_data]; rfl
            have HXE : Hid (x = ⟨#[]⟩) := hxe
            clear hxe
            go_upto_region 14 with (first
              | (go_at_call 17; refine (stop_lk HK.out.1).mono ?_; rintro e w4 ⟨rfl, h4⟩; have H4 : Hid (Lk w pb s.stop A tv w4) := h4; clear h4)
              | (go_at_call 16; refine (CKi.out _ H4.out).mono ?_; clear CKi; rintro e w5 ⟨β5, rfl, H5⟩; obtain ⟨s5, q5, q6, -⟩ := H5.out; have H7 : Hid (∃ A7 s7, Lk w pb s7 A7 tv w5 ∧ Lst b A7 (k + 1) s7) := ⟨_, _, q5, q6 HXE.out⟩; clear q5 q6 H5))
            obtain ⟨A7, s7, hLk, hLst⟩ := H7.out
            obtain ⟨M, hM⟩ : ∃ M, A7.length = M := ⟨_, rfl⟩
            have hMk : M ≤ 1048577 := by have := hLst.len; omega
            have hrow := hLk.row
            rw [hM] at hrow
            obtain ⟨a7, c7, htv, _⟩ := row_slice hrow
            subst htv
            obtain ⟨n, hn⟩ : ∃ n, s7.es.length = n := ⟨_, rfl⟩
            have hbs : s7.b = bb := by rw [hLst.sb, HBB.out]
            have hnm : n = min bb M := by rw [← hn, hLst.es, List.length_take, List.length_reverse, hM, hbs]
            have hmin : min (M : Int) (bb : Int) = (n : Int) := by omega
            have hn3 : n ≤ 1000 := by omega
            have HL7 : Hid (s7.es.length = n ∧ (∀ j y, s7.es[j]? = some y → A7[M - 1 - j]? = some y ∧ ¬ y = ⟨#[]⟩)) := ⟨hn, fun j y hy => by
              rw [hLst.es] at hy
              have hy2 : A7.reverse[j]? = some y := by
                rw [List.getElem?_take] at hy
                split at hy
                · exact hy
                · cases hy
              have hj := (List.getElem?_eq_some_iff.1 hy2).1
              rw [List.length_reverse] at hj
              rw [List.getElem?_reverse hj, hM] at hy2
              exact ⟨hy2, hLst.ne y (List.mem_of_getElem? hy2)⟩⟩
            have HL8 : Hid (Lk w pb s7 A7 (.slice a7 M c7) _ ∧ Lst b A7 (k + 1) s7 ∧ A7.length = M) := ⟨hLk, hLst, hM⟩
            have CA : Hid (Calls Try.prog 18 #[.pointer (some ⟨pb, 0, none⟩)] _ fun e W' => ∃ a c, e = .returned (.slice a n c) ∧ Hid (W'.ownsRow w.heap.size 9 1 (.slice a n c) n (sv s7.es) ∧ Lk w pb s7 A7 (.slice a7 M c7) W')) := (all_ps hLk.ps (hLst.fit.mono (by omega))).mono (by
              rintro e W' ⟨a, c, rfl, p1, p2, p3⟩
              rw [hn] at p1 ⊢
              exact ⟨a, c, rfl, row_base p1 hLk.bel.size, hLk.below p3⟩)
            have CB : Hid (∀ W, Lk w pb s7 A7 (.slice a7 M c7) W → Calls Try.prog 24 #[.pointer (some ⟨pb, 0, none⟩)] W fun e W' => e = .returned (.int .i64 (bb : Int)) ∧ W' = W) := fun W hW => (bound_ps hW.ps).mono fun e W' h => ⟨by rw [h.1, hbs], h.2⟩
            clear H7 hLk hLst hrow hM hn hbs hnm
            go_wp2_with (first
              | (go_at_call 18; refine CA.out.mono ?_; clear CA; rintro e w8 ⟨a8, c8, rfl, H8⟩)
              | (go_at_call 24; refine (CB.out _ H8.out.2).mono ?_; clear CB; rintro e w9 ⟨rfl, hw9⟩; subst hw9))
            obtain ⟨wq, hwq⟩ : ∃ wq, wq = wr := ⟨_, rfl⟩
            subst hwq
            go_loopw [60] (fun t60 wr => ∃ j : Nat, j ≤ n ∧ t60 = .int .i64 j ∧ Hid (Below w9.heap.size w9 wr)) (fun t60 _ => n - (intOf t60).toNat)
            case atStart => exact ⟨0, Nat.zero_le _, rfl, Below.refl _ _⟩
            case round =>
              obtain ⟨j, hj, rfl, HJ⟩ := hrel
              by_cases hltj : j < n
              · obtain ⟨y, hy⟩ : ∃ y, s7.es[j]? = some y := ⟨s7.es[j]'(by rw [HL7.out.1]; exact hltj), List.getElem?_eq_getElem _⟩
                obtain ⟨hy2, hyn⟩ := HL7.out.2 j y hy
                obtain ⟨g1, rfl, y1⟩ := row_at (row_below H8.out.1 HJ.out) hy
                have hr2 := row_below H8.out.2.row HJ.out
                rw [HL8.out.2.2] at hr2
                obtain ⟨g2, rfl, y2⟩ := row_at hr2 hy2
                have hye := not_emp hyn
                have hM1 : M - 1 - j < M := by have := (List.getElem?_eq_some_iff.1 hy2).1; rw [HL8.out.2.2] at this; exact this
                obtain ⟨P, hP⟩ : ∃ P, M - 1 = P := ⟨_, rfl⟩
                obtain ⟨q, hq⟩ : ∃ q, M - 1 - j = q := ⟨_, rfl⟩
                have hjP : j ≤ P := by omega
                have v1 : IntKind.i64.wrap ((M : Int) - 1) = (P : Int) := by rw [IntKind.wrap_i64]; omega
                have v2 : IntKind.i64.wrap ((P : Int) - (j : Int)) = (q : Int) := by rw [IntKind.wrap_i64]; omega
                have v3 : (M : Int) - 1 = (P : Int) := by omega
                have v4 : (P : Int) - (j : Int) = (q : Int) := by omega
                have v5 : (q : Int) < (M : Int) := by omega
                have v6 : (j : Int) < (n : Int) := by omega
                rw [hq] at y2
                clear hy hy2 hr2 hP hq hM1
                go_wp2
                go_quiet (fail)
                go_wp2
                exact ⟨⟨j + 1, by omega, by go_num, HJ.out.trans (drewN_below _ _ _)⟩, by simp [intOf]; omega⟩
              · go_wp2
                exact ⟨⟨k + 1, _, A7, s7, by omega, by go_num, rfl, H8.out.2.below HJ.out, HL8.out.2.1⟩, by simp [intOf]; omega⟩
          · have hem := not_emp hxe
            have HXE : Hid (¬ x = ⟨#[]⟩) := hxe
            clear hxe
            go_upto_region 14 with (first
              | (go_at_call 17; refine (stop_lk HK.out.1).mono ?_; rintro e w4 ⟨rfl, h4⟩; have H4 : Hid (Lk w pb s.stop A tv w4) := h4; clear h4)
              | (go_at_call 16; refine (CKi.out _ H4.out).mono ?_; clear CKi; rintro e w5 ⟨β5, rfl, H5⟩; obtain ⟨s5, q5, -, q6⟩ := H5.out; have H6 : Hid (Lk w pb s5 A tv w5 ∧ Lst b (A ++ [x]) (k + 1) s5) := ⟨q5, q6 HXE.out⟩; clear q5 q6 H5)
              | (at_builtin; refine app_one rfl _ _ rfl w.heap.size tv A.length (sv A) rfl x H6.out.1.row rfl (by have := HA.out; omega) H6.out.1.bel.size ?_; intro v6 w6 hown' hgrow hob; have H7 : Hid (∃ A7 s7, Lk w pb s7 A7 v6 w6 ∧ Lst b A7 (k + 1) s7) := ⟨_, _, H6.out.1.app hown' hgrow hob, H6.out.2⟩; clear hown' hgrow hob H6))
            obtain ⟨A7, s7, hLk, hLst⟩ := H7.out
            obtain ⟨M, hM⟩ : ∃ M, A7.length = M := ⟨_, rfl⟩
            have hMk : M ≤ 1048577 := by have := hLst.len; omega
            have hrow := hLk.row
            rw [hM] at hrow
            obtain ⟨a7, c7, htv, _⟩ := row_slice hrow
            subst htv
            obtain ⟨n, hn⟩ : ∃ n, s7.es.length = n := ⟨_, rfl⟩
            have hbs : s7.b = bb := by rw [hLst.sb, HBB.out]
            have hnm : n = min bb M := by rw [← hn, hLst.es, List.length_take, List.length_reverse, hM, hbs]
            have hmin : min (M : Int) (bb : Int) = (n : Int) := by omega
            have hn3 : n ≤ 1000 := by omega
            have HL7 : Hid (s7.es.length = n ∧ (∀ j y, s7.es[j]? = some y → A7[M - 1 - j]? = some y ∧ ¬ y = ⟨#[]⟩)) := ⟨hn, fun j y hy => by
              rw [hLst.es] at hy
              have hy2 : A7.reverse[j]? = some y := by
                rw [List.getElem?_take] at hy
                split at hy
                · exact hy
                · cases hy
              have hj := (List.getElem?_eq_some_iff.1 hy2).1
              rw [List.length_reverse] at hj
              rw [List.getElem?_reverse hj, hM] at hy2
              exact ⟨hy2, hLst.ne y (List.mem_of_getElem? hy2)⟩⟩
            have HL8 : Hid (Lk w pb s7 A7 (.slice a7 M c7) _ ∧ Lst b A7 (k + 1) s7 ∧ A7.length = M) := ⟨hLk, hLst, hM⟩
            have CA : Hid (Calls Try.prog 18 #[.pointer (some ⟨pb, 0, none⟩)] _ fun e W' => ∃ a c, e = .returned (.slice a n c) ∧ Hid (W'.ownsRow w.heap.size 9 1 (.slice a n c) n (sv s7.es) ∧ Lk w pb s7 A7 (.slice a7 M c7) W')) := (all_ps hLk.ps (hLst.fit.mono (by omega))).mono (by
              rintro e W' ⟨a, c, rfl, p1, p2, p3⟩
              rw [hn] at p1 ⊢
              exact ⟨a, c, rfl, row_base p1 hLk.bel.size, hLk.below p3⟩)
            have CB : Hid (∀ W, Lk w pb s7 A7 (.slice a7 M c7) W → Calls Try.prog 24 #[.pointer (some ⟨pb, 0, none⟩)] W fun e W' => e = .returned (.int .i64 (bb : Int)) ∧ W' = W) := fun W hW => (bound_ps hW.ps).mono fun e W' h => ⟨by rw [h.1, hbs], h.2⟩
            clear H7 hLk hLst hrow hM hn hbs hnm
            go_wp2_with (first
              | (go_at_call 18; refine CA.out.mono ?_; clear CA; rintro e w8 ⟨a8, c8, rfl, H8⟩)
              | (go_at_call 24; refine (CB.out _ H8.out.2).mono ?_; clear CB; rintro e w9 ⟨rfl, hw9⟩; subst hw9))
            obtain ⟨wq, hwq⟩ : ∃ wq, wq = wr := ⟨_, rfl⟩
            subst hwq
            go_loopw [60] (fun t60 wr => ∃ j : Nat, j ≤ n ∧ t60 = .int .i64 j ∧ Hid (Below w9.heap.size w9 wr)) (fun t60 _ => n - (intOf t60).toNat)
            case atStart => exact ⟨0, Nat.zero_le _, rfl, Below.refl _ _⟩
            case round =>
              obtain ⟨j, hj, rfl, HJ⟩ := hrel
              by_cases hltj : j < n
              · obtain ⟨y, hy⟩ : ∃ y, s7.es[j]? = some y := ⟨s7.es[j]'(by rw [HL7.out.1]; exact hltj), List.getElem?_eq_getElem _⟩
                obtain ⟨hy2, hyn⟩ := HL7.out.2 j y hy
                obtain ⟨g1, rfl, y1⟩ := row_at (row_below H8.out.1 HJ.out) hy
                have hr2 := row_below H8.out.2.row HJ.out
                rw [HL8.out.2.2] at hr2
                obtain ⟨g2, rfl, y2⟩ := row_at hr2 hy2
                have hye := not_emp hyn
                have hM1 : M - 1 - j < M := by have := (List.getElem?_eq_some_iff.1 hy2).1; rw [HL8.out.2.2] at this; exact this
                obtain ⟨P, hP⟩ : ∃ P, M - 1 = P := ⟨_, rfl⟩
                obtain ⟨q, hq⟩ : ∃ q, M - 1 - j = q := ⟨_, rfl⟩
                have hjP : j ≤ P := by omega
                have v1 : IntKind.i64.wrap ((M : Int) - 1) = (P : Int) := by rw [IntKind.wrap_i64]; omega
                have v2 : IntKind.i64.wrap ((P : Int) - (j : Int)) = (q : Int) := by rw [IntKind.wrap_i64]; omega
                have v3 : (M : Int) - 1 = (P : Int) := by omega
                have v4 : (P : Int) - (j : Int) = (q : Int) := by omega
                have v5 : (q : Int) < (M : Int) := by omega
                have v6 : (j : Int) < (n : Int) := by omega
                rw [hq] at y2
                clear hy hy2 hr2 hP hq hM1
                go_wp2
                go_quiet (fail)
                go_wp2
                exact ⟨⟨j + 1, by omega, by go_num, HJ.out.trans (drewN_below _ _ _)⟩, by simp [intOf]; omega⟩
              · go_wp2
                exact ⟨⟨k + 1, _, A7, s7, by omega, by go_num, rfl, H8.out.2.below HJ.out, HL8.out.2.1⟩, by simp [intOf]; omega⟩
        | true =>
          by_cases hxe : x = ⟨#[]⟩
          · have hem : x.toList.isEmpty = true := by rw [hxe, Lib.toList_data]; rfl
            have HXE : Hid (x = ⟨#[]⟩) := hxe
            clear hxe
            go_upto_region 14 with (first
              | (go_at_call 22; refine (CC.out _ HK.out.1).mono ?_; clear CC; rintro e w5 ⟨β5, rfl, H5⟩; obtain ⟨s5, q5, q6, -⟩ := H5.out; have H7 : Hid (∃ A7 s7, Lk w pb s7 A7 tv w5 ∧ Lst b A7 (k + 1) s7) := ⟨_, _, q5, q6 HXE.out⟩; clear q5 q6 H5))
            obtain ⟨A7, s7, hLk, hLst⟩ := H7.out
            obtain ⟨M, hM⟩ : ∃ M, A7.length = M := ⟨_, rfl⟩
            have hMk : M ≤ 1048577 := by have := hLst.len; omega
            have hrow := hLk.row
            rw [hM] at hrow
            obtain ⟨a7, c7, htv, _⟩ := row_slice hrow
            subst htv
            obtain ⟨n, hn⟩ : ∃ n, s7.es.length = n := ⟨_, rfl⟩
            have hbs : s7.b = bb := by rw [hLst.sb, HBB.out]
            have hnm : n = min bb M := by rw [← hn, hLst.es, List.length_take, List.length_reverse, hM, hbs]
            have hmin : min (M : Int) (bb : Int) = (n : Int) := by omega
            have hn3 : n ≤ 1000 := by omega
            have HL7 : Hid (s7.es.length = n ∧ (∀ j y, s7.es[j]? = some y → A7[M - 1 - j]? = some y ∧ ¬ y = ⟨#[]⟩)) := ⟨hn, fun j y hy => by
              rw [hLst.es] at hy
              have hy2 : A7.reverse[j]? = some y := by
                rw [List.getElem?_take] at hy
                split at hy
                · exact hy
                · cases hy
              have hj := (List.getElem?_eq_some_iff.1 hy2).1
              rw [List.length_reverse] at hj
              rw [List.getElem?_reverse hj, hM] at hy2
              exact ⟨hy2, hLst.ne y (List.mem_of_getElem? hy2)⟩⟩
            have HL8 : Hid (Lk w pb s7 A7 (.slice a7 M c7) _ ∧ Lst b A7 (k + 1) s7 ∧ A7.length = M) := ⟨hLk, hLst, hM⟩
            have CA : Hid (Calls Try.prog 18 #[.pointer (some ⟨pb, 0, none⟩)] _ fun e W' => ∃ a c, e = .returned (.slice a n c) ∧ Hid (W'.ownsRow w.heap.size 9 1 (.slice a n c) n (sv s7.es) ∧ Lk w pb s7 A7 (.slice a7 M c7) W')) := (all_ps hLk.ps (hLst.fit.mono (by omega))).mono (by
              rintro e W' ⟨a, c, rfl, p1, p2, p3⟩
              rw [hn] at p1 ⊢
              exact ⟨a, c, rfl, row_base p1 hLk.bel.size, hLk.below p3⟩)
            have CB : Hid (∀ W, Lk w pb s7 A7 (.slice a7 M c7) W → Calls Try.prog 24 #[.pointer (some ⟨pb, 0, none⟩)] W fun e W' => e = .returned (.int .i64 (bb : Int)) ∧ W' = W) := fun W hW => (bound_ps hW.ps).mono fun e W' h => ⟨by rw [h.1, hbs], h.2⟩
            clear H7 hLk hLst hrow hM hn hbs hnm
            go_wp2_with (first
              | (go_at_call 18; refine CA.out.mono ?_; clear CA; rintro e w8 ⟨a8, c8, rfl, H8⟩)
              | (go_at_call 24; refine (CB.out _ H8.out.2).mono ?_; clear CB; rintro e w9 ⟨rfl, hw9⟩; subst hw9))
            obtain ⟨wq, hwq⟩ : ∃ wq, wq = wr := ⟨_, rfl⟩
            subst hwq
            go_loopw [60] (fun t60 wr => ∃ j : Nat, j ≤ n ∧ t60 = .int .i64 j ∧ Hid (Below w9.heap.size w9 wr)) (fun t60 _ => n - (intOf t60).toNat)
            case atStart => exact ⟨0, Nat.zero_le _, rfl, Below.refl _ _⟩
            case round =>
              obtain ⟨j, hj, rfl, HJ⟩ := hrel
              by_cases hltj : j < n
              · obtain ⟨y, hy⟩ : ∃ y, s7.es[j]? = some y := ⟨s7.es[j]'(by rw [HL7.out.1]; exact hltj), List.getElem?_eq_getElem _⟩
                obtain ⟨hy2, hyn⟩ := HL7.out.2 j y hy
                obtain ⟨g1, rfl, y1⟩ := row_at (row_below H8.out.1 HJ.out) hy
                have hr2 := row_below H8.out.2.row HJ.out
                rw [HL8.out.2.2] at hr2
                obtain ⟨g2, rfl, y2⟩ := row_at hr2 hy2
                have hye := not_emp hyn
                have hM1 : M - 1 - j < M := by have := (List.getElem?_eq_some_iff.1 hy2).1; rw [HL8.out.2.2] at this; exact this
                obtain ⟨P, hP⟩ : ∃ P, M - 1 = P := ⟨_, rfl⟩
                obtain ⟨q, hq⟩ : ∃ q, M - 1 - j = q := ⟨_, rfl⟩
                have hjP : j ≤ P := by omega
                have v1 : IntKind.i64.wrap ((M : Int) - 1) = (P : Int) := by rw [IntKind.wrap_i64]; omega
                have v2 : IntKind.i64.wrap ((P : Int) - (j : Int)) = (q : Int) := by rw [IntKind.wrap_i64]; omega
                have v3 : (M : Int) - 1 = (P : Int) := by omega
                have v4 : (P : Int) - (j : Int) = (q : Int) := by omega
                have v5 : (q : Int) < (M : Int) := by omega
                have v6 : (j : Int) < (n : Int) := by omega
                rw [hq] at y2
                clear hy hy2 hr2 hP hq hM1
                go_wp2
                go_quiet (fail)
                go_wp2
                exact ⟨⟨j + 1, by omega, by go_num, HJ.out.trans (drewN_below _ _ _)⟩, by simp [intOf]; omega⟩
              · go_wp2
                exact ⟨⟨k + 1, _, A7, s7, by omega, by go_num, rfl, H8.out.2.below HJ.out, HL8.out.2.1⟩, by simp [intOf]; omega⟩
          · have hem := not_emp hxe
            have HXE : Hid (¬ x = ⟨#[]⟩) := hxe
            clear hxe
            go_upto_region 14 with (first
              | (go_at_call 22; refine (CC.out _ HK.out.1).mono ?_; clear CC; rintro e w5 ⟨β5, rfl, H5⟩; obtain ⟨s5, q5, -, q6⟩ := H5.out; have H6 : Hid (Lk w pb s5 A tv w5 ∧ Lst b (A ++ [x]) (k + 1) s5) := ⟨q5, q6 HXE.out⟩; clear q5 q6 H5)
              | (at_builtin; refine app_one rfl _ _ rfl w.heap.size tv A.length (sv A) rfl x H6.out.1.row rfl (by have := HA.out; omega) H6.out.1.bel.size ?_; intro v6 w6 hown' hgrow hob; have H7 : Hid (∃ A7 s7, Lk w pb s7 A7 v6 w6 ∧ Lst b A7 (k + 1) s7) := ⟨_, _, H6.out.1.app hown' hgrow hob, H6.out.2⟩; clear hown' hgrow hob H6))
            obtain ⟨A7, s7, hLk, hLst⟩ := H7.out
            obtain ⟨M, hM⟩ : ∃ M, A7.length = M := ⟨_, rfl⟩
            have hMk : M ≤ 1048577 := by have := hLst.len; omega
            have hrow := hLk.row
            rw [hM] at hrow
            obtain ⟨a7, c7, htv, _⟩ := row_slice hrow
            subst htv
            obtain ⟨n, hn⟩ : ∃ n, s7.es.length = n := ⟨_, rfl⟩
            have hbs : s7.b = bb := by rw [hLst.sb, HBB.out]
            have hnm : n = min bb M := by rw [← hn, hLst.es, List.length_take, List.length_reverse, hM, hbs]
            have hmin : min (M : Int) (bb : Int) = (n : Int) := by omega
            have hn3 : n ≤ 1000 := by omega
            have HL7 : Hid (s7.es.length = n ∧ (∀ j y, s7.es[j]? = some y → A7[M - 1 - j]? = some y ∧ ¬ y = ⟨#[]⟩)) := ⟨hn, fun j y hy => by
              rw [hLst.es] at hy
              have hy2 : A7.reverse[j]? = some y := by
                rw [List.getElem?_take] at hy
                split at hy
                · exact hy
                · cases hy
              have hj := (List.getElem?_eq_some_iff.1 hy2).1
              rw [List.length_reverse] at hj
              rw [List.getElem?_reverse hj, hM] at hy2
              exact ⟨hy2, hLst.ne y (List.mem_of_getElem? hy2)⟩⟩
            have HL8 : Hid (Lk w pb s7 A7 (.slice a7 M c7) _ ∧ Lst b A7 (k + 1) s7 ∧ A7.length = M) := ⟨hLk, hLst, hM⟩
            have CA : Hid (Calls Try.prog 18 #[.pointer (some ⟨pb, 0, none⟩)] _ fun e W' => ∃ a c, e = .returned (.slice a n c) ∧ Hid (W'.ownsRow w.heap.size 9 1 (.slice a n c) n (sv s7.es) ∧ Lk w pb s7 A7 (.slice a7 M c7) W')) := (all_ps hLk.ps (hLst.fit.mono (by omega))).mono (by
              rintro e W' ⟨a, c, rfl, p1, p2, p3⟩
              rw [hn] at p1 ⊢
              exact ⟨a, c, rfl, row_base p1 hLk.bel.size, hLk.below p3⟩)
            have CB : Hid (∀ W, Lk w pb s7 A7 (.slice a7 M c7) W → Calls Try.prog 24 #[.pointer (some ⟨pb, 0, none⟩)] W fun e W' => e = .returned (.int .i64 (bb : Int)) ∧ W' = W) := fun W hW => (bound_ps hW.ps).mono fun e W' h => ⟨by rw [h.1, hbs], h.2⟩
            clear H7 hLk hLst hrow hM hn hbs hnm
            go_wp2_with (first
              | (go_at_call 18; refine CA.out.mono ?_; clear CA; rintro e w8 ⟨a8, c8, rfl, H8⟩)
              | (go_at_call 24; refine (CB.out _ H8.out.2).mono ?_; clear CB; rintro e w9 ⟨rfl, hw9⟩; subst hw9))
            obtain ⟨wq, hwq⟩ : ∃ wq, wq = wr := ⟨_, rfl⟩
            subst hwq
            go_loopw [60] (fun t60 wr => ∃ j : Nat, j ≤ n ∧ t60 = .int .i64 j ∧ Hid (Below w9.heap.size w9 wr)) (fun t60 _ => n - (intOf t60).toNat)
            case atStart => exact ⟨0, Nat.zero_le _, rfl, Below.refl _ _⟩
            case round =>
              obtain ⟨j, hj, rfl, HJ⟩ := hrel
              by_cases hltj : j < n
              · obtain ⟨y, hy⟩ : ∃ y, s7.es[j]? = some y := ⟨s7.es[j]'(by rw [HL7.out.1]; exact hltj), List.getElem?_eq_getElem _⟩
                obtain ⟨hy2, hyn⟩ := HL7.out.2 j y hy
                obtain ⟨g1, rfl, y1⟩ := row_at (row_below H8.out.1 HJ.out) hy
                have hr2 := row_below H8.out.2.row HJ.out
                rw [HL8.out.2.2] at hr2
                obtain ⟨g2, rfl, y2⟩ := row_at hr2 hy2
                have hye := not_emp hyn
                have hM1 : M - 1 - j < M := by have := (List.getElem?_eq_some_iff.1 hy2).1; rw [HL8.out.2.2] at this; exact this
                obtain ⟨P, hP⟩ : ∃ P, M - 1 = P := ⟨_, rfl⟩
                obtain ⟨q, hq⟩ : ∃ q, M - 1 - j = q := ⟨_, rfl⟩
                have hjP : j ≤ P := by omega
                have v1 : IntKind.i64.wrap ((M : Int) - 1) = (P : Int) := by rw [IntKind.wrap_i64]; omega
                have v2 : IntKind.i64.wrap ((P : Int) - (j : Int)) = (q : Int) := by rw [IntKind.wrap_i64]; omega
                have v3 : (M : Int) - 1 = (P : Int) := by omega
                have v4 : (P : Int) - (j : Int) = (q : Int) := by omega
                have v5 : (q : Int) < (M : Int) := by omega
                have v6 : (j : Int) < (n : Int) := by omega
                rw [hq] at y2
                clear hy hy2 hr2 hP hq hM1
                go_wp2
                go_quiet (fail)
                go_wp2
                exact ⟨⟨j + 1, by omega, by go_num, HJ.out.trans (drewN_below _ _ _)⟩, by simp [intOf]; omega⟩
              · go_wp2
                exact ⟨⟨k + 1, _, A7, s7, by omega, by go_num, rfl, H8.out.2.below HJ.out, HL8.out.2.1⟩, by simp [intOf]; omega⟩
      · have hjb' : ¬ (k : Int) < (bn : Int) := by omega
        by_cases hxe : x = ⟨#[]⟩
        · have hem : x.toList.isEmpty = true := by rw [hxe, Lib.toList_data]; rfl
          have HXE : Hid (x = ⟨#[]⟩) := hxe
          clear hxe
          go_upto_region 14 with (first
              | (go_at_call 17; refine (stop_lk HK.out.1).mono ?_; rintro e w4 ⟨rfl, h4⟩; have H4 : Hid (Lk w pb s.stop A tv w4) := h4; clear h4)
              | (go_at_call 16; refine (CKi.out _ H4.out).mono ?_; clear CKi; rintro e w5 ⟨β5, rfl, H5⟩; obtain ⟨s5, q5, q6, -⟩ := H5.out; have H7 : Hid (∃ A7 s7, Lk w pb s7 A7 tv w5 ∧ Lst b A7 (k + 1) s7) := ⟨_, _, q5, q6 HXE.out⟩; clear q5 q6 H5))
          obtain ⟨A7, s7, hLk, hLst⟩ := H7.out
          obtain ⟨M, hM⟩ : ∃ M, A7.length = M := ⟨_, rfl⟩
          have hMk : M ≤ 1048577 := by have := hLst.len; omega
          have hrow := hLk.row
          rw [hM] at hrow
          obtain ⟨a7, c7, htv, _⟩ := row_slice hrow
          subst htv
          obtain ⟨n, hn⟩ : ∃ n, s7.es.length = n := ⟨_, rfl⟩
          have hbs : s7.b = bb := by rw [hLst.sb, HBB.out]
          have hnm : n = min bb M := by rw [← hn, hLst.es, List.length_take, List.length_reverse, hM, hbs]
          have hmin : min (M : Int) (bb : Int) = (n : Int) := by omega
          have hn3 : n ≤ 1000 := by omega
          have HL7 : Hid (s7.es.length = n ∧ (∀ j y, s7.es[j]? = some y → A7[M - 1 - j]? = some y ∧ ¬ y = ⟨#[]⟩)) := ⟨hn, fun j y hy => by
            rw [hLst.es] at hy
            have hy2 : A7.reverse[j]? = some y := by
              rw [List.getElem?_take] at hy
              split at hy
              · exact hy
              · cases hy
            have hj := (List.getElem?_eq_some_iff.1 hy2).1
            rw [List.length_reverse] at hj
            rw [List.getElem?_reverse hj, hM] at hy2
            exact ⟨hy2, hLst.ne y (List.mem_of_getElem? hy2)⟩⟩
          have HL8 : Hid (Lk w pb s7 A7 (.slice a7 M c7) _ ∧ Lst b A7 (k + 1) s7 ∧ A7.length = M) := ⟨hLk, hLst, hM⟩
          have CA : Hid (Calls Try.prog 18 #[.pointer (some ⟨pb, 0, none⟩)] _ fun e W' => ∃ a c, e = .returned (.slice a n c) ∧ Hid (W'.ownsRow w.heap.size 9 1 (.slice a n c) n (sv s7.es) ∧ Lk w pb s7 A7 (.slice a7 M c7) W')) := (all_ps hLk.ps (hLst.fit.mono (by omega))).mono (by
            rintro e W' ⟨a, c, rfl, p1, p2, p3⟩
            rw [hn] at p1 ⊢
            exact ⟨a, c, rfl, row_base p1 hLk.bel.size, hLk.below p3⟩)
          have CB : Hid (∀ W, Lk w pb s7 A7 (.slice a7 M c7) W → Calls Try.prog 24 #[.pointer (some ⟨pb, 0, none⟩)] W fun e W' => e = .returned (.int .i64 (bb : Int)) ∧ W' = W) := fun W hW => (bound_ps hW.ps).mono fun e W' h => ⟨by rw [h.1, hbs], h.2⟩
          clear H7 hLk hLst hrow hM hn hbs hnm
          go_wp2_with (first
            | (go_at_call 18; refine CA.out.mono ?_; clear CA; rintro e w8 ⟨a8, c8, rfl, H8⟩)
            | (go_at_call 24; refine (CB.out _ H8.out.2).mono ?_; clear CB; rintro e w9 ⟨rfl, hw9⟩; subst hw9))
          obtain ⟨wq, hwq⟩ : ∃ wq, wq = wr := ⟨_, rfl⟩
          subst hwq
          go_loopw [60] (fun t60 wr => ∃ j : Nat, j ≤ n ∧ t60 = .int .i64 j ∧ Hid (Below w9.heap.size w9 wr)) (fun t60 _ => n - (intOf t60).toNat)
          case atStart => exact ⟨0, Nat.zero_le _, rfl, Below.refl _ _⟩
          case round =>
            obtain ⟨j, hj, rfl, HJ⟩ := hrel
            by_cases hltj : j < n
            · obtain ⟨y, hy⟩ : ∃ y, s7.es[j]? = some y := ⟨s7.es[j]'(by rw [HL7.out.1]; exact hltj), List.getElem?_eq_getElem _⟩
              obtain ⟨hy2, hyn⟩ := HL7.out.2 j y hy
              obtain ⟨g1, rfl, y1⟩ := row_at (row_below H8.out.1 HJ.out) hy
              have hr2 := row_below H8.out.2.row HJ.out
              rw [HL8.out.2.2] at hr2
              obtain ⟨g2, rfl, y2⟩ := row_at hr2 hy2
              have hye := not_emp hyn
              have hM1 : M - 1 - j < M := by have := (List.getElem?_eq_some_iff.1 hy2).1; rw [HL8.out.2.2] at this; exact this
              obtain ⟨P, hP⟩ : ∃ P, M - 1 = P := ⟨_, rfl⟩
              obtain ⟨q, hq⟩ : ∃ q, M - 1 - j = q := ⟨_, rfl⟩
              have hjP : j ≤ P := by omega
              have v1 : IntKind.i64.wrap ((M : Int) - 1) = (P : Int) := by rw [IntKind.wrap_i64]; omega
              have v2 : IntKind.i64.wrap ((P : Int) - (j : Int)) = (q : Int) := by rw [IntKind.wrap_i64]; omega
              have v3 : (M : Int) - 1 = (P : Int) := by omega
              have v4 : (P : Int) - (j : Int) = (q : Int) := by omega
              have v5 : (q : Int) < (M : Int) := by omega
              have v6 : (j : Int) < (n : Int) := by omega
              rw [hq] at y2
              clear hy hy2 hr2 hP hq hM1
              go_wp2
              go_quiet (fail)
              go_wp2
              exact ⟨⟨j + 1, by omega, by go_num, HJ.out.trans (drewN_below _ _ _)⟩, by simp [intOf]; omega⟩
            · go_wp2
              exact ⟨⟨k + 1, _, A7, s7, by omega, by go_num, rfl, H8.out.2.below HJ.out, HL8.out.2.1⟩, by simp [intOf]; omega⟩
        · have hem := not_emp hxe
          have HXE : Hid (¬ x = ⟨#[]⟩) := hxe
          clear hxe
          go_upto_region 14 with (first
              | (go_at_call 17; refine (stop_lk HK.out.1).mono ?_; rintro e w4 ⟨rfl, h4⟩; have H4 : Hid (Lk w pb s.stop A tv w4) := h4; clear h4)
              | (go_at_call 16; refine (CKi.out _ H4.out).mono ?_; clear CKi; rintro e w5 ⟨β5, rfl, H5⟩; obtain ⟨s5, q5, -, q6⟩ := H5.out; have H6 : Hid (Lk w pb s5 A tv w5 ∧ Lst b (A ++ [x]) (k + 1) s5) := ⟨q5, q6 HXE.out⟩; clear q5 q6 H5)
              | (at_builtin; refine app_one rfl _ _ rfl w.heap.size tv A.length (sv A) rfl x H6.out.1.row rfl (by have := HA.out; omega) H6.out.1.bel.size ?_; intro v6 w6 hown' hgrow hob; have H7 : Hid (∃ A7 s7, Lk w pb s7 A7 v6 w6 ∧ Lst b A7 (k + 1) s7) := ⟨_, _, H6.out.1.app hown' hgrow hob, H6.out.2⟩; clear hown' hgrow hob H6))
          obtain ⟨A7, s7, hLk, hLst⟩ := H7.out
          obtain ⟨M, hM⟩ : ∃ M, A7.length = M := ⟨_, rfl⟩
          have hMk : M ≤ 1048577 := by have := hLst.len; omega
          have hrow := hLk.row
          rw [hM] at hrow
          obtain ⟨a7, c7, htv, _⟩ := row_slice hrow
          subst htv
          obtain ⟨n, hn⟩ : ∃ n, s7.es.length = n := ⟨_, rfl⟩
          have hbs : s7.b = bb := by rw [hLst.sb, HBB.out]
          have hnm : n = min bb M := by rw [← hn, hLst.es, List.length_take, List.length_reverse, hM, hbs]
          have hmin : min (M : Int) (bb : Int) = (n : Int) := by omega
          have hn3 : n ≤ 1000 := by omega
          have HL7 : Hid (s7.es.length = n ∧ (∀ j y, s7.es[j]? = some y → A7[M - 1 - j]? = some y ∧ ¬ y = ⟨#[]⟩)) := ⟨hn, fun j y hy => by
            rw [hLst.es] at hy
            have hy2 : A7.reverse[j]? = some y := by
              rw [List.getElem?_take] at hy
              split at hy
              · exact hy
              · cases hy
            have hj := (List.getElem?_eq_some_iff.1 hy2).1
            rw [List.length_reverse] at hj
            rw [List.getElem?_reverse hj, hM] at hy2
            exact ⟨hy2, hLst.ne y (List.mem_of_getElem? hy2)⟩⟩
          have HL8 : Hid (Lk w pb s7 A7 (.slice a7 M c7) _ ∧ Lst b A7 (k + 1) s7 ∧ A7.length = M) := ⟨hLk, hLst, hM⟩
          have CA : Hid (Calls Try.prog 18 #[.pointer (some ⟨pb, 0, none⟩)] _ fun e W' => ∃ a c, e = .returned (.slice a n c) ∧ Hid (W'.ownsRow w.heap.size 9 1 (.slice a n c) n (sv s7.es) ∧ Lk w pb s7 A7 (.slice a7 M c7) W')) := (all_ps hLk.ps (hLst.fit.mono (by omega))).mono (by
            rintro e W' ⟨a, c, rfl, p1, p2, p3⟩
            rw [hn] at p1 ⊢
            exact ⟨a, c, rfl, row_base p1 hLk.bel.size, hLk.below p3⟩)
          have CB : Hid (∀ W, Lk w pb s7 A7 (.slice a7 M c7) W → Calls Try.prog 24 #[.pointer (some ⟨pb, 0, none⟩)] W fun e W' => e = .returned (.int .i64 (bb : Int)) ∧ W' = W) := fun W hW => (bound_ps hW.ps).mono fun e W' h => ⟨by rw [h.1, hbs], h.2⟩
          clear H7 hLk hLst hrow hM hn hbs hnm
          go_wp2_with (first
            | (go_at_call 18; refine CA.out.mono ?_; clear CA; rintro e w8 ⟨a8, c8, rfl, H8⟩)
            | (go_at_call 24; refine (CB.out _ H8.out.2).mono ?_; clear CB; rintro e w9 ⟨rfl, hw9⟩; subst hw9))
          obtain ⟨wq, hwq⟩ : ∃ wq, wq = wr := ⟨_, rfl⟩
          subst hwq
          go_loopw [60] (fun t60 wr => ∃ j : Nat, j ≤ n ∧ t60 = .int .i64 j ∧ Hid (Below w9.heap.size w9 wr)) (fun t60 _ => n - (intOf t60).toNat)
          case atStart => exact ⟨0, Nat.zero_le _, rfl, Below.refl _ _⟩
          case round =>
            obtain ⟨j, hj, rfl, HJ⟩ := hrel
            by_cases hltj : j < n
            · obtain ⟨y, hy⟩ : ∃ y, s7.es[j]? = some y := ⟨s7.es[j]'(by rw [HL7.out.1]; exact hltj), List.getElem?_eq_getElem _⟩
              obtain ⟨hy2, hyn⟩ := HL7.out.2 j y hy
              obtain ⟨g1, rfl, y1⟩ := row_at (row_below H8.out.1 HJ.out) hy
              have hr2 := row_below H8.out.2.row HJ.out
              rw [HL8.out.2.2] at hr2
              obtain ⟨g2, rfl, y2⟩ := row_at hr2 hy2
              have hye := not_emp hyn
              have hM1 : M - 1 - j < M := by have := (List.getElem?_eq_some_iff.1 hy2).1; rw [HL8.out.2.2] at this; exact this
              obtain ⟨P, hP⟩ : ∃ P, M - 1 = P := ⟨_, rfl⟩
              obtain ⟨q, hq⟩ : ∃ q, M - 1 - j = q := ⟨_, rfl⟩
              have hjP : j ≤ P := by omega
              have v1 : IntKind.i64.wrap ((M : Int) - 1) = (P : Int) := by rw [IntKind.wrap_i64]; omega
              have v2 : IntKind.i64.wrap ((P : Int) - (j : Int)) = (q : Int) := by rw [IntKind.wrap_i64]; omega
              have v3 : (M : Int) - 1 = (P : Int) := by omega
              have v4 : (P : Int) - (j : Int) = (q : Int) := by omega
              have v5 : (q : Int) < (M : Int) := by omega
              have v6 : (j : Int) < (n : Int) := by omega
              rw [hq] at y2
              clear hy hy2 hr2 hP hq hM1
              go_wp2
              go_quiet (fail)
              go_wp2
              exact ⟨⟨j + 1, by omega, by go_num, HJ.out.trans (drewN_below _ _ _)⟩, by simp [intOf]; omega⟩
            · go_wp2
              exact ⟨⟨k + 1, _, A7, s7, by omega, by go_num, rfl, H8.out.2.below HJ.out, HL8.out.2.1⟩, by simp [intOf]; omega⟩
    · have CB : Hid (Calls Try.prog 24 #[.pointer (some ⟨pb, 0, none⟩)] wr fun e W' => e = .returned (.int .i64 (bb : Int)) ∧ W' = wr) := (bound_ps HK.out.1.ps).mono fun e W' h => ⟨by rw [h.1, HK.out.2.sb, HBB.out], h.2⟩
      have hm := HM.out
      clear HO HB HF
      go_wp2_with (first
        | (go_at_call 24; refine CB.out.mono ?_; clear CB; rintro e w3 ⟨rfl, hw3⟩; subst hw3))
      go_ret
      exact ⟨(by first | rfl | simp [HM.out]), HK.out.1.bel⟩
end Go.Proofs.Ytihagjkdghbkdaa
