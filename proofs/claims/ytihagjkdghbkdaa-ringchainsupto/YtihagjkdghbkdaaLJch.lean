/-
  The walk of the law RingChains: kills right behind one another are one entry. Conditions: what the law reads is of at most 1048576 values and letters.
-/
import Derived.Test.YtihagjkdghbkdaaJLk
namespace Go.Proofs.Ytihagjkdghbkdaa
open Go.RowKit

theorem emp_app (s : ByteArray) : (⟨#[]⟩ : ByteArray) ++ s = s := by apply ByteArray.ext; simp [ByteArray.data_append]
theorem app_emp (s : ByteArray) : s ++ (⟨#[]⟩ : ByteArray) = s := by apply ByteArray.ext; simp [ByteArray.data_append]
theorem size_emp {s : ByteArray} : s.size = 0 ↔ s = ⟨#[]⟩ := ⟨fun h => ByteArray.ext (Array.eq_empty_of_size_eq_zero h), fun h => by rw [h]; rfl⟩
def nxt (want t : ByteArray) (a : Bool) : ByteArray := if a then t ++ want else want ++ t
theorem nxt_size (want t : ByteArray) (a : Bool) : (nxt want t a).size = want.size + t.size := by
  unfold nxt
  split <;> rw [bsize_app] <;> omega
def Rg.chain (s : Rg) (want : ByteArray) : Rg := if want = ⟨#[]⟩ then s else ⟨s.b, want :: s.es.take (s.b - 1), 1, 0⟩
theorem chain_kill {s : Rg} (hs : s.st = 0) (hb : s.b = 1000) (want t : ByteArray) (a : Bool) : (s.chain want).kill t a = s.chain (nxt want t a) := by
  by_cases ht : t = ⟨#[]⟩
  · subst ht
    have : nxt want ⟨#[]⟩ a = want := by unfold nxt; split; exact emp_app _; exact app_emp _
    rw [this]
    simp [Rg.kill]
  · by_cases hw : want = ⟨#[]⟩
    · subst hw
      have e1 : nxt ⟨#[]⟩ t a = t := by unfold nxt; split; exact app_emp _; exact emp_app _
      rw [e1]
      have e2 : s.chain ⟨#[]⟩ = s := by simp [Rg.chain]
      rw [e2]
      unfold Rg.kill Rg.chain
      rw [if_neg ht, if_neg (fun h => by have := h.1; omega), if_neg ht, hb]
      rfl
    · have hn : nxt want t a ≠ ⟨#[]⟩ := fun h => hw (size_emp.1 (by have := nxt_size want t a; rw [h] at this; have e0 : (⟨#[]⟩ : ByteArray).size = 0 := rfl; omega))
      unfold Rg.chain
      rw [if_neg hw, if_neg hn]
      unfold Rg.kill
      rw [if_neg ht, if_pos ⟨rfl, by simp⟩]
      rfl
theorem copy_st {s : Rg} (hs : s.st = 0) (hb : s.b = 1000) (t : ByteArray) : (s.copy t).st = 0 ∧ (s.copy t).b = 1000 := by
  unfold Rg.copy
  split
  · exact ⟨hs, hb⟩
  · exact ⟨rfl, hb⟩
theorem chain_fit {s : Rg} {K : Nat} {want : ByteArray} (h : s.Fit K) (hw : want.size ≤ K) : (s.chain want).Fit K := by
  unfold Rg.chain
  split
  · exact h
  · intro x hx
    rcases List.mem_cons.1 hx with rfl | hx
    · exact hw
    · exact h x (List.mem_of_mem_take hx)
theorem chain_kept {s : Rg} (hb : s.b = 1000) (want t : ByteArray) : (s.chain want).kept t = decide (t ≠ ⟨#[]⟩) := by
  have : (s.chain want).b = 1000 := by unfold Rg.chain; split <;> exact hb
  unfold Rg.kept
  rw [this]
  simp
theorem is_emp {s : ByteArray} : s.toList.isEmpty = decide (s = ⟨#[]⟩) := by
  by_cases h : s = ⟨#[]⟩
  · rw [decide_eq_true h, h, Lib.toList_data]; rfl
  · rw [decide_eq_false h]; exact not_emp h

set_option maxRecDepth 100000 in
set_option maxHeartbeats 4000000 in
theorem walk_of (oa : Option Addr) (on oc : Nat) (ra : Option Addr) (rn rc : Nat) (ba : Option Addr) (bn bc : Nat) (w : World) (os : Tl) (hO : RdS w (.slice oa on oc) os) (ho : tls os ≤ 1048576 ∧ True) (rs : Tl) (hR : RdS w (.slice ra rn rc) rs) (hr : tls rs ≤ 1048576 ∧ True) (bs : List Bool) (hB : RdB w (.slice ba bn bc) bs) (hbl : bs.length ≤ 1048576 ∧ True) :
    Calls Try.prog 5 #[.slice oa on oc, .slice ra rn rc, .slice ba bn bc] w fun e w' => e = .returned (.bool true) ∧ Below w.heap.size w w' := by
  have CK := kills_any w
  have hN1 : os.length = on := by obtain ⟨_, _, e, _⟩ := hO; cases e; rfl
  have hN2 : rs.length = rn := by obtain ⟨_, _, e, _⟩ := hR; cases e; rfl
  have hN3 : bs.length = bn := by obtain ⟨_, _, e, _⟩ := hB; cases e; rfl
  have hon : on ≤ 1048576 := by have := tls_len os; omega
  have hrn : rn ≤ 1048576 := by have := tls_len rs; omega
  have hbn : bn ≤ 1048576 := by omega
  have HO : Hid (∀ W, Below w.heap.size w W → RdS W (.slice oa on oc) os) := fun W hW => hO.below (Nat.le_refl _) hW
  have HR : Hid (∀ W, Below w.heap.size w W → RdS W (.slice ra rn rc) rs) := fun W hW => hR.below (Nat.le_refl _) hW
  have HB : Hid (∀ W, Below w.heap.size w W → RdB W (.slice ba bn bc) bs) := fun W hW => hB.below (Nat.le_refl _) hW
  have HF : Hid (os.length = on ∧ (∀ s ∈ os, s.size ≤ 1048576)) := ⟨hN1, fun s hs => by have := tls_mem hs; omega⟩
  have HG : Hid (rs.length = rn ∧ (∀ s ∈ rs, s.size ≤ 1048576) ∧ bs.length = bn) := ⟨hN2, fun s hs => by have := tls_mem hs; omega, hN3⟩
  have e0 : (Rg.new 1099511627776).st = 0 ∧ (Rg.new 1099511627776).b = 1000 := ⟨rfl, rfl⟩
  have C1 : Hid (∀ W, Below w.heap.size w W → Calls Try.prog 10 #[.int .i64 1099511627776] W fun e W' => ∃ pb, e = .returned (.pointer (some ⟨pb, 0, none⟩)) ∧ Hid (∃ s : Rg, Ps w pb s W' ∧ s.Fit 0 ∧ s.st = 0 ∧ s.b = 1000)) := fun W hW => (new_ps (by omega) hW).mono (by
    rintro e W' ⟨pb, rfl, q1, _⟩
    exact ⟨pb, rfl, _, q1, (fun s hs => by cases hs), e0⟩)
  clear hO ho hR hr hB hbl hN1 hN2 hN3 e0
  go_enter Try.func5, Try.ntmps5
  go_wp2_with (first
    | (go_at_call 9; refine CK.mono ?_; clear CK; rintro e w1 ⟨rfl, hb1⟩; have HB1 : Hid (Below w.heap.size w w1) := hb1; clear hb1)
    | (go_at_call 10; refine (C1.out _ HB1.out).mono ?_; clear C1; rintro e w2 ⟨pb, rfl, H2⟩))
  go_loopw [21] (fun t21 wr => ∃ k : Nat, k ≤ on ∧ t21 = .int .i64 k ∧ Hid (∃ s : Rg, Ps w pb s wr ∧ s.Fit (1048576 * k) ∧ s.st = 0 ∧ s.b = 1000)) (fun t21 _ => on - (intOf t21).toNat)
  case atStart => exact ⟨0, Nat.zero_le _, rfl, H2.out⟩
  case round =>
    obtain ⟨k, hk, rfl, HP⟩ := hrel
    clear H2 HB1
    obtain ⟨s, hps, hfit, hst, hsb⟩ := HP.out
    clear HP
    by_cases hlt : k < on
    · obtain ⟨x, hx⟩ : ∃ x, os[k]? = some x := ⟨os[k]'(by rw [HF.out.1]; exact hlt), List.getElem?_eq_getElem _⟩
      obtain ⟨_, _, e, hr⟩ := HO.out _ hps.2
      obtain ⟨ea, en, ec⟩ := Value.slice.inj e
      obtain ⟨g, o, eg, hg, hc⟩ := hr (fun e => by rw [e] at hx; cases hx)
      rw [← ea] at eg
      subst eg
      have c0 := hc k x hx
      have hxs := HF.out.2 x (List.mem_of_getElem? hx)
      have CC : Hid (Calls Try.prog 22 #[.pointer (some ⟨pb, 0, none⟩), .string x] wr fun e W' => ∃ β, e = .returned (.bool β) ∧ Hid (∃ s : Rg, Ps w pb s W' ∧ s.Fit (1048576 * (k + 1)) ∧ s.st = 0 ∧ s.b = 1000)) := (copy_ps hps (by omega)).mono fun e W' h => ⟨_, h.1, _, h.2, hfit.copy hxs, copy_st hst hsb x⟩
      clear hr hc hx hps hfit e ea en ec hst hsb
      go_wp2_with (first
        | (go_at_call 22; refine CC.out.mono ?_; clear CC; rintro e w3 ⟨β, rfl, H3⟩))
      exact ⟨⟨k + 1, by omega, by go_num, H3.out⟩, by simp [intOf]; omega⟩
    · obtain ⟨n, hn⟩ : ∃ n, s.es.length = n := ⟨_, rfl⟩
      have hok : s.Ok := by obtain ⟨⟨v, h⟩, _⟩ := hps; exact h.ok
      have hn3 : n ≤ 1000 := by have := hok.len; omega
      have hf46 : s.Fit 1099511627776 := hfit.mono (by omega)
      have CA : Hid (Calls Try.prog 18 #[.pointer (some ⟨pb, 0, none⟩)] wr fun e W' => ∃ a c, e = .returned (.slice a n c) ∧ n ≤ c ∧ Hid (Lk w pb s s.es (.slice a n c) W')) := (all_ps hps (hf46.mono (by omega))).mono (by
        rintro e W' ⟨a, c, rfl, q1, q2, q3⟩
        have q4 := hps.lk q1 q3
        rw [hn] at q1 q4 ⊢
        refine ⟨a, c, rfl, ?_, q4⟩
        rcases q1.2 with ⟨e, e2⟩ | ⟨g, cap, cur, e, _, _, hle, _⟩
        · omega
        · obtain ⟨_, _, rfl⟩ := Value.slice.inj e; exact hle)
      have HS : Hid (s.st = 0 ∧ s.b = 1000 ∧ s.Fit 1099511627776 ∧ s.es.length = n) := ⟨hst, hsb, hf46, hn⟩
      clear hps hfit hst hsb hok hf46 hn HO HF
      go_wp2_with (first
        | (go_at_call 18; refine CA.out.mono ?_; clear CA; rintro e w4 ⟨a4, c4, rfl, hnc, H4⟩))
      obtain ⟨wq, hwq⟩ : ∃ wq, wq = wr := ⟨_, rfl⟩
      subst hwq
      go_loopw [11, 33] (fun t11 t33 wr => ∃ (j : Nat) (want : ByteArray), j ≤ rn ∧ t33 = .int .i64 j ∧ t11 = .string want ∧ want.size ≤ 1048576 * j ∧ Hid (Lk w pb (s.chain want) s.es (.slice a4 n c4) wr)) (fun _ t33 _ => rn - (intOf t33).toNat)
      case atStart => exact ⟨0, ⟨#[]⟩, Nat.zero_le _, rfl, rfl, Nat.zero_le _, (by have := H4.out; rw [show s.chain ⟨#[]⟩ = s by simp [Rg.chain]]; exact this)⟩
      case round =>
        obtain ⟨j, want, hj, rfl, rfl, hws, HK⟩ := hrel
        clear H4
        by_cases hlt2 : j < rn
        · obtain ⟨x, hx⟩ : ∃ x, rs[j]? = some x := ⟨rs[j]'(by rw [HG.out.1]; exact hlt2), List.getElem?_eq_getElem _⟩
          obtain ⟨_, _, e, hr⟩ := HR.out _ HK.out.bel
          obtain ⟨ea, en, ec⟩ := Value.slice.inj e
          obtain ⟨g, o, eg, hg, hc⟩ := hr (fun e => by rw [e] at hx; cases hx)
          rw [← ea] at eg
          subst eg
          have c0 := hc j x hx
          have hxs := HG.out.2.1 x (List.mem_of_getElem? hx)
          have hwl : want.size ≤ 1099511627776 := by omega
          have hsum : x.size + want.size ≤ 140737488355328 := by omega
          have hsum' : want.size + x.size ≤ 140737488355328 := by omega
          have hem := is_emp (s := x)
          have CKi : Hid (∀ a, Calls Try.prog 16 #[.pointer (some ⟨pb, 0, none⟩), .string x, .bool a] wr fun e W' => e = .returned (.bool (decide (x ≠ ⟨#[]⟩))) ∧ Hid (Lk w pb (s.chain (nxt want x a)) s.es (.slice a4 n c4) W')) := fun a => (kill_lk HK.out (by omega) ((chain_fit HS.out.2.2.1 hwl).mono (by omega)) a).mono fun e W' h => ⟨by rw [h.1, chain_kept HS.out.2.1], chain_kill HS.out.1 HS.out.2.1 want x a ▸ h.2⟩
          have HW : Hid (∀ a, (nxt want x a).size ≤ 1048576 * (j + 1)) := fun a => by rw [nxt_size]; omega
          clear hr hc hx e ea en ec HR
          by_cases hjb : j < bn
          · have hjb' : (j : Int) < (bn : Int) := by omega
            obtain ⟨β, hβ⟩ : ∃ β, bs[j]? = some β := ⟨bs[j]'(by rw [HG.out.2.2]; exact hjb), List.getElem?_eq_getElem _⟩
            obtain ⟨_, _, e, hr⟩ := HB.out _ HK.out.bel
            obtain ⟨ea, en, ec⟩ := Value.slice.inj e
            obtain ⟨gb, ob, eg, hgb, hcb⟩ := hr (fun e => by rw [e] at hβ; cases hβ)
            rw [← ea] at eg
            subst eg
            have c1 := hcb j β hβ
            clear hr hcb hβ e ea en ec HB HK
            by_cases hxe : x = ⟨#[]⟩
            · have q1 : decide (x ≠ ⟨#[]⟩) = false := by simp [hxe]
              have q2 : x.toList.isEmpty = true := by rw [hem]; exact decide_eq_true hxe
              rw [q1] at CKi
              clear hem hxe q1
              cases β
              · go_wp2_with (first | (go_at_call 16; refine (CKi.out _).mono ?_; clear CKi; rintro e w5 ⟨rfl, H5⟩))
                exact ⟨⟨j + 1, _, by omega, by go_num, rfl, HW.out false, H5.out⟩, by simp [intOf]; omega⟩
              · go_wp2_with (first | (go_at_call 16; refine (CKi.out _).mono ?_; clear CKi; rintro e w5 ⟨rfl, H5⟩))
                exact ⟨⟨j + 1, _, by omega, by go_num, rfl, HW.out true, H5.out⟩, by simp [intOf]; omega⟩
            · have q1 : decide (x ≠ ⟨#[]⟩) = true := by simp [hxe]
              have q2 : x.toList.isEmpty = false := by rw [hem]; exact decide_eq_false hxe
              rw [q1] at CKi
              clear hem hxe q1
              cases β
              · go_wp2_with (first | (go_at_call 16; refine (CKi.out _).mono ?_; clear CKi; rintro e w5 ⟨rfl, H5⟩))
                exact ⟨⟨j + 1, _, by omega, by go_num, rfl, HW.out false, H5.out⟩, by simp [intOf]; omega⟩
              · go_wp2_with (first | (go_at_call 16; refine (CKi.out _).mono ?_; clear CKi; rintro e w5 ⟨rfl, H5⟩))
                exact ⟨⟨j + 1, _, by omega, by go_num, rfl, HW.out true, H5.out⟩, by simp [intOf]; omega⟩
          · have hjb' : ¬ (j : Int) < (bn : Int) := by omega
            clear HB HK
            by_cases hxe : x = ⟨#[]⟩
            · have q1 : decide (x ≠ ⟨#[]⟩) = false := by simp [hxe]
              have q2 : x.toList.isEmpty = true := by rw [hem]; exact decide_eq_true hxe
              rw [q1] at CKi
              clear hem hxe q1
              go_wp2_with (first | (go_at_call 16; refine (CKi.out _).mono ?_; clear CKi; rintro e w5 ⟨rfl, H5⟩))
              exact ⟨⟨j + 1, _, by omega, by go_num, rfl, HW.out false, H5.out⟩, by simp [intOf]; omega⟩
            · have q1 : decide (x ≠ ⟨#[]⟩) = true := by simp [hxe]
              have q2 : x.toList.isEmpty = false := by rw [hem]; exact decide_eq_false hxe
              rw [q1] at CKi
              clear hem hxe q1
              go_wp2_with (first | (go_at_call 16; refine (CKi.out _).mono ?_; clear CKi; rintro e w5 ⟨rfl, H5⟩))
              exact ⟨⟨j + 1, _, by omega, by go_num, rfl, HW.out false, H5.out⟩, by simp [intOf]; omega⟩
        · have hwl : want.size ≤ 1099511627776 := by omega
          have hfc : (s.chain want).Fit 281474976710656 := (chain_fit HS.out.2.2.1 hwl).mono (by omega)
          by_cases hw0 : want = ⟨#[]⟩
          · have q2 : want.toList.isEmpty = true := by rw [is_emp]; exact decide_eq_true hw0
            have CA : Hid (Calls Try.prog 18 #[.pointer (some ⟨pb, 0, none⟩)] wr fun e W' => ∃ a c, e = .returned (.slice a n c) ∧ Hid (RdS W' (.slice a n c) s.es ∧ RdS W' (.slice a4 n c4) s.es ∧ Below w.heap.size w W')) := (all_ps HK.out.ps hfc).mono (by
              rintro e W' ⟨a, c, rfl, p1, p2, p3⟩
              have ec : (s.chain want).es = s.es := by simp [Rg.chain, hw0]
              rw [ec] at p1 ⊢
              rw [HS.out.2.2.2] at p1 ⊢
              exact ⟨a, c, rfl, RdS.of_row p1, RdS.of_row (row_below HK.out.row p3), p2.2⟩)
            have CS : Hid (∀ W a c a' c', RdS W (.slice a n c) s.es → RdS W (.slice a' n c') s.es → Calls Try.prog 21 #[.slice a n c, .slice a' n c'] W fun e W' => e = .returned (.bool true) ∧ Below W.heap.size W W') := fun W a c a' c' k1 k2 => same_any HS.out.2.2.2 (by omega) k1 k2
            clear hw0 HK hfc HR HB HG HS
            go_wp2_with (first
              | (go_at_call 18; refine CA.out.mono ?_; clear CA; rintro e w5 ⟨a5, c5, rfl, H5⟩)
              | (go_at_call 21; refine (CS.out _ _ _ _ _ H5.out.1 H5.out.2.1).mono ?_; clear CS; rintro e w6 ⟨rfl, hb6⟩; have H6 : Hid (Below w5.heap.size w5 w6) := hb6; clear hb6))
            go_ret
            exact ⟨rfl, H5.out.2.2.trans (H6.out.mono H5.out.2.2.size)⟩
          · have q2 : want.toList.isEmpty = false := by rw [is_emp]; exact decide_eq_false hw0
            obtain ⟨m, hm⟩ : ∃ m, (s.es.take 999).length = m := ⟨_, rfl⟩
            have hm1 : m = if n = 1000 then 999 else n := by
              rw [← hm, List.length_take, HS.out.2.2.2]
              split <;> omega
            have ec : s.chain want = ⟨1000, want :: s.es.take 999, 1, 0⟩ := by simp [Rg.chain, hw0, HS.out.2.1]
            have CA : Hid (Calls Try.prog 18 #[.pointer (some ⟨pb, 0, none⟩)] wr fun e W' => ∃ g c, e = .returned (.slice (some ⟨g, 0, none⟩) (m + 1) c) ∧ Hid (W'.ownsRow w.heap.size 9 1 (.slice (some ⟨g, 0, none⟩) (m + 1) c) (m + 1) (sv (want :: s.es.take 999)) ∧ W'.ownsRow w.heap.size 9 1 (.slice a4 n c4) n (sv s.es) ∧ Ps w pb (s.chain want) W')) := (all_ps HK.out.ps hfc).mono (by
              rintro e W' ⟨a, c, rfl, p1, p2, p3⟩
              have p4 := row_below HK.out.row p3
              rw [HS.out.2.2.2] at p4
              have el : (s.chain want).es = want :: s.es.take 999 := by rw [ec]
              have el2 : (want :: s.es.take 999).length = m + 1 := by rw [List.length_cons, hm]
              rw [el, el2] at p1 ⊢
              obtain ⟨g, rfl, _⟩ := row_at (k := 0) p1 rfl
              exact ⟨g, c, rfl, row_base p1 HK.out.bel.size, p4, p2⟩)
            have CS : Hid (∀ W a c a' c', RdS W (.slice a m c) (s.es.take 999) → RdS W (.slice a' m c') (s.es.take 999) → Calls Try.prog 21 #[.slice a m c, .slice a' m c'] W fun e W' => e = .returned (.bool true) ∧ Below W.heap.size W W') := fun W a c a' c' k1 k2 => same_any hm (by rw [hm1]; split <;> omega) k1 k2
            have CG : Hid (∀ W, Ps w pb (s.chain want) W → Calls Try.prog 23 #[.pointer (some ⟨pb, 0, none⟩)] W fun e W' => e = .returned (.bool true) ∧ W' = W) := fun W hW => (killing_ps hW).mono fun e W' h => ⟨by rw [h.1, ec]; rfl, h.2⟩
            clear HK hfc HR HB HG hw0
            go_upto_region 22 with (first
              | (go_at_call 18; refine CA.out.mono ?_; clear CA; rintro e w5 ⟨g5, c5, rfl, H5⟩))
            obtain ⟨a6, hs6, hr6⟩ := run_tail H5.out.1
            obtain ⟨gx, ex, y0⟩ := row_at (k := 0) H5.out.1 rfl
            cases ex
            have HR6 : Hid (RdS w5 (.slice a6 m (c5 - 1)) (s.es.take 999)) := hr6
            have hmp : (0 : Int) < (m : Int) + 1 := by omega
            clear hr6
            by_cases h1000 : n = 1000
            · rw [if_pos h1000] at hm1
              subst h1000
              subst hm1
              have ha4 : a4 ≠ none := fun e => by
                rcases H5.out.2.1.2 with ⟨e1, e2⟩ | ⟨g, cap, cur, e1, _⟩
                · cases e2
                · rw [e] at e1; cases e1
              have HB6 : Hid (RdS w5 (.slice a4 999 c4) (s.es.take 999)) := RdS.of_row (by have := row_cut H5.out.2.1 (m := 999) (by omega) ha4; rw [Nat.mul_one, ← sv_take] at this; exact this)
              go_wp2_with (first
                | (go_at_call 21; refine (CS.out _ _ _ _ _ HR6.out HB6.out).mono ?_; clear CS; rintro e w6 ⟨rfl, hb6⟩; have H6 : Hid (Ps w pb (s.chain want) w6) := H5.out.2.2.below hb6; clear hb6)
                | (go_at_call 23; refine (CG.out _ H6.out).mono ?_; clear CG; rintro e w7 ⟨rfl, hw7⟩; subst hw7))
              go_ret
              exact ⟨rfl, H6.out.2⟩
            · rw [if_neg h1000] at hm1
              subst hm1
              have h1000' : ¬ (m : Int) = 1000 := by omega
              have h1000'' : ((m : Int) == 1000) = false := by simp; omega
              have HB6 : Hid (RdS w5 (.slice a4 m c4) (s.es.take 999)) := by
                show RdS _ _ _
                rw [List.take_of_length_le (by rw [HS.out.2.2.2]; omega)]
                exact RdS.of_row H5.out.2.1
              go_wp2_with (first
                | (go_at_call 21; refine (CS.out _ _ _ _ _ HR6.out HB6.out).mono ?_; clear CS; rintro e w6 ⟨rfl, hb6⟩; have H6 : Hid (Ps w pb (s.chain want) w6) := H5.out.2.2.below hb6; clear hb6)
                | (go_at_call 23; refine (CG.out _ H6.out).mono ?_; clear CG; rintro e w7 ⟨rfl, hw7⟩; subst hw7))
              go_ret
              exact ⟨rfl, H6.out.2⟩
end Go.Proofs.Ytihagjkdghbkdaa
