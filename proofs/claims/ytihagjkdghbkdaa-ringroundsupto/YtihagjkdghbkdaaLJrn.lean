/-
  The walk of the law RingRounds: pops go through all entries, round and round. Conditions: what the law reads is of at most 1048576 values and letters.
-/
import Derived.Test.YtihagjkdghbkdaaJKls
import Derived.Test.YtihagjkdghbkdaaUJop
namespace Go.Proofs.Ytihagjkdghbkdaa
open Go.RowKit

/-- a ring that is yanking at place i of its texts -/
def Rg.at (r : Rg) (i : Nat) : Rg := ⟨r.b, r.es, 2, i % r.es.length⟩
theorem at_pop {r : Rg} (i : Nat) : (r.at i).pop = r.at (i + 1) := by simp [Rg.pop, Rg.at, Nat.mod_add_mod]
theorem at_popA {r : Rg} {i : Nat} {x : ByteArray} (h : r.es[i % r.es.length]? = some x) : (r.at i).popA = x := by simp [Rg.popA, Rg.at, List.getD_eq_getElem?_getD, h]
theorem at_popB {r : Rg} {i : Nat} {x : ByteArray} (h : r.es[(i + 1) % r.es.length]? = some x) : (r.at i).popB = x := by simp [Rg.popB, Rg.at, Nat.mod_add_mod, List.getD_eq_getElem?_getD, h]
theorem imod {i n : Nat} : ((i : Int).tmod (n : Int) = ((i % n : Nat) : Int)) ∧ ((i : Int) % (n : Int) = ((i % n : Nat) : Int)) := by
  refine ⟨?_, ?_⟩
  · rw [Int.tmod_eq_emod_of_nonneg (by omega), Int.natCast_emod]
  · rw [Int.natCast_emod]

/-- the ring, and the list that was answered -/
structure Ln (w : World) (pb : Nat) (s : Rg) (l : Tl) (g n c : Nat) (W : World) : Prop where
  ps : Ps w pb s W
  row : W.ownsRow w.heap.size 9 1 (.slice (some ⟨g, 0, none⟩) n c) n (sv l)
  ne : pb ≠ g
theorem Ln.ch {w W W' : World} {pb g n c : Nat} {s s' : Rg} {l : Tl} (h : Ln w pb s l g n c W) (hp : Ps w pb s' W') (hc : Ch pb none W W') : Ln w pb s' l g n c W' :=
  ⟨hp, row_of_heap h.row (fun k e => by cases e; exact hc.2.2.2.2 g (row_blk h.row rfl).2.2 (fun e => h.ne e.symm) (by simp)), h.ne⟩

set_option maxRecDepth 100000 in
set_option maxHeartbeats 4000000 in
theorem walk_of (b : Int) (oa : Option Addr) (on oc : Nat) (pops : Int) (w : World) (hb : -9223372036854775808 ≤ b ∧ b ≤ 9223372036854775807) (os : Tl) (hO : RdS w (.slice oa on oc) os) (ho : tls os ≤ 1048576 ∧ True) (hp : 0 ≤ pops ∧ pops < 256) :
    Calls Try.prog 4 #[.int .i64 b, .slice oa on oc, .int .u8 pops] w fun e w' => e = .returned (.bool true) ∧ Below w.heap.size w w' := by
  have CK := kills_any w
  have hN2 : os.length = on := by obtain ⟨_, _, e, _⟩ := hO; cases e; rfl
  have hol := tls_len os
  have hon : on ≤ 1048576 := by omega
  have HO : Hid (∀ W, Below w.heap.size w W → RdS W (.slice oa on oc) os) := fun W hW => hO.below (Nat.le_refl _) hW
  have HF : Hid (os.length = on ∧ (∀ s ∈ os, s.size ≤ 1048576)) := ⟨hN2, fun s hs => by have := tls_mem hs; omega⟩
  have C1 : Hid (∀ W, Below w.heap.size w W → Calls Try.prog 10 #[.int .i64 b] W fun e W' => ∃ pb, e = .returned (.pointer (some ⟨pb, 0, none⟩)) ∧ Hid (Ps w pb (Rg.new b) W' ∧ w.heap.size ≤ pb)) := fun W hW => new_ps hb hW
  obtain ⟨pn, rfl⟩ : ∃ pn : Nat, pops = (pn : Int) := ⟨pops.toNat, by omega⟩
  have hpn : pn < 256 := by omega
  clear hO ho hN2 hol hb hp
  go_enter Try.func4, Try.ntmps4
  go_wp2_with (first
    | (go_at_call 9; refine CK.mono ?_; clear CK; rintro e w1 ⟨rfl, hb1⟩; have HB1 : Hid (Below w.heap.size w w1) := hb1; clear hb1)
    | (go_at_call 10; refine (C1.out _ HB1.out).mono ?_; clear C1; rintro e w2 ⟨pb, rfl, H2⟩))
  go_loopw [27] (fun t27 wr => ∃ k : Nat, k ≤ on ∧ t27 = .int .i64 k ∧ Hid (∃ s, Ps w pb s wr ∧ s.Fit (1048576 * k))) (fun t27 _ => on - (intOf t27).toNat)
  case atStart => exact ⟨0, Nat.zero_le _, rfl, _, H2.out.1, fun s hs => by cases hs⟩
  case round =>
    obtain ⟨k, hk, rfl, HP⟩ := hrel
    clear H2 HB1
    obtain ⟨s, hps, hfit⟩ := HP.out
    have HS : Hid (Ps w pb s wr ∧ s.Fit (1048576 * k)) := ⟨hps, hfit⟩
    by_cases hlt : k < on
    · obtain ⟨x, hx⟩ : ∃ x, os[k]? = some x := ⟨os[k]'(by rw [HF.out.1]; exact hlt), List.getElem?_eq_getElem _⟩
      obtain ⟨_, _, e, hr⟩ := HO.out _ hps.2
      obtain ⟨ea, en, ec⟩ := Value.slice.inj e
      obtain ⟨g, o, eg, hg, hc⟩ := hr (fun e => by rw [e] at hx; cases hx)
      rw [← ea] at eg
      subst eg
      have c0 := hc k x hx
      have hxs := HF.out.2 x (List.mem_of_getElem? hx)
      have CKi : Hid (Calls Try.prog 16 #[.pointer (some ⟨pb, 0, none⟩), .string x, .bool false] wr fun e W' => ∃ β, e = .returned (.bool β) ∧ Hid (Ps w pb (s.kill x false) W')) := (kill_ps hps (by omega) (hfit.mono (by omega)) false).mono fun e W' h => ⟨_, h.1, h.2⟩
      have HF2 : Hid ((s.kill x false).stop.Fit (1048576 * (k + 1))) := (hfit.kill hxs).stop
      clear hr hc hx hps hfit e ea en ec HP HS
      go_wp2_with (first
        | (go_at_call 16; refine CKi.out.mono ?_; clear CKi; rintro e w3 ⟨β, rfl, H3⟩)
        | (go_at_call 17; refine (stop_ps H3.out).mono ?_; rintro e w4 ⟨rfl, h4⟩; have H4 : Hid (Ps w pb (s.kill x false).stop w4) := h4; clear h4 H3))
      exact ⟨⟨k + 1, by omega, by go_num, _, H4.out, HF2.out⟩, by simp [intOf]; omega⟩
    · have hf48 : s.Fit 281474976710656 := hfit.mono (by omega)
      have hok : s.Ok := by obtain ⟨⟨v, h⟩, _⟩ := hps; exact h.ok
      have hpg : ∀ g, wr.heap.size ≤ g → pb ≠ g := fun g hg => by obtain ⟨⟨v, h⟩, _⟩ := hps; have := h.lt; omega
      have hl3 : s.es.length ≤ 1000 := by have := hok.len; have := hok.b; omega
      clear HP HO HF hfit
      obtain ⟨n, hn⟩ : ∃ n, s.es.length = n := ⟨_, rfl⟩
      by_cases h0 : s.es = []
      · have CA : Hid (Calls Try.prog 18 #[.pointer (some ⟨pb, 0, none⟩)] wr fun e W' => ∃ a c, e = .returned (.slice a 0 c) ∧ Hid (Ps w pb s W')) := (all_ps hps hf48).mono (by
          rintro e W' ⟨a, c, rfl, q1, q2, q3⟩
          exact ⟨a, c, by rw [h0]; rfl, q2⟩)
        have CY : Hid (∀ W, Ps w pb s W → Calls Try.prog 19 #[.pointer (some ⟨pb, 0, none⟩)] W fun e W' => e = .returned (.tuple #[.string ⟨#[]⟩, .int .i64 5]) ∧ Hid (Ps w pb s.stop W')) := fun W hW => (yank_ps hW hf48).mono (by
          rintro e W' ⟨rfl, q1, q2⟩
          exact ⟨by simp [Rg.yankT, Rg.yankE, h0], (by have := q1; rw [show s.yank = s.stop by simp [Rg.yank, h0]] at this; exact this)⟩)
        have CP : Hid (∀ W, Ps w pb s.stop W → Calls Try.prog 20 #[.pointer (some ⟨pb, 0, none⟩)] W fun e W' => e = .returned (.tuple #[.string ⟨#[]⟩, .string ⟨#[]⟩, .int .i64 6]) ∧ Hid (Below w.heap.size w W')) := fun W hW => (pop_ps hW (fun s hs => hf48 s hs)).mono (by
          rintro e W' ⟨rfl, q1, q2⟩
          exact ⟨by simp [Rg.popA, Rg.popB, Rg.popE, Rg.stop], q1.2⟩)
        clear hps HS hf48 hok hpg hl3 hn
        go_wp2_with (first
          | (go_at_call 18; refine CA.out.mono ?_; clear CA; rintro e w3 ⟨a3, c3, rfl, H3⟩)
          | (go_at_call 19; refine (CY.out _ H3.out).mono ?_; clear CY; rintro e w4 ⟨rfl, H4⟩)
          | (go_at_call 20; refine (CP.out _ H4.out).mono ?_; clear CP; rintro e w5 ⟨rfl, H5⟩))
        go_ret
        exact ⟨rfl, H5.out⟩
      · obtain ⟨x0, l0, hes⟩ : ∃ x l, s.es = x :: l := List.exists_cons_of_ne_nil h0
        have hn0 : 0 < n := by rw [← hn, hes]; simp
        have CA : Hid (Calls Try.prog 18 #[.pointer (some ⟨pb, 0, none⟩)] wr fun e W' => ∃ g c, e = .returned (.slice (some ⟨g, 0, none⟩) n c) ∧ Hid (Ln w pb s s.es g n c W')) := (all_ps hps hf48).mono (by
          rintro e W' ⟨a, c, rfl, q1, q2, q3⟩
          obtain ⟨g, rfl, _⟩ := row_at (k := 0) q1 (by rw [hes]; rfl)
          rw [hn] at q1 ⊢
          exact ⟨g, c, rfl, q2, row_base q1 hps.2.size, hpg g (row_blk q1 rfl).2.1⟩)
        have eY : s.yank = s.at 0 := by simp [Rg.yank, Rg.at, h0]
        have CY : Hid (∀ W g c, Ln w pb s s.es g n c W → Calls Try.prog 19 #[.pointer (some ⟨pb, 0, none⟩)] W fun e W' => e = .returned (.tuple #[.string x0, .int .i64 0]) ∧ Hid (Ln w pb (s.at 0) s.es g n c W')) := fun W g c hW => (yank_ps hW.ps hf48).mono (by
          rintro e W' ⟨rfl, q1, q2⟩
          exact ⟨by simp [Rg.yankT, Rg.yankE, hes], hW.ch (eY ▸ q1) q2⟩)
        have eY2 : ∀ i, (s.at i).yank = s.at 0 := fun i => by simp [Rg.yank, Rg.at, h0]
        have CZ : Hid (∀ W g c i, Ln w pb (s.at i) s.es g n c W → Calls Try.prog 19 #[.pointer (some ⟨pb, 0, none⟩)] W fun e W' => e = .returned (.tuple #[.string x0, .int .i64 0]) ∧ Hid (Ln w pb (s.at 0) s.es g n c W')) := fun W g c i hW => (yank_ps hW.ps (fun s hs => hf48 s hs)).mono (by
          rintro e W' ⟨rfl, q1, q2⟩
          exact ⟨by simp [Rg.yankT, Rg.yankE, Rg.at, hes], hW.ch (eY2 i ▸ q1) q2⟩)
        have CP : Hid (∀ W g c i, Ln w pb (s.at i) s.es g n c W → ∃ x y, s.es[i % n]? = some x ∧ s.es[(i + 1) % n]? = some y ∧ Calls Try.prog 20 #[.pointer (some ⟨pb, 0, none⟩)] W fun e W' => e = .returned (.tuple #[.string x, .string y, .int .i64 0]) ∧ Hid (Ln w pb (s.at (i + 1)) s.es g n c W')) := fun W g c i hW => by
          obtain ⟨x, hx⟩ : ∃ x, s.es[i % n]? = some x := ⟨_, List.getElem?_eq_getElem (by rw [hn]; exact Nat.mod_lt _ hn0)⟩
          obtain ⟨y, hy⟩ : ∃ y, s.es[(i + 1) % n]? = some y := ⟨_, List.getElem?_eq_getElem (by rw [hn]; exact Nat.mod_lt _ hn0)⟩
          refine ⟨x, y, hx, hy, (pop_ps hW.ps (fun s hs => hf48 s hs)).mono ?_⟩
          rintro e W' ⟨rfl, q1, q2⟩
          refine ⟨?_, hW.ch (at_pop i ▸ q1) q2⟩
          rw [at_popA (by rw [hn]; exact hx), at_popB (by rw [hn]; exact hy)]
          rfl
        have CB : Hid (∀ W g c, Ln w pb (s.at 0) s.es g n c W → Calls Try.prog 18 #[.pointer (some ⟨pb, 0, none⟩)] W fun e W' => ∃ a' c', e = .returned (.slice a' n c') ∧ Hid (RdS W' (.slice a' n c') s.es ∧ RdS W' (.slice (some ⟨g, 0, none⟩) n c) s.es ∧ Below w.heap.size w W')) := fun W g c hW => (all_ps hW.ps (fun s hs => hf48 s hs)).mono (by
          rintro e W' ⟨a, c', rfl, q1, q2, q3⟩
          have hn2 : (s.at 0).es.length = n := hn
          rw [hn2] at q1 ⊢
          exact ⟨a, c', rfl, RdS.of_row q1, RdS.of_row (row_below hW.row q3), q2.2⟩)
        have CS : Hid (∀ W a c a' c', RdS W (.slice a n c) s.es → RdS W (.slice a' n c') s.es → Calls Try.prog 21 #[.slice a n c, .slice a' n c'] W fun e W' => e = .returned (.bool true) ∧ Below W.heap.size W W') := fun W a c a' c' k1 k2 => same_any hn (by omega) k1 k2
        have HL : Hid (s.es.length = n ∧ s.es[0]? = some x0) := ⟨hn, by rw [hes]; rfl⟩
        have hnz : ¬ (n : Int) = 0 := by omega
        have hnz' : ((n : Int) == 0) = false := by simp; omega
        have hnp : (0 : Int) < (n : Int) := by omega
        have HI : Hid (∀ i : Nat, ((i : Int).tmod (n : Int) = ((i % n : Nat) : Int)) ∧ ((i : Int) % (n : Int) = ((i % n : Nat) : Int))) := fun i => imod
        rw [hn] at hl3
        obtain ⟨m, hm⟩ : ∃ m : Nat, pn + 2 * min n 100 = m := ⟨_, rfl⟩
        have hm1 : (pn : Int) + 2 * min (n : Int) 100 = (m : Int) := by rw [← hm]; omega
        have hm2 : m ≤ 10000 := by omega
        clear hps HS hf48 hok hpg hn hes eY eY2 h0 hm
        go_upto_region 12 with (first
          | (go_at_call 18; refine CA.out.mono ?_; clear CA; rintro e w3 ⟨g3, c3, rfl, H3⟩)
          | (go_at_call 19; refine (CY.out _ _ _ H3.out).mono ?_; clear CY; rintro e w4 ⟨rfl, H4⟩))
        obtain ⟨g', eg, hc0⟩ := row_at (k := 0) H4.out.row HL.out.2
        cases eg
        clear H3
        go_wp2
        obtain ⟨wq, hwq⟩ : ∃ wq, wq = wr := ⟨_, rfl⟩
        subst hwq
        go_loopw [79] (fun t79 wr => ∃ i : Nat, i ≤ m ∧ t79 = .int .i64 i ∧ Hid (Ln w pb (s.at i) s.es g3 n c3 wr)) (fun t79 _ => m - (intOf t79).toNat)
        case atStart => exact ⟨0, Nat.zero_le _, rfl, H4.out⟩
        case round =>
          obtain ⟨i, hi, rfl, HK⟩ := hrel
          clear H4 hc0
          by_cases hlt2 : i < m
          · obtain ⟨x, y, hx, hy, C⟩ := CP.out _ _ _ _ HK.out
            have HC : Hid (Calls Try.prog 20 #[.pointer (some ⟨pb, 0, none⟩)] wr fun e W' => e = .returned (.tuple #[.string x, .string y, .int .i64 0]) ∧ Hid (Ln w pb (s.at (i + 1)) s.es g3 n c3 W')) := C
            have HXY : Hid (s.es[i % n]? = some x ∧ s.es[(i + 1) % n]? = some y) := ⟨hx, hy⟩
            obtain ⟨t1, t2⟩ := HI.out i
            obtain ⟨t3, t4⟩ := HI.out (i + 1)
            rw [Int.natCast_add, Int.natCast_one] at t3 t4
            obtain ⟨i1, hi1⟩ : ∃ i1, i % n = i1 := ⟨_, rfl⟩
            obtain ⟨i2, hi2⟩ : ∃ i2, (i + 1) % n = i2 := ⟨_, rfl⟩
            have b1 : i1 < n := by rw [← hi1]; exact Nat.mod_lt _ hn0
            have b2 : i2 < n := by rw [← hi2]; exact Nat.mod_lt _ hn0
            have b3 : (i1 : Int) < (n : Int) := by omega
            have b4 : (i2 : Int) < (n : Int) := by omega
            rw [hi1] at t1 t2 HXY
            rw [hi2] at t3 t4 HXY
            have hi9 : (i : Int) ≤ 10000 := by omega
            clear CP C hx hy HK hi1 hi2
            go_wp2_with (first
              | (go_at_call 20; refine HC.out.mono ?_; clear HC; rintro e w5 ⟨rfl, H5⟩; obtain ⟨ga, ea, y0⟩ := row_at H5.out.row HXY.out.1; cases ea; obtain ⟨gb, eb, y1⟩ := row_at H5.out.row HXY.out.2; cases eb))
            exact ⟨⟨i + 1, by omega, by go_num, H5.out⟩, by simp [intOf]; omega⟩
          · clear CP HI
            go_wp2_with (first
              | (go_at_call 19; refine (CZ.out _ _ _ _ HK.out).mono ?_; clear CZ; rintro e w5 ⟨rfl, H5⟩)
              | (go_at_call 18; refine (CB.out _ _ _ H5.out).mono ?_; clear CB; rintro e w6 ⟨a6, c6, rfl, H6⟩)
              | (go_at_call 21; refine (CS.out _ _ _ _ _ H6.out.1 H6.out.2.1).mono ?_; clear CS; rintro e w7 ⟨rfl, hb7⟩; have H7 : Hid (Below w6.heap.size w6 w7) := hb7; clear hb7))
            go_ret
            exact ⟨rfl, H6.out.2.2.trans (H7.out.mono H6.out.2.2.size)⟩
end Go.Proofs.Ytihagjkdghbkdaa
