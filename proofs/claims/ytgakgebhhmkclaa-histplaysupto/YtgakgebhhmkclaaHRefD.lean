/-
  The document's own history, on: Back, Forward, last, Find. Conditions: those of each theorem.
-/
import Derived.Test.YtgakgebhhmkclaaHRefC
import Derived.Lib.IndexBytes
namespace Go.Proofs.Ytgakgebhhmkclaa
open Go.RowKit

set_option maxRecDepth 100000 in
set_option maxHeartbeats 1000000 in
theorem rback_any {w : World} {base pb : Nat} {F : Nat → Prop} {h : Hs} (k : Rr w base pb F h) {t : ByteArray} (ht : t.size ≤ 1099511627776) :
    Calls Try.prog 36 #[.pointer (some ⟨pb, 0, none⟩), .string t] w fun e w' => e = .returned (.tuple #[.string (h.backA t).1, .int .i64 (h.backA t).2]) ∧ ∃ F', Rr w' base pb F' (h.back t) ∧ Mv w F w' F' := by
  have hok : h.Ok := by obtain ⟨v, d, k, _⟩ := k; exact k.ok
  have hpl : h.pl ≤ 1000 := by have := hok.pl; have := hok.len; have := hok.b; omega
  have c2 : w.cell? ⟨pb, 2, none⟩ = some (.int .i64 (h.pl : Int)) := by obtain ⟨v, d, k, _⟩ := k; exact (box4 k.box).1.2.2.1
  have HX : Hid (∃ F', Rr w base pb F' h ∧ Mv w F w F') := ⟨_, k, Mv.refl _ _⟩
  by_cases h0 : h.pl = 0
  · have e1 : h.backA t = (⟨#[]⟩, 9) := by rw [Hs.backA, if_pos h0]
    have e2 : h.back t = h := by rw [Hs.back, if_pos h0]
    rw [e1, e2]
    rw [h0] at c2
    clear k e1 e2
    go_enter Try.func36, Try.ntmps36
    go_wp2
    go_ret2
    exact ⟨rfl, HX.out⟩
  · have e1 : h.backA t = h.goA ((h.pl : Int) - 1) t := by rw [Hs.backA, if_neg h0]
    have e2 : h.back t = h.goes ((h.pl : Int) - 1) t := by rw [Hs.back, if_neg h0]
    rw [e1, e2]
    have CG : Hid (Calls Try.prog 38 #[.pointer (some ⟨pb, 0, none⟩), .int .i64 ((h.pl : Int) - 1), .string t] w fun e w' => e = .returned (.tuple #[.string (h.goA ((h.pl : Int) - 1) t).1, .int .i64 (h.goA ((h.pl : Int) - 1) t).2]) ∧ Hid (∃ F', Rr w' base pb F' (h.goes ((h.pl : Int) - 1) t) ∧ Mv w F w' F')) := rgo_any k (by omega) ht
    obtain ⟨pl, hpe⟩ : ∃ pl, h.pl = pl := ⟨_, rfl⟩
    generalize h.goA ((h.pl : Int) - 1) t = A at CG
    generalize h.goes ((h.pl : Int) - 1) t = H at CG
    rw [hpe] at c2 CG hpl h0
    have h1 : ¬ (pl : Int) = 0 := by omega
    have h2 : ((pl : Int) == 0) = false := by simp; omega
    clear k e1 e2 hok hpe
    go_enter Try.func36, Try.ntmps36
    go_wp2_with (go_at_call 38; refine CG.out.mono ?_; clear CG; rintro e w2 ⟨rfl, H2⟩)
    go_ret2
    exact ⟨rfl, H2.out⟩
set_option maxRecDepth 100000 in
set_option maxHeartbeats 1000000 in
theorem rforward_any {w : World} {base pb : Nat} {F : Nat → Prop} {h : Hs} (k : Rr w base pb F h) {t : ByteArray} (ht : t.size ≤ 1099511627776) :
    Calls Try.prog 37 #[.pointer (some ⟨pb, 0, none⟩), .string t] w fun e w' => e = .returned (.tuple #[.string (h.fwdA t).1, .int .i64 (h.fwdA t).2]) ∧ ∃ F', Rr w' base pb F' (h.fwd t) ∧ Mv w F w' F' := by
  have hok : h.Ok := by obtain ⟨v, d, k, _⟩ := k; exact k.ok
  have hpl : h.pl ≤ 1000 := by have := hok.pl; have := hok.len; have := hok.b; omega
  have hnl : h.es.length ≤ 1000 := by have := hok.len; have := hok.b; omega
  obtain ⟨va, vc, c1, c2⟩ : ∃ va vc, w.cell? ⟨pb, 1, none⟩ = some (.slice va h.es.length vc) ∧ w.cell? ⟨pb, 2, none⟩ = some (.int .i64 (h.pl : Int)) := by
    obtain ⟨v, d, k, _⟩ := k
    obtain ⟨a, c, rfl, _⟩ := k.row.sl
    exact ⟨a, c, (box4 k.box).1.2.1, (box4 k.box).1.2.2.1⟩
  have HX : Hid (∀ m, ∃ F', Rr (w.drewN m) base pb F' h ∧ Mv w F (w.drewN m) F') := fun m => ⟨_, k.of_heap (fun _ _ => rfl), Mv.below (drewN_below _ _ _)⟩
  by_cases h0 : h.pl = h.es.length
  · have e1 : h.fwdA t = (⟨#[]⟩, 9) := by rw [Hs.fwdA, if_pos h0]
    have e2 : h.fwd t = h := by rw [Hs.fwd, if_pos h0]
    rw [e1, e2]
    rw [h0] at c2
    generalize h.es.length = n at c1 c2 hnl
    clear k e1 e2 h0
    go_enter Try.func37, Try.ntmps37
    go_wp2
    go_quiet (fail)
    go_wp2
    go_ret2
    exact ⟨rfl, HX.out _⟩
  · have e1 : h.fwdA t = h.goA ((h.pl : Int) + 1) t := by rw [Hs.fwdA, if_neg h0]
    have e2 : h.fwd t = h.goes ((h.pl : Int) + 1) t := by rw [Hs.fwd, if_neg h0]
    rw [e1, e2]
    have CG : Hid (∀ m, Calls Try.prog 38 #[.pointer (some ⟨pb, 0, none⟩), .int .i64 ((h.pl : Int) + 1), .string t] (w.drewN m) fun e w' => e = .returned (.tuple #[.string (h.goA ((h.pl : Int) + 1) t).1, .int .i64 (h.goA ((h.pl : Int) + 1) t).2]) ∧ Hid (∃ F', Rr w' base pb F' (h.goes ((h.pl : Int) + 1) t) ∧ Mv w F w' F')) := fun m => (rgo_any (w := w.drewN m) (k.of_heap (fun _ _ => rfl)) (by omega) ht).mono (by
      rintro e w' ⟨rfl, F', q1, q2⟩
      exact ⟨rfl, F', q1, (Mv.below (drewN_below _ _ _)).trans q2⟩)
    obtain ⟨pl, hpe⟩ : ∃ pl, h.pl = pl := ⟨_, rfl⟩
    generalize h.goA ((h.pl : Int) + 1) t = A at CG
    generalize h.goes ((h.pl : Int) + 1) t = H at CG
    rw [hpe] at c2 CG hpl h0
    generalize h.es.length = n at c1 h0 hnl
    have h1 : ¬ (pl : Int) = (n : Int) := by omega
    have h2 : ((pl : Int) == (n : Int)) = false := by simp; omega
    clear k e1 e2 hok hpe
    go_enter Try.func37, Try.ntmps37
    go_wp2
    go_quiet (fail)
    go_wp2_with (go_at_call 38; refine (CG.out _).mono ?_; clear CG; rintro e w2 ⟨rfl, H2⟩)
    go_ret2
    exact ⟨rfl, H2.out⟩
set_option maxRecDepth 100000 in
set_option maxHeartbeats 1000000 in
theorem rlast_any {s t : ByteArray} (hs : s.size ≤ 1099511627776) (ht : t.size ≤ 1099511627776) (w : World) :
    Calls Try.prog 47 #[.string s, .string t] w fun e w' => e = .returned (.int .i64 (Lib.lastIndex s.data.toList t.data.toList)) ∧ w' = w := by
  obtain ⟨n, hn⟩ : ∃ n, s.size = n := ⟨_, rfl⟩
  obtain ⟨m, hm⟩ : ∃ m, t.size = m := ⟨_, rfl⟩
  have HI : Hid (Lib.lastIndex s.data.toList t.data.toList = if m ≤ n then Lib.lastOcc s.data.toList t.data.toList (n - m + 1) else -1) := by
    show _ = _
    rw [← hn, ← hm]
    rfl
  have HO : Hid (∀ i, i + m ≤ n → Lib.occAt s.data.toList t.data.toList i = ((s.extract i (i + m)).toList == t.toList)) := fun i hi => by rw [← hm]; exact Lib.occ_of_piece s t i (by omega)
  rw [hn] at hs
  rw [hm] at ht
  have HNM : Hid (s.size = n ∧ t.size = m) := ⟨hn, hm⟩
  by_cases hmn : m ≤ n
  · go_enter Try.func47, Try.ntmps47
    go_wp2
    go_loopw [5] (fun t5 wr => ∃ (j : Nat), j ≤ n - m + 1 ∧ t5 = .int .i64 ((j : Int) - 1) ∧ w = wr ∧ Hid (Lib.lastIndex s.data.toList t.data.toList = Lib.lastOcc s.data.toList t.data.toList j)) (fun t5 _ => ((intOf t5) + 1).toNat)
    case atStart => exact ⟨n - m + 1, Nat.le_refl _, by congr 1; omega, rfl, by show _ = _; rw [HI.out, if_pos hmn]⟩
    case round =>
      obtain ⟨j, hj, rfl, rfl, HK⟩ := hrel
      cases j with
      | zero =>
        go_wp2
        go_ret
        rw [HK.out]
        exact ⟨rfl, rfl⟩
      | succ j =>
        have e3 : (((j + 1 : Nat) : Int) - 1) = (j : Int) := by omega
        rw [e3]
        have hjm : j + m ≤ n := by omega
        have hx := HO.out j hjm
        have hjm' : (j : Int) + (m : Int) ≤ (n : Int) := by omega
        by_cases hocc : Lib.occAt s.data.toList t.data.toList j = true
        · rw [hocc] at hx
          have hx2 := hx.symm
          have HK2 : Hid (Lib.lastIndex s.data.toList t.data.toList = (j : Int)) := HK.out.trans (Lib.lastOcc_hit _ _ _ hocc)
          clear hx hocc
          go_wp2
          go_ret
          rw [HK2.out]
          exact ⟨rfl, rfl⟩
        · have hocc2 : Lib.occAt s.data.toList t.data.toList j = false := by simpa using hocc
          rw [hocc2] at hx
          have hx2 := hx.symm
          have HK2 : Hid (Lib.lastIndex s.data.toList t.data.toList = Lib.lastOcc s.data.toList t.data.toList j) := HK.out.trans (Lib.lastOcc_miss _ _ _ hocc2)
          clear hx hocc hocc2
          go_wp2
          exact ⟨⟨j, by omega, rfl, trivial, HK2.out⟩, by simp [intOf]⟩
  · have hneg : (n : Int) - (m : Int) < 0 := by omega
    have HI2 : Hid (Lib.lastIndex s.data.toList t.data.toList = -1) := HI.out.trans (if_neg hmn)
    clear HI HO
    go_enter Try.func47, Try.ntmps47
    go_wp2
    go_loopw [5] (fun t5 wr => t5 = .int .i64 ((n : Int) - (m : Int)) ∧ w = wr) (fun _ _ => 0)
    case atStart => exact ⟨rfl, rfl⟩
    case round =>
      obtain ⟨rfl, rfl⟩ := hrel
      go_wp2
      go_ret
      rw [HI2.out]
      exact ⟨rfl, rfl⟩
set_option maxRecDepth 100000 in
set_option maxHeartbeats 1000000 in
theorem rfind_any {w : World} {base pb : Nat} {v d : Value} {h : Hs} (k : Rv w base pb v d h) {t : ByteArray} (ht : t.size ≤ 1099511627776) {i : Int} (_hi : -9223372036854775808 ≤ i ∧ i ≤ 9223372036854775807) :
    Calls Try.prog 39 #[.pointer (some ⟨pb, 0, none⟩), .string t, .int .i64 i] w fun e w' => e = .returned (.tuple #[.int .i64 (h.find t i).1, .int .i64 (h.find t i).2.1, .int .i64 (h.find t i).2.2]) ∧ w' = w := by
  have hs := k.small
  obtain ⟨C, hC⟩ : ∃ C, capN i h.es.length = C := ⟨_, rfl⟩
  have hmin := capN_eq i h.es.length
  have hCn := capN_le i h.es.length
  rw [hC] at hmin hCn
  obtain ⟨⟨c0, c1, c2, c3⟩, _⟩ := box4 k.box
  obtain ⟨a, c, hv, _, _, hcl⟩ := k.row.sl
  subst hv
  have HR : Hid (∀ (j : Nat) s, h.es[j]? = some s → ∃ g o, a = some ⟨g, o, none⟩ ∧ w.cell? ⟨g, o + j, none⟩ = some (.string s)) := hcl
  have HF : Hid (∀ s ∈ h.es, s.size ≤ 1099511627776) := k.ok.fe
  obtain ⟨n, hn⟩ : ∃ n, h.es.length = n := ⟨_, rfl⟩
  have HN : Hid (h.es.length = n) := hn
  have HFd : Hid (h.find t i = if t = ⟨#[]⟩ then (0, 0, 10) else fdL h.es t C) := by show _ = _; rw [Hs.find, hC]
  rw [hn] at c1 hmin hCn hs
  clear k hC hn hcl
  by_cases h0 : t = ⟨#[]⟩
  · have e := HFd.out
    rw [if_pos h0] at e
    rw [e]
    subst h0
    clear e HFd
    go_enter Try.func39, Try.ntmps39
    go_wp2
    go_loopw [9] (fun t9 wr => t9 = .int .i64 ((C : Int) - 1) ∧ w = wr) (fun _ _ => 0)
    case atStart => exact ⟨rfl, rfl⟩
    case round =>
      obtain ⟨rfl, rfl⟩ := hrel
      by_cases hC0 : C = 0
      · have hC1 : (C : Int) - 1 = -1 := by omega
        rw [hC1]
        go_wp2
        go_ret3
        exact ⟨rfl, rfl⟩
      · have hC1 : (0 : Int) ≤ (C : Int) - 1 := by omega
        go_wp2
        go_ret3
        exact ⟨rfl, rfl⟩
  · have hemp := not_emp h0
    have e := HFd.out
    rw [if_neg h0] at e
    rw [e]
    clear e HFd
    go_enter Try.func39, Try.ntmps39
    go_wp2
    go_loopw [9] (fun t9 wr => ∃ (j : Nat), j ≤ C ∧ t9 = .int .i64 ((j : Int) - 1) ∧ w = wr ∧ Hid (fdL h.es t C = fdL h.es t j)) (fun t9 _ => ((intOf t9) + 1).toNat)
    case atStart => exact ⟨C, Nat.le_refl _, rfl, rfl, rfl⟩
    case round =>
      obtain ⟨j, hj, rfl, rfl, HK⟩ := hrel
      cases j with
      | zero =>
        go_wp2
        go_ret3
        rw [HK.out]
        exact ⟨rfl, rfl⟩
      | succ j =>
        have e3 : (((j + 1 : Nat) : Int) - 1) = (j : Int) := by omega
        rw [e3]
        obtain ⟨s, hs2⟩ : ∃ s, h.es[j]? = some s := ⟨h.es[j]'(by rw [HN.out]; omega), List.getElem?_eq_getElem _⟩
        obtain ⟨g, o, rfl, hc⟩ := HR.out j s hs2
        have CI := rlast_any (s := s) (t := t) (HF.out s (List.mem_of_getElem? hs2)) ht w
        have HS : Hid (fdL h.es t (j + 1) = if 0 ≤ Lib.lastIndex s.data.toList t.data.toList then ((j : Int), Lib.lastIndex s.data.toList t.data.toList, 0) else fdL h.es t j) := by
          show fdL h.es t (j + 1) = _
          rw [fdL, List.getD_eq_getElem?_getD, hs2]; rfl
        generalize Lib.lastIndex s.data.toList t.data.toList = x at CI HS
        have hlt : (j : Int) < (n : Int) := by omega
        have hlt2 : j < n := by omega
        have hjC : j ≤ C := by omega
        clear hs2 hj
        by_cases hx : 0 ≤ x
        · go_wp2_with (go_at_call 47; refine CI.mono ?_; clear CI; rintro e w2 ⟨rfl, hw⟩; subst hw)
          go_ret3
          rw [HK.out, HS.out, if_pos hx]
          exact ⟨rfl, rfl⟩
        · go_wp2_with (go_at_call 47; refine CI.mono ?_; clear CI; rintro e w2 ⟨rfl, hw⟩; subst hw)
          refine ⟨⟨j, hjC, by first | trivial | rfl | go_num, by first | trivial | rfl, ?_⟩, by simp [intOf]⟩
          have h1 := HK.out
          rw [HS.out, if_neg (by omega)] at h1
          exact h1
end Go.Proofs.Ytgakgebhhmkclaa
