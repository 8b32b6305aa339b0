/-
  What package hist's Back, Forward and Find do. Conditions: those of each theorem.
-/
import Derived.Test.YtgakgebhhmkclabHGo
namespace Go.Proofs.Ytgakgebhhmkclab
open Go.RowKit

def Hs.backA (t : ByteArray) (h : Hs) : ByteArray × Int := if h.pl = 0 then (⟨#[]⟩, 9) else h.goA ((h.pl : Int) - 1) t
def Hs.back (t : ByteArray) (h : Hs) : Hs := if h.pl = 0 then h else h.goes ((h.pl : Int) - 1) t
def Hs.fwdA (t : ByteArray) (h : Hs) : ByteArray × Int := if h.pl = h.es.length then (⟨#[]⟩, 9) else h.goA ((h.pl : Int) + 1) t
def Hs.fwd (t : ByteArray) (h : Hs) : Hs := if h.pl = h.es.length then h else h.goes ((h.pl : Int) + 1) t
set_option maxRecDepth 100000 in
set_option maxHeartbeats 1000000 in
theorem back_any {w : World} {base pb : Nat} {F : Nat → Prop} {h : Hs} (k : Pr w base pb F h) {t : ByteArray} (ht : t.size ≤ 1099511627776) :
    Calls Try.prog 14 #[.pointer (some ⟨pb, 0, none⟩), .string t] w fun e w' => e = .returned (.tuple #[.string (h.backA t).1, .int .i64 (h.backA t).2]) ∧ ∃ F', Pr w' base pb F' (h.back t) ∧ Mv w F w' F' := by
  have hok := k.ok
  have hpl : h.pl ≤ 1000 := by have := hok.pl; have := hok.len; have := hok.b; omega
  have CP : Hid (Calls Try.prog 9 #[.pointer (some ⟨pb, 0, none⟩)] w fun e w' => e = .returned (.int .i64 (h.pl : Int)) ∧ w' = w) := by obtain ⟨v, d, k, _⟩ := k; exact place_any k
  have HC : Hid (w.cell? ⟨pb, 2, none⟩ = some (.int .i64 (h.pl : Int))) := by obtain ⟨v, d, k, _⟩ := k; exact (box4 k.box).1.2.2.1
  have HX : Hid (∃ F', Pr w base pb F' h ∧ Mv w F w F') := ⟨_, k, Mv.refl _ _⟩
  have c2 := HC.out
  by_cases h0 : h.pl = 0
  · have e1 : h.backA t = (⟨#[]⟩, 9) := by rw [Hs.backA, if_pos h0]
    have e2 : h.back t = h := by rw [Hs.back, if_pos h0]
    rw [e1, e2]
    rw [h0] at CP
    clear k e1 e2 c2
    go_enter Try.func14, Try.ntmps14
    go_wp2_with (go_at_call 9; refine CP.out.mono ?_; clear CP; rintro e w1 ⟨rfl, hw⟩; subst hw)
    go_ret2
    exact ⟨rfl, HX.out⟩
  · have e1 : h.backA t = h.goA ((h.pl : Int) - 1) t := by rw [Hs.backA, if_neg h0]
    have e2 : h.back t = h.goes ((h.pl : Int) - 1) t := by rw [Hs.back, if_neg h0]
    rw [e1, e2]
    have CG : Hid (Calls Try.prog 22 #[.pointer (some ⟨pb, 0, none⟩), .int .i64 ((h.pl : Int) - 1), .string t] w fun e w' => e = .returned (.tuple #[.string (h.goA ((h.pl : Int) - 1) t).1, .int .i64 (h.goA ((h.pl : Int) - 1) t).2]) ∧ Hid (∃ F', Pr w' base pb F' (h.goes ((h.pl : Int) - 1) t) ∧ Mv w F w' F')) := go_any k (by omega) ht
    obtain ⟨pl, hpe⟩ : ∃ pl, h.pl = pl := ⟨_, rfl⟩
    generalize h.goA ((h.pl : Int) - 1) t = A at CG
    generalize h.goes ((h.pl : Int) - 1) t = H at CG
    rw [hpe] at CP c2 CG hpl h0
    have h1 : ¬ (pl : Int) = 0 := by omega
    have h2 : ((pl : Int) == 0) = false := by simp; omega
    clear k e1 e2 hok hpe HC
    go_enter Try.func14, Try.ntmps14
    go_wp2_with (first
      | (go_at_call 9; refine CP.out.mono ?_; clear CP; rintro e w1 ⟨rfl, hw⟩; subst hw)
      | (go_at_call 22; refine CG.out.mono ?_; clear CG; rintro e w2 ⟨rfl, H2⟩))
    go_ret2
    exact ⟨rfl, H2.out⟩
set_option maxRecDepth 100000 in
set_option maxHeartbeats 1000000 in
theorem forward_any {w : World} {base pb : Nat} {F : Nat → Prop} {h : Hs} (k : Pr w base pb F h) {t : ByteArray} (ht : t.size ≤ 1099511627776) :
    Calls Try.prog 15 #[.pointer (some ⟨pb, 0, none⟩), .string t] w fun e w' => e = .returned (.tuple #[.string (h.fwdA t).1, .int .i64 (h.fwdA t).2]) ∧ ∃ F', Pr w' base pb F' (h.fwd t) ∧ Mv w F w' F' := by
  have hok := k.ok
  have hpl : h.pl ≤ 1000 := by have := hok.pl; have := hok.len; have := hok.b; omega
  have CP : Hid (Calls Try.prog 9 #[.pointer (some ⟨pb, 0, none⟩)] w fun e w' => e = .returned (.int .i64 (h.pl : Int)) ∧ w' = w) := by obtain ⟨v, d, k, _⟩ := k; exact place_any k
  have CL : Hid (Calls Try.prog 10 #[.pointer (some ⟨pb, 0, none⟩)] w fun e w' => e = .returned (.int .i64 (h.es.length : Int)) ∧ w' = w) := by obtain ⟨v, d, k, _⟩ := k; exact len_any k
  have HC : Hid (w.cell? ⟨pb, 2, none⟩ = some (.int .i64 (h.pl : Int))) := by obtain ⟨v, d, k, _⟩ := k; exact (box4 k.box).1.2.2.1
  have HX : Hid (∃ F', Pr w base pb F' h ∧ Mv w F w F') := ⟨_, k, Mv.refl _ _⟩
  have c2 := HC.out
  by_cases h0 : h.pl = h.es.length
  · have e1 : h.fwdA t = (⟨#[]⟩, 9) := by rw [Hs.fwdA, if_pos h0]
    have e2 : h.fwd t = h := by rw [Hs.fwd, if_pos h0]
    rw [e1, e2]
    rw [h0] at CP
    generalize h.es.length = n at CP CL
    clear k e1 e2 c2
    go_enter Try.func15, Try.ntmps15
    go_wp2_with (first
      | (go_at_call 9; refine CP.out.mono ?_; clear CP; rintro e w1 ⟨rfl, hw⟩; subst hw)
      | (go_at_call 10; refine CL.out.mono ?_; clear CL; rintro e w1 ⟨rfl, hw⟩; subst hw))
    go_ret2
    exact ⟨rfl, HX.out⟩
  · have e1 : h.fwdA t = h.goA ((h.pl : Int) + 1) t := by rw [Hs.fwdA, if_neg h0]
    have e2 : h.fwd t = h.goes ((h.pl : Int) + 1) t := by rw [Hs.fwd, if_neg h0]
    rw [e1, e2]
    have CG : Hid (Calls Try.prog 22 #[.pointer (some ⟨pb, 0, none⟩), .int .i64 ((h.pl : Int) + 1), .string t] w fun e w' => e = .returned (.tuple #[.string (h.goA ((h.pl : Int) + 1) t).1, .int .i64 (h.goA ((h.pl : Int) + 1) t).2]) ∧ Hid (∃ F', Pr w' base pb F' (h.goes ((h.pl : Int) + 1) t) ∧ Mv w F w' F')) := go_any k (by omega) ht
    obtain ⟨pl, hpe⟩ : ∃ pl, h.pl = pl := ⟨_, rfl⟩
    generalize h.goA ((h.pl : Int) + 1) t = A at CG
    generalize h.goes ((h.pl : Int) + 1) t = H at CG
    rw [hpe] at CP c2 CG hpl h0
    generalize h.es.length = n at CP CL h0
    have h1 : ¬ (pl : Int) = (n : Int) := by omega
    have h2 : ((pl : Int) == (n : Int)) = false := by simp; omega
    clear k e1 e2 hok hpe HC
    go_enter Try.func15, Try.ntmps15
    go_wp2_with (first
      | (go_at_call 9; refine CP.out.mono ?_; clear CP; rintro e w1 ⟨rfl, hw⟩; subst hw)
      | (go_at_call 10; refine CL.out.mono ?_; clear CL; rintro e w1 ⟨rfl, hw⟩; subst hw)
      | (go_at_call 22; refine CG.out.mono ?_; clear CG; rintro e w2 ⟨rfl, H2⟩))
    go_ret2
    exact ⟨rfl, H2.out⟩
theorem back_nil (t : ByteArray) (w : World) : Calls Try.prog 14 #[.pointer none, .string t] w fun e w' => e = .returned (.tuple #[.string ⟨#[]⟩, .int .i64 9]) ∧ w' = w := by
  have CP := place_nil w
  go_enter Try.func14, Try.ntmps14
  go_wp2_with (go_at_call 9; refine CP.mono ?_; clear CP; rintro e w1 ⟨rfl, hw⟩; subst hw)
  go_ret2
  exact ⟨rfl, rfl⟩
theorem forward_nil (t : ByteArray) (w : World) : Calls Try.prog 15 #[.pointer none, .string t] w fun e w' => e = .returned (.tuple #[.string ⟨#[]⟩, .int .i64 9]) ∧ w' = w := by
  have CP := place_nil w
  have CL := len_nil w
  go_enter Try.func15, Try.ntmps15
  go_wp2_with (first
    | (go_at_call 9; refine CP.mono ?_; clear CP; rintro e w1 ⟨rfl, hw⟩; subst hw)
    | (go_at_call 10; refine CL.mono ?_; clear CL; rintro e w1 ⟨rfl, hw⟩; subst hw))
  go_ret2
  exact ⟨rfl, rfl⟩
/-- the newest of the first k entries that has t in it, and where it begins last -/
def fdL (es : Tl) (t : ByteArray) : Nat → Int × Int × Int
  | 0 => (0, 0, 10)
  | k + 1 => if 0 ≤ Lib.lastIndex (es.getD k ⟨#[]⟩).data.toList t.data.toList then ((k : Int), Lib.lastIndex (es.getD k ⟨#[]⟩).data.toList t.data.toList, 0) else fdL es t k
def capN (i : Int) (n : Nat) : Nat := if i < 0 then 0 else if (n : Int) < i then n else i.toNat
theorem capN_le (i : Int) (n : Nat) : capN i n ≤ n := by unfold capN; split; · omega
                                                         · split <;> omega
theorem capN_eq (i : Int) (n : Nat) : min (max i 0) (n : Int) = (capN i n : Int) := by unfold capN; split; · omega
                                                                                       · split <;> omega
def Hs.find (t : ByteArray) (i : Int) (h : Hs) : Int × Int × Int := if t = ⟨#[]⟩ then (0, 0, 10) else fdL h.es t (capN i h.es.length)
theorem not_emp {s : ByteArray} (h : ¬ s = ⟨#[]⟩) : s.toList.isEmpty = false := by
  rw [Lib.toList_data]
  obtain ⟨⟨l⟩⟩ := s
  cases l with
  | nil => exact absurd rfl h
  | cons x l => rfl
set_option maxRecDepth 100000 in
set_option maxHeartbeats 1000000 in
theorem find_any {w : World} {base pb : Nat} {v d : Value} {h : Hs} (k : Pv w base pb v d h) {t : ByteArray} {i : Int} (_hi : -9223372036854775808 ≤ i ∧ i ≤ 9223372036854775807) :
    Calls Try.prog 7 #[.pointer (some ⟨pb, 0, none⟩), .string t, .int .i64 i] w fun e w' => e = .returned (.tuple #[.int .i64 (h.find t i).1, .int .i64 (h.find t i).2.1, .int .i64 (h.find t i).2.2]) ∧ w' = w := by
  by_cases h0 : t = ⟨#[]⟩
  · have e : h.find t i = (0, 0, 10) := by rw [Hs.find, if_pos h0]
    rw [e]
    subst h0
    clear k e
    go_enter Try.func7, Try.ntmps7
    go_wp2
    go_ret3
    exact ⟨rfl, rfl⟩
  · have hemp := not_emp h0
    have CL := len_any k
    have hs := k.small
    obtain ⟨C, hC⟩ : ∃ C, capN i h.es.length = C := ⟨_, rfl⟩
    have hmin := capN_eq i h.es.length
    have hCn := capN_le i h.es.length
    rw [hC] at hmin hCn
    have e : h.find t i = fdL h.es t C := by rw [Hs.find, if_neg h0, hC]
    rw [e]
    obtain ⟨⟨c0, c1, c2, c3⟩, _⟩ := box4 k.box
    obtain ⟨a, c, rfl, _⟩ := row_slice k.row
    have HR : Hid (∀ j s, h.es[j]? = some s → ∃ g, a = some ⟨g, 0, none⟩ ∧ w.cell? ⟨g, j, none⟩ = some (.string s)) := fun j s hj => row_at k.row hj
    have HF : Hid (∀ s ∈ h.es, s.size ≤ 1099511627776) := k.ok.fe
    obtain ⟨n, hn⟩ : ∃ n, h.es.length = n := ⟨_, rfl⟩
    have HN : Hid (h.es.length = n) := hn
    rw [hn] at CL c1 hmin hCn hs
    clear k e hC hn
    go_enter Try.func7, Try.ntmps7
    go_wp2_with (go_at_call 10; refine CL.mono ?_; clear CL; rintro e w1 ⟨rfl, hw⟩; subst hw)
    go_loopw [9] (fun t9 wr => ∃ (j : Nat), j ≤ C ∧ t9 = .int .i64 ((j : Int) - 1) ∧ w1 = wr ∧ Hid (fdL h.es t C = fdL h.es t j)) (fun t9 _ => ((intOf t9) + 1).toNat)
    case atStart => exact ⟨C, Nat.le_refl _, rfl, rfl, rfl⟩
    case round =>
      obtain ⟨j, hj, rfl, rfl, HK⟩ := hrel
      cases j with
      | zero =>
        go_wp2
        go_ret3
        rw [HK.out]
        exact ⟨rfl, rfl⟩
      | succ j =>
        have e3 : (((j + 1 : Nat) : Int) - 1) = (j : Int) := by omega
        rw [e3]
        obtain ⟨s, hs2⟩ : ∃ s, h.es[j]? = some s := ⟨h.es[j]'(by rw [HN.out]; omega), List.getElem?_eq_getElem _⟩
        obtain ⟨g, rfl, hc⟩ := HR.out j s hs2
        have CI := Try.strings_LastIndex s t (by have := HF.out s (List.mem_of_getElem? hs2); omega) w1
        have HS : Hid (fdL h.es t (j + 1) = if 0 ≤ Lib.lastIndex s.data.toList t.data.toList then ((j : Int), Lib.lastIndex s.data.toList t.data.toList, 0) else fdL h.es t j) := by
          show fdL h.es t (j + 1) = _
          rw [fdL, List.getD_eq_getElem?_getD, hs2]; rfl
        generalize Lib.lastIndex s.data.toList t.data.toList = x at CI HS
        have hlt : (j : Int) < (n : Int) := by omega
        have hlt2 : j < n := by omega
        have hjC : j ≤ C := by omega
        clear hs2 hj
        by_cases hx : 0 ≤ x
        · go_wp2_with (go_at_call 17; refine CI.mono ?_; clear CI; rintro e w2 ⟨rfl, hw⟩; subst hw)
          go_ret3
          rw [HK.out, HS.out, if_pos hx]
          exact ⟨rfl, rfl⟩
        · go_wp2_with (go_at_call 17; refine CI.mono ?_; clear CI; rintro e w2 ⟨rfl, hw⟩; subst hw)
          refine ⟨⟨j, hjC, by first | trivial | rfl | go_num, by first | trivial | rfl, ?_⟩, by simp [intOf]⟩
          have h1 := HK.out
          rw [HS.out, if_neg (by omega)] at h1
          exact h1
set_option maxRecDepth 100000 in
theorem find_nil {t : ByteArray} {i : Int} (hi : -9223372036854775808 ≤ i ∧ i ≤ 9223372036854775807) (w : World) :
    Calls Try.prog 7 #[.pointer none, .string t, .int .i64 i] w fun e w' => e = .returned (.tuple #[.int .i64 0, .int .i64 0, .int .i64 10]) ∧ w' = w := by
  by_cases h0 : t = ⟨#[]⟩
  · subst h0
    go_enter Try.func7, Try.ntmps7
    go_wp2
    go_ret3
    exact ⟨rfl, rfl⟩
  · have hemp := not_emp h0
    have CL := len_nil w
    have hmin : min (max i 0) 0 = 0 := by omega
    go_enter Try.func7, Try.ntmps7
    go_wp2_with (go_at_call 10; refine CL.mono ?_; clear CL; rintro e w1 ⟨rfl, hw⟩; subst hw)
    go_loopw [9] (fun t9 wr => t9 = .int .i64 (-1) ∧ w1 = wr) (fun t9 _ => 0)
    case atStart => exact ⟨rfl, rfl⟩
    case round =>
      obtain ⟨rfl, rfl⟩ := hrel
      go_wp2
      go_ret3
      exact ⟨rfl, rfl⟩
end Go.Proofs.Ytgakgebhhmkclab
