/-
  Package marks' Get of a set. Conditions: those of each theorem.
-/
import Derived.Test.YtolafffpgkgadaaESet
namespace Go.Proofs.Ytolafffpgkgadaa
open Go.RowKit Go.ChangeMaps Go.MapKept

/-- what Get answers: the place, the error -/
def getE (n : Nat) (L : Ml) : Int × Int := if gd n then (match got n L with | some a => (a, 0) | none => (0, 7)) else (0, 13)
set_option maxRecDepth 100000 in
theorem get_own {w : World} {sb b : Nat} {L : Ml} (h : St w sb (some b) L) {n : Nat} (hn : n < 256) :
    Calls Try.prog 23 #[.pointer (some ⟨sb, 0, none⟩), .int .u8 (n : Int)] w fun e w' => e = .returned (.tuple #[.int .i64 (getE n L).1, .int .i64 (getE n L).2]) ∧ w' = w := by
  have CG := good_any hn w
  cases hg : gd n with
  | false =>
    rw [hg] at CG
    go_enter Try.func23, Try.ntmps23
    go_wp2_with (go_at_call 41; refine CG.mono ?_; rintro e w1 ⟨rfl, rfl⟩)
    go_ret2
    exact ⟨by simp [getE, hg], rfl⟩
  | true =>
    rw [hg] at CG
    have CA := all_any h
    have hkey := key8 hn
    have hown := (h.own b rfl).2
    have hhas := has_mk (n := n) (L := L)
    have hat0 := at_mk (n := n) (.lit (.int .i64 0)) (L := L)
    cases hq : got n L with
    | none =>
      rw [hq] at hhas hat0
      simp only [Option.isSome] at hhas
      go_enter Try.func23, Try.ntmps23
      go_wp2_with (first
        | (go_at_call 41; refine CG.mono ?_; clear CG; rintro e w1 ⟨rfl, rfl⟩)
        | (go_at_call 39; refine CA.mono ?_; clear CA; rintro e w1 ⟨rfl, rfl⟩)
        | (at_lookup; refine wpList_lookup_own_ok_int _ rfl _ _ 47 rfl 5 3 .i64 law8 Try.underlying47 Try.underlying3 (zero64 _) b _ _ rfl hown.1 _ _ rfl hkey ?_; intro c hat hwc; rw [hhas]; clear hat hwc)
        | go_in)
      go_ret2
      exact ⟨by simp [getE, hg, hq], rfl⟩
    | some v =>
      rw [hq] at hhas hat0
      simp only [Option.isSome] at hhas hat0
      go_enter Try.func23, Try.ntmps23
      go_wp2_with (first
        | (go_at_call 41; refine CG.mono ?_; clear CG; rintro e w1 ⟨rfl, rfl⟩)
        | (go_at_call 39; refine CA.mono ?_; clear CA; rintro e w1 ⟨rfl, rfl⟩)
        | (at_lookup; refine wpList_lookup_own_ok_int _ rfl _ _ 47 rfl 5 3 .i64 law8 Try.underlying47 Try.underlying3 (zero64 _) b _ _ rfl hown.1 _ _ rfl hkey ?_; intro c hat hwc; rw [hhas]; obtain rfl : c = v := (by rw [hat0] at hat; simpa using hat.symm); clear hat hwc)
        | go_in)
      go_ret2
      exact ⟨by simp [getE, hg, hq], rfl⟩
end Go.Proofs.Ytolafffpgkgadaa
