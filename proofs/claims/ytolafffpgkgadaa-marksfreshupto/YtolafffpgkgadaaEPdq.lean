/-
  The library's bits.Len of a small number; pdqsortOrdered at bytes where there are few; slices.Sort at few bytes. Conditions: those of each theorem.
-/
import Derived.Test.YtolafffpgkgadaaEIns
import Derived.Lib.IndexBytes
namespace Go.Proofs.Ytolafffpgkgadaa
open Go.RowKit

theorem w64 {x : Int} (h0 : 0 ≤ x) (h1 : x < 256) : wrap64 x = x := IntWalk.wrap64_in x (by omega)
set_option maxRecDepth 100000 in
set_option maxHeartbeats 1000000 in
theorem len64_any {n : Nat} (h : n < 256) (w : World) : Calls Try.prog 67 #[.int .u64 (n : Int)] w fun e w' => (∃ r : Nat, r < 256 ∧ e = .returned (.int .i64 (r : Int))) ∧ w' = w := by
  have h1 : ¬ ((4294967296 : Int) ≤ (n : Int)) := by omega
  have h2 : ¬ ((65536 : Int) ≤ (n : Int)) := by omega
  have h3 : ¬ ((256 : Int) ≤ (n : Int)) := by omega
  go_enter Try.func67, Try.ntmps67
  go_wp2
  go_ret
  have hb : ∀ u : UInt8, wrap64 (wrap64 (u.toNat : Int)) = (u.toNat : Int) := fun u => by
    have := u.toNat_lt
    have e := w64 (x := (u.toNat : Int)) (by omega) (by omega)
    rw [e, e]
  refine ⟨⟨_, UInt8.toNat_lt _, congrArg (fun x => Ending.returned (.int .i64 x)) (hb _)⟩, rfl⟩
set_option maxRecDepth 100000 in
theorem blen_any {n : Nat} (h : n < 256) (w : World) : Calls Try.prog 56 #[.int .u64 (n : Int)] w fun e w' => (∃ r : Nat, r < 256 ∧ e = .returned (.int .i64 (r : Int))) ∧ w' = w := by
  have CL := len64_any h w
  go_enter Try.func56, Try.ntmps56
  go_wp2_with (go_at_call 67; refine CL.mono ?_; rintro e w1 ⟨⟨r, hr, rfl⟩, rfl⟩)
  go_ret
  exact ⟨⟨r, hr, rfl⟩, rfl⟩

set_option maxRecDepth 100000 in
set_option maxHeartbeats 2000000 in
/-- at most twelve bytes -/
theorem pdq_low (w : World) (g cap N : Nat) (A M C : List Nat) (rest : List Value) (hN : N = (A ++ M ++ C).length) (hsz : N ≤ 140737488351232) (a b : Nat) (ha : A.length = a) (hb : b = a + M.length) (hm : M ≠ []) (h12 : M.length ≤ 12) (h : Bx w g (A ++ M ++ C) rest) (l : Int) :
    Calls Try.prog 55 #[.slice (some ⟨g, 0, none⟩) N cap, .int .i64 a, .int .i64 b, .int .i64 l] w fun e w' => e = .returned (.tuple #[]) ∧ ∃ M', M'.Perm M ∧ Srt M' ∧ Bx w' g (A ++ M' ++ C) rest ∧ w.grownBy w' (some g) := by
  have CI := ins_any w g cap N A M C rest hN hsz a b ha hb hm h
  have hbN : b ≤ N := by rw [hN, hb]; simp; omega
  have h1 : a ≤ b := by omega
  have h2 : (b : Int) - (a : Int) ≤ 12 := by omega
  clear h hN ha hb hm h12
  go_enter Try.func55, Try.ntmps55
  go_wp2
  go_loopw [1, 2] (fun t1 t2 wr => wr = w ∧ t1 = .int .i64 a ∧ t2 = .int .i64 b) (fun _ _ _ => 0)
  case atStart => exact ⟨rfl, rfl, rfl⟩
  case round =>
    obtain ⟨rfl, rfl, rfl⟩ := hrel
    go_wp2_with (go_at_call 57; refine CI.mono ?_; rintro e w1 ⟨rfl, M', q⟩)
    exact bodyPost_ret (results_none rfl _ _ _) rfl ⟨rfl, M', q⟩
/-- slices.Sort of n bytes -/
def SortsTo (n : Nat) : Prop := ∀ (w : World) (g cap : Nat) (xs : List Nat) (rest : List Value), xs.length = n → xs.Nodup → Bx w g xs rest →
  Calls Try.prog 51 #[.slice (some ⟨g, 0, none⟩) n cap] w fun e w' => e = .returned (.tuple #[]) ∧ ∃ ys, ys.Perm xs ∧ Srt ys ∧ Bx w' g ys rest ∧ w.grownBy w' (some g)
set_option maxRecDepth 100000 in
theorem sort_low {n : Nat} (h0 : 0 < n) (hn : n ≤ 12) : SortsTo n := by
  intro w g cap xs rest hl _ h
  have CL := blen_any (n := n) (by omega) w
  have CP : Hid (∀ l, Calls Try.prog 55 #[.slice (some ⟨g, 0, none⟩) n cap, .int .i64 0, .int .i64 n, .int .i64 l] w fun e w' => e = .returned (.tuple #[]) ∧ ∃ M', M'.Perm xs ∧ Srt M' ∧ Bx w' g M' rest ∧ w.grownBy w' (some g)) := fun l => by
    have := pdq_low w g cap n [] xs [] rest (by simp [hl]) (by omega) 0 n rfl (by omega) (fun e => by rw [e] at hl; simp at hl; omega) (by omega) (by simpa using h) l
    simpa using this
  clear h hl
  go_enter Try.func51, Try.ntmps51
  go_wp2_with (first | (go_at_call 56; refine CL.mono ?_; rintro e w1 ⟨⟨r, hr, rfl⟩, rfl⟩) | (go_at_call 55; refine (CP.out _).mono ?_; rintro e w2 ⟨rfl, q⟩))
  go_end0
  exact ⟨rfl, q⟩
end Go.Proofs.Ytolafffpgkgadaa
