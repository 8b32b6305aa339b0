/-
  The library's partialInsertionSortOrdered at fewer than fifty bytes: it changes nothing, and answers true only where they are sorted. Conditions: those of the theorem.
-/
import Derived.Test.YtolafffpgkgadaaEHeap
namespace Go.Proofs.Ytolafffpgkgadaa
open Go.RowKit

theorem srt_next {ys : List Nat} {a b : Nat} (h : ∀ k, a < k → k < b → nth ys (k - 1) ≤ nth ys k) : SrtOn a b ys := fun i j h1 h2 h3 => by
  obtain ⟨d, rfl⟩ : ∃ d, j = i + 1 + d := ⟨j - i - 1, by omega⟩
  induction d with
  | zero => exact h (i + 1) (by omega) h3
  | succ d ih =>
    have := ih (by omega) (by omega)
    have := h (i + 1 + (d + 1)) (by omega) h3
    rw [show i + 1 + (d + 1) - 1 = i + 1 + d by omega] at this
    omega
set_option maxRecDepth 100000 in
set_option maxHeartbeats 2000000 in
theorem pins_any (w : World) (g cap N : Nat) (xs : List Nat) (rest : List Value) (hN : xs.length = N) (hsz : N ≤ 1048576) (a b l : Nat) (hl : b = a + l) (h1 : 1 ≤ l) (h50 : l < 50) (hb : b ≤ N) (h : Bx w g xs rest) :
    Calls Try.prog 62 #[.slice (some ⟨g, 0, none⟩) N cap, .int .i64 a, .int .i64 b] w fun e w' => ∃ q : Bool, e = .returned (.bool q) ∧ (q = true → SrtOn a b xs) ∧ ∃ n, w' = w.drewN n := by
  have hba : (b : Int) - (a : Int) < 50 := by omega
  have hab : a < b := by omega
  have HX : Hid (Bx w g xs rest ∧ xs.length = N) := ⟨h, hN⟩
  clear h hN hl
  go_enter Try.func62, Try.ntmps62
  go_wp2
  go_loopw [7, 8] (fun t7 t8 wr => t7 = .int .i64 ((a + 1 : Nat) : Int) ∧ t8 = .int .i64 0 ∧ wr = w) (fun _ _ _ => 0)
  case atStart => exact ⟨by go_num, rfl, rfl⟩
  case round =>
    obtain ⟨rfl, rfl, hw⟩ := hrel
    rw [hw]
    clear hw
    go_wp2
    go_loopw [7] (fun t7 wq => ∃ i : Nat, t7 = .int .i64 i ∧ a < i ∧ i ≤ b ∧ Hid ((∀ k, a < k → k < i → nth xs (k - 1) ≤ nth xs k) ∧ ∃ n, wq = w.drewN n)) (fun t7 _ => b - (intOf t7).toNat)
    case atStart => exact ⟨a + 1, rfl, by omega, by omega, fun k h1 h2 => by omega, 0, rfl⟩
    case round =>
      obtain ⟨i, rfl, hai, hib, HI⟩ := hrel
      by_cases c : i < b
      · have hbx : Bx wr g xs rest := by obtain ⟨_, n, rfl⟩ := HI.out; exact HX.out.1
        have hxl := HX.out.2
        obtain ⟨x1, y1⟩ := hbx.at (i := i) (by omega)
        obtain ⟨x2, y2⟩ := hbx.at (i := i - 1) (by omega)
        obtain ⟨v1, hv1⟩ : ∃ v1, nth xs i = v1 := ⟨_, rfl⟩
        obtain ⟨v2, hv2⟩ : ∃ v2, nth xs (i - 1) = v2 := ⟨_, rfl⟩
        rw [hv1] at x1
        rw [hv2] at x2
        have HV : Hid (nth xs i = v1 ∧ nth xs (i - 1) = v2) := ⟨hv1, hv2⟩
        have HD : Hid (∀ q, ∃ n, wr.drewN q = w.drewN n) := fun q => by obtain ⟨_, n, rfl⟩ := HI.out; exact ⟨n + q, by simp [World.drewN, Nat.add_assoc]⟩
        have cI : (i : Int) < (b : Int) := by omega
        have cE : ¬ (i : Int) = (b : Int) := by omega
        clear hv1 hv2 hbx hxl
        by_cases cl : v1 < v2
        · have cl' : decide (v1 < v2) = true := decide_eq_true cl
          go_wp2
          go_quiet (first | (go_at_call 63; refine Calls.quiet_of_same (less_any _ _ _)))
          go_wp2
          go_ret
          exact ⟨false, rfl, fun h => (by cases h), HD.out _⟩
        · have cl' : decide (v1 < v2) = false := decide_eq_false cl
          go_wp2
          go_quiet (first | (go_at_call 63; refine Calls.quiet_of_same (less_any _ _ _)))
          go_wp2
          refine ⟨⟨i + 1, by go_num, by omega, by omega, fun k h1 h2 => ?_, HD.out _⟩, by simp [intOf]; omega⟩
          by_cases e : k = i
          · subst e; rw [HV.out.1, HV.out.2]; omega
          · exact HI.out.1 k h1 (by omega)
      · obtain rfl : i = b := by omega
        have HD : Hid (∀ q, ∃ n, wr.drewN q = w.drewN n) := fun q => by obtain ⟨_, n, rfl⟩ := HI.out; exact ⟨n + q, by simp [World.drewN, Nat.add_assoc]⟩
        go_wp2
        go_quiet (first | (go_at_call 63; refine Calls.quiet_of_same (less_any _ _ _)))
        go_wp2
        go_ret
        exact ⟨true, rfl, fun _ => srt_next HI.out.1, HD.out _⟩
end Go.Proofs.Ytolafffpgkgadaa
