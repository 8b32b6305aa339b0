/-
  The document's own store: New. Conditions: the thresholds are ints.
-/
import Derived.Test.YtffipfmnpffdaaaGreatDoorPkTA
namespace Go.Proofs.YtffipfmnpffdaaaGreatDoor.Sto
open Go.RowKit Go.Shelf Bod Wid
open Gap (Gp RB gNew lim)

/-- the numbers of a new store -/
def rnwK (kind lo hi : Int) (z : Nat) : Rk :=
  ⟨if kind = 1 ∨ kind = 2 then kind else 3, if kind = 1 ∨ kind = 2 then kind else if max hi (min (max lo 0) 1073741824 + 1) ≤ (z : Int) then 2 else 1, min (max lo 0) 1073741824, max hi (min (max lo 0) 1073741824 + 1), 0, 0, 0⟩
theorem rf_new {W : World} {p : Nat} {g : Gp} {a b c d : Int} (h : RB W p g) (hg : g.ok) (k : Rk) (e : k = ⟨a, b, c, d, 0, 0, 0⟩) : Rf ((W.alloc (.cells #[.pointer (some ⟨p, 0, none⟩), .int .i64 a, .int .i64 b, .int .i64 c, .int .i64 d, .int .i64 0, .int .i64 0, .int .i64 0] 61)).drew) W.heap.size p g k := by
  subst e
  have hb := (Below.refl _ W).alloc (Nat.le_refl _) (.cells #[.pointer (some ⟨p, 0, none⟩), .int .i64 a, .int .i64 b, .int .i64 c, .int .i64 d, .int .i64 0, .int .i64 0, .int .i64 0] 61)
  exact ⟨World.alloc_heap_new W _, (hb.block p (Array.getElem?_eq_some_iff.1 h).1).trans h, hg⟩
theorem rb_new {w W : World} (h : Below w.heap.size w W) (o : Obj) : Below w.heap.size w (W.alloc o).drew := (Below.on h ((Below.refl _ W).alloc (Nat.le_refl _) o)).drew
set_option maxRecDepth 100000 in
set_option maxHeartbeats 4000000 in
theorem rnew9_no (w : World) (kind lo hi limit : Int) (s : ByteArray) (h : ¬ s.size ≤ lim limit) : Calls Tryz.prog 21 #[.int .i64 kind, .int .i64 lo, .int .i64 hi, .int .i64 limit, .string s] w fun e W' => e = .returned (.tuple #[.pointer none, .int .i64 2]) ∧ Below w.heap.size w W' := by
  have C1 : Hid (Calls Tryz.prog 71 #[.string s, .int .i64 limit] w fun e W' => e = .returned (.tuple #[.pointer none, .int .i64 2]) ∧ Hid (Below w.heap.size w W')) := by
    have := Gap.rnew_any s limit w
    have e : gNew s limit = none := by unfold gNew; rw [if_neg h]
    rw [e] at this
    exact this
  clear h
  go_enter Tryz.func21, Tryz.ntmps21
  go_wp2_with (go_at_call 71; refine C1.out.mono ?_; clear C1; rintro e w1 ⟨rfl, HB⟩)
  exact bodyPost_ret (v := .tuple #[.pointer none, .int .i64 2]) (by simp [results, Tryz.results21, go_sem]) rfl ⟨rfl, HB.out⟩
set_option maxRecDepth 100000 in
set_option maxHeartbeats 4000000 in
theorem rnew9_ok (w : World) (kind lo hi limit : Int) (s : ByteArray) (h : s.size ≤ lim limit) (hk : -9223372036854775808 ≤ lo ∧ lo ≤ 9223372036854775807 ∧ -9223372036854775808 ≤ hi ∧ hi ≤ 9223372036854775807) : Calls Tryz.prog 21 #[.int .i64 kind, .int .i64 lo, .int .i64 hi, .int .i64 limit, .string s] w fun e W' => ∃ b p, e = .returned (.tuple #[.pointer (some ⟨b, 0, none⟩), .int .i64 0]) ∧ Rf W' b p ⟨s, s.size, lim limit⟩ (rnwK kind lo hi s.size) ∧ Below w.heap.size w W' ∧ w.heap.size ≤ b ∧ w.heap.size ≤ p := by
  have hl := Gap.lim_le limit
  have C1 : Hid (Calls Tryz.prog 71 #[.string s, .int .i64 limit] w fun e W' => e = .returned (.tuple #[.pointer (some ⟨w.heap.size, 0, none⟩), .int .i64 0]) ∧ Hid (RB W' w.heap.size ⟨s, s.size, lim limit⟩ ∧ Below w.heap.size w W')) := by
    have := Gap.rnew_any s limit w
    have e : gNew s limit = some ⟨s, s.size, lim limit⟩ := by unfold gNew; rw [if_pos h]
    rw [e] at this
    exact this
  have hok : (⟨s, s.size, lim limit⟩ : Gp).ok := ⟨Nat.le_refl _, h, hl⟩
  have HF : Hid (∀ W1 a b c d, Hid (RB W1 w.heap.size ⟨s, s.size, lim limit⟩ ∧ Below w.heap.size w W1) → rnwK kind lo hi s.size = ⟨a, b, c, d, 0, 0, 0⟩ → Rf ((W1.alloc (.cells #[.pointer (some ⟨w.heap.size, 0, none⟩), .int .i64 a, .int .i64 b, .int .i64 c, .int .i64 d, .int .i64 0, .int .i64 0, .int .i64 0] 61)).drew) W1.heap.size w.heap.size ⟨s, s.size, lim limit⟩ (rnwK kind lo hi s.size) ∧ Below w.heap.size w ((W1.alloc (.cells #[.pointer (some ⟨w.heap.size, 0, none⟩), .int .i64 a, .int .i64 b, .int .i64 c, .int .i64 d, .int .i64 0, .int .i64 0, .int .i64 0] 61)).drew) ∧ w.heap.size ≤ W1.heap.size ∧ w.heap.size ≤ w.heap.size) := fun W1 a b c d hW e => ⟨rf_new hW.out.1 hok _ e, rb_new hW.out.2 _, hW.out.2.size, Nat.le_refl _⟩
  have hz : (s.size : Int) ≤ 1073741824 := by omega
  obtain ⟨R, hR⟩ : ∃ R, rnwK kind lo hi s.size = R := ⟨_, rfl⟩
  rw [hR] at HF ⊢
  have HFI : Hid (∀ (a b c d : Int), (a = if kind = 1 ∨ kind = 2 then kind else 3) → (b = if kind = 1 ∨ kind = 2 then kind else if max hi (min (max lo 0) 1073741824 + 1) ≤ (s.size : Int) then 2 else 1) → (c = min (max lo 0) 1073741824) → (d = max hi (min (max lo 0) 1073741824 + 1)) → R = ⟨a, b, c, d, 0, 0, 0⟩) := fun a b c d e1 e2 e3 e4 => by rw [← hR, e1, e2, e3, e4]; rfl
  have HK : Hid (-9223372036854775808 ≤ lo ∧ lo ≤ 9223372036854775807 ∧ -9223372036854775808 ≤ hi ∧ hi ≤ 9223372036854775807) := hk
  clear h hok hR hk
  rcases (show lo < 0 ∨ 1073741825 ≤ lo ∨ (0 ≤ lo ∧ lo ≤ 1073741824) by omega) with h | h | h
  · have HLO : Hid (lo < 0) := h
    have t1 : decide (lo < 0) = true := by simp; omega
    have t2 : decide (1073741824 < lo) = false := by simp; omega
    clear h
    rcases (show kind = 1 ∨ kind = 2 ∨ (kind ≠ 1 ∧ kind ≠ 2) by omega) with hq | hq | hq
    · subst hq
      by_cases c3 : hi ≤ 0
      · have HHI : Hid ((hi ≤ 0)) := c3
        have t3 : decide (hi ≤ 0) = true := by simp; omega
        go_enter Tryz.func21, Tryz.ntmps21
        go_wp2_with (go_at_call 71; refine C1.out.mono ?_; clear C1; rintro e w1 ⟨rfl, HB⟩)
        go_region
        go_wp2
        refine bodyPost_ret (v := .tuple #[.pointer (some ⟨w1.heap.size, 0, none⟩), .int .i64 0]) (by simp [results, Tryz.results21, go_sem]) rfl ⟨w1.heap.size, w.heap.size, rfl, HF.out _ _ _ _ _ HB (HFI.out _ _ _ _ ?_ ?_ ?_ ?_)⟩
        all_goals (have hlo := HLO.out)
        all_goals (have hhi := HHI.out)
        all_goals first | rfl | omega | (rw [if_pos (by omega)])
      · have HHI : Hid (¬ (hi ≤ 0)) := c3
        have t3 : decide (hi ≤ 0) = false := by simp; omega
        go_enter Tryz.func21, Tryz.ntmps21
        go_wp2_with (go_at_call 71; refine C1.out.mono ?_; clear C1; rintro e w1 ⟨rfl, HB⟩)
        go_region
        go_wp2
        refine bodyPost_ret (v := .tuple #[.pointer (some ⟨w1.heap.size, 0, none⟩), .int .i64 0]) (by simp [results, Tryz.results21, go_sem]) rfl ⟨w1.heap.size, w.heap.size, rfl, HF.out _ _ _ _ _ HB (HFI.out _ _ _ _ ?_ ?_ ?_ ?_)⟩
        all_goals (have hlo := HLO.out)
        all_goals (have hhi := HHI.out)
        all_goals first | rfl | omega | (rw [if_pos (by omega)])
    · subst hq
      by_cases c3 : hi ≤ 0
      · have HHI : Hid ((hi ≤ 0)) := c3
        have t3 : decide (hi ≤ 0) = true := by simp; omega
        go_enter Tryz.func21, Tryz.ntmps21
        go_wp2_with (go_at_call 71; refine C1.out.mono ?_; clear C1; rintro e w1 ⟨rfl, HB⟩)
        go_region
        go_wp2
        refine bodyPost_ret (v := .tuple #[.pointer (some ⟨w1.heap.size, 0, none⟩), .int .i64 0]) (by simp [results, Tryz.results21, go_sem]) rfl ⟨w1.heap.size, w.heap.size, rfl, HF.out _ _ _ _ _ HB (HFI.out _ _ _ _ ?_ ?_ ?_ ?_)⟩
        all_goals (have hlo := HLO.out)
        all_goals (have hhi := HHI.out)
        all_goals first | rfl | omega | (rw [if_pos (by omega)])
      · have HHI : Hid (¬ (hi ≤ 0)) := c3
        have t3 : decide (hi ≤ 0) = false := by simp; omega
        go_enter Tryz.func21, Tryz.ntmps21
        go_wp2_with (go_at_call 71; refine C1.out.mono ?_; clear C1; rintro e w1 ⟨rfl, HB⟩)
        go_region
        go_wp2
        refine bodyPost_ret (v := .tuple #[.pointer (some ⟨w1.heap.size, 0, none⟩), .int .i64 0]) (by simp [results, Tryz.results21, go_sem]) rfl ⟨w1.heap.size, w.heap.size, rfl, HF.out _ _ _ _ _ HB (HFI.out _ _ _ _ ?_ ?_ ?_ ?_)⟩
        all_goals (have hlo := HLO.out)
        all_goals (have hhi := HHI.out)
        all_goals first | rfl | omega | (rw [if_pos (by omega)])
    · have k1 : (kind == 1) = false := by simp [hq.1]
      have k2 : (kind == 2) = false := by simp [hq.2]
      have k3 : (kind != 1) = true := by simp [hq.1]
      have k4 : (kind != 2) = true := by simp [hq.2]
      have HQ : Hid (kind ≠ 1 ∧ kind ≠ 2) := hq
      clear hq
      by_cases c3 : hi ≤ 0
      · have HHI : Hid ((hi ≤ 0)) := c3
        have t3 : decide (hi ≤ 0) = true := by simp; omega
        by_cases c4 : 1 ≤ (s.size : Int)
        · have HH4 : Hid ((1 ≤ (s.size : Int))) := c4
          have t4 : decide (1 ≤ (s.size : Int)) = true := by simp; omega
          go_enter Tryz.func21, Tryz.ntmps21
          go_wp2_with (go_at_call 71; refine C1.out.mono ?_; clear C1; rintro e w1 ⟨rfl, HB⟩)
          go_region
          go_wp2
          refine bodyPost_ret (v := .tuple #[.pointer (some ⟨w1.heap.size, 0, none⟩), .int .i64 0]) (by simp [results, Tryz.results21, go_sem]) rfl ⟨w1.heap.size, w.heap.size, rfl, HF.out _ _ _ _ _ HB (HFI.out _ _ _ _ ?_ ?_ ?_ ?_)⟩
          all_goals (have hlo := HLO.out)
          all_goals (have hhi := HHI.out)
          all_goals (have hq := HQ.out)
          all_goals (have hh4 := HH4.out)
          all_goals first | omega | (rw [if_neg (by omega)]) | skip
          all_goals first | (rw [if_pos (by omega)]) | (rw [if_neg (by omega)])
        · have HH4 : Hid (¬ (1 ≤ (s.size : Int))) := c4
          have t4 : decide (1 ≤ (s.size : Int)) = false := by simp; omega
          go_enter Tryz.func21, Tryz.ntmps21
          go_wp2_with (go_at_call 71; refine C1.out.mono ?_; clear C1; rintro e w1 ⟨rfl, HB⟩)
          go_region
          go_wp2
          refine bodyPost_ret (v := .tuple #[.pointer (some ⟨w1.heap.size, 0, none⟩), .int .i64 0]) (by simp [results, Tryz.results21, go_sem]) rfl ⟨w1.heap.size, w.heap.size, rfl, HF.out _ _ _ _ _ HB (HFI.out _ _ _ _ ?_ ?_ ?_ ?_)⟩
          all_goals (have hlo := HLO.out)
          all_goals (have hhi := HHI.out)
          all_goals (have hq := HQ.out)
          all_goals (have hh4 := HH4.out)
          all_goals first | omega | (rw [if_neg (by omega)]) | skip
          all_goals first | (rw [if_pos (by omega)]) | (rw [if_neg (by omega)])
      · have HHI : Hid (¬ (hi ≤ 0)) := c3
        have t3 : decide (hi ≤ 0) = false := by simp; omega
        by_cases c4 : hi ≤ (s.size : Int)
        · have HH4 : Hid ((hi ≤ (s.size : Int))) := c4
          have t4 : decide (hi ≤ (s.size : Int)) = true := by simp; omega
          go_enter Tryz.func21, Tryz.ntmps21
          go_wp2_with (go_at_call 71; refine C1.out.mono ?_; clear C1; rintro e w1 ⟨rfl, HB⟩)
          go_region
          go_wp2
          refine bodyPost_ret (v := .tuple #[.pointer (some ⟨w1.heap.size, 0, none⟩), .int .i64 0]) (by simp [results, Tryz.results21, go_sem]) rfl ⟨w1.heap.size, w.heap.size, rfl, HF.out _ _ _ _ _ HB (HFI.out _ _ _ _ ?_ ?_ ?_ ?_)⟩
          all_goals (have hlo := HLO.out)
          all_goals (have hhi := HHI.out)
          all_goals (have hq := HQ.out)
          all_goals (have hh4 := HH4.out)
          all_goals first | omega | (rw [if_neg (by omega)]) | skip
          all_goals first | (rw [if_pos (by omega)]) | (rw [if_neg (by omega)])
        · have HH4 : Hid (¬ (hi ≤ (s.size : Int))) := c4
          have t4 : decide (hi ≤ (s.size : Int)) = false := by simp; omega
          go_enter Tryz.func21, Tryz.ntmps21
          go_wp2_with (go_at_call 71; refine C1.out.mono ?_; clear C1; rintro e w1 ⟨rfl, HB⟩)
          go_region
          go_wp2
          refine bodyPost_ret (v := .tuple #[.pointer (some ⟨w1.heap.size, 0, none⟩), .int .i64 0]) (by simp [results, Tryz.results21, go_sem]) rfl ⟨w1.heap.size, w.heap.size, rfl, HF.out _ _ _ _ _ HB (HFI.out _ _ _ _ ?_ ?_ ?_ ?_)⟩
          all_goals (have hlo := HLO.out)
          all_goals (have hhi := HHI.out)
          all_goals (have hq := HQ.out)
          all_goals (have hh4 := HH4.out)
          all_goals first | omega | (rw [if_neg (by omega)]) | skip
          all_goals first | (rw [if_pos (by omega)]) | (rw [if_neg (by omega)])
  · have HLO : Hid (1073741825 ≤ lo) := h
    have t1 : decide (lo < 0) = false := by simp; omega
    have t2 : decide (1073741824 < lo) = true := by simp; omega
    clear h
    rcases (show kind = 1 ∨ kind = 2 ∨ (kind ≠ 1 ∧ kind ≠ 2) by omega) with hq | hq | hq
    · subst hq
      by_cases c3 : hi ≤ 1073741824
      · have HHI : Hid ((hi ≤ 1073741824)) := c3
        have t3 : decide (hi ≤ 1073741824) = true := by simp; omega
        go_enter Tryz.func21, Tryz.ntmps21
        go_wp2_with (go_at_call 71; refine C1.out.mono ?_; clear C1; rintro e w1 ⟨rfl, HB⟩)
        go_region
        go_wp2
        refine bodyPost_ret (v := .tuple #[.pointer (some ⟨w1.heap.size, 0, none⟩), .int .i64 0]) (by simp [results, Tryz.results21, go_sem]) rfl ⟨w1.heap.size, w.heap.size, rfl, HF.out _ _ _ _ _ HB (HFI.out _ _ _ _ ?_ ?_ ?_ ?_)⟩
        all_goals (have hlo := HLO.out)
        all_goals (have hhi := HHI.out)
        all_goals first | rfl | omega | (rw [if_pos (by omega)])
      · have HHI : Hid (¬ (hi ≤ 1073741824)) := c3
        have t3 : decide (hi ≤ 1073741824) = false := by simp; omega
        go_enter Tryz.func21, Tryz.ntmps21
        go_wp2_with (go_at_call 71; refine C1.out.mono ?_; clear C1; rintro e w1 ⟨rfl, HB⟩)
        go_region
        go_wp2
        refine bodyPost_ret (v := .tuple #[.pointer (some ⟨w1.heap.size, 0, none⟩), .int .i64 0]) (by simp [results, Tryz.results21, go_sem]) rfl ⟨w1.heap.size, w.heap.size, rfl, HF.out _ _ _ _ _ HB (HFI.out _ _ _ _ ?_ ?_ ?_ ?_)⟩
        all_goals (have hlo := HLO.out)
        all_goals (have hhi := HHI.out)
        all_goals first | rfl | omega | (rw [if_pos (by omega)])
    · subst hq
      by_cases c3 : hi ≤ 1073741824
      · have HHI : Hid ((hi ≤ 1073741824)) := c3
        have t3 : decide (hi ≤ 1073741824) = true := by simp; omega
        go_enter Tryz.func21, Tryz.ntmps21
        go_wp2_with (go_at_call 71; refine C1.out.mono ?_; clear C1; rintro e w1 ⟨rfl, HB⟩)
        go_region
        go_wp2
        refine bodyPost_ret (v := .tuple #[.pointer (some ⟨w1.heap.size, 0, none⟩), .int .i64 0]) (by simp [results, Tryz.results21, go_sem]) rfl ⟨w1.heap.size, w.heap.size, rfl, HF.out _ _ _ _ _ HB (HFI.out _ _ _ _ ?_ ?_ ?_ ?_)⟩
        all_goals (have hlo := HLO.out)
        all_goals (have hhi := HHI.out)
        all_goals first | rfl | omega | (rw [if_pos (by omega)])
      · have HHI : Hid (¬ (hi ≤ 1073741824)) := c3
        have t3 : decide (hi ≤ 1073741824) = false := by simp; omega
        go_enter Tryz.func21, Tryz.ntmps21
        go_wp2_with (go_at_call 71; refine C1.out.mono ?_; clear C1; rintro e w1 ⟨rfl, HB⟩)
        go_region
        go_wp2
        refine bodyPost_ret (v := .tuple #[.pointer (some ⟨w1.heap.size, 0, none⟩), .int .i64 0]) (by simp [results, Tryz.results21, go_sem]) rfl ⟨w1.heap.size, w.heap.size, rfl, HF.out _ _ _ _ _ HB (HFI.out _ _ _ _ ?_ ?_ ?_ ?_)⟩
        all_goals (have hlo := HLO.out)
        all_goals (have hhi := HHI.out)
        all_goals first | rfl | omega | (rw [if_pos (by omega)])
    · have k1 : (kind == 1) = false := by simp [hq.1]
      have k2 : (kind == 2) = false := by simp [hq.2]
      have k3 : (kind != 1) = true := by simp [hq.1]
      have k4 : (kind != 2) = true := by simp [hq.2]
      have HQ : Hid (kind ≠ 1 ∧ kind ≠ 2) := hq
      clear hq
      by_cases c3 : hi ≤ 1073741824
      · have HHI : Hid ((hi ≤ 1073741824)) := c3
        have t3 : decide (hi ≤ 1073741824) = true := by simp; omega
        by_cases c4 : 1073741825 ≤ (s.size : Int)
        · exfalso; omega
        · have HH4 : Hid (¬ (1073741825 ≤ (s.size : Int))) := c4
          have t4 : decide (1073741825 ≤ (s.size : Int)) = false := by simp; omega
          go_enter Tryz.func21, Tryz.ntmps21
          go_wp2_with (go_at_call 71; refine C1.out.mono ?_; clear C1; rintro e w1 ⟨rfl, HB⟩)
          go_region
          go_wp2
          refine bodyPost_ret (v := .tuple #[.pointer (some ⟨w1.heap.size, 0, none⟩), .int .i64 0]) (by simp [results, Tryz.results21, go_sem]) rfl ⟨w1.heap.size, w.heap.size, rfl, HF.out _ _ _ _ _ HB (HFI.out _ _ _ _ ?_ ?_ ?_ ?_)⟩
          all_goals (have hlo := HLO.out)
          all_goals (have hhi := HHI.out)
          all_goals (have hq := HQ.out)
          all_goals (have hh4 := HH4.out)
          all_goals first | omega | (rw [if_neg (by omega)]) | skip
          all_goals first | (rw [if_pos (by omega)]) | (rw [if_neg (by omega)])
      · have HHI : Hid (¬ (hi ≤ 1073741824)) := c3
        have t3 : decide (hi ≤ 1073741824) = false := by simp; omega
        by_cases c4 : hi ≤ (s.size : Int)
        · exfalso; omega
        · have HH4 : Hid (¬ (hi ≤ (s.size : Int))) := c4
          have t4 : decide (hi ≤ (s.size : Int)) = false := by simp; omega
          go_enter Tryz.func21, Tryz.ntmps21
          go_wp2_with (go_at_call 71; refine C1.out.mono ?_; clear C1; rintro e w1 ⟨rfl, HB⟩)
          go_region
          go_wp2
          refine bodyPost_ret (v := .tuple #[.pointer (some ⟨w1.heap.size, 0, none⟩), .int .i64 0]) (by simp [results, Tryz.results21, go_sem]) rfl ⟨w1.heap.size, w.heap.size, rfl, HF.out _ _ _ _ _ HB (HFI.out _ _ _ _ ?_ ?_ ?_ ?_)⟩
          all_goals (have hlo := HLO.out)
          all_goals (have hhi := HHI.out)
          all_goals (have hq := HQ.out)
          all_goals (have hh4 := HH4.out)
          all_goals first | omega | (rw [if_neg (by omega)]) | skip
          all_goals first | (rw [if_pos (by omega)]) | (rw [if_neg (by omega)])
  · have HLO : Hid (0 ≤ lo ∧ lo ≤ 1073741824) := h
    have t1 : decide (lo < 0) = false := by simp; omega
    have t2 : decide (1073741824 < lo) = false := by simp; omega
    rcases (show kind = 1 ∨ kind = 2 ∨ (kind ≠ 1 ∧ kind ≠ 2) by omega) with hq | hq | hq
    · subst hq
      by_cases c3 : hi ≤ lo
      · have HHI : Hid ((hi ≤ lo)) := c3
        have t3 : decide (hi ≤ lo) = true := by simp; omega
        go_enter Tryz.func21, Tryz.ntmps21
        go_wp2_with (go_at_call 71; refine C1.out.mono ?_; clear C1; rintro e w1 ⟨rfl, HB⟩)
        go_region
        go_wp2
        refine bodyPost_ret (v := .tuple #[.pointer (some ⟨w1.heap.size, 0, none⟩), .int .i64 0]) (by simp [results, Tryz.results21, go_sem]) rfl ⟨w1.heap.size, w.heap.size, rfl, HF.out _ _ _ _ _ HB (HFI.out _ _ _ _ ?_ ?_ ?_ ?_)⟩
        all_goals (have hlo := HLO.out)
        all_goals (have hhi := HHI.out)
        all_goals first | rfl | omega | (rw [if_pos (by omega)])
      · have HHI : Hid (¬ (hi ≤ lo)) := c3
        have t3 : decide (hi ≤ lo) = false := by simp; omega
        go_enter Tryz.func21, Tryz.ntmps21
        go_wp2_with (go_at_call 71; refine C1.out.mono ?_; clear C1; rintro e w1 ⟨rfl, HB⟩)
        go_region
        go_wp2
        refine bodyPost_ret (v := .tuple #[.pointer (some ⟨w1.heap.size, 0, none⟩), .int .i64 0]) (by simp [results, Tryz.results21, go_sem]) rfl ⟨w1.heap.size, w.heap.size, rfl, HF.out _ _ _ _ _ HB (HFI.out _ _ _ _ ?_ ?_ ?_ ?_)⟩
        all_goals (have hlo := HLO.out)
        all_goals (have hhi := HHI.out)
        all_goals first | rfl | omega | (rw [if_pos (by omega)])
    · subst hq
      by_cases c3 : hi ≤ lo
      · have HHI : Hid ((hi ≤ lo)) := c3
        have t3 : decide (hi ≤ lo) = true := by simp; omega
        go_enter Tryz.func21, Tryz.ntmps21
        go_wp2_with (go_at_call 71; refine C1.out.mono ?_; clear C1; rintro e w1 ⟨rfl, HB⟩)
        go_region
        go_wp2
        refine bodyPost_ret (v := .tuple #[.pointer (some ⟨w1.heap.size, 0, none⟩), .int .i64 0]) (by simp [results, Tryz.results21, go_sem]) rfl ⟨w1.heap.size, w.heap.size, rfl, HF.out _ _ _ _ _ HB (HFI.out _ _ _ _ ?_ ?_ ?_ ?_)⟩
        all_goals (have hlo := HLO.out)
        all_goals (have hhi := HHI.out)
        all_goals first | rfl | omega | (rw [if_pos (by omega)])
      · have HHI : Hid (¬ (hi ≤ lo)) := c3
        have t3 : decide (hi ≤ lo) = false := by simp; omega
        go_enter Tryz.func21, Tryz.ntmps21
        go_wp2_with (go_at_call 71; refine C1.out.mono ?_; clear C1; rintro e w1 ⟨rfl, HB⟩)
        go_region
        go_wp2
        refine bodyPost_ret (v := .tuple #[.pointer (some ⟨w1.heap.size, 0, none⟩), .int .i64 0]) (by simp [results, Tryz.results21, go_sem]) rfl ⟨w1.heap.size, w.heap.size, rfl, HF.out _ _ _ _ _ HB (HFI.out _ _ _ _ ?_ ?_ ?_ ?_)⟩
        all_goals (have hlo := HLO.out)
        all_goals (have hhi := HHI.out)
        all_goals first | rfl | omega | (rw [if_pos (by omega)])
    · have k1 : (kind == 1) = false := by simp [hq.1]
      have k2 : (kind == 2) = false := by simp [hq.2]
      have k3 : (kind != 1) = true := by simp [hq.1]
      have k4 : (kind != 2) = true := by simp [hq.2]
      have HQ : Hid (kind ≠ 1 ∧ kind ≠ 2) := hq
      clear hq
      by_cases c3 : hi ≤ lo
      · have HHI : Hid ((hi ≤ lo)) := c3
        have t3 : decide (hi ≤ lo) = true := by simp; omega
        by_cases c4 : lo + 1 ≤ (s.size : Int)
        · have HH4 : Hid ((lo + 1 ≤ (s.size : Int))) := c4
          have t4 : decide (lo + 1 ≤ (s.size : Int)) = true := by simp; omega
          go_enter Tryz.func21, Tryz.ntmps21
          go_wp2_with (go_at_call 71; refine C1.out.mono ?_; clear C1; rintro e w1 ⟨rfl, HB⟩)
          go_region
          go_wp2
          refine bodyPost_ret (v := .tuple #[.pointer (some ⟨w1.heap.size, 0, none⟩), .int .i64 0]) (by simp [results, Tryz.results21, go_sem]) rfl ⟨w1.heap.size, w.heap.size, rfl, HF.out _ _ _ _ _ HB (HFI.out _ _ _ _ ?_ ?_ ?_ ?_)⟩
          all_goals (have hlo := HLO.out)
          all_goals (have hhi := HHI.out)
          all_goals (have hq := HQ.out)
          all_goals (have hh4 := HH4.out)
          all_goals first | omega | (rw [if_neg (by omega)]) | skip
          all_goals first | (rw [if_pos (by omega)]) | (rw [if_neg (by omega)])
        · have HH4 : Hid (¬ (lo + 1 ≤ (s.size : Int))) := c4
          have t4 : decide (lo + 1 ≤ (s.size : Int)) = false := by simp; omega
          go_enter Tryz.func21, Tryz.ntmps21
          go_wp2_with (go_at_call 71; refine C1.out.mono ?_; clear C1; rintro e w1 ⟨rfl, HB⟩)
          go_region
          go_wp2
          refine bodyPost_ret (v := .tuple #[.pointer (some ⟨w1.heap.size, 0, none⟩), .int .i64 0]) (by simp [results, Tryz.results21, go_sem]) rfl ⟨w1.heap.size, w.heap.size, rfl, HF.out _ _ _ _ _ HB (HFI.out _ _ _ _ ?_ ?_ ?_ ?_)⟩
          all_goals (have hlo := HLO.out)
          all_goals (have hhi := HHI.out)
          all_goals (have hq := HQ.out)
          all_goals (have hh4 := HH4.out)
          all_goals first | omega | (rw [if_neg (by omega)]) | skip
          all_goals first | (rw [if_pos (by omega)]) | (rw [if_neg (by omega)])
      · have HHI : Hid (¬ (hi ≤ lo)) := c3
        have t3 : decide (hi ≤ lo) = false := by simp; omega
        by_cases c4 : hi ≤ (s.size : Int)
        · have HH4 : Hid ((hi ≤ (s.size : Int))) := c4
          have t4 : decide (hi ≤ (s.size : Int)) = true := by simp; omega
          go_enter Tryz.func21, Tryz.ntmps21
          go_wp2_with (go_at_call 71; refine C1.out.mono ?_; clear C1; rintro e w1 ⟨rfl, HB⟩)
          go_region
          go_wp2
          refine bodyPost_ret (v := .tuple #[.pointer (some ⟨w1.heap.size, 0, none⟩), .int .i64 0]) (by simp [results, Tryz.results21, go_sem]) rfl ⟨w1.heap.size, w.heap.size, rfl, HF.out _ _ _ _ _ HB (HFI.out _ _ _ _ ?_ ?_ ?_ ?_)⟩
          all_goals (have hlo := HLO.out)
          all_goals (have hhi := HHI.out)
          all_goals (have hq := HQ.out)
          all_goals (have hh4 := HH4.out)
          all_goals first | omega | (rw [if_neg (by omega)]) | skip
          all_goals first | (rw [if_pos (by omega)]) | (rw [if_neg (by omega)])
        · have HH4 : Hid (¬ (hi ≤ (s.size : Int))) := c4
          have t4 : decide (hi ≤ (s.size : Int)) = false := by simp; omega
          go_enter Tryz.func21, Tryz.ntmps21
          go_wp2_with (go_at_call 71; refine C1.out.mono ?_; clear C1; rintro e w1 ⟨rfl, HB⟩)
          go_region
          go_wp2
          refine bodyPost_ret (v := .tuple #[.pointer (some ⟨w1.heap.size, 0, none⟩), .int .i64 0]) (by simp [results, Tryz.results21, go_sem]) rfl ⟨w1.heap.size, w.heap.size, rfl, HF.out _ _ _ _ _ HB (HFI.out _ _ _ _ ?_ ?_ ?_ ?_)⟩
          all_goals (have hlo := HLO.out)
          all_goals (have hhi := HHI.out)
          all_goals (have hq := HQ.out)
          all_goals (have hh4 := HH4.out)
          all_goals first | omega | (rw [if_neg (by omega)]) | skip
          all_goals first | (rw [if_pos (by omega)]) | (rw [if_neg (by omega)])
end Go.Proofs.YtffipfmnpffdaaaGreatDoor.Sto
