/-
  The walk of the law WidthWithin: for every list of numbers it returns true: a number has a class that has ranges just where one of them holds it, is bad just where it is no character, and its cells fit its class. Conditions: the list can be read.
-/
import Derived.Test.YtjpfnkbkhpeijaaVLaw
import Derived.Test.YtjpfnkbkhpeijaaURunes
namespace Go.Proofs.Ytjpfnkbkhpeijaa.widthWithin
open Go.RowKit Wid

theorem inR_mem {l : List (Int × Int)} {c : Int} (h : inR l c = true) : ∃ p ∈ l, p.1 ≤ c ∧ c ≤ p.2 := by
  unfold inR at h
  obtain ⟨p, hp, h2⟩ := List.any_eq_true.1 h
  simp at h2
  exact ⟨p, hp, h2⟩
theorem mk_all : ∀ p ∈ mk, 768 ≤ p.1 ∧ (p.2 < 55296 ∨ 57343 < p.1) ∧ p.2 ≤ 1114111 := by decide +kernel
theorem wd_all : ∀ p ∈ wd, 768 ≤ p.1 ∧ (p.2 < 55296 ∨ 57343 < p.1) ∧ p.2 ≤ 1114111 := by decide +kernel
theorem apart : ∀ p ∈ mk, ∀ q ∈ wd, p.2 < q.1 ∨ q.2 < p.1 := by decide +kernel
theorem mk_in {c : Int} (h : inR mk c = true) : 768 ≤ c ∧ ¬ bad c := by
  obtain ⟨p, hp, h1, h2⟩ := inR_mem h
  have := mk_all p hp
  unfold bad
  omega
theorem wd_in {c : Int} (h : inR wd c = true) : 768 ≤ c ∧ ¬ bad c ∧ inR mk c = false := by
  obtain ⟨p, hp, h1, h2⟩ := inR_mem h
  have := wd_all p hp
  refine ⟨by omega, by unfold bad; omega, ?_⟩
  cases hm : inR mk c with
  | false => rfl
  | true =>
    obtain ⟨q, hq, h3, h4⟩ := inR_mem hm
    have := apart q hq p hp
    omega
/-- a class has a range that holds c just where it is the class of c -/
theorem inR_rng (c : Int) (j : Nat) (h1 : 1 ≤ j) (h4 : j ≤ 4) : inR (rng j) c = decide (cls c = j) := by
  rw [Bool.eq_iff_iff, decide_eq_true_eq]
  obtain rfl | rfl | rfl | rfl : j = 1 ∨ j = 2 ∨ j = 3 ∨ j = 4 := by omega
  · rw [show inR (rng (1 : Nat)) c = true ↔ c = 10 by simp [rng, inR]; omega]
    unfold cls bad
    repeat' split
    all_goals simp
    all_goals omega
  · rw [show inR (rng (2 : Nat)) c = true ↔ (0 ≤ c ∧ c ≤ 9) ∨ (11 ≤ c ∧ c ≤ 31) ∨ (127 ≤ c ∧ c ≤ 159) by simp [rng, inR]]
    unfold cls bad
    repeat' split
    all_goals simp
    all_goals omega
  · show inR mk c = true ↔ cls c = 3
    constructor
    · intro h
      obtain ⟨g1, g2⟩ := mk_in h
      unfold cls
      rw [if_neg g2, if_neg (by omega), if_neg (by omega), if_neg (by omega), if_pos h]
    · intro h
      unfold cls at h
      repeat' split at h
      all_goals first | assumption | omega
  · show inR wd c = true ↔ cls c = 4
    constructor
    · intro h
      obtain ⟨g1, g2, g3⟩ := wd_in h
      unfold cls
      rw [if_neg g2, if_neg (by omega), if_neg (by omega), if_neg (by omega), if_neg (by rw [g3]; decide), if_pos h]
    · intro h
      unfold cls at h
      repeat' split at h
      all_goals first | assumption | omega
theorem bad_iff (c : Int) : bad c ↔ cls c = 5 := by
  constructor
  · intro h; exact if_pos h
  · intro h
    unfold cls at h
    repeat' split at h
    all_goals first | assumption | omega
theorem cel_of (c : Int) : (cls c = 1 → cel c = 0) ∧ (cls c = 4 → cel c = 2) ∧ (cls c = 2 → cel c = 1 ∨ cel c = 2) ∧ (cls c = 0 ∨ cls c = 3 ∨ cls c = 5 → cel c = 1) := by
  unfold cel
  refine ⟨fun h => if_pos h, fun h => ?_, fun h => ?_, fun h => ?_⟩
  · rw [if_neg (by omega), if_pos h]
  · rw [if_neg (by omega), if_neg (by omega)]; split <;> simp
  · rw [if_neg (by omega), if_neg (by omega), if_neg (by omega)]
theorem rng_len (j : Nat) : (rng j).length ≤ 1000 := by
  unfold rng
  repeat' split
  all_goals decide
/-- how many of the classes below j are K -/
def cnt (K : Int) (j : Nat) : Int := if 1 ≤ K ∧ K < j then 1 else 0
theorem cnt_succ (K : Int) (j : Nat) (h : 1 ≤ j) : cnt K (j + 1) = if K = j then cnt K j + 1 else cnt K j := by
  unfold cnt
  by_cases e : K = j
  · subst e; rw [if_pos (by omega), if_pos rfl, if_neg (by omega)]; rfl
  · rw [if_neg e]
    by_cases q : 1 ≤ K ∧ K < j
    · rw [if_pos q, if_pos (by omega)]
    · rw [if_neg q, if_neg (by omega)]
theorem cnt_le (K : Int) (j : Nat) : 0 ≤ cnt K j ∧ cnt K j ≤ 1 := by unfold cnt; split <;> omega

set_option maxRecDepth 100000 in
set_option maxHeartbeats 4000000 in
theorem walk (rs : List Int) (b o n cap : Nat) (hn : n = rs.length) (hm : n ≤ maxLen) (w : World) (h : ∀ j, j < rs.length → w.cell? ⟨b, o + j, none⟩ = some (.int .i32 (rs[j]?.getD 0))) (hb : b < w.heap.size) :
    Calls Try.prog 5 #[.slice (some ⟨b, o, none⟩) n cap] w fun e w' => e = .returned (.bool true) ∧ Below w.heap.size w w' := by
  have cA := awake_any w
  have HC : Hid _ := h
  have HN : Hid (n = rs.length) := hn
  unfold maxLen at hm
  clear h hn
  go_enter Try.func5, Try.ntmps5
  go_wp2_with (go_at_call 7; refine cA.mono ?_; clear cA; rintro e w0 ⟨rfl, hb0⟩)
  go_loopw [3] (fun t wr => ∃ k : Nat, k ≤ n ∧ t = .int .i64 k ∧ Below w.heap.size w wr) (fun t _ => n - (intOf t).toNat)
  case atStart => exact ⟨0, Nat.zero_le _, rfl, hb0⟩
  case round =>
    obtain ⟨i, hi, rfl, hB⟩ := hrel
    clear hb0
    by_cases hlt : i < n
    · have hc : wr.cell? ⟨b, o + i, none⟩ = some (.int .i32 (rs[i]?.getD 0)) := (hB.cell (p := ⟨b, o + i, none⟩) hb).trans (HC.out i (by rw [← HN.out]; exact hlt))
      generalize rs[i]?.getD 0 = c at hc
      have cK : Hid (Calls Try.prog 8 #[.int .i32 c] wr fun e w' => e = .returned (.int .i64 (cls c)) ∧ Below w.heap.size w w') := class_from c _ rfl wr hB
      have cL : Hid (∀ W, Below w.heap.size w W → Calls Try.prog 10 #[.int .i32 c] W fun e w' => e = .returned (.int .i64 (cel c)) ∧ Below w.heap.size w w') := cells_from' c _ rfl
      have cR : Hid (∀ (j : Nat) W, 1 ≤ j → j ≤ 4 → Below w.heap.size w W → Calls Try.prog 13 #[.int .i64 j] W fun e w' => ∃ v, e = .returned v ∧ Rg w' v (rng j) ∧ Below w.heap.size w w') := fun j W _ _ hW =>
        (ranges_any j W).mono fun e w' ⟨v, h1, h2, h3⟩ => ⟨v, h1, Rg.of_own h2, hW.trans (h3.mono hW.size)⟩
      have cH : Hid (∀ (j : Nat) v W, 1 ≤ j → j ≤ 4 → Rg W v (rng j) → Calls Try.prog 15 #[v, .int .i32 c] W fun e w' => e = .returned (.bool (decide (cls c = j))) ∧ W = w') := fun j v W h1 h4 hv => by
        rw [← inR_rng c j h1 h4]; exact held_list (rng j) c v W (rng_len j) hv
      have hr := cls_range c
      have hcl := cel_of c
      have hbd := bad_iff c
      generalize cls c = K at cK cH hr hcl hbd
      generalize cel c = L at cL hcl
      have HR : Hid (K = 0 ∨ K = 1 ∨ K = 2 ∨ K = 3 ∨ K = 4 ∨ K = 5) := hr
      have HL : Hid ((K = 1 → L = 0) ∧ (K = 4 → L = 2) ∧ (K = 2 → L = 1 ∨ L = 2) ∧ (K = 0 ∨ K = 3 ∨ K = 5 → L = 1)) := hcl
      have HD : Hid (bad c ↔ K = 5) := hbd
      clear hr hcl hbd
      have hd1 : decide (i < n) = true := decide_eq_true hlt
      go_wp2_with (go_at_call 8; refine cK.out.mono ?_; clear cK; rintro e w1 ⟨rfl, hb1⟩)
      clear hc hd1
      go_loopw [6, 7] (fun s6 s7 wr => ∃ j : Nat, 1 ≤ j ∧ j ≤ 5 ∧ s7 = .int .i64 j ∧ s6 = .int .i64 (cnt K j) ∧ Below w.heap.size w wr) (fun _ t _ => 5 - (intOf t).toNat)
      case atStart => exact ⟨1, by omega, by omega, rfl, by rw [show cnt K 1 = 0 from if_neg (by omega)], hb1⟩
      case round =>
        obtain ⟨j, hj1, hj5, rfl, rfl, hB2⟩ := hrel
        have hcn := cnt_succ K j hj1
        obtain ⟨hc0, hc1⟩ := cnt_le K j
        by_cases hj : j ≤ 4
        · have cR2 : Hid (∀ W, Below w.heap.size w W → Calls Try.prog 13 #[.int .i64 j] W fun e w' => ∃ v, e = .returned v ∧ Rg w' v (rng j) ∧ Below w.heap.size w w') := fun W hW => cR.out j W hj1 hj hW
          have cH2 : Hid (∀ v W, Rg W v (rng j) → Calls Try.prog 15 #[v, .int .i32 c] W fun e w' => e = .returned (.bool (decide (K = j))) ∧ W = w') := fun v W hv => cH.out j v W hj1 hj hv
          generalize rng j = l at cR2 cH2
          by_cases hK : K = j
          · rw [if_pos hK] at hcn
            rw [decide_eq_true hK] at cH2
            have hbq : (K == (j : Int)) = true := by simp [hK]
            have HCN : Hid _ := hcn
            clear hcn hK
            generalize cnt K j = q at HCN hc0 hc1
            go_wp2_with (first | (go_at_call 13; refine (cR2.out _ hB2).mono ?_; clear cR2; rintro e w2 ⟨v, rfl, hv, hb2⟩; have HV : Hid _ := hv; clear hv) | (go_at_call 15; refine (cH2.out _ _ HV.out).mono ?_; clear cH2; rintro e w3 ⟨rfl, rfl⟩))
            exact ⟨⟨j + 1, by omega, by omega, by go_num, by rw [HCN.out], hb2⟩, by simp [intOf]; omega⟩
          · rw [if_neg hK] at hcn
            rw [decide_eq_false hK] at cH2
            have hbq : (K == (j : Int)) = false := by simpa using hK
            have HCN : Hid _ := hcn
            clear hcn hK
            generalize cnt K j = q at HCN hc0 hc1
            go_wp2_with (first | (go_at_call 13; refine (cR2.out _ hB2).mono ?_; clear cR2; rintro e w2 ⟨v, rfl, hv, hb2⟩; have HV : Hid _ := hv; clear hv) | (go_at_call 15; refine (cH2.out _ _ HV.out).mono ?_; clear cH2; rintro e w3 ⟨rfl, rfl⟩))
            exact ⟨⟨j + 1, by omega, by omega, by go_num, by rw [HCN.out], hb2⟩, by simp [intOf]; omega⟩
        · obtain rfl : j = 5 := by omega
          clear hcn hc0 hc1 cR cH
          have hL := HL.out
          have hD := HD.out
          unfold bad at hD
          rcases HR.out with rfl | rfl | rfl | rfl | rfl | rfl
          · rw [show cnt 0 5 = 0 from by unfold cnt; decide]
            have g1 : ¬ c < 0 := by omega
            have g2 : ¬ 1114111 < c := by omega
            have g4 : c < 55296 ∨ 57344 ≤ c := by omega
            obtain rfl : L = 1 := by omega
            clear hL hD HL HD HR
            rcases g4 with g4 | g4
            · have g3 : ¬ 55296 ≤ c := by omega
              go_wp2_with (go_at_call 10; refine (cL.out _ hB2).mono ?_; clear cL; rintro e w2 ⟨rfl, hb2⟩)
              exact ⟨⟨i + 1, by omega, by go_num, hb2⟩, by simp [intOf]; omega⟩
            · have g3 : ¬ c < 57344 := by omega
              go_wp2_with (go_at_call 10; refine (cL.out _ hB2).mono ?_; clear cL; rintro e w2 ⟨rfl, hb2⟩)
              exact ⟨⟨i + 1, by omega, by go_num, hb2⟩, by simp [intOf]; omega⟩
          · rw [show cnt 1 5 = 1 from by unfold cnt; decide]
            have g1 : ¬ c < 0 := by omega
            have g2 : ¬ 1114111 < c := by omega
            have g4 : c < 55296 ∨ 57344 ≤ c := by omega
            obtain rfl : L = 0 := by omega
            clear hL hD HL HD HR
            rcases g4 with g4 | g4
            · have g3 : ¬ 55296 ≤ c := by omega
              go_wp2_with (go_at_call 10; refine (cL.out _ hB2).mono ?_; clear cL; rintro e w2 ⟨rfl, hb2⟩)
              exact ⟨⟨i + 1, by omega, by go_num, hb2⟩, by simp [intOf]; omega⟩
            · have g3 : ¬ c < 57344 := by omega
              go_wp2_with (go_at_call 10; refine (cL.out _ hB2).mono ?_; clear cL; rintro e w2 ⟨rfl, hb2⟩)
              exact ⟨⟨i + 1, by omega, by go_num, hb2⟩, by simp [intOf]; omega⟩
          · rw [show cnt 2 5 = 1 from by unfold cnt; decide]
            have g1 : ¬ c < 0 := by omega
            have g2 : ¬ 1114111 < c := by omega
            have g4 : c < 55296 ∨ 57344 ≤ c := by omega
            have hL2 : L = 1 ∨ L = 2 := by omega
            clear hL hD HL HD HR
            rcases hL2 with rfl | rfl
            · rcases g4 with g4 | g4
              · have g3 : ¬ 55296 ≤ c := by omega
                go_wp2_with (go_at_call 10; refine (cL.out _ hB2).mono ?_; clear cL; rintro e w2 ⟨rfl, hb2⟩)
                exact ⟨⟨i + 1, by omega, by go_num, hb2⟩, by simp [intOf]; omega⟩
              · have g3 : ¬ c < 57344 := by omega
                go_wp2_with (go_at_call 10; refine (cL.out _ hB2).mono ?_; clear cL; rintro e w2 ⟨rfl, hb2⟩)
                exact ⟨⟨i + 1, by omega, by go_num, hb2⟩, by simp [intOf]; omega⟩
            · rcases g4 with g4 | g4
              · have g3 : ¬ 55296 ≤ c := by omega
                go_wp2_with (go_at_call 10; refine (cL.out _ hB2).mono ?_; clear cL; rintro e w2 ⟨rfl, hb2⟩)
                exact ⟨⟨i + 1, by omega, by go_num, hb2⟩, by simp [intOf]; omega⟩
              · have g3 : ¬ c < 57344 := by omega
                go_wp2_with (go_at_call 10; refine (cL.out _ hB2).mono ?_; clear cL; rintro e w2 ⟨rfl, hb2⟩)
                exact ⟨⟨i + 1, by omega, by go_num, hb2⟩, by simp [intOf]; omega⟩
          · rw [show cnt 3 5 = 1 from by unfold cnt; decide]
            have g1 : ¬ c < 0 := by omega
            have g2 : ¬ 1114111 < c := by omega
            have g4 : c < 55296 ∨ 57344 ≤ c := by omega
            obtain rfl : L = 1 := by omega
            clear hL hD HL HD HR
            rcases g4 with g4 | g4
            · have g3 : ¬ 55296 ≤ c := by omega
              go_wp2_with (go_at_call 10; refine (cL.out _ hB2).mono ?_; clear cL; rintro e w2 ⟨rfl, hb2⟩)
              exact ⟨⟨i + 1, by omega, by go_num, hb2⟩, by simp [intOf]; omega⟩
            · have g3 : ¬ c < 57344 := by omega
              go_wp2_with (go_at_call 10; refine (cL.out _ hB2).mono ?_; clear cL; rintro e w2 ⟨rfl, hb2⟩)
              exact ⟨⟨i + 1, by omega, by go_num, hb2⟩, by simp [intOf]; omega⟩
          · rw [show cnt 4 5 = 1 from by unfold cnt; decide]
            have g1 : ¬ c < 0 := by omega
            have g2 : ¬ 1114111 < c := by omega
            have g4 : c < 55296 ∨ 57344 ≤ c := by omega
            obtain rfl : L = 2 := by omega
            clear hL hD HL HD HR
            rcases g4 with g4 | g4
            · have g3 : ¬ 55296 ≤ c := by omega
              go_wp2_with (go_at_call 10; refine (cL.out _ hB2).mono ?_; clear cL; rintro e w2 ⟨rfl, hb2⟩)
              exact ⟨⟨i + 1, by omega, by go_num, hb2⟩, by simp [intOf]; omega⟩
            · have g3 : ¬ c < 57344 := by omega
              go_wp2_with (go_at_call 10; refine (cL.out _ hB2).mono ?_; clear cL; rintro e w2 ⟨rfl, hb2⟩)
              exact ⟨⟨i + 1, by omega, by go_num, hb2⟩, by simp [intOf]; omega⟩
          · rw [show cnt 5 5 = 0 from by unfold cnt; decide]
            obtain rfl : L = 1 := by omega
            have g : c < 0 ∨ (0 ≤ c ∧ 1114111 < c) ∨ (0 ≤ c ∧ c ≤ 1114111 ∧ 55296 ≤ c ∧ c < 57344) := by omega
            clear hL hD HL HD HR
            rcases g with g | ⟨g, g1⟩ | ⟨g, g1, g2, g3⟩
            · go_wp2_with (go_at_call 10; refine (cL.out _ hB2).mono ?_; clear cL; rintro e w2 ⟨rfl, hb2⟩)
              exact ⟨⟨i + 1, by omega, by go_num, hb2⟩, by simp [intOf]; omega⟩
            · have g2 : ¬ c < 0 := by omega
              go_wp2_with (go_at_call 10; refine (cL.out _ hB2).mono ?_; clear cL; rintro e w2 ⟨rfl, hb2⟩)
              exact ⟨⟨i + 1, by omega, by go_num, hb2⟩, by simp [intOf]; omega⟩
            · have g4 : ¬ c < 0 := by omega
              have g5 : ¬ 1114111 < c := by omega
              go_wp2_with (go_at_call 10; refine (cL.out _ hB2).mono ?_; clear cL; rintro e w2 ⟨rfl, hb2⟩)
              exact ⟨⟨i + 1, by omega, by go_num, hb2⟩, by simp [intOf]; omega⟩
    · go_wp2
      go_ret
      exact ⟨rfl, hB⟩
set_option maxRecDepth 100000 in
set_option maxHeartbeats 1000000 in
theorem walk_none (a : Option Addr) (cap : Nat) (w : World) : Calls Try.prog 5 #[.slice a 0 cap] w fun e w' => e = .returned (.bool true) ∧ Below w.heap.size w w' := by
  have cA := awake_any w
  go_enter Try.func5, Try.ntmps5
  go_wp2_with (go_at_call 7; refine cA.mono ?_; clear cA; rintro e w0 ⟨rfl, hb0⟩)
  go_loopw [3] (fun t wr => t = .int .i64 0 ∧ w0 = wr) (fun _ _ => 0)
  case atStart => exact ⟨rfl, rfl⟩
  case round =>
    obtain ⟨rfl, rfl⟩ := hrel
    go_wp2
    go_ret
    exact ⟨rfl, hb0⟩
theorem walk_of (a : Option Addr) (len cap : Nat) (w : World) (rs : List Int) (y : Runes w a len rs) (u : len ≤ maxLen) :
    Calls Try.prog 5 #[.slice a len cap] w fun e w' => e = .returned (.bool true) ∧ Below w.heap.size w w' := by
  obtain ⟨h1, _, h2⟩ := y
  by_cases h0 : len = 0
  · subst h0; exact walk_none a cap w
  · obtain ⟨b, o, rfl, hb, hc⟩ := h2 h0
    exact walk rs b o len cap h1.symm u w hc hb
end Go.Proofs.Ytjpfnkbkhpeijaa.widthWithin
