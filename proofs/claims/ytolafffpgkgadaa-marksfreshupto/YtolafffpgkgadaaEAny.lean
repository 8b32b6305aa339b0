/-
  Package marks' All, Len and Get of any set whose marks have names; of nil. Conditions: those of each theorem.
-/
import Derived.Test.YtolafffpgkgadaaEColN
import Derived.Test.YtolafffpgkgadaaEGet
namespace Go.Proofs.Ytolafffpgkgadaa
open Go.RowKit Go.ChangeMaps Go.MapKept

/-- all names are names -/
def Gdl (L : Ml) : Prop := ∀ p ∈ L, gd p.1 = true
theorem gd_rng {n : Nat} (h : gd n = true) : n = 64 ∨ 97 ≤ n ∧ n ≤ 122 := by
  unfold gd at h
  simpa using h
theorem ris_upto : ∀ {L : Ml} {lo hi : Nat}, Ris L → (∀ p ∈ L, lo ≤ p.1 ∧ p.1 < hi) → L.length + lo ≤ max hi lo
  | [], lo, _, _, _ => by simp; omega
  | q :: r, lo, hi, h, hb => by
    obtain ⟨h1, h2⟩ := List.pairwise_cons.1 h
    have := hb q List.mem_cons_self
    have := ris_upto (lo := q.1 + 1) (hi := hi) h2 (fun p hp => ⟨h1 p hp, (hb p (List.mem_cons_of_mem _ hp)).2⟩)
    simp only [List.length_cons]
    omega
theorem len27 {L : Ml} (h : Ris L) (hg : Gdl L) : L.length ≤ 27 := by
  cases L with
  | nil => simp
  | cons q r =>
    obtain ⟨h1, h2⟩ := List.pairwise_cons.1 h
    have hq := gd_rng (hg q List.mem_cons_self)
    have := ris_upto (lo := 97) (hi := 123) h2 (fun p hp => by
      have := gd_rng (hg p (List.mem_cons_of_mem _ hp))
      have := h1 p hp
      omega)
    simp only [List.length_cons]
    omega
theorem Gdl.lay {n : Nat} {a : Int} {L : Ml} (h : Gdl L) (hn : gd n = true) : Gdl (lay n a L) := fun p hp => by
  rcases lay_mem hp with rfl | hp
  · exact hn
  · exact h p hp
theorem Gdl.put {n : Nat} {a : Int} {L : Ml} (h : Gdl L) : Gdl (putL n a L) := by
  unfold putL
  split
  · rename_i c
    exact h.lay (by simp at c; exact c.1)
  · exact h
theorem Gdl.ld : ∀ {ms L : Ml}, Gdl L → Gdl (ld L ms)
  | [], _, h => h
  | p :: ms, L, h => by
    show Gdl (Go.Proofs.Ytolafffpgkgadaa.ld (putL p.1 p.2 L) ms)
    exact Gdl.ld h.put
theorem Gdl.nil : Gdl [] := fun _ h => by cases h
theorem St.emp {W : World} {sb : Nat} {mb : Option Nat} (h : St W sb mb []) : Emp W mb := fun b e => (h.own b e).2
theorem All_any {w : World} {sb : Nat} {mb : Option Nat} {L : Ml} (h : St w sb mb L) (hg : Gdl L) :
    Calls Try.prog 25 #[.pointer (some ⟨sb, 0, none⟩)] w fun e W' => ∃ v, e = .returned v ∧ W'.ownsRow w.heap.size 26 2 v L.length (kcl L) ∧ Below w.heap.size w W' := by
  have hl := len27 h.ris.1 hg
  rcases L with _ | ⟨q, r⟩
  · exact All_emp _ mb (all_any h) h.emp
  · cases mb with
    | none => exact absurd (h.nil rfl) (by simp)
    | some b => exact All_own h (by simp) (sort_all (by simp) hl)
theorem All_none (w : World) : Calls Try.prog 25 #[.pointer none] w fun e W' => ∃ v, e = .returned v ∧ W'.ownsRow w.heap.size 26 2 v 0 [] ∧ Below w.heap.size w W' := All_emp _ none (all_nil w) (fun _ e => by cases e)
/-- All answers a list that reads as the marks -/
theorem All_rd {w : World} {sb : Nat} {mb : Option Nat} {L : Ml} (h : St w sb mb L) (hg : Gdl L) :
    Calls Try.prog 25 #[.pointer (some ⟨sb, 0, none⟩)] w fun e W' => ∃ a c, e = .returned (.slice a L.length c) ∧ RdK W' (.slice a L.length c) L ∧ Below w.heap.size w W' := by
  refine (All_any h hg).mono ?_
  rintro e w' ⟨v, rfl, hr, hb⟩
  have hk := RdK.of_row hr
  obtain ⟨a, c, e1, _⟩ := id hk
  subst e1
  exact ⟨a, c, rfl, hk, hb⟩
theorem run_look_nil (W : World) (n : Nat) : (Instr.lookup 47 (.map none) (.int .u8 (n : Int)) true).run Try.prog W = .ok (.tuple #[.int .i64 0, .bool false]) W := by
  kernel_rfl
set_option maxRecDepth 100000 in
theorem get_nilmap (r : Value) {w : World} (hA : Calls Try.prog 39 #[r] w fun e w' => e = .returned (.map none) ∧ w' = w) {n : Nat} (hn : n < 256) :
    Calls Try.prog 23 #[r, .int .u8 (n : Int)] w fun e w' => e = .returned (.tuple #[.int .i64 (getE n []).1, .int .i64 (getE n []).2]) ∧ w' = w := by
  have CG := good_any hn w
  have hr := run_look_nil w n
  cases hg : gd n with
  | false =>
    rw [hg] at CG
    go_enter Try.func23, Try.ntmps23
    go_wp2_with (go_at_call 41; refine CG.mono ?_; rintro e w1 ⟨rfl, rfl⟩)
    go_ret2
    exact ⟨by simp [getE, hg], rfl⟩
  | true =>
    rw [hg] at CG
    go_enter Try.func23, Try.ntmps23
    go_wp2_with (first
      | (go_at_call 41; refine CG.mono ?_; clear CG; rintro e w1 ⟨rfl, rfl⟩)
      | (go_at_call 39; refine hA.mono ?_; clear hA; rintro e w1 ⟨rfl, rfl⟩))
    go_ret2
    exact ⟨by simp [getE, hg, got], rfl⟩
theorem get_any {w : World} {sb : Nat} {mb : Option Nat} {L : Ml} (h : St w sb mb L) {n : Nat} (hn : n < 256) :
    Calls Try.prog 23 #[.pointer (some ⟨sb, 0, none⟩), .int .u8 (n : Int)] w fun e w' => e = .returned (.tuple #[.int .i64 (getE n L).1, .int .i64 (getE n L).2]) ∧ w' = w := by
  cases mb with
  | some b => exact get_own h hn
  | none =>
    obtain rfl := h.nil rfl
    exact get_nilmap _ (all_any h) hn
theorem get_none (w : World) {n : Nat} (hn : n < 256) :
    Calls Try.prog 23 #[.pointer none, .int .u8 (n : Int)] w fun e w' => e = .returned (.tuple #[.int .i64 (getE n []).1, .int .i64 (getE n []).2]) ∧ w' = w := get_nilmap _ (all_nil w) hn
set_option maxRecDepth 100000 in
theorem len_any {w : World} {sb : Nat} {mb : Option Nat} {L : Ml} (h : St w sb mb L) :
    Calls Try.prog 26 #[.pointer (some ⟨sb, 0, none⟩)] w fun e w' => e = .returned (.int .i64 (L.length : Int)) ∧ w' = w := by
  have CA := all_any h
  cases mb with
  | none =>
    obtain rfl := h.nil rfl
    have hr := map_lenN w
    go_enter Try.func26, Try.ntmps26
    go_wp2_with (go_at_call 39; refine CA.mono ?_; clear CA; rintro e w1 ⟨rfl, rfl⟩)
    go_ret
    exact ⟨rfl, rfl⟩
  | some b =>
    have hlen := (h.own b rfl).2.1
    obtain ⟨N, hN⟩ : ∃ N, L.length = N := ⟨_, rfl⟩
    have hsz : Maps.size (mk L) = N := by rw [size_mk, hN]
    rw [hN]
    clear h
    go_enter Try.func26, Try.ntmps26
    go_wp2_with (first
      | (go_at_call 39; refine CA.mono ?_; clear CA; rintro e w1 ⟨rfl, rfl⟩)
      | (at_len; refine wpList_len_own _ rfl _ 47 rfl 5 3 Try.underlying47 _ b _ _ rfl hlen ?_; rw [hsz])
      | go_in)
    go_ret
    exact ⟨rfl, rfl⟩
theorem len_none (w : World) : Calls Try.prog 26 #[.pointer none] w fun e w' => e = .returned (.int .i64 0) ∧ w' = w := by
  have CA := all_nil w
  have hr := map_lenN w
  go_enter Try.func26, Try.ntmps26
  go_wp2_with (go_at_call 39; refine CA.mono ?_; clear CA; rintro e w1 ⟨rfl, rfl⟩)
  go_ret
  exact ⟨rfl, rfl⟩
end Go.Proofs.Ytolafffpgkgadaa
