/-
  What package hist's Add does. Conditions: those of each theorem.
-/
import Derived.Test.YtgakgebhhmkclabHPushF
namespace Go.Proofs.Ytgakgebhhmkclab
open Go.RowKit

theorem not_same {s t : ByteArray} (h : ¬ s = t) : (s.toList == t.toList) = false := by
  rw [beq_eq_false_iff_ne]
  intro e
  apply h
  rw [Lib.toList_data, Lib.toList_data] at e
  obtain ⟨s⟩ := s
  obtain ⟨t⟩ := t
  exact congrArg ByteArray.mk (Array.toList_inj.1 e)
set_option maxRecDepth 100000 in
set_option maxHeartbeats 2000000 in
theorem add_any {w : World} {base pb : Nat} {F : Nat → Prop} {h : Hs} (k : Pr w base pb F h) {t : ByteArray} (ht : t.size ≤ 1099511627776) :
    Calls Try.prog 13 #[.pointer (some ⟨pb, 0, none⟩), .string t] w fun e w' => e = .returned (.bool (h.took t)) ∧ ∃ F', Pr w' base pb F' (h.add t) ∧ Mv w F w' F' := by
  obtain ⟨v, d, k, rfl⟩ := k
  have CH : Hid (Calls Try.prog 18 #[.pointer (some ⟨pb, 0, none⟩)] w fun e w' => e = .returned (.tuple #[]) ∧ Hid (Pv w' base pb v (.slice none 0 0) h.home ∧ Mv w (Fp pb v d) w' (Fp pb v (.slice none 0 0)))) := home_any k
  have HX : Hid (∀ W, h.add t = h.home → Pv W base pb v (.slice none 0 0) h.home ∧ Mv w (Fp pb v d) W (Fp pb v (.slice none 0 0)) → ∃ F', Pr W base pb F' (h.add t) ∧ Mv w (Fp pb v d) W F') := fun W e q => ⟨_, ⟨_, _, by rw [e]; exact q.1, rfl⟩, q.2⟩
  by_cases h0 : t = ⟨#[]⟩
  · have e1 : h.took t = false := by simp [Hs.took, h0]
    have e2 : h.add t = h.home := by simp [Hs.add, e1]
    rw [e1]
    have HX2 : Hid _ := fun W => HX.out W e2
    subst h0
    clear k HX e1 e2
    go_enter Try.func13, Try.ntmps13
    go_wp2_with (go_at_call 18; refine CH.out.mono ?_; clear CH; rintro e w1 ⟨rfl, H1⟩)
    go_ret
    exact ⟨rfl, HX2.out _ H1.out⟩
  · have hemp := not_emp h0
    have CB : Hid (∀ W, Pv W base pb v (.slice none 0 0) h.home ∧ Mv w (Fp pb v d) W (Fp pb v (.slice none 0 0)) → Calls Try.prog 19 #[.pointer (some ⟨pb, 0, none⟩)] W fun e w' => e = .returned (.int .i64 (h.b : Int)) ∧ w' = W) := fun W q => bound_any (h := h.home) q.1
    by_cases hb : h.b = 0
    · have e1 : h.took t = false := by simp [Hs.took, hb]
      have e2 : h.add t = h.home := by simp [Hs.add, e1]
      rw [e1]
      have HX2 : Hid _ := fun W => HX.out W e2
      rw [hb] at CB
      clear k HX e1 e2
      go_enter Try.func13, Try.ntmps13
      go_wp2_with (first
        | (go_at_call 18; refine CH.out.mono ?_; clear CH; rintro e w1 ⟨rfl, H1⟩)
        | (go_at_call 19; refine (CB.out _ H1.out).mono ?_; clear CB; rintro e w2 ⟨rfl, hw⟩; subst hw))
      go_ret
      exact ⟨rfl, HX2.out _ H1.out⟩
    · have CN : Hid (∀ W, Pv W base pb v (.slice none 0 0) h.home ∧ Mv w (Fp pb v d) W (Fp pb v (.slice none 0 0)) → Calls Try.prog 20 #[.pointer (some ⟨pb, 0, none⟩)] W fun e w' => e = .returned (.string (h.es.getLast?.getD ⟨#[]⟩)) ∧ Hid (Pv w' base pb v (.slice none 0 0) h.home ∧ Mv w (Fp pb v d) w' (Fp pb v (.slice none 0 0)))) := fun W q => (newest_any (h := h.home) q.1).mono fun e w' q2 => ⟨q2.1, q.1.below q2.2, q.2.trans (Mv.below q2.2)⟩
      obtain ⟨b, hbe⟩ : ∃ b, h.b = b := ⟨_, rfl⟩
      have hb3 : b ≤ 1000 := hbe ▸ k.ok.b
      by_cases hl : h.es.getLast?.getD ⟨#[]⟩ = t
      · have e0 : h.es.getLast? = some t := by
          cases e : h.es.getLast? with
          | none => rw [e] at hl; exact absurd hl.symm h0
          | some s => rw [e] at hl; exact congrArg some hl
        have e1 : h.took t = false := by simp [Hs.took, e0]
        have e2 : h.add t = h.home := by simp [Hs.add, e1]
        rw [e1]
        have HX2 : Hid _ := fun W => HX.out W e2
        rw [hl] at CN
        rw [hbe] at CB hb
        have hb1 : ¬ (b : Int) = 0 := by omega
        have hb2 : ((b : Int) == 0) = false := by simp; omega
        clear k HX e1 e2 hbe hl e0
        go_enter Try.func13, Try.ntmps13
        go_wp2_with (first
          | (go_at_call 18; refine CH.out.mono ?_; clear CH; rintro e w1 ⟨rfl, H1⟩)
          | (go_at_call 19; refine (CB.out _ H1.out).mono ?_; clear CB; rintro e w2 ⟨rfl, hw⟩; subst hw)
          | (go_at_call 20; refine (CN.out _ H1.out).mono ?_; clear CN; rintro e w3 ⟨rfl, H3⟩))
        go_ret
        exact ⟨rfl, HX2.out _ H3.out⟩
      · have e0 : h.es.getLast? ≠ some t := fun e => hl (by rw [e]; rfl)
        have e1 : h.took t = true := by simp [Hs.took, e0, h0]; omega
        have e2 : h.add t = h.push t := by simp [Hs.add, e1]
        rw [e1, e2]
        have CP : Hid (∀ W, Pv W base pb v (.slice none 0 0) h.home ∧ Mv w (Fp pb v d) W (Fp pb v (.slice none 0 0)) → Calls Try.prog 21 #[.pointer (some ⟨pb, 0, none⟩), .string t] W fun e w' => e = .returned (.tuple #[]) ∧ Hid (∃ F', Pr w' base pb F' (h.push t) ∧ Mv w (Fp pb v d) w' F')) := fun W q => (push_any (h := h.home) q.1 (show 0 < h.b by omega) ht).mono fun e w' q2 => ⟨q2.1, by obtain ⟨v', q3, q4⟩ := q2.2; exact ⟨_, ⟨_, _, q3, rfl⟩, q.2.trans q4⟩⟩
        rw [hbe] at CB hb
        have hb1 : ¬ (b : Int) = 0 := by omega
        have hb2 : ((b : Int) == 0) = false := by simp; omega
        generalize h.es.getLast?.getD ⟨#[]⟩ = s at CN hl
        have hs2 := not_same hl
        clear k HX e1 e2 hbe e0
        go_enter Try.func13, Try.ntmps13
        go_wp2_with (first
          | (go_at_call 18; refine CH.out.mono ?_; clear CH; rintro e w1 ⟨rfl, H1⟩)
          | (go_at_call 19; refine (CB.out _ H1.out).mono ?_; clear CB; rintro e w2 ⟨rfl, hw⟩; subst hw)
          | (go_at_call 20; refine (CN.out _ H1.out).mono ?_; clear CN; rintro e w3 ⟨rfl, H3⟩)
          | (go_at_call 21; refine (CP.out _ H3.out).mono ?_; clear CP; rintro e w4 ⟨rfl, H4⟩))
        go_ret
        exact ⟨rfl, H4.out⟩
set_option maxRecDepth 100000 in
theorem add_nil (t : ByteArray) (w : World) : Calls Try.prog 13 #[.pointer none, .string t] w fun e w' => e = .returned (.bool false) ∧ w' = w := by
  have CH := home_nil w
  by_cases h0 : t = ⟨#[]⟩
  · subst h0
    go_enter Try.func13, Try.ntmps13
    go_wp2_with (go_at_call 18; refine CH.mono ?_; clear CH; rintro e w1 ⟨rfl, hw⟩; subst hw)
    go_ret
    exact ⟨rfl, rfl⟩
  · have hemp := not_emp h0
    have CB := bound_nil w
    go_enter Try.func13, Try.ntmps13
    go_wp2_with (first
      | (go_at_call 18; refine CH.mono ?_; clear CH; rintro e w1 ⟨rfl, hw⟩; subst hw)
      | (go_at_call 19; refine CB.mono ?_; clear CB; rintro e w2 ⟨rfl, hw⟩; subst hw))
    go_ret
    exact ⟨rfl, rfl⟩
end Go.Proofs.Ytgakgebhhmkclab
