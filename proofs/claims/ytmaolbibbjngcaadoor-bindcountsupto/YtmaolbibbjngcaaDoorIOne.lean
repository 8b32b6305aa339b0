/-
  What each command of package bind is like, in plain words. No program is walked in this text; no conditions.
-/
import Derived.Test.YtmaolbibbjngcaaDoorIRow
namespace Go.Proofs.YtmaolbibbjngcaaDoor

/-- the kind of a command that a key makes, and what it asks of the key -/
structure KdF (kd : Int) (k : Ky) : Prop where
  lo : 1 ≤ kd
  hi : kd ≤ 40
  ins : kd = 1 → ownP k ≠ ⟨#[]⟩
  mrk : kd = 29 ∨ kd = 30 → k.ch = 64 ∨ (97 ≤ k.ch ∧ k.ch ≤ 122)
theorem kdf_of {kd : Int} {k : Ky} (lo : 1 < kd) (hi : kd ≤ 40) (h1 : kd ≠ 29) (h2 : kd ≠ 30) : KdF kd k := ⟨by omega, hi, fun e => by omega, fun e => by omega⟩
theorem namP_f (k : Ky) : KdF (namP k) k := by
  unfold namP
  cases h : nmL.find? fun r => decide (r.1 = k.kd) with
  | none => exact (kdf_of (by decide) (by decide) (by decide) (by decide) : KdF 40 k)
  | some r =>
    have hm := List.mem_of_find?_eq_some h
    have hq : ∀ r ∈ nmL, (1 < r.2.1 ∧ r.2.1 ≤ 40 ∧ r.2.1 ≠ 29 ∧ r.2.1 ≠ 30) ∧ (1 < r.2.2 ∧ r.2.2 ≤ 40 ∧ r.2.2 ≠ 29 ∧ r.2.2 ≠ 30) := by decide
    obtain ⟨⟨a, b, c, d⟩, e, f, g, i⟩ := hq r hm
    simp only
    split
    · exact kdf_of e f g i
    · exact kdf_of a b c d
theorem emp_ne {s : ByteArray} (h : emp s = false) : s ≠ ⟨#[]⟩ := fun e => by rw [e] at h; cases h
theorem typP_own {k : Ky} (h : typP k = true) : ownP k ≠ ⟨#[]⟩ := by
  unfold typP at h
  simp only [Bool.and_eq_true, Bool.not_eq_true'] at h
  exact emp_ne h.2
theorem isP_ch {k : Ky} {a c : Int} {m : Bool} (h : isP k a m c = true) : k.kd = a ∧ k.ch = c := by
  unfold isP at h
  simp only [Bool.and_eq_true, decide_eq_true_eq] at h
  exact ⟨h.1.1.1, h.1.2⟩
theorem own_tab {k : Ky} (h1 : k.kd = 2) (h2 : k.ch = 73) : ownP k ≠ ⟨#[]⟩ := by
  unfold ownP
  rw [if_neg (by omega), if_neg (by omega), if_pos h1, h2]
  decide +kernel
theorem sinP_f (k : Ky) : KdF (sinP k) k := by
  unfold sinP
  split
  · exact kdf_of (by decide) (by decide) (by decide) (by decide)
  · split
    · rename_i ht
      exact ⟨by decide, by decide, fun _ => typP_own ht, fun e => by omega⟩
    · cases h : bdL.find? fun r => isP k r.1 r.2.1 r.2.2.1 with
      | none => exact namP_f k
      | some r =>
        have hm := List.mem_of_find?_eq_some h
        have hp := isP_ch (k := k) (a := r.1) (m := r.2.1) (c := r.2.2.1) (by simpa using List.find?_some h)
        have hq : ∀ r ∈ bdL, 1 ≤ r.2.2.2 ∧ r.2.2.2 ≤ 40 ∧ (r.2.2.2 = 1 → r.1 = 2 ∧ r.2.2.1 = 73) ∧ (r.2.2.2 = 29 ∨ r.2.2.2 = 30 → r.2.2.1 = 64) := by decide
        obtain ⟨a, b, c, d⟩ := hq r hm
        exact ⟨a, b, fun e => own_tab (hp.1.trans (c e).1) (hp.2.trans (c e).2), fun e => .inl (hp.2.trans (d e))⟩
theorem extP_f (k : Ky) : KdF (extP k) k := by
  unfold extP
  cases h : exL.find? fun r => isP k r.1 r.2.1 r.2.2.1 with
  | none => exact (kdf_of (by decide) (by decide) (by decide) (by decide) : KdF 40 k)
  | some r =>
    have hm := List.mem_of_find?_eq_some h
    have hq : ∀ r ∈ exL, 1 < r.2.2.2 ∧ r.2.2.2 ≤ 40 ∧ r.2.2.2 ≠ 29 ∧ r.2.2.2 ≠ 30 := by decide
    obtain ⟨a, b, c, d⟩ := hq r hm
    exact kdf_of a b c d
theorem quoP_own {k : Ky} (h : quoP k = true) : ownP k ≠ ⟨#[]⟩ := by
  unfold quoP at h
  split at h
  · simp only [Bool.and_eq_true, Bool.not_eq_true'] at h
    exact emp_ne h.2
  · exact typP_own h
theorem mrkP_ch {k : Ky} (h : mrkP k = true) : k.ch = 64 ∨ (97 ≤ k.ch ∧ k.ch ≤ 122) := by
  unfold mrkP at h
  simp only [Bool.and_eq_true, Bool.or_eq_true, decide_eq_true_eq] at h
  exact h.2
theorem behP_f (b : ByteArray) (k : Ky) : KdF (behP b k) k := by
  unfold behP
  split
  · split
    · rename_i hq
      exact ⟨by decide, by decide, fun _ => quoP_own hq, fun e => by omega⟩
    · exact kdf_of (by decide) (by decide) (by decide) (by decide)
  · split
    · exact kdf_of (by decide) (by decide) (by decide) (by decide)
    · split
      · rename_i hq
        exact ⟨by decide, by decide, fun e => by omega, fun _ => mrkP_ch hq.2⟩
      · split
        · rename_i hq
          exact ⟨by decide, by decide, fun e => by omega, fun _ => mrkP_ch hq.2⟩
        · split
          · exact extP_f k
          · exact kdf_of (by decide) (by decide) (by decide) (by decide)
theorem kinP_f (s : Bs) (k : Ky) : KdF (kinP s k) k := by
  unfold kinP
  split
  · exact sinP_f k
  · exact behP_f _ k
theorem count_in {s : Bs} (hs : s.Ok) : 1 ≤ s.count ∧ s.count ≤ 1000 := by
  have := hs.n1
  unfold Bs.count
  split <;> omega
/-- a command: one of five ways -/
structure CmF (c : Cm) : Prop where
  lo : 1 ≤ c.kd
  hi : c.kd ≤ 40
  n0 : 1 ≤ c.n
  n1 : c.n ≤ 1000
  way : (c.kd = 1 ∧ c.tx ≠ ⟨#[]⟩ ∧ c.mr = 0) ∨ (c.kd = 39 ∧ c.mr = 0) ∨ ((c.kd = 29 ∨ c.kd = 30) ∧ c.tx = ⟨#[]⟩ ∧ c.mr ≠ 0) ∨ (c.kd = 37 ∧ c.n = 1 ∧ c.tx = ⟨#[]⟩ ∧ c.mr = 0) ∨ (c.kd ≠ 1 ∧ c.kd ≠ 39 ∧ c.kd ≠ 29 ∧ c.kd ≠ 30 ∧ c.kd ≠ 37 ∧ c.tx = ⟨#[]⟩ ∧ c.mr = 0)
theorem makP_f {s : Bs} (hs : s.Ok) (k : Ky) : CmF (makP s k) := by
  have hf := kinP_f s k
  obtain ⟨c0, c1⟩ := count_in hs
  unfold makP cmdP
  generalize kinP s k = kd at hf
  obtain ⟨lo, hi, ins, mrk⟩ := hf
  simp only
  by_cases h37 : kd = 37
  · subst h37
    rw [if_pos rfl]
    exact ⟨by show (1 : Int) ≤ 37; decide, by show (37 : Int) ≤ 40; decide, by show (1 : Int) ≤ 1; decide, by show (1 : Int) ≤ 1000; decide, .inr (.inr (.inr (.inl ⟨rfl, rfl, rfl, rfl⟩)))⟩
  rw [if_neg h37]
  refine ⟨lo, hi, c0, c1, ?_⟩
  by_cases h1 : kd = 1
  · subst h1
    exact .inl ⟨rfl, ins rfl, rfl⟩
  by_cases h39 : kd = 39
  · subst h39
    exact .inr (.inl ⟨rfl, rfl⟩)
  by_cases hm : kd = 29 ∨ kd = 30
  · refine .inr (.inr (.inl ⟨hm, ?_, ?_⟩))
    · show (if kd = 1 ∨ kd = 39 then ownP k else ⟨#[]⟩) = _
      rw [if_neg (by omega)]
    · show (if kd = 29 ∨ kd = 30 then IntKind.u8.wrap k.ch else 0) ≠ 0
      rw [if_pos hm]
      have : IntKind.u8.wrap k.ch = k.ch := by
        rcases mrk hm with e | ⟨e1, e2⟩
        · rw [e]; rfl
        · simp [IntKind.wrap, IntKind.signed, IntKind.bits]; omega
      rw [this]
      rcases mrk hm with e | ⟨e1, e2⟩ <;> omega
  · refine .inr (.inr (.inr (.inr ⟨h1, h39, fun e => hm (.inl e), fun e => hm (.inr e), h37, ?_, ?_⟩)))
    · show (if kd = 1 ∨ kd = 39 then ownP k else ⟨#[]⟩) = _
      rw [if_neg (by omega)]
    · show (if kd = 29 ∨ kd = 30 then IntKind.u8.wrap k.ch else 0) = 0
      rw [if_neg hm]
/-- where a key waits -/
theorem waiP_f {s t : Bs} {k : Ky} (h : waiP s k = some t) : s.px = ⟨#[]⟩ ∧ ((t.px = ⟨#[]⟩ ∧ t.has = true) ∨ t.px ≠ ⟨#[]⟩) := by
  unfold waiP at h
  split at h
  · rename_i hp
    refine ⟨hp, ?_⟩
    split at h
    · cases h; exact .inl ⟨rfl, rfl⟩
    · split at h
      · cases h
      · rename_i hne
        cases h; exact .inr hne
  · cases h
end Go.Proofs.YtmaolbibbjngcaaDoor
