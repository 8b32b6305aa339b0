/-
  The document's answers of layer 19 in plain words, and that they are the ones of the program's tables. No program is walked in this text; no conditions.
-/
import Derived.Test.YtmaolbibbjngcaaDoorIRow
namespace Go.Proofs.YtmaolbibbjngcaaDoor
open Go.RowKit

def eB : ByteArray := ⟨#[]⟩
def unb : Cm := ⟨40, 0, ⟨#[]⟩, 0⟩
def insC (t : ByteArray) : Cm := if t = ⟨#[]⟩ then unb else ⟨1, 0, t, 0⟩
def ctkL : List Int := [29, 8, 4, 40, 14, 9, 5, 37, 15, 1, 2, 18, 38, 3, 11, 40, 10, 40, 36, 40, 24, 19, 40, 20, 40, 22, 40, 40, 40, 40, 33, 32]
def ctrR (c : Int) : Cm := if c = 63 then ⟨15, 0, ⟨#[]⟩, 0⟩ else if c = 64 then ⟨29, 0, ⟨#[]⟩, 64⟩ else if c = 73 then insC ⟨#[9]⟩ else if 64 < c ∧ c ≤ 95 then ⟨ctkL.getD (c - 64).toNat 40, 0, ⟨#[]⟩, 0⟩ else unb
def mtL : List (Int × Int) := [(98, 6), (102, 7), (100, 16), (60, 12), (62, 13), (119, 21), (121, 23), (116, 25), (117, 26), (108, 27), (99, 28), (112, 34), (110, 35)]
def metR (c : Int) : Int := match mtL.find? fun r => decide (r.1 = c) with
  | some r => r.2
  | none => 40
def namR (kd : Int) (far : Bool) : Int := match nmL.find? fun r => decide (r.1 = kd) with
  | some r => if far then r.2.2 else r.2.1
  | none => 40
def tydR (k : Ky) : ByteArray := if k.kd = 4 then k.tx else encB k.ch
def plnR (k : Ky) : Bool := !k.ct && !k.me
def sinR (k : Ky) : Cm :=
  if k.kd = 1 then (if plnR k then insC (encB k.ch) else if k.ct then unb else ⟨metR k.ch, 0, ⟨#[]⟩, 0⟩)
  else if k.kd = 4 then (if plnR k then insC k.tx else unb)
  else if k.kd = 2 then (if k.me = false then ctrR k.ch else if k.ch = 72 ∨ k.ch = 63 then ⟨17, 0, ⟨#[]⟩, 0⟩ else unb)
  else if k.kd = 17 then ⟨39, 0, k.tx, 0⟩
  else ⟨namR k.kd (!plnR k), 0, ⟨#[]⟩, 0⟩
def preR (k : Ky) : ByteArray :=
  if k.kd = 2 ∧ k.me = false ∧ k.ch = 81 then ⟨#[113]⟩ else if k.kd = 2 ∧ k.me = false ∧ k.ch = 88 then ⟨#[120]⟩
  else if k.kd = 1 ∧ k.me = true ∧ k.ct = false ∧ k.ch = 109 then ⟨#[109]⟩ else if k.kd = 1 ∧ k.me = true ∧ k.ct = false ∧ k.ch = 39 then ⟨#[39]⟩ else ⟨#[]⟩
def quoR (k : Ky) : Cm :=
  if k.me then unb
  else if k.kd = 1 ∨ k.kd = 4 then (if k.ct then unb else insC (tydR k))
  else if k.kd = 3 then insC ⟨#[27]⟩
  else if k.kd = 2 then (if k.ch = 63 then insC ⟨#[127]⟩ else if 64 ≤ k.ch ∧ k.ch ≤ 95 then insC ⟨#[(k.ch - 64).toNat.toUInt8]⟩ else unb)
  else unb
def chrR (k : Ky) : Bool := decide (k.kd = 1) && !k.ct && !k.me
def letR (k : Ky) : Bool := chrR k && (decide (k.ch = 64) || (decide (97 ≤ k.ch) && decide (k.ch ≤ 122)))
def secR (b : ByteArray) (k : Ky) : Cm :=
  if k.kd = 2 ∧ k.me = false ∧ k.ch = 71 then ⟨37, 0, ⟨#[]⟩, 0⟩
  else if b = ⟨#[109]⟩ ∧ letR k then ⟨29, 0, ⟨#[]⟩, IntKind.u8.wrap k.ch⟩
  else if b = ⟨#[39]⟩ ∧ letR k then ⟨30, 0, ⟨#[]⟩, IntKind.u8.wrap k.ch⟩
  else if b = ⟨#[120]⟩ ∧ k.kd = 2 ∧ k.me = false ∧ k.ch = 88 then ⟨31, 0, ⟨#[]⟩, 0⟩
  else if b = ⟨#[120]⟩ ∧ chrR k ∧ k.ch = 117 then ⟨32, 0, ⟨#[]⟩, 0⟩
  else if b = ⟨#[120]⟩ ∧ chrR k ∧ k.ch = 114 then ⟨33, 0, ⟨#[]⟩, 0⟩
  else unb
def digR (k : Ky) (has : Bool) : Bool := decide (k.kd = 1) && !k.ct && (k.me || has) && decide (48 ≤ k.ch) && decide (k.ch ≤ 57)
/-- a command without its count -/
def cm0 (c : Cm) : Cm := ⟨c.kd, 0, c.tx, c.mr⟩
theorem cm0_ins (k : Ky) : cm0 (cmdP 1 k) = ⟨1, 0, ownP k, 0⟩ := rfl
theorem cm0_of {kd : Int} (k : Ky) (h1 : kd ≠ 1) (h2 : kd ≠ 39) (h3 : kd ≠ 29) (h4 : kd ≠ 30) : cm0 (cmdP kd k) = ⟨kd, 0, ⟨#[]⟩, 0⟩ := by
  unfold cm0 cmdP
  simp only
  rw [if_neg (by omega), if_neg (by omega)]
theorem enc_small {c : Int} (h0 : 0 ≤ c) (h1 : c ≤ 127) : encB c = ⟨#[c.toNat.toUInt8]⟩ := by
  unfold encB encs
  have hv : Lib.validRune c = true := by simp [Lib.validRune]; omega
  simp only [List.flatMap_cons, List.flatMap_nil, List.append_nil, hv, if_true]
  unfold Lib.encodeRune
  rw [Lib.encodeRuneZ_one h0 h1]
  rfl
theorem digR_eq (k : Ky) (has : Bool) : digR k has = (digP k && (k.me || has)) := by
  unfold digR digP
  cases decide (k.kd = 1) <;> cases k.ct <;> cases k.me <;> cases has <;> simp
theorem preR_eq (k : Ky) : preR k = preP k := by
  obtain ⟨kd, ch, ct, me, sh, tx⟩ := k
  unfold preR preP
  simp only [pxL, List.find?, isP]
  by_cases h2 : kd = 2
  · subst h2
    cases me
    · by_cases a : ch = 81
      · subst a; simp
      · by_cases b : ch = 88
        · subst b; simp
        · simp [a, b]
    · simp
  · by_cases h1 : kd = 1
    · subst h1
      cases me <;> cases ct
      · simp
      · simp
      · by_cases a : ch = 109
        · subst a; simp
        · by_cases b : ch = 39
          · subst b; simp
          · simp [a, b]
      · simp
    · simp [h1, h2]
theorem namR_eq (k : Ky) : namR k.kd (!plnR k) = namP k := by
  unfold namR namP plnR
  cases k.ct <;> cases k.me <;> rfl
theorem nmL_no {kd : Int} (h : ∀ r ∈ nmL, r.1 ≠ kd) (k : Ky) (hk : k.kd = kd) : namP k = 40 := by
  unfold namP
  rw [find_no (l := nmL) (fun j q _ hq => decide_eq_false (by rw [hk]; exact h q (List.mem_of_getElem? hq)))]
theorem met_eq (ch : Int) (sh : Bool) (tx : ByteArray) : sinP ⟨1, ch, false, true, sh, tx⟩ = metR ch := by
  by_cases a0 : ch = 98
  · subst a0; rfl
  by_cases a1 : ch = 102
  · subst a1; rfl
  by_cases a2 : ch = 100
  · subst a2; rfl
  by_cases a3 : ch = 60
  · subst a3; rfl
  by_cases a4 : ch = 62
  · subst a4; rfl
  by_cases a5 : ch = 119
  · subst a5; rfl
  by_cases a6 : ch = 121
  · subst a6; rfl
  by_cases a7 : ch = 116
  · subst a7; rfl
  by_cases a8 : ch = 117
  · subst a8; rfl
  by_cases a9 : ch = 108
  · subst a9; rfl
  by_cases b0 : ch = 99
  · subst b0; rfl
  by_cases b1 : ch = 112
  · subst b1; rfl
  by_cases b2 : ch = 110
  · subst b2; rfl
  have h1 : metR ch = 40 := by
    unfold metR
    rw [find_no (l := mtL) (fun j q _ hq => decide_eq_false (fun e => by
      have := List.mem_of_getElem? hq
      simp only [mtL, List.mem_cons, List.not_mem_nil, or_false] at this
      rcases this with rfl | rfl | rfl | rfl | rfl | rfl | rfl | rfl | rfl | rfl | rfl | rfl | rfl <;> simp only at e <;> omega))]
  rw [h1]
  unfold sinP
  rw [if_neg (by show ¬ (1 : Int) = 17; decide), if_neg (by simp [typP])]
  rw [find_no (l := bdL) (fun j q _ hq => by
    have := List.mem_of_getElem? hq
    cases hp : isP ⟨1, ch, false, true, sh, tx⟩ q.1 q.2.1 q.2.2.1 with
    | false => rfl
    | true =>
      exfalso
      unfold isP at hp
      simp only [Bool.and_eq_true, decide_eq_true_eq, beq_iff_eq] at hp
      obtain ⟨⟨⟨p1, p2⟩, p3⟩, -⟩ := hp
      have hq : ∀ r ∈ bdL, 1 = r.1 → true = r.2.1 → r.2.2.1 ∈ [98, 102, 100, 60, 62, 119, 121, 116, 117, 108, 99, 112, 110] := by decide
      have := hq q this p1 p2
      rw [← p3] at this
      simp only [List.mem_cons, List.not_mem_nil, or_false] at this
      omega)]
  exact nmL_no (kd := 1) (by decide) _ rfl
theorem sin_no {k : Ky} (h17 : k.kd ≠ 17) (ht : typP k = false) (hb : ∀ r ∈ bdL, isP k r.1 r.2.1 r.2.2.1 = false) : sinP k = namP k := by
  unfold sinP
  rw [if_neg h17, ht]
  rw [if_neg (by decide), find_no (l := bdL) (fun j q _ hq => hb q (List.mem_of_getElem? hq))]
theorem isP_off {k : Ky} {r : Int × Bool × Int × Int} (h : ¬ (k.kd = r.1 ∧ k.me = r.2.1 ∧ k.ch = r.2.2.1 ∧ (r.1 = 2 ∨ k.ct = false))) : isP k r.1 r.2.1 r.2.2.1 = false := by
  cases hp : isP k r.1 r.2.1 r.2.2.1 with
  | false => rfl
  | true =>
    exfalso
    unfold isP at hp
    simp only [Bool.and_eq_true, decide_eq_true_eq, beq_iff_eq, Bool.or_eq_true, Bool.not_eq_true'] at hp
    exact h ⟨hp.1.1.1, hp.1.1.2, hp.1.2, hp.2⟩
theorem ins_of {t : ByteArray} {k : Ky} {kd : Int} (h : ¬ t = ⟨#[]⟩ → kd = 1 ∧ ownP k = t) (h0 : t = ⟨#[]⟩ → kd = 40) : insC t = cm0 (cmdP kd k) := by
  unfold insC
  by_cases e : t = ⟨#[]⟩
  · rw [if_pos e, h0 e]; rfl
  · obtain ⟨rfl, q⟩ := h e
    rw [if_neg e, cm0_ins, q]
theorem unb_of {k : Ky} {kd : Int} (h : kd = 40) : unb = cm0 (cmdP kd k) := by rw [h]; rfl
theorem ctr_eq (ch : Int) (ct sh : Bool) (tx : ByteArray) : ctrR ch = cm0 (cmdP (sinP ⟨2, ch, ct, false, sh, tx⟩) ⟨2, ch, ct, false, sh, tx⟩) := by
  by_cases h : 63 ≤ ch ∧ ch ≤ 95
  · obtain ⟨n, hn⟩ : ∃ n : Nat, ch = 63 + n := ⟨(ch - 63).toNat, by omega⟩
    have hlt : n < 33 := by omega
    subst hn
    have key : ∀ n : Nat, n < 33 → ∀ (ct sh : Bool), (sinP ⟨2, 63 + (n : Int), ct, false, sh, tx⟩ = (if n = 0 then 15 else ctkL.getD (n - 1) 40)) := by
      intro n hn ct sh
      have : n = 0 ∨ n = 1 ∨ n = 2 ∨ n = 3 ∨ n = 4 ∨ n = 5 ∨ n = 6 ∨ n = 7 ∨ n = 8 ∨ n = 9 ∨ n = 10 ∨ n = 11 ∨ n = 12 ∨ n = 13 ∨ n = 14 ∨ n = 15 ∨ n = 16 ∨ n = 17 ∨ n = 18 ∨ n = 19 ∨ n = 20 ∨ n = 21 ∨ n = 22 ∨ n = 23 ∨ n = 24 ∨ n = 25 ∨ n = 26 ∨ n = 27 ∨ n = 28 ∨ n = 29 ∨ n = 30 ∨ n = 31 ∨ n = 32 := by omega
      rcases this with rfl | rfl | rfl | rfl | rfl | rfl | rfl | rfl | rfl | rfl | rfl | rfl | rfl | rfl | rfl | rfl | rfl | rfl | rfl | rfl | rfl | rfl | rfl | rfl | rfl | rfl | rfl | rfl | rfl | rfl | rfl | rfl | rfl <;> rfl
    rw [key n hlt]
    by_cases h0 : n = 0
    · subst h0; rfl
    rw [if_neg h0]
    unfold ctrR
    rw [if_neg (by omega)]
    by_cases h1 : n = 1
    · subst h1; rfl
    rw [if_neg (by omega)]
    by_cases h10 : n = 10
    · subst h10
      rw [if_pos (by decide)]
      refine (ins_of (fun _ => ⟨rfl, ?_⟩) (fun e => ?_))
      · show ctlP 73 = _
        unfold ctlP
        rw [if_neg (by decide), if_pos (by decide), enc_small (by decide) (by decide)]
        rfl
      · cases congrArg ByteArray.size e
    rw [if_neg (by omega), if_pos (by omega)]
    have e : (63 + (n : Int) - 64).toNat = n - 1 := by omega
    rw [e]
    have hne : ∀ m : Nat, m < 32 → m ≠ 9 → m ≠ 0 → ctkL.getD m 40 ≠ 1 ∧ ctkL.getD m 40 ≠ 39 ∧ ctkL.getD m 40 ≠ 29 ∧ ctkL.getD m 40 ≠ 30 := by decide
    obtain ⟨q1, q2, q3, q4⟩ := hne (n - 1) (by omega) (by omega) (by omega)
    exact (cm0_of _ q1 q2 q3 q4).symm
  · have e : ctrR ch = unb := by
      unfold ctrR
      rw [if_neg (by omega), if_neg (by omega), if_neg (by omega), if_neg (by omega)]
    rw [e]
    refine unb_of ?_
    rw [sin_no (by show (2 : Int) ≠ 17; decide) (by simp [typP]) (fun r hr => isP_off (fun q => by
      have hq : ∀ r ∈ bdL, 2 = r.1 → 63 ≤ r.2.2.1 ∧ r.2.2.1 ≤ 95 := by decide
      have := hq r hr q.1
      have e := q.2.2.1
      simp only at e
      omega))]
    exact nmL_no (kd := 2) (by decide) _ rfl
theorem namP_ne (k : Ky) : namP k ≠ 1 ∧ namP k ≠ 39 ∧ namP k ≠ 29 ∧ namP k ≠ 30 := by
  unfold namP
  cases h : nmL.find? fun r => decide (r.1 = k.kd) with
  | none => exact ⟨by show (40 : Int) ≠ 1; decide, by show (40 : Int) ≠ 39; decide, by show (40 : Int) ≠ 29; decide, by show (40 : Int) ≠ 30; decide⟩
  | some r =>
    have hq : ∀ r ∈ nmL, (r.2.1 ≠ 1 ∧ r.2.1 ≠ 39 ∧ r.2.1 ≠ 29 ∧ r.2.1 ≠ 30) ∧ (r.2.2 ≠ 1 ∧ r.2.2 ≠ 39 ∧ r.2.2 ≠ 29 ∧ r.2.2 ≠ 30) := by decide
    have := hq r (List.mem_of_find?_eq_some h)
    simp only
    split
    · exact this.2
    · exact this.1
theorem sin_off {k : Ky} (h1 : k.kd ≠ 1) (h2 : k.kd ≠ 2) (h4 : k.kd ≠ 4) (h17 : k.kd ≠ 17) : sinP k = namP k :=
  sin_no h17 (by unfold typP; rw [decide_eq_false h1, decide_eq_false h4]; rfl) (fun r hr => isP_off (fun q => by
    have hq : ∀ r ∈ bdL, r.1 = 1 ∨ r.1 = 2 := by decide
    rcases hq r hr with e | e
    · exact h1 (q.1.trans e)
    · exact h2 (q.1.trans e)))
theorem own1 {k : Ky} (h : k.kd = 1) : ownP k = encB k.ch := by unfold ownP; rw [if_pos h]
theorem own4 {k : Ky} (h : k.kd = 4 ∨ k.kd = 17) : ownP k = k.tx := by unfold ownP; rw [if_neg (by omega), if_pos h]
theorem sinR_eq (k : Ky) : sinR k = cm0 (cmdP (sinP k) k) := by
  unfold sinR
  by_cases h1 : k.kd = 1
  · rw [if_pos h1]
    by_cases hp : plnR k = true
    · rw [if_pos hp]
      unfold plnR at hp
      simp only [Bool.and_eq_true, Bool.not_eq_true'] at hp
      obtain ⟨hc, hm⟩ := hp
      refine ins_of (fun e => ⟨?_, own1 h1⟩) (fun e => ?_)
      · unfold sinP
        rw [if_neg (by omega), if_pos (by unfold typP; rw [own1 h1]; simp [h1, hc, hm, emp, e])]
      · rw [sin_no (by omega) (by unfold typP; rw [own1 h1]; simp [e, emp]) (fun r hr => isP_off (fun q => by
          have hq : ∀ r ∈ bdL, r.1 = 1 → r.2.1 = true := by decide
          have := hq r hr (q.1.symm.trans h1)
          rw [← q.2.1, hm] at this; cases this))]
        exact nmL_no (kd := 1) (by decide) _ h1
    · rw [if_neg hp]
      by_cases hc : k.ct = true
      · rw [if_pos hc]
        refine unb_of ?_
        rw [sin_no (by omega) (by unfold typP; simp [hc]) (fun r hr => isP_off (fun q => by
          rcases q.2.2.2 with e | e
          · have := q.1.symm.trans h1
            omega
          · rw [hc] at e; cases e))]
        exact nmL_no (kd := 1) (by decide) _ h1
      · rw [if_neg hc]
        have hc' : k.ct = false := by simpa using hc
        have hm' : k.me = true := by
          unfold plnR at hp
          rw [hc'] at hp
          simpa using hp
        obtain ⟨kd, ch, ct, me, sh, tx⟩ := k
        simp only at h1 hc' hm' ⊢
        subst h1 hc' hm'
        rw [met_eq]
        have hne : metR ch ≠ 1 ∧ metR ch ≠ 39 ∧ metR ch ≠ 29 ∧ metR ch ≠ 30 := by
          unfold metR
          cases h : mtL.find? fun r => decide (r.1 = ch) with
          | none => exact ⟨by show (40 : Int) ≠ 1; decide, by show (40 : Int) ≠ 39; decide, by show (40 : Int) ≠ 29; decide, by show (40 : Int) ≠ 30; decide⟩
          | some r =>
            have hq : ∀ r ∈ mtL, r.2 ≠ 1 ∧ r.2 ≠ 39 ∧ r.2 ≠ 29 ∧ r.2 ≠ 30 := by decide
            exact hq r (List.mem_of_find?_eq_some h)
        exact (cm0_of _ hne.1 hne.2.1 hne.2.2.1 hne.2.2.2).symm
  rw [if_neg h1]
  by_cases h4 : k.kd = 4
  · rw [if_pos h4]
    have hb : ∀ r ∈ bdL, isP k r.1 r.2.1 r.2.2.1 = false := fun r hr => isP_off (fun q => by
      have hq : ∀ r ∈ bdL, r.1 = 1 ∨ r.1 = 2 := by decide
      have := q.1
      rcases hq r hr with e | e <;> omega)
    by_cases hp : plnR k = true
    · rw [if_pos hp]
      unfold plnR at hp
      simp only [Bool.and_eq_true, Bool.not_eq_true'] at hp
      obtain ⟨hc, hm⟩ := hp
      refine ins_of (fun e => ⟨?_, own4 (.inl h4)⟩) (fun e => ?_)
      · unfold sinP
        rw [if_neg (by omega), if_pos (by unfold typP; rw [own4 (.inl h4)]; simp [h4, hc, hm, emp, e])]
      · rw [sin_no (by omega) (by unfold typP; rw [own4 (.inl h4)]; simp [e, emp]) hb]
        exact nmL_no (kd := 4) (by decide) _ h4
    · rw [if_neg hp]
      refine unb_of ?_
      rw [sin_no (by omega) (by
        unfold plnR at hp
        unfold typP
        cases hc : k.ct <;> cases hm : k.me <;> rw [hc, hm] at hp <;> simp at hp ⊢) hb]
      exact nmL_no (kd := 4) (by decide) _ h4
  rw [if_neg h4]
  by_cases h2 : k.kd = 2
  · rw [if_pos h2]
    obtain ⟨kd, ch, ct, me, sh, tx⟩ := k
    simp only at h2 ⊢
    subst h2
    cases me
    · rw [if_pos rfl]
      exact ctr_eq ch ct sh tx
    · rw [if_neg (by decide)]
      by_cases a : ch = 72
      · subst a; rw [if_pos (.inl rfl)]; rfl
      by_cases b : ch = 63
      · subst b; rw [if_pos (.inr rfl)]; rfl
      rw [if_neg (by omega)]
      refine unb_of ?_
      rw [sin_no (by show (2 : Int) ≠ 17; decide) (by simp [typP]) (fun r hr => isP_off (fun q => by
        have hq : ∀ r ∈ bdL, r.1 = 2 → r.2.1 = true → r.2.2.1 = 72 ∨ r.2.2.1 = 63 := by decide
        have := hq r hr q.1.symm q.2.1.symm
        have e := q.2.2.1
        simp only at e
        omega))]
      exact nmL_no (kd := 2) (by decide) _ rfl
  rw [if_neg h2]
  by_cases h17 : k.kd = 17
  · rw [if_pos h17]
    have : sinP k = 39 := by unfold sinP; rw [if_pos h17]
    rw [this, show cm0 (cmdP 39 k) = ⟨39, 0, ownP k, 0⟩ from rfl, own4 (.inr h17)]
  rw [if_neg h17, sin_off h1 h2 h4 h17, namR_eq]
  have hf := namP_ne k
  exact (cm0_of _ hf.1 hf.2.1 hf.2.2.1 hf.2.2.2).symm
theorem typ_self {k : Ky} (h : k.kd = 1 ∨ k.kd = 4) : typP k = (!k.ct && !k.me && !emp (tydR k)) := by
  unfold typP tydR
  rcases h with h | h
  · rw [own1 h, if_neg (by omega)]; simp [h]
  · rw [own4 (.inl h), if_pos h]; simp [h]
theorem own_self {k : Ky} (h : k.kd = 1 ∨ k.kd = 4) : ownP k = tydR k := by
  unfold tydR
  rcases h with h | h
  · rw [own1 h, if_neg (by omega)]
  · rw [own4 (.inl h), if_pos h]
theorem quoR_eq (k : Ky) : quoR k = cm0 (cmdP (behP ⟨#[113]⟩ k) k) := by
  have hb : behP ⟨#[113]⟩ k = if quoP k then 1 else 40 := by unfold behP; rw [if_pos rfl]
  rw [hb]
  unfold quoR
  by_cases hm : k.me = true
  · rw [if_pos hm]
    refine unb_of ?_
    have : quoP k = false := by unfold quoP typP; rw [hm]; split <;> simp
    rw [this]; rfl
  rw [if_neg hm]
  have hm' : k.me = false := by simpa using hm
  by_cases h14 : k.kd = 1 ∨ k.kd = 4
  · rw [if_pos h14]
    have hq : quoP k = (!k.ct && !emp (tydR k)) := by
      unfold quoP
      rw [if_neg (by omega), typ_self h14, hm']
      simp
    rw [hq]
    by_cases hc : k.ct = true
    · rw [if_pos hc]
      refine unb_of ?_
      rw [hc]; rfl
    · rw [if_neg hc]
      have hc' : k.ct = false := by simpa using hc
      rw [hc']
      refine ins_of (fun e => ⟨?_, own_self h14⟩) (fun e => ?_)
      · simp [emp, e]
      · simp [emp, e]
  rw [if_neg h14]
  have ht : typP k = false := by unfold typP; rw [decide_eq_false (fun e => h14 (.inl e)), decide_eq_false (fun e => h14 (.inr e))]; rfl
  by_cases h3 : k.kd = 3
  · rw [if_pos h3]
    have ho : ownP k = ⟨#[27]⟩ := by unfold ownP; rw [if_neg (by omega), if_neg (by omega), if_neg (by omega), if_pos h3]
    have hq : quoP k = true := by
      unfold quoP
      rw [if_pos (.inr h3), ho, hm']
      rfl
    rw [hq]
    exact ins_of (fun e => ⟨rfl, ho⟩) (fun e => absurd e (by decide))
  rw [if_neg h3]
  by_cases h2 : k.kd = 2
  · rw [if_pos h2]
    have ho : ownP k = ctlP k.ch := by unfold ownP; rw [if_neg (by omega), if_neg (by omega), if_pos h2]
    have hq : quoP k = !emp (ctlP k.ch) := by unfold quoP; rw [if_pos (.inl h2), ho, hm']; rfl
    rw [hq]
    by_cases a : k.ch = 63
    · rw [if_pos a]
      have : ctlP k.ch = ⟨#[127]⟩ := by unfold ctlP; rw [if_pos a]
      refine ins_of (fun e => ⟨?_, ho.trans this⟩) (fun e => absurd e (by decide))
      rw [this]; rfl
    rw [if_neg a]
    by_cases b : 64 ≤ k.ch ∧ k.ch ≤ 95
    · rw [if_pos b]
      have : ctlP k.ch = ⟨#[(k.ch - 64).toNat.toUInt8]⟩ := by unfold ctlP; rw [if_neg a, if_pos b, enc_small (by omega) (by omega)]
      have hne : ¬ (⟨#[(k.ch - 64).toNat.toUInt8]⟩ : ByteArray) = ⟨#[]⟩ := fun e => by cases congrArg ByteArray.size e
      refine ins_of (fun e => ⟨?_, ho.trans this⟩) (fun e => absurd e hne)
      rw [this, emp, decide_eq_false hne]; rfl
    rw [if_neg b]
    refine unb_of ?_
    have : ctlP k.ch = ⟨#[]⟩ := by unfold ctlP; rw [if_neg a, if_neg b]
    rw [this]; rfl
  rw [if_neg h2]
  refine unb_of ?_
  have : quoP k = false := by unfold quoP; rw [if_neg (by omega), ht]
  rw [this]; rfl
theorem letR_eq (k : Ky) : letR k = mrkP k := by
  unfold letR chrR mrkP
  rfl
theorem ext_no {k : Ky} (h : ∀ r ∈ exL, isP k r.1 r.2.1 r.2.2.1 = false) : extP k = 40 := by
  unfold extP
  rw [find_no (l := exL) (fun j q _ hq => h q (List.mem_of_getElem? hq))]
theorem secR_eq (b : ByteArray) (k : Ky) (hb : b = ⟨#[120]⟩ ∨ b = ⟨#[109]⟩ ∨ b = ⟨#[39]⟩) : secR b k = cm0 (cmdP (behP b k) k) := by
  have hnq : ¬ b = ⟨#[113]⟩ := by rcases hb with rfl | rfl | rfl <;> decide
  have hg : isP k 2 false 71 = decide (k.kd = 2 ∧ k.me = false ∧ k.ch = 71) := by
    unfold isP
    by_cases a : k.kd = 2 <;> cases hm : k.me <;> by_cases c : k.ch = 71 <;> simp [a, c]
  unfold secR
  by_cases h0 : k.kd = 2 ∧ k.me = false ∧ k.ch = 71
  · have hB : behP b k = 37 := by unfold behP; rw [if_neg hnq, hg, if_pos (decide_eq_true h0)]
    rw [if_pos h0, hB]; rfl
  have hG : ¬ decide (k.kd = 2 ∧ k.me = false ∧ k.ch = 71) = true := fun e => h0 (of_decide_eq_true e)
  rw [if_neg h0, letR_eq]
  by_cases h1 : b = ⟨#[109]⟩ ∧ mrkP k = true
  · have hB : behP b k = 29 := by unfold behP; rw [if_neg hnq, hg, if_neg hG, if_pos h1]
    rw [if_pos h1, hB]; rfl
  rw [if_neg h1]
  by_cases h2 : b = ⟨#[39]⟩ ∧ mrkP k = true
  · have hB : behP b k = 30 := by unfold behP; rw [if_neg hnq, hg, if_neg hG, if_neg h1, if_pos h2]
    rw [if_pos h2, hB]; rfl
  rw [if_neg h2]
  have hB : behP b k = if b = ⟨#[120]⟩ then extP k else 40 := by unfold behP; rw [if_neg hnq, hg, if_neg hG, if_neg h1, if_neg h2]
  rw [hB]
  clear hB
  by_cases hx : b = ⟨#[120]⟩
  · rw [if_pos hx]
    by_cases a : k.kd = 2 ∧ k.me = false ∧ k.ch = 88
    · rw [if_pos ⟨hx, a⟩]
      obtain ⟨kd, ch, ct, me, sh, tx⟩ := k
      obtain ⟨rfl, rfl, rfl⟩ := a
      rfl
    rw [if_neg (fun q => a q.2)]
    by_cases c : chrR k = true ∧ k.ch = 117
    · rw [if_pos ⟨hx, c⟩]
      obtain ⟨kd, ch, ct, me, sh, tx⟩ := k
      simp only [chrR, Bool.and_eq_true, decide_eq_true_eq, Bool.not_eq_true'] at c
      obtain ⟨⟨⟨rfl, rfl⟩, rfl⟩, rfl⟩ := c
      rfl
    rw [if_neg (fun q => c q.2)]
    by_cases d : chrR k = true ∧ k.ch = 114
    · rw [if_pos ⟨hx, d⟩]
      obtain ⟨kd, ch, ct, me, sh, tx⟩ := k
      simp only [chrR, Bool.and_eq_true, decide_eq_true_eq, Bool.not_eq_true'] at d
      obtain ⟨⟨⟨rfl, rfl⟩, rfl⟩, rfl⟩ := d
      rfl
    rw [if_neg (fun q => d q.2)]
    refine unb_of (ext_no (fun r hr => isP_off (fun q => ?_)))
    simp only [exL, List.mem_cons, List.not_mem_nil, or_false] at hr
    rcases hr with rfl | rfl | rfl
    · exact a ⟨q.1, q.2.1, q.2.2.1⟩
    · obtain ⟨q0, q1, q2, q3⟩ := q
      simp only at q0 q1 q2 q3
      exact c ⟨by unfold chrR; rw [q1, q3.resolve_left (by decide)]; simp [q0], q2⟩
    · obtain ⟨q0, q1, q2, q3⟩ := q
      simp only at q0 q1 q2 q3
      exact d ⟨by unfold chrR; rw [q1, q3.resolve_left (by decide)]; simp [q0], q2⟩
  · rw [if_neg hx, if_neg (fun q => hx q.1), if_neg (fun q => hx q.1), if_neg (fun q => hx q.1)]
    rfl
end Go.Proofs.YtmaolbibbjngcaaDoor
