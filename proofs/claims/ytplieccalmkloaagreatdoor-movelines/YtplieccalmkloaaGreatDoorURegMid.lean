/-
  A region that draws its order and has two operations that write: one in its midst, whose writing none of the others reads, and the last one, which waits for all: one walk in the order of the text serves every order. No program is named here; no conditions beyond.
-/
import Derived.Test.YtplieccalmkloaaGreatDoorPkU
namespace Bod
open Go

section
variable {P : Program} {ops : Array Oper} {md : Region.Mode} {R : Nat → Sem Next → Value → Prop}

/-- whatever order is picked, each operation does its own, and behind all of them Q -/
def anyR (md : Region.Mode) (ops : Array Oper) (R : Nat → Sem Next → Value → Prop) (Q : Act → Prop) : Nat → Array Bool → Act → Prop
  | 0, l, a => Region.ready md ops l = [] ∧ Q a
  | f + 1, l, a => (Region.ready md ops l = [] → Q a) ∧ ∀ i ∈ Region.ready md ops l, ∀ o, ops[i]? = some o → ∃ v, R i (execOp a.eval o) v ∧ anyR md ops R Q f (l.setIfInBounds i true) (a.put o.dst v)
/-- the same in the order of the text -/
def lexR (R : Nat → Sem Next → Value → Prop) (Q : Act → Prop) : Nat → List Oper → Act → Prop
  | _, [], a => Q a
  | k, o :: l, a => ∃ v, R k (execOp a.eval o) v ∧ lexR R Q (k + 1) l (a.put o.dst v)

theorem anyR_first {Q : Act → Prop} {i : Nat} {oi : Oper} {v : Value} (hi : ops[i]? = some oi) (hsel : ∀ (j : Nat) (o : Oper) cs b, ops[j]? = some o → o.op ≠ .select cs b) :
    ∀ (fuel : Nat) (l : Array Bool) (a : Act), (∀ j oj, ops[j]? = some oj → j ≠ i → l.getD j true = false → (∀ e ∈ oj.after, Region.binds md e = true → e.on ≠ i) → oi.apart ops oj = true) →
      i ∈ Region.ready md ops l → R i (execOp a.eval oi) v → anyR md ops R Q fuel (l.setIfInBounds i true) (a.put oi.dst v) → anyR md ops R Q (fuel + 1) l a
  | fuel, l, a, hfree, hr, hy, H => by
    refine ⟨fun h => (by rw [h] at hr; cases hr), fun j hj oj hoj => ?_⟩
    by_cases hji : j = i
    · subst hji
      rw [hi] at hoj
      cases hoj
      exact ⟨v, hy, H⟩
    · obtain ⟨hjun, o', ho', hall⟩ := mem_ready.1 hj
      rw [hoj] at ho'
      cases ho'
      have hnot : ∀ e ∈ oj.after, Region.binds md e = true → e.on ≠ i := fun e he hb heq => by
        have h1 := hall e he hb
        have h0 := (mem_ready.1 hr).1
        rw [heq] at h1
        rcases Nat.lt_or_ge i l.size with h' | h'
        · simp [h'] at h0 h1; rw [h0] at h1; cases h1
        · simp [Array.getElem?_eq_none h'] at h1
      obtain ⟨p1, p2, p3⟩ := Oper.apart_spec (hfree j oj hoj hji hjun hnot)
      cases fuel with
      | zero =>
        have := ready_mono hj hji
        rw [H.1] at this
        cases this
      | succ f =>
        obtain ⟨u, hu, hn⟩ := H.2 j (ready_mono hj hji) oj hoj
        rw [execOp_put oj (fun cs b => hsel j oj cs b hoj) a oi.dst v p1] at hu
        refine ⟨u, hu, anyR_first (v := v) hi hsel f _ _ (fun k ok hk hki hun hno => hfree k ok hk hki ?_ hno) (ready_mono hr (Ne.symm hji)) ?_ ?_⟩
        · by_cases hjk : j = k
          · subst hjk; exact hjun
          · rw [getD_set_ne true hjk] at hun; exact hun
        · rw [execOp_put oi (fun cs b => hsel i oi cs b hi) a oj.dst u p3]; exact hy
        · rw [Array.setIfInBounds_comm _ _ hji, ← Act.put_comm a v u p2]; exact hn

theorem anyR_lex {Q : Act → Prop} (hs : Region.noSelect ops = true) : ∀ (l : List Oper) (k : Nat) (listed : Array Bool) (a : Act), (∀ j, l[j]? = ops[k + j]?) → Region.lexFrom md ops l.length k listed = true → lexR R Q k l a → anyR md ops R Q l.length listed a
  | [], _, _, _, _, hB, h => ⟨by simpa [Region.lexFrom] using hB, h⟩
  | o :: l, k, listed, a, hl, hB, h => by
    have h0 : ops[k]? = some o := by simpa using (hl 0).symm
    simp only [List.length_cons, Region.lexFrom, Bool.and_eq_true] at hB
    obtain ⟨⟨hr, hf⟩, hB'⟩ := hB
    obtain ⟨v, hy, hK⟩ := h
    exact anyR_first h0 (Region.noSelect_spec hs) l.length listed a (Region.free_spec h0 hf) (by simpa using hr) hy
      (anyR_lex hs l (k + 1) _ _ (fun j => by have := hl (j + 1); simpa [Nat.add_assoc, Nat.add_comm 1 j] using this) hB' hK)
end

/-- kinds of operations that call nothing -/
def flat : Op → Bool
  | .move _ | .assign _ | .load _ _ | .nilCheck _ | .binOp _ _ _ _ _ | .slice _ _ _ _ _ | .fieldAddr _ _ _ => true
  | _ => false
theorem val_bind {P : Program} {α : Type} {s : Sem α} {k : α → Sem Next} (h : ∀ x w w' r, (k x).run P w = .ok r w' → ∃ v, r = .value v) : ∀ w w' r, (s >>= k).run P w = .ok r w' → ∃ v, r = .value v := by
  intro w w' r e
  rw [Sem.run_bind] at e
  cases hs : s.run P w with
  | ok x w1 => rw [hs] at e; exact h x w1 w' r e
  | halt x w1 => rw [hs] at e; cases e
theorem val_pure {P : Program} (v : Value) : ∀ w w' r, (pure (.value v) : Sem Next).run P w = .ok r w' → ∃ v, r = .value v := by
  intro w w' r e
  cases e
  exact ⟨v, rfl⟩
theorem flat_val {P : Program} {o : Oper} {ρ : Operand → Value} (hf : flat o.op = true) : ∀ w w' r, (execOp ρ o).run P w = .ok r w' → ∃ v, r = .value v := by
  unfold execOp
  cases ho : o.op <;> rw [ho] at hf <;> first | cases hf | skip
  case move => exact val_pure _
  case assign => exact val_pure _
  case load => exact val_bind fun x => val_pure x
  case binOp => exact val_bind fun x => val_pure x
  case slice => exact val_bind fun x => val_pure x
  case fieldAddr => exact val_bind fun x => val_pure x
  case nilCheck x =>
    dsimp only
    split
    · intro w w' r h; simp [runtimePanic] at h
    · intro w w' r h; simp [runtimePanic] at h
    · intro w w' r h; simp [runtimePanic] at h
    · split
      · intro w w' r h; simp [runtimePanic] at h
      · refine val_bind fun p => ?_
        refine val_bind fun q => ?_
        split
        · refine val_bind fun q => ?_
          exact val_pure _
        · exact val_pure _
      · exact val_pure _
    · exact val_pure _

/-- what each operation does: the one at x turns W false into W true; the others only read, before it and behind it alike -/
def midR (P : Program) (W : Bool → World) (x : Nat) (i : Nat) (m : Sem Next) (v : Value) : Prop :=
  if i = x then ∀ k, m.run P ((W false).drewN k) = .ok (.value v) ((W true).drewN k) else ∀ s k, m.run P ((W s).drewN k) = .ok (.value v) ((W s).drewN k)

theorem lex_quiet {F : Fence} {n : Nat} {P : Program} {ops : Array Oper} {W : Bool → World} {U : Nat → World} (hU : ∀ s k, ∃ m, (W s).drewN k = U m) {x : Nat} {Q Q' : Act → Prop} (m : List Oper) :
    ∀ (l : List Oper) (k : Nat) (a : Act), (∀ j, j < l.length → k + j ≠ x) → (∀ o ∈ l, flat o.op = true ∧ o.guard = none) → (∀ a', Q a' → lexR (midR P W x) Q' (k + l.length) m a') →
      wpQuietIn F n P ops (fun w' => ∃ m, w' = U m) Q l a → lexR (midR P W x) Q' k (l ++ m) a
  | [], k, a, _, _, hq, h => hq a h
  | o :: l, k, a, hx, hf, hq, h => by
    unfold wpQuietIn at h
    obtain ⟨_, h⟩ := h
    obtain ⟨f1, f2⟩ := hf o (by simp)
    rw [if_pos (by simp [Region.wanted, f2])] at h
    obtain ⟨v, hv, hn⟩ := h
    refine ⟨v, ?_, lex_quiet hU m l (k + 1) _ (fun j hj => by have := hx (j + 1) (by simpa using hj); omega) (fun o' ho' => hf o' (by simp [ho'])) (fun a' h' => by rw [show k + 1 + l.length = k + (o :: l).length by simp; omega]; exact hq a' h') hn⟩
    unfold midR
    rw [if_neg (by have := hx 0 (by simp); omega)]
    intro s j
    have h1 := hv _ (hU s j)
    unfold Oper.quietAtIn at h1
    have h2 := flat_val (P := P) (ρ := a.eval) f1 ((W s).drewN j)
    generalize (execOp a.eval o).run P ((W s).drewN j) = r at h1 h2
    cases r with
    | halt y w' => exact h1.elim
    | ok y w' =>
      obtain ⟨u, rfl⟩ := h2 w' y rfl
      obtain ⟨rfl, rfl⟩ := h1
      rfl

theorem mid_any {F : Fence} {n : Nat} {P : Program} {W : Bool → World} {x : Nat} {L l : List Oper} {o : Oper} {Q' : Exit → Act → World → Prop} (hL : L = l ++ [o]) (hchk : (vecs l.length).all (chk L) = true) (hro : F.round = none) (hF : ∀ f, F.fn f) (hx : x < l.length)
    (hnd : l.all (fun o => o.guard.isNone) = true) (hgo : o.guard = none) :
    ∀ (fuel : Nat) (v : List Bool) (a : Act) (w : World), v.length = l.length → shut L v = true → (∃ k, w = (W (v.getD x false)).drewN k) →
      anyR .any l.toArray (midR P W x) (fun a' => ∀ k, o.wpIn F n P a' ((W true).drewN k) (fun a'' w'' => Q' .normal a'' w'') Q') fuel v.toArray a →
      wpAnyIn F n P .any L.toArray Q' (fuel + 1) (v ++ [false]).toArray a w := by
  have hdl : L.dropLast = l := by rw [hL]; simp
  have hat : L[l.length]? = some o := by rw [hL]; simp
  have hin : ∀ i oi, l[i]? = some oi → L[i]? = some oi := fun i oi h => by
    have := (List.getElem?_eq_some_iff.1 h).1
    rw [hL, List.getElem?_append_left this]; exact h
  have last : ∀ (fuel : Nat) (v : List Bool) (a : Act) (w : World), v.length = l.length → shut L v = true → (∃ k, w = (W (v.getD x false)).drewN k) → v.all id = true → (∀ k, o.wpIn F n P a ((W true).drewN k) (fun a'' w'' => Q' .normal a'' w'') Q') → wpAnyIn F n P .any L.toArray Q' (fuel + 1) (v ++ [false]).toArray a w := by
    intro fuel v a w hv hsh hw hall hq
    rw [of_all hall (by omega)] at hw
    obtain ⟨k, rfl⟩ := hw
    have hc := List.all_eq_true.1 hchk v (hv ▸ vecs_all v)
    simp only [chk, hsh, Bool.not_true, Bool.false_or, hall, if_true, Bool.and_eq_true, beq_iff_eq] at hc
    refine ⟨fun h => (by rw [h] at hc; cases hc.1), fun i hi => ?_⟩
    rw [hc.1] at hi
    have hi : i = v.length := by simpa using hi
    subst hi
    unfold wpOpIn
    rw [List.getElem?_toArray, hv, hat]
    simp only
    rw [if_pos (by simp [Region.wanted, hgo])]
    refine Oper.wpIn_mono (fun a'' w'' h => ?_) (hq k)
    have e : (v ++ [false]).toArray.setIfInBounds l.length true = (v ++ [true]).toArray := by
      rw [← hv]; simp
    rw [e]
    cases fuel with
    | zero => exact ⟨hc.2, h⟩
    | succ f => exact ⟨fun _ => h, fun j hj => (by rw [hc.2] at hj; cases hj)⟩
  intro fuel
  induction fuel with
  | zero =>
    intro v a w hv hsh hw h
    refine last 0 v a w hv hsh hw ?_ h.2
    cases hall : v.all id with
    | true => rfl
    | false =>
      have hc := List.all_eq_true.1 hchk v (hv ▸ vecs_all v)
      simp only [chk, hsh, Bool.not_true, Bool.false_or, hall, Bool.false_eq_true, if_false, Bool.and_eq_true, beq_iff_eq, hdl] at hc
      have h1 := h.1
      rw [← hc.1.1] at h1
      rw [h1] at hc
      simp at hc
  | succ fuel ih =>
    intro v a w hv hsh hw h
    cases hall : v.all id with
    | true =>
      refine last (fuel + 1) v a w hv hsh hw hall (h.1 ?_)
      cases hr : Region.ready .any l.toArray v.toArray with
      | nil => rfl
      | cons i r =>
        have hi : i ∈ Region.ready .any l.toArray v.toArray := by rw [hr]; simp
        obtain ⟨h1, h2, _⟩ := (ready_at l v i).1 hi
        rw [gd_tf (by omega), of_all hall (by omega)] at h2
        cases h2
    | false =>
      have hc := List.all_eq_true.1 hchk v (hv ▸ vecs_all v)
      simp only [chk, hsh, Bool.not_true, Bool.false_or, hall, Bool.false_eq_true, if_false, Bool.and_eq_true, beq_iff_eq, hdl] at hc
      refine ⟨fun h0 => (by rw [h0] at hc; simp at hc), fun i hi => ?_⟩
      rw [hc.1.1] at hi
      have hsi := List.all_eq_true.1 hc.2 i hi
      obtain ⟨hil, hun, _⟩ := (ready_at l v i).1 hi
      have hoi : l[i]? = some l[i] := List.getElem?_eq_getElem hil
      obtain ⟨u, hu, hnext⟩ := h.2 i hi l[i] (by rw [List.getElem?_toArray]; exact hoi)
      have hg := List.all_eq_true.1 hnd l[i] (List.getElem_mem hil)
      rw [Option.isNone_iff_eq_none] at hg
      have hiv : i < v.length := by omega
      have e : (v ++ [false]).toArray.setIfInBounds i true = (v.set i true ++ [false]).toArray := by simp [hiv]
      have ev : v.toArray.setIfInBounds i true = (v.set i true).toArray := by simp
      rw [ev] at hnext
      unfold wpOpIn
      rw [List.getElem?_toArray, hin i _ hoi]
      simp only
      rw [if_pos (by simp [Region.wanted, hg]), e]
      unfold Oper.wpIn
      refine ⟨fun f _ => hF f, ?_⟩
      rw [hro, Oper.semAt_none]
      obtain ⟨k, rfl⟩ := hw
      unfold midR at hu
      by_cases hix : i = x
      · rw [if_pos hix] at hu
        subst hix
        rw [gd_tf hiv] at hun
        rw [hun, hu k]
        simp only [Oper.uponIn]
        refine ih _ _ _ (by simpa using hv) hsi ⟨k, ?_⟩ hnext
        rw [List.getD_eq_getElem?_getD, List.getElem?_set_self hiv]
        rfl
      · rw [if_neg hix] at hu
        rw [hu _ k]
        simp only [Oper.uponIn]
        refine ih _ _ _ (by simpa using hv) hsi ⟨k, ?_⟩ hnext
        have e2 : (v.set i true).getD x false = v.getD x false := by
          rw [List.getD_eq_getElem?_getD, List.getElem?_set_ne hix, ← List.getD_eq_getElem?_getD]
        rw [e2]

/-- both worlds, behind whatever draws, in one row -/
theorem both (W : Bool → World) : ∃ U : Nat → World, (∀ s k, ∃ m, (W s).drewN k = U m) ∧ ∀ m, ∃ s k, U m = (W s).drewN k := by
  refine ⟨fun m => (W (m % 2 == 1)).drewN (m / 2), fun s k => ?_, fun m => ⟨_, _, rfl⟩⟩
  cases s
  · exact ⟨2 * k, by simp⟩
  · exact ⟨2 * k + 1, by simp [show (2 * k + 1) / 2 = k by omega]⟩
theorem region_mid {F : Fence} {n : Nat} {P : Program} {id : Nat} {Q : Exit → Act → World → Prop} {a : Act} {w : World} {L : List Oper} (W : Bool → World) (hw : W false = w) (U : Nat → World) (hU : ∀ s k, ∃ m, (W s).drewN k = U m) (x : Nat) (hro : F.round = none) (hF : ∀ f, F.fn f) (hm : P.follows .mixedOrders = true) (hB : Region.lexB .any L.dropLast.toArray = true)
    (hnd : (List.range L.dropLast.length).all (fun i => ((L.dropLast[i]?).map fun o => o.guard.isNone && (i == x || flat o.op)).getD true) = true) (hf : fast L = true) {o X : Oper} (hX : L.dropLast[x]? = some X) (hl : L.getLast? = some o) (hgo : o.guard = none)
    (h : wpQuietIn F n P L.dropLast.toArray (fun w' => ∃ m, w' = U m) (fun a1 => ∃ v, (∀ k, (execOp a1.eval X).run P ((W false).drewN k) = .ok (.value v) ((W true).drewN k)) ∧
      wpQuietIn F n P L.dropLast.toArray (fun w' => ∃ m, w' = U m) (fun a2 => ∀ k, wpListIn F n P L.toArray Q [o] a2 ((W true).drewN k)) (L.dropLast.drop (x + 1)) (a1.put X.dst v)) (L.dropLast.take x) a) :
    (Code.region id L.toArray true).wpIn F n P Q a w := by
  subst hw
  have hL : L = L.dropLast ++ [o] := by
    cases L with
    | nil => cases hl
    | cons x r =>
      have hne : x :: r ≠ [] := by simp
      rw [List.getLast?_eq_some_getLast hne] at hl
      cases hl
      exact (List.dropLast_concat_getLast hne).symm
  have hxl : x < L.dropLast.length := (List.getElem?_eq_some_iff.1 hX).1
  have hsplit : L.dropLast = L.dropLast.take x ++ X :: L.dropLast.drop (x + 1) := by
    conv => lhs; rw [← List.take_append_drop x L.dropLast]
    rw [List.drop_eq_getElem_cons hxl]
    rw [List.getElem?_eq_getElem hxl] at hX
    cases hX
    rfl
  have hop : ∀ i oi, L.dropLast[i]? = some oi → oi.guard = none ∧ (i = x ∨ flat oi.op = true) := fun i oi hi => by
    have h1 := List.all_eq_true.1 hnd i (List.mem_range.2 (List.getElem?_eq_some_iff.1 hi).1)
    rw [hi] at h1
    simpa using h1
  simp only [Region.lexB, Bool.and_eq_true] at hB
  have hone : ∀ a' w', wpListIn F n P L.toArray Q [o] a' w' → o.wpIn F n P a' w' (fun a'' w'' => Q .normal a'' w'') Q := fun a' w' h => by
    unfold wpListIn at h
    rw [if_pos (by simp [Region.wanted, hgo])] at h
    exact h
  have hlex : lexR (midR P W x) (fun a' => ∀ k, o.wpIn F n P a' ((W true).drewN k) (fun a'' w'' => Q .normal a'' w'') Q) 0 L.dropLast a := by
    rw [hsplit]
    refine lex_quiet hU (Q := _) _ _ 0 a (fun j hj => by rw [List.length_take] at hj; omega) (fun o' ho' => ?_) (fun a1 h1 => ?_) h
    · obtain ⟨i, hi, rfl⟩ := List.mem_iff_getElem.1 ho'
      rw [List.length_take] at hi
      have := hop i (L.dropLast.take x)[i] (by rw [List.getElem_take]; exact List.getElem?_eq_getElem (by omega))
      rcases this.2 with h' | h'
      · omega
      · exact ⟨h', this.1⟩
    · obtain ⟨v, hv, h2⟩ := h1
      have e0 : 0 + (L.dropLast.take x).length = x := by rw [List.length_take]; omega
      rw [e0]
      refine ⟨v, by unfold midR; rw [if_pos rfl]; exact hv, ?_⟩
      have := lex_quiet hU (x := x) (Q' := fun a' => ∀ k, o.wpIn F n P a' ((W true).drewN k) (fun a'' w'' => Q .normal a'' w'') Q) [] (L.dropLast.drop (x + 1)) (x + 1) (a1.put X.dst v) (fun j _ => by omega) (fun o' ho' => ?_) (fun a' h' k => hone a' _ (h' k)) h2
      · simpa using this
      · obtain ⟨i, hi, rfl⟩ := List.mem_iff_getElem.1 ho'
        rw [List.length_drop] at hi
        have := hop (x + 1 + i) (L.dropLast.drop (x + 1))[i] (by rw [List.getElem_drop]; exact List.getElem?_eq_getElem (by omega))
        rcases this.2 with h' | h'
        · omega
        · exact ⟨h', this.1⟩
  have hq := anyR_lex (R := midR P W x) (md := .any) hB.1 L.dropLast 0 (Array.replicate L.dropLast.toArray.size false) a (by simp) (by simpa using hB.2) hlex
  have hrep : (Array.replicate L.dropLast.toArray.size false) = (List.replicate L.dropLast.length false).toArray := by simp
  rw [hrep] at hq
  have h0 : (List.replicate L.dropLast.length false).getD x false = false := by
    rw [List.getD_eq_getElem?_getD, List.getElem?_replicate]
    split <;> rfl
  have := mid_any hL (fast_chk hf hL) hro hF hxl (List.all_eq_true.2 fun oi hoi => by
    obtain ⟨i, hi, rfl⟩ := List.mem_iff_getElem.1 hoi
    rw [(hop i _ (List.getElem?_eq_getElem hi)).1]
    rfl) hgo L.dropLast.length (List.replicate L.dropLast.length false) a { W false with drawn := (W false).drawn + 1 } (by simp) (shut_none _ _) ⟨1, by rw [h0]; rfl⟩ hq
  refine wpIn_region_any hm ?_
  have hlen : L.length = L.dropLast.length + 1 := by
    have := congrArg List.length hL
    simpa using this
  have e : Array.replicate L.toArray.size false = (List.replicate L.dropLast.length false ++ [false]).toArray := by
    rw [← List.replicate_succ']
    simp; omega
  rw [e]
  have hsz : L.toArray.size = L.dropLast.length + 1 := by simpa using hlen
  rw [hsz]
  exact this
end Bod
