/-
  A region that draws its order, inside a fence, whose operations only read but for the last one, which waits for all of them: one walk in the order of the text serves every order. No program is named here; no conditions beyond.
-/
import Derived.Test.YtgagpmeknpjkpaaGreatDoorUQuietR
namespace Bod
open Go

/-- all lists of k marks -/
def vecs : Nat → List (List Bool)
  | 0 => [[]]
  | k + 1 => (vecs k).flatMap fun v => [true :: v, false :: v]
theorem vecs_all : ∀ v : List Bool, v ∈ vecs v.length
  | [] => by simp [vecs]
  | b :: v => by
    simp only [List.length_cons, vecs, List.mem_flatMap]
    exact ⟨v, vecs_all v, by cases b <;> simp⟩
/-- whoever is marked waits for nobody that is not -/
def shut (L : List Oper) (v : List Bool) : Bool := (List.range v.length).all fun i => !v.getD i false || ((L[i]?).map (·.after.all fun e => !Region.binds .any e || v.getD e.on false)).getD true
/-- where the first operations are marked by v, and the last one is not: who is ready? -/
def chk (L : List Oper) (v : List Bool) : Bool :=
  !shut L v || if v.all id then (Region.ready .any L.toArray (v ++ [false]).toArray == [v.length]) && (Region.ready .any L.toArray (v ++ [true]).toArray == [])
  else (Region.ready .any L.toArray (v ++ [false]).toArray == Region.ready .any L.dropLast.toArray v.toArray) && (Region.ready .any L.toArray (v ++ [false]).toArray != []) && (Region.ready .any L.dropLast.toArray v.toArray).all fun i => shut L (v.set i true)

theorem then_any {F : Fence} {n : Nat} {P : Program} {L l : List Oper} {o : Oper} {C : World → Prop} {Q' : Exit → Act → World → Prop} (hL : L = l ++ [o]) (hchk : (vecs l.length).all (chk L) = true)
    (hnd : l.all (fun o => !isDefer o.op && o.guard.isNone) = true) (hgo : o.guard = none) :
    ∀ (fuel : Nat) (v : List Bool) (a : Act) (w : World), v.length = l.length → shut L v = true → C w →
      wpAnyQIn F n P .any l.toArray C (fun a' => ∀ w', C w' → o.wpIn F n P a' w' (fun a'' w'' => Q' .normal a'' w'') Q') fuel v.toArray a →
      wpAnyIn F n P .any L.toArray Q' (fuel + 1) (v ++ [false]).toArray a w := by
  have hdl : L.dropLast = l := by rw [hL]; simp
  have hat : L[l.length]? = some o := by rw [hL]; simp
  have hin : ∀ i oi, l[i]? = some oi → L[i]? = some oi := fun i oi h => by
    have := (List.getElem?_eq_some_iff.1 h).1
    rw [hL, List.getElem?_append_left this]; exact h
  -- when all are marked the last one is run
  have last : ∀ (fuel : Nat) (v : List Bool) (a : Act) (w : World), v.length = l.length → shut L v = true → C w → v.all id = true → (∀ w', C w' → o.wpIn F n P a w' (fun a'' w'' => Q' .normal a'' w'') Q') → wpAnyIn F n P .any L.toArray Q' (fuel + 1) (v ++ [false]).toArray a w := by
    intro fuel v a w hv hsh hw hall hq
    have hc := List.all_eq_true.1 hchk v (hv ▸ vecs_all v)
    simp only [chk, hsh, Bool.not_true, Bool.false_or, hall, if_true, Bool.and_eq_true, beq_iff_eq] at hc
    refine ⟨fun h => (by rw [h] at hc; cases hc.1), fun i hi => ?_⟩
    rw [hc.1] at hi
    have hi : i = v.length := by simpa using hi
    subst hi
    unfold wpOpIn
    rw [List.getElem?_toArray, hv, hat]
    simp only
    rw [if_pos (by simp [Region.wanted, hgo])]
    refine Oper.wpIn_mono (fun a'' w'' h => ?_) (hq w hw)
    have e : (v ++ [false]).toArray.setIfInBounds l.length true = (v ++ [true]).toArray := by
      rw [← hv]; simp
    rw [e]
    cases fuel with
    | zero => exact ⟨hc.2, h⟩
    | succ f => exact ⟨fun _ => h, fun j hj => (by rw [hc.2] at hj; cases hj)⟩
  intro fuel
  induction fuel with
  | zero =>
    intro v a w hv hsh hw h
    refine last 0 v a w hv hsh hw ?_ h.2
    cases hall : v.all id with
    | true => rfl
    | false =>
      have hc := List.all_eq_true.1 hchk v (hv ▸ vecs_all v)
      simp only [chk, hsh, Bool.not_true, Bool.false_or, hall, Bool.false_eq_true, if_false, Bool.and_eq_true, beq_iff_eq, hdl] at hc
      have h1 := h.1
      rw [← hc.1.1] at h1
      rw [h1] at hc
      simp at hc
  | succ fuel ih =>
    intro v a w hv hsh hw h
    cases hall : v.all id with
    | true =>
      refine last (fuel + 1) v a w hv hsh hw hall (h.1 ?_)
      cases hr : Region.ready .any l.toArray v.toArray with
      | nil => rfl
      | cons i r =>
        have hi : i ∈ Region.ready .any l.toArray v.toArray := by rw [hr]; simp
        simp only [Region.ready, List.mem_filter, List.mem_range, Bool.and_eq_true] at hi
        obtain ⟨h1, h2, _⟩ := hi
        have hiv : i < v.length := by rw [hv]; simpa using h1
        have : v[i] = true := by simpa using (List.all_eq_true.1 hall) v[i] (List.getElem_mem hiv)
        simp [Array.getD, hiv, this] at h2
    | false =>
      have hc := List.all_eq_true.1 hchk v (hv ▸ vecs_all v)
      simp only [chk, hsh, Bool.not_true, Bool.false_or, hall, Bool.false_eq_true, if_false, Bool.and_eq_true, beq_iff_eq, hdl] at hc
      refine ⟨fun h0 => (by rw [h0] at hc; simp at hc), fun i hi => ?_⟩
      rw [hc.1.1] at hi
      have hsi := List.all_eq_true.1 hc.2 i hi
      have hq := h.2 i hi
      have hil : i < l.length := by
        simp only [Region.ready, List.mem_filter, List.mem_range] at hi
        simpa using hi.1
      have hoi : l[i]? = some l[i] := List.getElem?_eq_getElem hil
      have hg := List.all_eq_true.1 hnd l[i] (List.getElem_mem hil)
      simp only [Bool.and_eq_true, Option.isNone_iff_eq_none] at hg
      have e : (v ++ [false]).toArray.setIfInBounds i true = (v.set i true ++ [false]).toArray := by
        have : i < v.length := by omega
        simp [this]
      have ev : v.toArray.setIfInBounds i true = (v.set i true).toArray := by simp
      unfold qOpIn at hq
      rw [List.getElem?_toArray, hoi] at hq
      simp only at hq
      rw [if_pos (by simp [Region.wanted, hg.2]), ev] at hq
      unfold wpOpIn
      rw [List.getElem?_toArray, hin i _ hoi]
      simp only
      rw [if_pos (by simp [Region.wanted, hg.2]), e]
      obtain ⟨hask, u, hu, hnext⟩ := hq
      have hu' := hu w hw
      unfold Oper.quietAtIn at hu'
      refine ⟨hask w hw, ?_⟩
      rw [Oper.semAt_eq _ _ _ (fun c hcc => by have := hg.1; rw [hcc] at this; cases this)]
      generalize (execOp a.eval l[i]).run P w = res at hu'
      cases res with
      | halt x w' => simp only [Oper.quietUponIn] at hu'
      | ok x w' =>
        cases x <;> simp only [Oper.quietUponIn] at hu' <;> simp only [Oper.uponIn]
        case value u' => obtain ⟨rfl, rfl⟩ := hu'; exact ih _ _ _ (by simpa using hv) hsi hw hnext
        case skip => obtain ⟨rfl, rfl⟩ := hu'; exact ih _ _ _ (by simpa using hv) hsi hw hnext
        case enter f args =>
          obtain ⟨rfl, hd, hcall⟩ := hu'
          exact ⟨hd, hcall.mono fun e w'' ⟨he, hw''⟩ => by subst he; exact ih _ _ _ (by simpa using hv) hsi hw'' hnext⟩

theorem anyQ_mono {F : Fence} {n : Nat} {P : Program} {md : Region.Mode} {ops : Array Oper} {C : World → Prop} {Q Q' : Act → Prop} (h : ∀ a, Q a → Q' a) : ∀ (fuel : Nat) (listed : Array Bool) (a : Act), wpAnyQIn F n P md ops C Q fuel listed a → wpAnyQIn F n P md ops C Q' fuel listed a
  | 0, _, _, hh => ⟨hh.1, h _ hh.2⟩
  | fuel + 1, listed, a, hh => ⟨fun h0 => h _ (hh.1 h0), fun i hi => by
    have := hh.2 i hi
    unfold qOpIn at this ⊢
    cases ho : ops[i]? with
    | none => simp only [ho] at this ⊢; exact anyQ_mono h fuel _ _ this
    | some o =>
      simp only [ho] at this ⊢
      refine ⟨this.1, ?_⟩
      by_cases hw : Region.wanted o (yielded ops a.tmps) = true
      · rw [if_pos hw]; have h2 := this.2; rw [if_pos hw] at h2; exact Oper.quietIn_mono (fun a' h3 => anyQ_mono h fuel _ _ h3) h2
      · rw [if_neg hw]; have h2 := this.2; rw [if_neg hw] at h2; exact anyQ_mono h fuel _ _ h2⟩

theorem region_then {F : Fence} {n : Nat} {P : Program} {id : Nat} {Q : Exit → Act → World → Prop} {a : Act} {w : World} {L : List Oper} (hm : P.follows .mixedOrders = true) (hB : Region.lexB .any L.dropLast.toArray = true)
    (hnd : L.dropLast.all (fun o => !isDefer o.op && o.guard.isNone) = true) (hchk : (shut L (List.replicate L.dropLast.length false) && (vecs L.dropLast.length).all (chk L)) = true) {o : Oper} (hl : L.getLast? = some o) (hgo : o.guard = none)
    (h : wpQuietIn F n P L.dropLast.toArray (fun w' => ∃ n, w' = w.drewN n) (fun a' => ∀ w', (∃ n, w' = w.drewN n) → wpListIn F n P L.toArray Q [o] a' w') L.dropLast a) : (Code.region id L.toArray true).wpIn F n P Q a w := by
  have hL : L = L.dropLast ++ [o] := by
    cases L with
    | nil => cases hl
    | cons x r =>
      have hne : x :: r ≠ [] := by simp
      rw [List.getLast?_eq_some_getLast hne] at hl
      cases hl
      exact (List.dropLast_concat_getLast hne).symm
  simp only [Region.lexB, Bool.and_eq_true] at hB
  have hone : ∀ a' w', wpListIn F n P L.toArray Q [o] a' w' → o.wpIn F n P a' w' (fun a'' w'' => Q .normal a'' w'') Q := fun a' w' h => by
    unfold wpListIn at h
    rw [if_pos (by simp [Region.wanted, hgo])] at h
    exact h
  have hq := wpAnyQIn_lex (F := F) (n := n) (P := P) (C := fun w' => ∃ n, w' = w.drewN n) (md := .any) hB.1 L.dropLast 0 (Array.replicate L.dropLast.toArray.size false) a (by simp) (by simpa using hB.2) h
  have hrep : (Array.replicate L.dropLast.toArray.size false) = (List.replicate L.dropLast.length false).toArray := by simp
  rw [hrep] at hq
  have := then_any (C := fun w' => ∃ n, w' = w.drewN n) hL (Bool.and_eq_true _ _ ▸ hchk).2 hnd hgo L.dropLast.length (List.replicate L.dropLast.length false) a { w with drawn := w.drawn + 1 } (by simp) (Bool.and_eq_true _ _ ▸ hchk).1 ⟨1, rfl⟩ (anyQ_mono (fun a' h w' hw' => hone a' w' (h w' hw')) _ _ _ hq)
  refine wpIn_region_any hm ?_
  have hlen : L.length = L.dropLast.length + 1 := by
    have := congrArg List.length hL
    simpa using this
  have e : Array.replicate L.toArray.size false = (List.replicate L.dropLast.length false ++ [false]).toArray := by
    rw [← List.replicate_succ']
    simp; omega
  rw [e]
  have hsz : L.toArray.size = L.dropLast.length + 1 := by simpa using hlen
  rw [hsz]
  exact this
end Bod
