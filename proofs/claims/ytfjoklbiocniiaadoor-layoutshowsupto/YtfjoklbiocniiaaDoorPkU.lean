/-
  Laws for regions that draw their order. Conditions: those of each theorem.
-/
import Derived.Sort.QuietIn
namespace Bod
open Go

def isDefer : Op → Bool
  | .defer _ => true
  | _ => false

theorem any_of_quiet {F : Fence} {n : Nat} {P : Program} {md : Region.Mode} {ops : Array Oper} {C : World → Prop} {Q : Act → Prop} {Q' : Exit → Act → World → Prop}
    (hnd : ∀ (i : Nat) (o : Oper), ops[i]? = some o → isDefer o.op = false) (hQ : ∀ a w, C w → Q a → Q' .normal a w) :
    ∀ (fuel : Nat) (listed : Array Bool) (a : Act) (w : World), C w → wpAnyQIn F n P md ops C Q fuel listed a → wpAnyIn F n P md ops Q' fuel listed a w := by
  intro fuel
  induction fuel with
  | zero => intro listed a w hw h; exact ⟨h.1, hQ _ _ hw h.2⟩
  | succ fuel ih =>
    intro listed a w hw h
    refine ⟨fun h0 => hQ _ _ hw (h.1 h0), fun i hi => ?_⟩
    have hq := h.2 i hi
    unfold qOpIn at hq
    unfold wpOpIn
    cases ho : ops[i]? with
    | none => simp only [ho] at hq ⊢; exact ih _ _ _ hw hq
    | some o =>
      simp only [ho] at hq ⊢
      obtain ⟨hask, hq⟩ := hq
      by_cases hwant : Region.wanted o (yielded ops a.tmps) = true
      · rw [if_pos hwant] at hq ⊢
        obtain ⟨v, hv, hnext⟩ := hq
        have hv' := hv w hw
        unfold Oper.quietAtIn at hv'
        refine ⟨hask w hw, ?_⟩
        rw [Oper.semAt_eq _ _ _ (fun c hc => by have := hnd i o ho; rw [hc] at this; cases this)]
        generalize (execOp a.eval o).run P w = res at hv'
        cases res with
        | halt x w' => simp only [Oper.quietUponIn] at hv'
        | ok x w' =>
          cases x <;> simp only [Oper.quietUponIn] at hv' <;> simp only [Oper.uponIn]
          case value u => obtain ⟨rfl, rfl⟩ := hv'; exact ih _ _ _ hw hnext
          case skip => obtain ⟨rfl, rfl⟩ := hv'; exact ih _ _ _ hw hnext
          case enter f args =>
            obtain ⟨rfl, hd, hc⟩ := hv'
            exact ⟨hd, hc.mono fun e w'' ⟨he, hw''⟩ => by subst he; exact ih _ _ _ hw'' hnext⟩
      · rw [if_neg hwant] at hq ⊢
        exact ⟨hask w hw, ih _ _ _ hw hq⟩

theorem region_quiet {F : Fence} {n : Nat} {P : Program} {id : Nat} {Q : Exit → Act → World → Prop} {a : Act} {w : World} {l : List Oper} (hm : P.follows .mixedOrders = true) (hB : Region.lexB .any l.toArray = true) (hnd : l.all (fun o => !isDefer o.op) = true)
    (h : wpQuietIn F n P l.toArray (fun w' => ∃ n, w' = w.drewN n) (fun a' => ∀ w', (∃ n, w' = w.drewN n) → Q .normal a' w') l a) : (Code.region id l.toArray true).wpIn F n P Q a w := by
  simp only [Region.lexB, Bool.and_eq_true] at hB
  refine wpIn_region_any hm (any_of_quiet (C := fun w' => ∃ n, w' = w.drewN n) (Q := fun a' => ∀ w', (∃ n, w' = w.drewN n) → Q .normal a' w') (fun i o ho => ?_) (fun _ w' hw' h => h w' hw') _ _ _ _ ⟨1, rfl⟩ ?_)
  · have hm : o ∈ l := by
      have := Array.mem_of_getElem? ho
      simpa using this
    have := List.all_eq_true.1 hnd o hm
    simpa using this
  · have := wpAnyQIn_lex (F := F) (n := n) (P := P) (C := fun w' => ∃ n, w' = w.drewN n) (Q := fun a' => ∀ w', (∃ n, w' = w.drewN n) → Q .normal a' w') (md := .any) hB.1 l 0 (Array.replicate l.toArray.size false) a (by simp) (by simpa using hB.2) h
    simpa using this
end Bod
namespace Bod
open Go

/-- all lists of k marks -/
def vecs : Nat → List (List Bool)
  | 0 => [[]]
  | k + 1 => (vecs k).flatMap fun v => [true :: v, false :: v]
theorem vecs_all : ∀ v : List Bool, v ∈ vecs v.length
  | [] => by simp [vecs]
  | b :: v => by
    simp only [List.length_cons, vecs, List.mem_flatMap]
    exact ⟨v, vecs_all v, by cases b <;> simp⟩
/-- whoever is marked waits for nobody that is not -/
def shut (L : List Oper) (v : List Bool) : Bool := (List.range v.length).all fun i => !v.getD i false || ((L[i]?).map (·.after.all fun e => !Region.binds .any e || v.getD e.on false)).getD true
/-- where the first operations are marked by v, and the last one is not: who is ready? -/
def chk (L : List Oper) (v : List Bool) : Bool :=
  !shut L v || if v.all id then (Region.ready .any L.toArray (v ++ [false]).toArray == [v.length]) && (Region.ready .any L.toArray (v ++ [true]).toArray == [])
  else (Region.ready .any L.toArray (v ++ [false]).toArray == Region.ready .any L.dropLast.toArray v.toArray) && (Region.ready .any L.toArray (v ++ [false]).toArray != []) && (Region.ready .any L.dropLast.toArray v.toArray).all fun i => shut L (v.set i true)

theorem then_any {F : Fence} {n : Nat} {P : Program} {L l : List Oper} {o : Oper} {C : World → Prop} {Q' : Exit → Act → World → Prop} (hL : L = l ++ [o]) (hchk : (vecs l.length).all (chk L) = true)
    (hnd : l.all (fun o => !isDefer o.op && o.guard.isNone) = true) (hgo : o.guard = none) :
    ∀ (fuel : Nat) (v : List Bool) (a : Act) (w : World), v.length = l.length → shut L v = true → C w →
      wpAnyQIn F n P .any l.toArray C (fun a' => ∀ w', C w' → o.wpIn F n P a' w' (fun a'' w'' => Q' .normal a'' w'') Q') fuel v.toArray a →
      wpAnyIn F n P .any L.toArray Q' (fuel + 1) (v ++ [false]).toArray a w := by
  have hdl : L.dropLast = l := by rw [hL]; simp
  have hat : L[l.length]? = some o := by rw [hL]; simp
  have hin : ∀ i oi, l[i]? = some oi → L[i]? = some oi := fun i oi h => by
    have := (List.getElem?_eq_some_iff.1 h).1
    rw [hL, List.getElem?_append_left this]; exact h
  -- when all are marked the last one is run
  have last : ∀ (fuel : Nat) (v : List Bool) (a : Act) (w : World), v.length = l.length → shut L v = true → C w → v.all id = true → (∀ w', C w' → o.wpIn F n P a w' (fun a'' w'' => Q' .normal a'' w'') Q') → wpAnyIn F n P .any L.toArray Q' (fuel + 1) (v ++ [false]).toArray a w := by
    intro fuel v a w hv hsh hw hall hq
    have hc := List.all_eq_true.1 hchk v (hv ▸ vecs_all v)
    simp only [chk, hsh, Bool.not_true, Bool.false_or, hall, if_true, Bool.and_eq_true, beq_iff_eq] at hc
    refine ⟨fun h => (by rw [h] at hc; cases hc.1), fun i hi => ?_⟩
    rw [hc.1] at hi
    have hi : i = v.length := by simpa using hi
    subst hi
    unfold wpOpIn
    rw [List.getElem?_toArray, hv, hat]
    simp only
    rw [if_pos (by simp [Region.wanted, hgo])]
    refine Oper.wpIn_mono (fun a'' w'' h => ?_) (hq w hw)
    have e : (v ++ [false]).toArray.setIfInBounds l.length true = (v ++ [true]).toArray := by
      rw [← hv]; simp
    rw [e]
    cases fuel with
    | zero => exact ⟨hc.2, h⟩
    | succ f => exact ⟨fun _ => h, fun j hj => (by rw [hc.2] at hj; cases hj)⟩
  intro fuel
  induction fuel with
  | zero =>
    intro v a w hv hsh hw h
    refine last 0 v a w hv hsh hw ?_ h.2
    cases hall : v.all id with
    | true => rfl
    | false =>
      have hc := List.all_eq_true.1 hchk v (hv ▸ vecs_all v)
      simp only [chk, hsh, Bool.not_true, Bool.false_or, hall, Bool.false_eq_true, if_false, Bool.and_eq_true, beq_iff_eq, hdl] at hc
      have h1 := h.1
      rw [← hc.1.1] at h1
      rw [h1] at hc
      simp at hc
  | succ fuel ih =>
    intro v a w hv hsh hw h
    cases hall : v.all id with
    | true =>
      refine last (fuel + 1) v a w hv hsh hw hall (h.1 ?_)
      cases hr : Region.ready .any l.toArray v.toArray with
      | nil => rfl
      | cons i r =>
        have hi : i ∈ Region.ready .any l.toArray v.toArray := by rw [hr]; simp
        simp only [Region.ready, List.mem_filter, List.mem_range, Bool.and_eq_true] at hi
        obtain ⟨h1, h2, _⟩ := hi
        have hiv : i < v.length := by rw [hv]; simpa using h1
        have : v[i] = true := by simpa using (List.all_eq_true.1 hall) v[i] (List.getElem_mem hiv)
        simp [Array.getD, hiv, this] at h2
    | false =>
      have hc := List.all_eq_true.1 hchk v (hv ▸ vecs_all v)
      simp only [chk, hsh, Bool.not_true, Bool.false_or, hall, Bool.false_eq_true, if_false, Bool.and_eq_true, beq_iff_eq, hdl] at hc
      refine ⟨fun h0 => (by rw [h0] at hc; simp at hc), fun i hi => ?_⟩
      rw [hc.1.1] at hi
      have hsi := List.all_eq_true.1 hc.2 i hi
      have hq := h.2 i hi
      have hil : i < l.length := by
        simp only [Region.ready, List.mem_filter, List.mem_range] at hi
        simpa using hi.1
      have hoi : l[i]? = some l[i] := List.getElem?_eq_getElem hil
      have hg := List.all_eq_true.1 hnd l[i] (List.getElem_mem hil)
      simp only [Bool.and_eq_true, Option.isNone_iff_eq_none] at hg
      have e : (v ++ [false]).toArray.setIfInBounds i true = (v.set i true ++ [false]).toArray := by
        have : i < v.length := by omega
        simp [this]
      have ev : v.toArray.setIfInBounds i true = (v.set i true).toArray := by simp
      unfold qOpIn at hq
      rw [List.getElem?_toArray, hoi] at hq
      simp only at hq
      rw [if_pos (by simp [Region.wanted, hg.2]), ev] at hq
      unfold wpOpIn
      rw [List.getElem?_toArray, hin i _ hoi]
      simp only
      rw [if_pos (by simp [Region.wanted, hg.2]), e]
      obtain ⟨hask, u, hu, hnext⟩ := hq
      have hu' := hu w hw
      unfold Oper.quietAtIn at hu'
      refine ⟨hask w hw, ?_⟩
      rw [Oper.semAt_eq _ _ _ (fun c hcc => by have := hg.1; rw [hcc] at this; cases this)]
      generalize (execOp a.eval l[i]).run P w = res at hu'
      cases res with
      | halt x w' => simp only [Oper.quietUponIn] at hu'
      | ok x w' =>
        cases x <;> simp only [Oper.quietUponIn] at hu' <;> simp only [Oper.uponIn]
        case value u' => obtain ⟨rfl, rfl⟩ := hu'; exact ih _ _ _ (by simpa using hv) hsi hw hnext
        case skip => obtain ⟨rfl, rfl⟩ := hu'; exact ih _ _ _ (by simpa using hv) hsi hw hnext
        case enter f args =>
          obtain ⟨rfl, hd, hcall⟩ := hu'
          exact ⟨hd, hcall.mono fun e w'' ⟨he, hw''⟩ => by subst he; exact ih _ _ _ (by simpa using hv) hsi hw'' hnext⟩

theorem anyQ_mono {F : Fence} {n : Nat} {P : Program} {md : Region.Mode} {ops : Array Oper} {C : World → Prop} {Q Q' : Act → Prop} (h : ∀ a, Q a → Q' a) : ∀ (fuel : Nat) (listed : Array Bool) (a : Act), wpAnyQIn F n P md ops C Q fuel listed a → wpAnyQIn F n P md ops C Q' fuel listed a
  | 0, _, _, hh => ⟨hh.1, h _ hh.2⟩
  | fuel + 1, listed, a, hh => ⟨fun h0 => h _ (hh.1 h0), fun i hi => by
    have := hh.2 i hi
    unfold qOpIn at this ⊢
    cases ho : ops[i]? with
    | none => simp only [ho] at this ⊢; exact anyQ_mono h fuel _ _ this
    | some o =>
      simp only [ho] at this ⊢
      refine ⟨this.1, ?_⟩
      by_cases hw : Region.wanted o (yielded ops a.tmps) = true
      · rw [if_pos hw]; have h2 := this.2; rw [if_pos hw] at h2; exact Oper.quietIn_mono (fun a' h3 => anyQ_mono h fuel _ _ h3) h2
      · rw [if_neg hw]; have h2 := this.2; rw [if_neg hw] at h2; exact anyQ_mono h fuel _ _ h2⟩

theorem region_then {F : Fence} {n : Nat} {P : Program} {id : Nat} {Q : Exit → Act → World → Prop} {a : Act} {w : World} {L : List Oper} (hm : P.follows .mixedOrders = true) (hB : Region.lexB .any L.dropLast.toArray = true)
    (hnd : L.dropLast.all (fun o => !isDefer o.op && o.guard.isNone) = true) (hchk : (shut L (List.replicate L.dropLast.length false) && (vecs L.dropLast.length).all (chk L)) = true) {o : Oper} (hl : L.getLast? = some o) (hgo : o.guard = none)
    (h : wpQuietIn F n P L.dropLast.toArray (fun w' => ∃ n, w' = w.drewN n) (fun a' => ∀ w', (∃ n, w' = w.drewN n) → wpListIn F n P L.toArray Q [o] a' w') L.dropLast a) : (Code.region id L.toArray true).wpIn F n P Q a w := by
  have hL : L = L.dropLast ++ [o] := by
    cases L with
    | nil => cases hl
    | cons x r =>
      have hne : x :: r ≠ [] := by simp
      rw [List.getLast?_eq_some_getLast hne] at hl
      cases hl
      exact (List.dropLast_concat_getLast hne).symm
  simp only [Region.lexB, Bool.and_eq_true] at hB
  have hone : ∀ a' w', wpListIn F n P L.toArray Q [o] a' w' → o.wpIn F n P a' w' (fun a'' w'' => Q .normal a'' w'') Q := fun a' w' h => by
    unfold wpListIn at h
    rw [if_pos (by simp [Region.wanted, hgo])] at h
    exact h
  have hq := wpAnyQIn_lex (F := F) (n := n) (P := P) (C := fun w' => ∃ n, w' = w.drewN n) (md := .any) hB.1 L.dropLast 0 (Array.replicate L.dropLast.toArray.size false) a (by simp) (by simpa using hB.2) h
  have hrep : (Array.replicate L.dropLast.toArray.size false) = (List.replicate L.dropLast.length false).toArray := by simp
  rw [hrep] at hq
  have := then_any (C := fun w' => ∃ n, w' = w.drewN n) hL (Bool.and_eq_true _ _ ▸ hchk).2 hnd hgo L.dropLast.length (List.replicate L.dropLast.length false) a { w with drawn := w.drawn + 1 } (by simp) (Bool.and_eq_true _ _ ▸ hchk).1 ⟨1, rfl⟩ (anyQ_mono (fun a' h w' hw' => hone a' w' (h w' hw')) _ _ _ hq)
  refine wpIn_region_any hm ?_
  have hlen : L.length = L.dropLast.length + 1 := by
    have := congrArg List.length hL
    simpa using this
  have e : Array.replicate L.toArray.size false = (List.replicate L.dropLast.length false ++ [false]).toArray := by
    rw [← List.replicate_succ']
    simp; omega
  rw [e]
  have hsz : L.toArray.size = L.dropLast.length + 1 := by simpa using hlen
  rw [hsz]
  exact this
end Bod
namespace Bod
open Go

/-- whom an operation waits for -/
def waits (o : Oper) (i : Nat) : Bool := o.after.any fun e => Region.binds .any e && e.on == i
/-- everyone but the last is waited for by one behind; nobody waits for one behind -/
def fast (L : List Oper) : Bool :=
  ((List.range (L.length - 1)).all fun i => (List.range L.length).any fun j => decide (i < j) && ((L[j]?).map (waits · i)).getD false) &&
  ((List.range L.length).all fun i => ((L[i]?).map fun o => o.after.all fun e => !Region.binds .any e || decide (e.on < i)).getD true)

theorem gd (v : List Bool) (j : Nat) : (v ++ [false]).getD j false = v.getD j false := by
  simp only [List.getD_eq_getElem?_getD, List.getElem?_append]
  by_cases h : j < v.length
  · simp [h]
  · rw [if_neg h, List.getElem?_eq_none (show v.length ≤ j by omega)]
    cases hj : j - v.length with
    | zero => rfl
    | succ n => rfl
theorem vecs_len : ∀ (k : Nat) (v : List Bool), v ∈ vecs k → v.length = k
  | 0, v, h => by simp [vecs] at h; simp [h]
  | k + 1, v, h => by
    simp only [vecs, List.mem_flatMap] at h
    obtain ⟨u, hu, h⟩ := h
    have := vecs_len k u hu
    simp at h
    rcases h with rfl | rfl <;> simp [this]
theorem agd (v : List Bool) (j : Nat) (d : Bool) : v.toArray.getD j d = v.getD j d := by
  unfold Array.getD
  rw [List.getD_eq_getElem?_getD]
  split
  · rename_i h; rw [List.getElem?_eq_getElem (by simpa using h)]; rfl
  · rename_i h; rw [List.getElem?_eq_none (by simpa using h)]; rfl
/-- an operation's ways are all marked -/
def open' (o : Oper) (v : List Bool) : Bool := o.after.all fun e => !Region.binds .any e || v.getD e.on false
theorem open_waits {o : Oper} {v : List Bool} {i : Nat} (h : open' o v = true) (hw : waits o i = true) : v.getD i false = true := by
  unfold waits at hw
  unfold open' at h
  rw [Array.any_eq_true] at hw
  rw [Array.all_eq_true] at h
  obtain ⟨k, hk, h1⟩ := hw
  simp only [Bool.and_eq_true, beq_iff_eq] at h1
  have := h k hk
  rw [h1.1, h1.2] at this
  simpa using this
theorem shut_at {L : List Oper} {v : List Bool} (h : shut L v = true) {j : Nat} {o : Oper} (hj : L[j]? = some o) (hm : v.getD j false = true) : open' o v = true := by
  have hjv : j < v.length := by
    rcases Nat.lt_or_ge j v.length with h1 | h1
    · exact h1
    · rw [List.getD_eq_getElem?_getD, List.getElem?_eq_none h1] at hm; simp at hm
  have := List.all_eq_true.1 h j (List.mem_range.2 hjv)
  rw [hm, hj] at this
  exact this
theorem ready_at (L : List Oper) (v : List Bool) (i : Nat) : i ∈ Region.ready .any L.toArray v.toArray ↔ i < L.length ∧ v.getD i true = false ∧ ∃ o, L[i]? = some o ∧ open' o v = true := by
  simp only [Region.ready, List.mem_filter, List.mem_range, Bool.and_eq_true, List.size_toArray, agd, List.getElem?_toArray]
  constructor
  · rintro ⟨h1, h2, h3⟩
    rw [List.getElem?_eq_getElem h1] at h3
    exact ⟨h1, by simpa using h2, L[i], List.getElem?_eq_getElem h1, h3⟩
  · rintro ⟨h1, h2, o, h3, h4⟩
    rw [h3]
    exact ⟨h1, by simpa using h2, h4⟩
theorem gd_tf {v : List Bool} {i : Nat} (h : i < v.length) : v.getD i true = v.getD i false := by
  simp [List.getD_eq_getElem?_getD, h]
theorem all_of {v : List Bool} (h : ∀ i, i < v.length → v.getD i false = true) : v.all id = true := by
  rw [List.all_eq_true]
  intro x hx
  obtain ⟨i, hi, rfl⟩ := List.mem_iff_getElem.1 hx
  have := h i hi
  simpa [List.getD_eq_getElem?_getD, hi] using this
theorem of_all {v : List Bool} (h : v.all id = true) {i : Nat} (hi : i < v.length) : v.getD i false = true := by
  have := List.all_eq_true.1 h v[i] (List.getElem_mem hi)
  simpa [List.getD_eq_getElem?_getD, hi] using this
theorem fast_wait {L : List Oper} (h : fast L = true) {i : Nat} (hi : i < L.length - 1) : ∃ j o, i < j ∧ L[j]? = some o ∧ waits o i = true := by
  unfold fast at h
  rw [Bool.and_eq_true] at h
  have := List.all_eq_true.1 h.1 i (List.mem_range.2 hi)
  obtain ⟨j, hj, h1⟩ := List.any_eq_true.1 this
  have hj := List.mem_range.1 hj
  rw [List.getElem?_eq_getElem hj] at h1
  simp only [Option.map_some, Option.getD_some, Bool.and_eq_true, decide_eq_true_eq] at h1
  exact ⟨j, L[j], h1.1, List.getElem?_eq_getElem hj, h1.2⟩
theorem fast_back {L : List Oper} (h : fast L = true) {i : Nat} {o : Oper} (ho : L[i]? = some o) {v : List Bool} (hv : ∀ j, j < i → v.getD j false = true) : open' o v = true := by
  unfold fast at h
  rw [Bool.and_eq_true] at h
  have hi := (List.getElem?_eq_some_iff.1 ho).1
  have := List.all_eq_true.1 h.2 i (List.mem_range.2 hi)
  rw [ho] at this
  simp only [Option.map_some, Option.getD_some] at this
  unfold open'
  rw [Array.all_eq_true] at this ⊢
  intro k hk
  have h1 := this k hk
  rw [Bool.or_eq_true] at h1 ⊢
  rcases h1 with h1 | h1
  · exact .inl h1
  · exact .inr (hv _ (by simpa using h1))
theorem open_set {o : Oper} {v : List Bool} (h : open' o v = true) (i : Nat) : open' o (v.set i true) = true := by
  unfold open' at h ⊢
  rw [Array.all_eq_true] at h ⊢
  intro k hk
  have h1 := h k hk
  rw [Bool.or_eq_true] at h1 ⊢
  rcases h1 with h1 | h1
  · exact .inl h1
  · refine .inr ?_
    rw [List.getD_eq_getElem?_getD] at h1 ⊢
    rw [List.getElem?_set]
    split
    · split
      · rfl
      · rw [List.getElem?_eq_none (by omega)] at h1; simp at h1
    · exact h1
theorem open_app (o : Oper) (v : List Bool) : open' o (v ++ [false]) = open' o v := by
  unfold open'
  congr 1
  funext e
  rw [gd]
theorem shut_mk {L : List Oper} {v : List Bool} (h : ∀ j o, L[j]? = some o → v.getD j false = true → open' o v = true) : shut L v = true := by
  unfold shut
  rw [List.all_eq_true]
  intro j _
  cases hm : v.getD j false with
  | false => rfl
  | true =>
    cases ho : L[j]? with
    | none => rfl
    | some o => exact h j o ho hm
theorem shut_none (L : List Oper) (k : Nat) : shut L (List.replicate k false) = true := shut_mk fun j o _ hm => by
  rw [List.getD_eq_getElem?_getD, List.getElem?_replicate] at hm
  split at hm <;> simp at hm
theorem shut_set {L : List Oper} {v : List Bool} (h : shut L v = true) {i : Nat} {oi : Oper} (ho : L[i]? = some oi) (hop : open' oi v = true) : shut L (v.set i true) = true := shut_mk fun j oj hj hm => by
  by_cases e : j = i
  · subst e
    rw [ho] at hj
    cases hj
    exact open_set hop _
  · refine open_set (shut_at h hj ?_) _
    rw [List.getD_eq_getElem?_getD, List.getElem?_set, if_neg (fun h => e h.symm)] at hm
    rw [List.getD_eq_getElem?_getD]; exact hm
theorem fast_chk {L l : List Oper} {o : Oper} (hf : fast L = true) (hL : L = l ++ [o]) : (vecs l.length).all (chk L) = true := by
  rw [List.all_eq_true]
  intro v hv
  have hv := vecs_len _ v hv
  have hlen : L.length = l.length + 1 := by rw [hL]; simp
  have hat : L[l.length]? = some o := by rw [hL]; simp
  have hin : ∀ i, i < l.length → L[i]? = l[i]? := fun i h => by rw [hL, List.getElem?_append_left h]
  have hdl : L.dropLast = l := by rw [hL]; simp
  unfold chk
  cases hsh : shut L v with
  | false => rfl
  | true =>
    simp only [Bool.not_true, Bool.false_or]
    cases hall : v.all id with
    | true =>
      rw [if_pos rfl, Bool.and_eq_true, beq_iff_eq, beq_iff_eq]
      have ho : open' o (v ++ [false]) = true := by rw [open_app]; exact fast_back hf hat (fun j hj => of_all hall (by omega))
      have hr : List.range (l.length + 1) = List.range l.length ++ [l.length] := List.range_succ
      constructor
      · unfold Region.ready
        rw [List.size_toArray, hlen, hr, List.filter_append, List.filter_eq_nil_iff.2, List.nil_append, List.filter_cons_of_pos, List.filter_nil, hv]
        · simp only [agd, Bool.and_eq_true, List.getElem?_toArray, hat]
          refine ⟨?_, ho⟩
          simp [List.getD_eq_getElem?_getD, ← hv]
        · intro i hi
          have hi := List.mem_range.1 hi
          have : (v ++ [false]).getD i true = true := by
            rw [gd_tf (by simp; omega), gd]; exact of_all hall (by omega)
          rw [agd, this]
          simp
      · unfold Region.ready
        rw [List.filter_eq_nil_iff]
        intro i hi
        have hi := List.mem_range.1 hi
        rw [List.size_toArray, hlen] at hi
        have : (v ++ [true]).getD i true = true := by
          by_cases e : i < v.length
          · have := of_all hall e
            rw [List.getD_eq_getElem?_getD] at this ⊢
            rw [List.getElem?_append_left e]
            rw [List.getElem?_eq_getElem e] at this ⊢
            exact this
          · have : i = v.length := by omega
            subst this
            simp [List.getD_eq_getElem?_getD]
        rw [agd, this]
        simp
    | false =>
      have hno : open' o v = false := by
        cases h : open' o v with
        | false => rfl
        | true =>
          have : ∀ n i, i < v.length → v.length - i ≤ n → v.getD i false = true := fun n => by
            induction n with
            | zero => intro i h1 h2; omega
            | succ n ih =>
              intro i h1 _
              obtain ⟨j, oj, hj, hoj, hw⟩ := fast_wait hf (i := i) (by omega)
              have hjl := (List.getElem?_eq_some_iff.1 hoj).1
              by_cases e : j = l.length
              · subst e
                rw [hat] at hoj
                cases hoj
                exact open_waits h hw
              · exact open_waits (shut_at hsh hoj (ih j (by omega) (by omega))) hw
          rw [all_of (fun i hi => this _ i hi (Nat.le_refl _))] at hall
          cases hall
      rw [if_neg (by simp), hdl]
      have hrd : Region.ready .any L.toArray (v ++ [false]).toArray = Region.ready .any l.toArray v.toArray := by
        have hr : List.range (l.length + 1) = List.range l.length ++ [l.length] := List.range_succ
        unfold Region.ready
        rw [List.size_toArray, List.size_toArray, hlen, hr, List.filter_append, List.filter_cons_of_neg, List.filter_nil, List.append_nil]
        · refine List.filter_congr fun i hi => ?_
          have hi := List.mem_range.1 hi
          rw [agd, agd, List.getElem?_toArray, List.getElem?_toArray, hin i hi]
          have e1 : (v ++ [false]).getD i true = v.getD i true := by rw [gd_tf (by simp; omega), gd, gd_tf (by omega)]
          rw [e1]
          congr 2
          congr 1
          funext x
          congr 1
          funext e
          rw [agd, agd, gd]
        · rw [List.getElem?_toArray, hat]
          have : (o.after.all fun e => !Region.binds .any e || (v ++ [false]).toArray.getD e.on false) = open' o v := by
            rw [← open_app]
            unfold open'
            congr 1
            funext e
            rw [agd]
          simp only [Option.map_some, Option.getD_some, this, hno, Bool.and_false]
          simp
      rw [hrd]
      simp only [Bool.and_eq_true, beq_self_eq_true, true_and, bne_iff_ne, ne_eq]
      refine ⟨fun h0 => ?_, ?_⟩
      · have : ∀ n i, i < v.length → i < n → v.getD i false = true := fun n => by
          induction n with
          | zero => intro i _ h2; omega
          | succ n ih =>
            intro i h1 h2
            cases hm : v.getD i false with
            | true => rfl
            | false =>
              have hoi : l[i]? = some l[i] := List.getElem?_eq_getElem (by omega)
              have : i ∈ Region.ready .any l.toArray v.toArray := (ready_at l v i).2 ⟨by omega, by rw [gd_tf h1]; exact hm, _, hoi, fast_back hf (by rw [hin i (by omega)]; exact hoi) (fun j hj => ih j (by omega) (by omega))⟩
              rw [h0] at this
              cases this
        rw [all_of (fun i hi => this (i + 1) i hi (by omega))] at hall
        cases hall
      · rw [List.all_eq_true]
        intro i hi
        obtain ⟨h1, _, oi, h3, h4⟩ := (ready_at l v i).1 hi
        exact shut_set hsh (by rw [hin i h1]; exact h3) h4
theorem region_thenB {F : Fence} {n : Nat} {P : Program} {id : Nat} {Q : Exit → Act → World → Prop} {a : Act} {w : World} {L : List Oper} (hm : P.follows .mixedOrders = true) (hB : Region.lexB .any L.dropLast.toArray = true)
    (hnd : L.dropLast.all (fun o => !isDefer o.op && o.guard.isNone) = true) (hf : fast L = true) {o : Oper} (hl : L.getLast? = some o) (hgo : o.guard = none)
    (h : wpQuietIn F n P L.dropLast.toArray (fun w' => ∃ n, w' = w.drewN n) (fun a' => ∀ w', (∃ n, w' = w.drewN n) → wpListIn F n P L.toArray Q [o] a' w') L.dropLast a) : (Code.region id L.toArray true).wpIn F n P Q a w := by
  have hL : L = L.dropLast ++ [o] := by
    cases L with
    | nil => cases hl
    | cons x r =>
      have hne : x :: r ≠ [] := by simp
      rw [List.getLast?_eq_some_getLast hne] at hl
      cases hl
      exact (List.dropLast_concat_getLast hne).symm
  exact region_then hm hB hnd (by rw [Bool.and_eq_true]; exact ⟨shut_none _ _, fast_chk hf hL⟩) hl hgo h
end Bod
