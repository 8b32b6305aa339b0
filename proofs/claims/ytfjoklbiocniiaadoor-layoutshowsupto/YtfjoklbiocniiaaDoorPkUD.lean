/-
  Regions whose last operation waits for all ahead of it. Conditions: those of each theorem.
-/
import Derived.Test.YtfjoklbiocniiaaDoorPkU
import Derived.Lib.QuietBelow
namespace Bod
open Go

theorem quietAt_wide {P : Program} {o : Oper} {a : Act} {C : World → Prop} {w : World} {v : Value} (h : o.quietAt P a C w v) : o.quietAtIn Fence.wide 0 P a C w v := by
  unfold Oper.quietAt at h
  unfold Oper.quietAtIn
  generalize (execOp a.eval o).run P w = r at h
  match r, h with
  | .ok (.value u) w', h => exact h
  | .ok .skip w', h => exact h
  | .ok (.enter f args) w', h => exact ⟨h.1, fun e => by simp [Fence.wide] at e, callsIn_wide.2 h.2⟩
theorem quiet_wide {P : Program} {ops : Array Oper} {C : World → Prop} {Q : Act → Prop} : ∀ (l : List Oper) (a : Act), wpQuiet P ops C Q l a → wpQuietIn Fence.wide 0 P ops C Q l a
  | [], _, h => h
  | o :: l, a, h => by
    refine ⟨fun _ _ _ _ => trivial, ?_⟩
    unfold wpQuiet at h
    split
    · rename_i hw
      rw [if_pos hw] at h
      obtain ⟨v, h1, h2⟩ := h
      exact ⟨v, fun w hC => quietAt_wide (h1 w hC), quiet_wide l _ h2⟩
    · rename_i hw
      rw [if_neg hw] at h
      exact quiet_wide l _ h
/-- one operation that yields a value or none -/
def plainly (o : Oper) (P : Program) (a : Act) (w : World) (K : Act → World → Prop) : Prop :=
  (∃ v w', (execOp a.eval o).run P w = .ok (.value v) w' ∧ K (a.put o.dst v) w') ∨ ∃ w', (execOp a.eval o).run P w = .ok .skip w' ∧ K (a.put o.dst undef) w'
theorem region_thenC {P : Program} {id : Nat} {Q : Exit → Act → World → Prop} {a : Act} {w : World} {L : List Oper} {C : World → Prop} (hC : C { w with drawn := w.drawn + 1 }) (hm : P.follows .mixedOrders = true) (hB : Region.lexB .any L.dropLast.toArray = true)
    (hnd : L.dropLast.all (fun o => !isDefer o.op && o.guard.isNone) = true) (hf : fast L = true) {o : Oper} (hl : L.getLast? = some o) (hgo : o.guard = none)
    (h : wpQuiet P L.dropLast.toArray C (fun a' => ∀ w', C w' → plainly o P a' w' (fun a'' w'' => Q .normal a'' w'')) L.dropLast a) : (Code.region id L.toArray true).wp P Q a w := by
  have hL : L = L.dropLast ++ [o] := by
    cases L with
    | nil => cases hl
    | cons x r =>
      have hne : x :: r ≠ [] := by simp
      rw [List.getLast?_eq_some_getLast hne] at hl
      cases hl
      exact (List.dropLast_concat_getLast hne).symm
  have hchk : (shut L (List.replicate L.dropLast.length false) && (vecs L.dropLast.length).all (chk L)) = true := by rw [Bool.and_eq_true]; exact ⟨shut_none _ _, fast_chk hf hL⟩
  simp only [Region.lexB, Bool.and_eq_true] at hB
  have hone : ∀ a' w', plainly o P a' w' (fun a'' w'' => Q .normal a'' w'') → o.wpIn Fence.wide 0 P a' w' (fun a'' w'' => Q .normal a'' w'') Q := fun a' w' h => by
    refine ⟨fun _ _ => trivial, ?_⟩
    show o.uponIn Fence.wide 0 P a' _ Q ((execOp a'.eval o).run P w')
    rcases h with ⟨v, w'', e, h⟩ | ⟨w'', e, h⟩ <;> rw [e] <;> exact h
  have hq := wpAnyQIn_lex (F := Fence.wide) (n := 0) (P := P) (C := C) (md := .any) hB.1 L.dropLast 0 (Array.replicate L.dropLast.toArray.size false) a (by simp) (by simpa using hB.2) (quiet_wide _ _ h)
  have hrep : (Array.replicate L.dropLast.toArray.size false) = (List.replicate L.dropLast.length false).toArray := by simp
  rw [hrep] at hq
  have := then_any (C := C) hL (Bool.and_eq_true _ _ ▸ hchk).2 hnd hgo L.dropLast.length (List.replicate L.dropLast.length false) a { w with drawn := w.drawn + 1 } (by simp) (Bool.and_eq_true _ _ ▸ hchk).1 hC (anyQ_mono (fun a' h w' hw' => hone a' w' (h w' hw')) _ _ _ hq)
  refine (wpIn_wide (n := 0)).1 (wpIn_region_any (n := 0) hm ?_)
  have hlen : L.length = L.dropLast.length + 1 := by
    have := congrArg List.length hL
    simpa using this
  have e : Array.replicate L.toArray.size false = (List.replicate L.dropLast.length false ++ [false]).toArray := by
    rw [← List.replicate_succ']
    simp; omega
  rw [e]
  have hsz : L.toArray.size = L.dropLast.length + 1 := by simpa using hlen
  rw [hsz]
  exact this
/-- .. with new memory behind the world -/
theorem region_then_below {P : Program} {id : Nat} {Q : Exit → Act → World → Prop} {a : Act} {w : World} {L : List Oper} (hm : P.follows .mixedOrders = true) (hB : Region.lexB .any L.dropLast.toArray = true)
    (hnd : L.dropLast.all (fun o => !isDefer o.op && o.guard.isNone) = true) (hf : fast L = true) {o : Oper} (hl : L.getLast? = some o) (hgo : o.guard = none)
    (h : wpQuiet P L.dropLast.toArray (fun w' => ∃ p : Regrown, w' = Go.Sort.grow (redrawn w p.d) p.os) (fun a' => ∀ w', (∃ p : Regrown, w' = Go.Sort.grow (redrawn w p.d) p.os) → plainly o P a' w' (fun a'' w'' => Q .normal a'' w'')) L.dropLast a) : (Code.region id L.toArray true).wp P Q a w :=
  region_thenC (C := fun w' => ∃ p : Regrown, w' = Go.Sort.grow (redrawn w p.d) p.os) ⟨⟨w.drawn + 1, #[]⟩, by rw [Go.Sort.grow_empty]; rfl⟩ hm hB hnd hf hl hgo h
theorem oper_q {F : Fence} {n : Nat} {P : Program} {o : Oper} {a : Act} {w : World} {K : Act → World → Prop} {Q Q' : Exit → Act → World → Prop} (h : ∀ e a w, e ≠ .normal → Q e a w → Q' e a w) (hh : o.wpIn F n P a w K Q) : o.wpIn F n P a w K Q' := by
  have hL : LetsOut Q → LetsOut Q' := fun ⟨a, w, q⟩ => ⟨a, w, h _ _ _ (by simp) q⟩
  unfold Oper.wpIn at *
  refine ⟨hh.1, ?_⟩
  have hh := hh.2
  generalize (o.semAt F.round a.eval).run P w = r at *
  cases r with
  | ok x w' =>
    cases x <;> simp only [Oper.uponIn] at hh ⊢ <;>
      first
        | exact hh
        | exact ⟨hh.1, CallsIn.mono hh.2 (fun e w'' he => by cases e <;> first | exact he | exact h _ _ _ (by simp) he | exact hL he)⟩
        | exact ⟨hh.1, RoundIn.mono hh.2 (fun e w'' he => by cases e <;> first | exact he | exact h _ _ _ (by simp) he | exact hL he)⟩
  | halt x w' => cases x <;> simp only [Oper.uponIn] at hh ⊢ <;> first | exact hh | exact h _ _ _ (by simp) hh
/-- a region, and behind it one operation that waits for all of it -/
def thenOp (F : Fence) (n : Nat) (P : Program) (o : Oper) (Q : Exit → Act → World → Prop) : Exit → Act → World → Prop
  | .normal, a, w => o.wpIn F n P a w (fun a' w' => Q .normal a' w') Q
  | e, a, w => Q e a w
theorem any_snoc {F : Fence} {n : Nat} {P : Program} {L l : List Oper} {o : Oper} {Q : Exit → Act → World → Prop} (hL : L = l ++ [o]) (hchk : (vecs l.length).all (chk L) = true) (hnd : l.all (fun o => o.guard.isNone) = true) (hgo : o.guard = none) :
    ∀ (fuel : Nat) (v : List Bool) (a : Act) (w : World), v.length = l.length → shut L v = true → wpAnyIn F n P .any l.toArray (thenOp F n P o Q) fuel v.toArray a w → wpAnyIn F n P .any L.toArray Q (fuel + 1) (v ++ [false]).toArray a w := by
  have hdl : L.dropLast = l := by rw [hL]; simp
  have hat : L[l.length]? = some o := by rw [hL]; simp
  have hin : ∀ i oi, l[i]? = some oi → L[i]? = some oi := fun i oi h => by
    have := (List.getElem?_eq_some_iff.1 h).1
    rw [hL, List.getElem?_append_left this]; exact h
  have last : ∀ (fuel : Nat) (v : List Bool) (a : Act) (w : World), v.length = l.length → shut L v = true → v.all id = true → o.wpIn F n P a w (fun a' w' => Q .normal a' w') Q → wpAnyIn F n P .any L.toArray Q (fuel + 1) (v ++ [false]).toArray a w := by
    intro fuel v a w hv hsh hall hq
    have hc := List.all_eq_true.1 hchk v (hv ▸ vecs_all v)
    simp only [chk, hsh, Bool.not_true, Bool.false_or, hall, if_true, Bool.and_eq_true, beq_iff_eq] at hc
    refine ⟨fun h => (by rw [h] at hc; cases hc.1), fun i hi => ?_⟩
    rw [hc.1] at hi
    have hi : i = v.length := by simpa using hi
    subst hi
    unfold wpOpIn
    rw [List.getElem?_toArray, hv, hat]
    simp only
    rw [if_pos (by simp [Region.wanted, hgo])]
    refine Oper.wpIn_mono (fun a'' w'' h => ?_) hq
    have e : (v ++ [false]).toArray.setIfInBounds l.length true = (v ++ [true]).toArray := by
      rw [← hv]; simp
    rw [e]
    cases fuel with
    | zero => exact ⟨hc.2, h⟩
    | succ f => exact ⟨fun _ => h, fun j hj => (by rw [hc.2] at hj; cases hj)⟩
  intro fuel
  induction fuel with
  | zero =>
    intro v a w hv hsh h
    refine last 0 v a w hv hsh ?_ h.2
    cases hall : v.all id with
    | true => rfl
    | false =>
      have hc := List.all_eq_true.1 hchk v (hv ▸ vecs_all v)
      simp only [chk, hsh, Bool.not_true, Bool.false_or, hall, Bool.false_eq_true, if_false, Bool.and_eq_true, beq_iff_eq, hdl] at hc
      have h1 := h.1
      rw [← hc.1.1] at h1
      rw [h1] at hc
      simp at hc
  | succ fuel ih =>
    intro v a w hv hsh h
    cases hall : v.all id with
    | true =>
      refine last (fuel + 1) v a w hv hsh hall (h.1 ?_)
      cases hr : Region.ready .any l.toArray v.toArray with
      | nil => rfl
      | cons i r =>
        have hi : i ∈ Region.ready .any l.toArray v.toArray := by rw [hr]; simp
        simp only [Region.ready, List.mem_filter, List.mem_range, Bool.and_eq_true] at hi
        obtain ⟨h1, h2, _⟩ := hi
        have hiv : i < v.length := by rw [hv]; simpa using h1
        have : v[i] = true := by simpa using (List.all_eq_true.1 hall) v[i] (List.getElem_mem hiv)
        simp [Array.getD, hiv, this] at h2
    | false =>
      have hc := List.all_eq_true.1 hchk v (hv ▸ vecs_all v)
      simp only [chk, hsh, Bool.not_true, Bool.false_or, hall, Bool.false_eq_true, if_false, Bool.and_eq_true, beq_iff_eq, hdl] at hc
      refine ⟨fun h0 => (by rw [h0] at hc; simp at hc), fun i hi => ?_⟩
      rw [hc.1.1] at hi
      have hsi := List.all_eq_true.1 hc.2 i hi
      have hq := h.2 i hi
      have hil : i < l.length := by
        simp only [Region.ready, List.mem_filter, List.mem_range] at hi
        simpa using hi.1
      have hoi : l[i]? = some l[i] := List.getElem?_eq_getElem hil
      have hg := List.all_eq_true.1 hnd l[i] (List.getElem_mem hil)
      simp only [Option.isNone_iff_eq_none] at hg
      have e : (v ++ [false]).toArray.setIfInBounds i true = (v.set i true ++ [false]).toArray := by
        have : i < v.length := by omega
        simp [this]
      have ev : v.toArray.setIfInBounds i true = (v.set i true).toArray := by simp
      unfold wpOpIn at hq ⊢
      rw [List.getElem?_toArray, hoi] at hq
      rw [List.getElem?_toArray, hin i _ hoi]
      simp only at hq ⊢
      rw [if_pos (by simp [Region.wanted, hg]), ev] at hq
      rw [if_pos (by simp [Region.wanted, hg]), e]
      refine oper_q (fun e a w he q => ?_) (Oper.wpIn_mono (fun a' w' h' => ih _ _ _ (by simpa using hv) hsi h') hq)
      cases e <;> first | exact q | exact absurd rfl he
/-- a region whose operations only read or lay new memory but for the last two, which wait for all ahead of them -/
theorem region_then2 {P : Program} {id : Nat} {Q : Exit → Act → World → Prop} {a : Act} {w : World} {L : List Oper} (hm : P.follows .mixedOrders = true) (hB : Region.lexB .any L.dropLast.dropLast.toArray = true)
    (hnd : L.dropLast.dropLast.all (fun o => !isDefer o.op && o.guard.isNone) = true) (hf1 : fast L.dropLast = true) (hf : fast L = true) {o1 o : Oper} (hl1 : L.dropLast.getLast? = some o1) (hg1 : o1.guard = none) (hl : L.getLast? = some o) (hgo : o.guard = none)
    (h : wpQuiet P L.dropLast.dropLast.toArray (fun w' => ∃ p : Regrown, w' = Go.Sort.grow (redrawn w p.d) p.os) (fun a' => ∀ w', (∃ p : Regrown, w' = Go.Sort.grow (redrawn w p.d) p.os) → plainly o1 P a' w' (fun a1 w1 => plainly o P a1 w1 (fun a'' w'' => Q .normal a'' w''))) L.dropLast.dropLast a) : (Code.region id L.toArray true).wp P Q a w := by
  have snoc : ∀ {M : List Oper} {x : Oper}, M.getLast? = some x → M = M.dropLast ++ [x] := fun {M x} hx => by
    cases M with
    | nil => cases hx
    | cons y r =>
      have hne : y :: r ≠ [] := by simp
      rw [List.getLast?_eq_some_getLast hne] at hx
      cases hx
      exact (List.dropLast_concat_getLast hne).symm
  have hL := snoc hl
  have hL1 := snoc hl1
  obtain ⟨l, hlL⟩ : ∃ l, L.dropLast.dropLast = l := ⟨_, rfl⟩
  obtain ⟨M, hM⟩ : ∃ M, L.dropLast = M := ⟨_, rfl⟩
  rw [hlL] at hB hnd h
  rw [hM] at hL hf1
  rw [hlL, hM] at hL1
  simp only [Region.lexB, Bool.and_eq_true] at hB
  have hone : ∀ (x : Oper) (K : Act → World → Prop) (Q' : Exit → Act → World → Prop) a' w', plainly x P a' w' K → x.wpIn Fence.wide 0 P a' w' K Q' := fun x K Q' a' w' h => by
    refine ⟨fun _ _ => trivial, ?_⟩
    show x.uponIn Fence.wide 0 P a' _ Q' ((execOp a'.eval x).run P w')
    rcases h with ⟨v, w'', e, h⟩ | ⟨w'', e, h⟩ <;> rw [e] <;> exact h
  have hmono : ∀ (x : Oper) (K K' : Act → World → Prop) a' w', (∀ a w, K a w → K' a w) → plainly x P a' w' K → plainly x P a' w' K' := fun x K K' a' w' hk h => by
    rcases h with ⟨v, w'', e, h⟩ | ⟨w'', e, h⟩
    · exact .inl ⟨v, w'', e, hk _ _ h⟩
    · exact .inr ⟨w'', e, hk _ _ h⟩
  have hq := wpAnyQIn_lex (F := Fence.wide) (n := 0) (P := P) (C := fun w' => ∃ p : Regrown, w' = Go.Sort.grow (redrawn w p.d) p.os) (md := .any) hB.1 l 0 (Array.replicate l.toArray.size false) a (by simp) (by simpa using hB.2) (quiet_wide _ _ h)
  have hrep : (Array.replicate l.toArray.size false) = (List.replicate l.length false).toArray := by simp
  rw [hrep] at hq
  have h1 := then_any (Q' := thenOp Fence.wide 0 P o Q) (C := fun w' => ∃ p : Regrown, w' = Go.Sort.grow (redrawn w p.d) p.os) hL1 (fast_chk hf1 hL1) hnd hg1 l.length (List.replicate l.length false) a { w with drawn := w.drawn + 1 } (by simp) (shut_none _ _) ⟨⟨w.drawn + 1, #[]⟩, by rw [Go.Sort.grow_empty]; rfl⟩ (anyQ_mono (fun a' h w' hw' => hone _ _ _ a' w' (hmono _ _ _ a' w' (fun a1 w1 h1 => (hone o _ Q a1 w1 h1 : thenOp Fence.wide 0 P o Q .normal a1 w1)) (h w' hw'))) _ _ _ hq)
  have hMl : M.length = l.length + 1 := by rw [hL1]; simp
  have er : (List.replicate l.length false ++ [false]) = List.replicate M.length false := by rw [hMl, ← List.replicate_succ']
  rw [er, ← hMl] at h1
  have hndM : M.all (fun o => o.guard.isNone) = true := by
    rw [hL1, List.all_append, Bool.and_eq_true]
    refine ⟨?_, by simp [hg1]⟩
    rw [List.all_eq_true] at hnd ⊢
    intro x hx
    have := hnd x hx
    simp only [Bool.and_eq_true] at this
    exact this.2
  have h2 := any_snoc hL (fast_chk hf hL) hndM hgo M.length (List.replicate M.length false) a _ (by simp) (shut_none _ _) h1
  refine (wpIn_wide (n := 0)).1 (wpIn_region_any (n := 0) hm ?_)
  have hlen : L.length = M.length + 1 := by
    have := congrArg List.length hL
    simpa using this
  have e : Array.replicate L.toArray.size false = (List.replicate M.length false ++ [false]).toArray := by
    rw [← List.replicate_succ']
    simp; omega
  rw [e]
  have hsz : L.toArray.size = M.length + 1 := by simpa using hlen
  rw [hsz]
  exact h2
end Bod
namespace Bod
open Go

theorem region_thenD {P : Program} {id : Nat} {Q : Exit → Act → World → Prop} {a : Act} {w : World} {L : List Oper} {C : World → Prop} (hC : C { w with drawn := w.drawn + 1 }) (hm : P.follows .mixedOrders = true) (hB : Region.lexB .any L.dropLast.toArray = true)
    (hnd : L.dropLast.all (fun o => !isDefer o.op && o.guard.isNone) = true) (hf : fast L = true) {o : Oper} (hl : L.getLast? = some o) (hgo : o.guard = none)
    (h : wpQuiet P L.dropLast.toArray C (fun a' => ∀ w', C w' → wpListIn Fence.wide 0 P L.toArray Q [o] a' w') L.dropLast a) : (Code.region id L.toArray true).wp P Q a w := by
  have hL : L = L.dropLast ++ [o] := by
    cases L with
    | nil => cases hl
    | cons x r =>
      have hne : x :: r ≠ [] := by simp
      rw [List.getLast?_eq_some_getLast hne] at hl
      cases hl
      exact (List.dropLast_concat_getLast hne).symm
  have hchk : (shut L (List.replicate L.dropLast.length false) && (vecs L.dropLast.length).all (chk L)) = true := by rw [Bool.and_eq_true]; exact ⟨shut_none _ _, fast_chk hf hL⟩
  simp only [Region.lexB, Bool.and_eq_true] at hB
  have hone : ∀ a' w', wpListIn Fence.wide 0 P L.toArray Q [o] a' w' → o.wpIn Fence.wide 0 P a' w' (fun a'' w'' => Q .normal a'' w'') Q := fun a' w' h => by
    unfold wpListIn at h
    rw [if_pos (by simp [Region.wanted, hgo])] at h
    exact h
  have hq := wpAnyQIn_lex (F := Fence.wide) (n := 0) (P := P) (C := C) (md := .any) hB.1 L.dropLast 0 (Array.replicate L.dropLast.toArray.size false) a (by simp) (by simpa using hB.2) (quiet_wide _ _ h)
  have hrep : (Array.replicate L.dropLast.toArray.size false) = (List.replicate L.dropLast.length false).toArray := by simp
  rw [hrep] at hq
  have := then_any (C := C) hL (Bool.and_eq_true _ _ ▸ hchk).2 hnd hgo L.dropLast.length (List.replicate L.dropLast.length false) a { w with drawn := w.drawn + 1 } (by simp) (Bool.and_eq_true _ _ ▸ hchk).1 hC (anyQ_mono (fun a' h w' hw' => hone a' w' (h w' hw')) _ _ _ hq)
  refine (wpIn_wide (n := 0)).1 (wpIn_region_any (n := 0) hm ?_)
  have hlen : L.length = L.dropLast.length + 1 := by
    have := congrArg List.length hL
    simpa using this
  have e : Array.replicate L.toArray.size false = (List.replicate L.dropLast.length false ++ [false]).toArray := by
    rw [← List.replicate_succ']
    simp; omega
  rw [e]
  have hsz : L.toArray.size = L.dropLast.length + 1 := by simpa using hlen
  rw [hsz]
  exact this
/-- .. with new memory behind the world -/
theorem region_thenD_below {P : Program} {id : Nat} {Q : Exit → Act → World → Prop} {a : Act} {w : World} {L : List Oper} (hm : P.follows .mixedOrders = true) (hB : Region.lexB .any L.dropLast.toArray = true)
    (hnd : L.dropLast.all (fun o => !isDefer o.op && o.guard.isNone) = true) (hf : fast L = true) {o : Oper} (hl : L.getLast? = some o) (hgo : o.guard = none)
    (h : wpQuiet P L.dropLast.toArray (fun w' => ∃ p : Regrown, w' = Go.Sort.grow (redrawn w p.d) p.os) (fun a' => ∀ w', (∃ p : Regrown, w' = Go.Sort.grow (redrawn w p.d) p.os) → wpListIn Fence.wide 0 P L.toArray Q [o] a' w') L.dropLast a) : (Code.region id L.toArray true).wp P Q a w :=
  region_thenD (C := fun w' => ∃ p : Regrown, w' = Go.Sort.grow (redrawn w p.d) p.os) ⟨⟨w.drawn + 1, #[]⟩, by rw [Go.Sort.grow_empty]; rfl⟩ hm hB hnd hf hl hgo h
end Bod
