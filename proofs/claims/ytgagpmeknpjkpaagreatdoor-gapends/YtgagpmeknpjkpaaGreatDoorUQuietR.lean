/-
  A region that draws its order, within a round of a range over a function: where its operations only read and none is a defer statement, one walk in the order of the text serves every order. No program is named here; no conditions beyond.
-/
import Derived.Sort.QuietIn
namespace Bod
open Go

def isDefer : Op → Bool
  | .defer _ => true
  | _ => false

theorem any_of_quiet {F : Fence} {n : Nat} {P : Program} {md : Region.Mode} {ops : Array Oper} {C : World → Prop} {Q : Act → Prop} {Q' : Exit → Act → World → Prop}
    (hnd : ∀ (i : Nat) (o : Oper), ops[i]? = some o → isDefer o.op = false) (hQ : ∀ a w, C w → Q a → Q' .normal a w) :
    ∀ (fuel : Nat) (listed : Array Bool) (a : Act) (w : World), C w → wpAnyQIn F n P md ops C Q fuel listed a → wpAnyIn F n P md ops Q' fuel listed a w := by
  intro fuel
  induction fuel with
  | zero => intro listed a w hw h; exact ⟨h.1, hQ _ _ hw h.2⟩
  | succ fuel ih =>
    intro listed a w hw h
    refine ⟨fun h0 => hQ _ _ hw (h.1 h0), fun i hi => ?_⟩
    have hq := h.2 i hi
    unfold qOpIn at hq
    unfold wpOpIn
    cases ho : ops[i]? with
    | none => simp only [ho] at hq ⊢; exact ih _ _ _ hw hq
    | some o =>
      simp only [ho] at hq ⊢
      obtain ⟨hask, hq⟩ := hq
      by_cases hwant : Region.wanted o (yielded ops a.tmps) = true
      · rw [if_pos hwant] at hq ⊢
        obtain ⟨v, hv, hnext⟩ := hq
        have hv' := hv w hw
        unfold Oper.quietAtIn at hv'
        refine ⟨hask w hw, ?_⟩
        rw [Oper.semAt_eq _ _ _ (fun c hc => by have := hnd i o ho; rw [hc] at this; cases this)]
        generalize (execOp a.eval o).run P w = res at hv'
        cases res with
        | halt x w' => simp only [Oper.quietUponIn] at hv'
        | ok x w' =>
          cases x <;> simp only [Oper.quietUponIn] at hv' <;> simp only [Oper.uponIn]
          case value u => obtain ⟨rfl, rfl⟩ := hv'; exact ih _ _ _ hw hnext
          case skip => obtain ⟨rfl, rfl⟩ := hv'; exact ih _ _ _ hw hnext
          case enter f args =>
            obtain ⟨rfl, hd, hc⟩ := hv'
            exact ⟨hd, hc.mono fun e w'' ⟨he, hw''⟩ => by subst he; exact ih _ _ _ hw'' hnext⟩
      · rw [if_neg hwant] at hq ⊢
        exact ⟨hask w hw, ih _ _ _ hw hq⟩

theorem region_quiet {F : Fence} {n : Nat} {P : Program} {id : Nat} {Q : Exit → Act → World → Prop} {a : Act} {w : World} {l : List Oper} (hm : P.follows .mixedOrders = true) (hB : Region.lexB .any l.toArray = true) (hnd : l.all (fun o => !isDefer o.op) = true)
    (h : wpQuietIn F n P l.toArray (fun w' => ∃ n, w' = w.drewN n) (fun a' => ∀ w', (∃ n, w' = w.drewN n) → Q .normal a' w') l a) : (Code.region id l.toArray true).wpIn F n P Q a w := by
  simp only [Region.lexB, Bool.and_eq_true] at hB
  refine wpIn_region_any hm (any_of_quiet (C := fun w' => ∃ n, w' = w.drewN n) (Q := fun a' => ∀ w', (∃ n, w' = w.drewN n) → Q .normal a' w') (fun i o ho => ?_) (fun _ w' hw' h => h w' hw') _ _ _ _ ⟨1, rfl⟩ ?_)
  · have hm : o ∈ l := by
      have := Array.mem_of_getElem? ho
      simpa using this
    have := List.all_eq_true.1 hnd o hm
    simpa using this
  · have := wpAnyQIn_lex (F := F) (n := n) (P := P) (C := fun w' => ∃ n, w' = w.drewN n) (Q := fun a' => ∀ w', (∃ n, w' = w.drewN n) → Q .normal a' w') (md := .any) hB.1 l 0 (Array.replicate l.toArray.size false) a (by simp) (by simpa using hB.2) h
    simpa using this
end Bod
