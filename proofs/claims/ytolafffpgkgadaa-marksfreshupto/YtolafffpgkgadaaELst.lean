/-
  What a set holds behind marks laid one behind the other, in plain words. No program is walked in this text; no conditions beyond.
-/
import Derived.Test.YtolafffpgkgadaaEAny
import Derived.Test.YtolafffpgkgadaaEMove
namespace Go.Proofs.Ytolafffpgkgadaa
open Go.RowKit

/-- no place is below 0 -/
def Nng (L : Ml) : Prop := ∀ p ∈ L, 0 ≤ p.2
theorem Nng.lay {n : Nat} {a : Int} {L : Ml} (h : Nng L) (ha : 0 ≤ a) : Nng (lay n a L) := fun p hp => by
  rcases lay_mem hp with rfl | hp
  · exact ha
  · exact h p hp
theorem Nng.put {n : Nat} {a : Int} {L : Ml} (h : Nng L) : Nng (putL n a L) := by
  unfold putL
  split
  · rename_i c
    exact h.lay (by simp at c; exact c.2)
  · exact h
theorem Nng.ld : ∀ {ms L : Ml}, Nng L → Nng (ld L ms)
  | [], _, h => h
  | p :: ms, L, h => by
    show Nng (Go.Proofs.Ytolafffpgkgadaa.ld (putL p.1 p.2 L) ms)
    exact Nng.ld h.put
theorem Nng.nil : Nng [] := fun _ h => by cases h
theorem lay_end {n : Nat} {a : Int} : ∀ {L : Ml}, (∀ q ∈ L, q.1 < n) → lay n a L = L ++ [(n, a)]
  | [], _ => rfl
  | q :: r, h => by
    have := h q List.mem_cons_self
    show (if n < q.1 then _ else if n = q.1 then _ else q :: lay n a r) = _
    rw [if_neg (by omega), if_neg (by omega), lay_end (fun p hp => h p (List.mem_cons_of_mem _ hp))]
    rfl
theorem ld_onto : ∀ {ms L : Ml}, Ris (L ++ ms) → Gdl ms → Nng ms → ld L ms = L ++ ms
  | [], L, _, _, _ => by simp [ld]
  | p :: ms, L, hr, hg, hn => by
    have e : ld L (p :: ms) = ld (putL p.1 p.2 L) ms := rfl
    have hp := hg p List.mem_cons_self
    have h0 := hn p List.mem_cons_self
    have e2 : putL p.1 p.2 L = L ++ [p] := by
      unfold putL
      rw [if_pos (by simp [hp, h0]), lay_end (fun q hq => (List.pairwise_append.1 hr).2.2 q hq p List.mem_cons_self)]
    rw [e, e2, ld_onto (by rw [List.append_assoc]; exact hr) (fun q hq => hg q (List.mem_cons_of_mem _ hq)) (fun q hq => hn q (List.mem_cons_of_mem _ hq)), List.append_assoc]
    rfl
/-- a set made of what a set holds is the same -/
theorem ld_self {L : Ml} (hr : Ris L) (hg : Gdl L) (hn : Nng L) : ld [] L = L := by
  have := ld_onto (L := []) (ms := L) (by simpa using hr) hg hn
  simpa using this
theorem got_put {n m : Nat} {a : Int} {L : Ml} : got m (putL n a L) = if gd n && decide (0 ≤ a) then (if m = n then some a else got m L) else got m L := by
  unfold putL
  split
  · exact got_lay
  · rfl
/-- what Get answers of a mark of the list -/
theorem getE_mem {L : Ml} {p : Nat × Int} (hr : Ris L) (hg : Gdl L) (hp : p ∈ L) : getE p.1 L = (p.2, 0) := by
  unfold getE
  rw [if_pos (hg p hp), got_of_mem hr hp]
/-- the others stay -/
theorem getE_other {n : Nat} {a : Int} {L : Ml} {p : Nat × Int} (hr : Ris L) (hg : Gdl L) (hp : p ∈ L) (hne : p.1 ≠ n) : getE p.1 (putL n a L) = (p.2, 0) := by
  unfold getE
  rw [if_pos (hg p hp), got_put, if_neg hne, got_of_mem hr hp, ite_self]
/-- what was put is got -/
theorem getE_put {n : Nat} {a : Int} {L : Ml} (hg : gd n = true) (ha : 0 ≤ a) : getE n (putL n a L) = (a, 0) := by
  unfold getE
  rw [if_pos hg, got_put]
  simp [hg, ha]
theorem getE_bad {n : Nat} {L : Ml} (hg : gd n = false) : getE n L = (0, 13) := by simp [getE, hg]
theorem put_mem {n : Nat} {a : Int} {L : Ml} {p : Nat × Int} (hr : Ris (putL n a L)) (hg : Gdl (putL n a L)) (ha : 0 ≤ a) (hp : p ∈ putL n a L) (hn : p.1 = n) : p.2 = a := by
  have h1 := got_of_mem (n := p.1) (a := p.2) hr hp
  have h2 := hg p hp
  rw [hn] at h2
  rw [got_put, hn] at h1
  simp [h2, ha] at h1
  exact h1.symm
theorem RdK.ch {W W' : World} {v : Value} {l : Ml} {base sb : Nat} {mb : Option Nat} (h : W.ownsRow base 26 2 v l.length (kcl l)) (hc : Ch sb mb W W') (h1 : sb < base) (h2 : ∀ b, mb = some b → b < base) : RdK W' v l := by
  have hk := RdK.of_row h
  rcases h.2 with ⟨rfl, hz⟩ | ⟨g, c, cur, rfl, hbg, hg, _⟩
  · obtain rfl : l = [] := List.eq_nil_of_length_eq_zero hz
    exact ⟨none, 0, rfl, fun h => absurd rfl h⟩
  · have hlt := (Array.getElem?_eq_some_iff.1 hg).1
    exact hk.of_block (hc.2.2.2.2 g hlt (by omega) (fun e => by have := h2 g e; omega)) (by have := hc.2.2.2.1; omega)
end Go.Proofs.Ytolafffpgkgadaa
