/-
  The marks of a set in plain words: pairs of a name and a place, by their names. No program is walked in this text; no conditions.
-/
import Derived.Test.YtolafffpgkgadaaRows
import Derived.WalkKit
import Derived.Maps.OwnSet
namespace Go.Proofs.Ytolafffpgkgadaa
open Go.RowKit

abbrev Ml := List (Nat × Int)
def ent (p : Nat × Int) : Lit × DataW Unit := (.int .u8 (p.1 : Int), .lit (.int .i64 p.2))
def mk (L : Ml) : DataW Unit := .map (L.map ent)
/-- the names rise -/
def Ris (L : Ml) : Prop := L.Pairwise (fun p q => p.1 < q.1)
def i64ok (a : Int) : Prop := -9223372036854775808 ≤ a ∧ a ≤ 9223372036854775807
/-- names are bytes, places numbers of 64 bits -/
def Fit8 (L : Ml) : Prop := ∀ p ∈ L, p.1 < 256 ∧ i64ok p.2
/-- a mark laid at its place in the order -/
def lay (n : Nat) (a : Int) : Ml → Ml
  | [] => [(n, a)]
  | q :: r => if n < q.1 then (n, a) :: q :: r else if n = q.1 then (n, a) :: r else q :: lay n a r
/-- the place of a name -/
def got (n : Nat) : Ml → Option Int
  | [] => none
  | q :: r => if q.1 = n then some q.2 else got n r
theorem got_cons (n : Nat) (q : Nat × Int) (r : Ml) : got n (q :: r) = if q.1 = n then some q.2 else got n r := rfl
/-- without a name -/
def out (n : Nat) (L : Ml) : Ml := L.filter (fun p => p.1 != n)

theorem wf8 {n : Nat} (h : n < 256) : (Lit.int .u8 (n : Int)).wf = true := by simp [Lit.wf, IntKind.min, IntKind.max, IntKind.bits, IntKind.signed]; omega
theorem wf64 {a : Int} (h : i64ok a) : (Lit.int .i64 a).wf = true := by obtain ⟨h1, h2⟩ := h; simp [Lit.wf, IntKind.min, IntKind.max, IntKind.bits, IntKind.signed]; omega

theorem lay_mem {n : Nat} {a : Int} {p : Nat × Int} : ∀ {L : Ml}, p ∈ lay n a L → p = (n, a) ∨ p ∈ L
  | [], h => by simp [lay] at h; exact .inl h
  | q :: r, h => by
    unfold lay at h
    split at h
    · simpa using h
    · split at h
      · rcases List.mem_cons.1 h with h | h
        · exact .inl h
        · exact .inr (List.mem_cons_of_mem _ h)
      · rcases List.mem_cons.1 h with h | h
        · exact .inr (h ▸ List.mem_cons_self)
        · rcases lay_mem h with h | h
          · exact .inl h
          · exact .inr (List.mem_cons_of_mem _ h)
theorem Ris.lay {n : Nat} {a : Int} : ∀ {L : Ml}, Ris L → Ris (lay n a L)
  | [], _ => by simp [Go.Proofs.Ytolafffpgkgadaa.lay, Ris]
  | q :: r, h => by
    obtain ⟨h1, h2⟩ := List.pairwise_cons.1 h
    unfold Go.Proofs.Ytolafffpgkgadaa.lay
    split
    · refine List.pairwise_cons.2 ⟨fun p hp => ?_, h⟩
      rcases List.mem_cons.1 hp with rfl | hp
      · assumption
      · have := h1 p hp; simp only; omega
    · split
      · refine List.pairwise_cons.2 ⟨fun p hp => ?_, h2⟩
        have := h1 p hp; simp only; omega
      · refine List.pairwise_cons.2 ⟨fun p hp => ?_, Ris.lay h2⟩
        rcases lay_mem hp with rfl | hp
        · simp only; omega
        · exact h1 p hp
theorem Fit8.lay {n : Nat} {a : Int} {L : Ml} (h : Fit8 L) (hn : n < 256) (ha : i64ok a) : Fit8 (lay n a L) := fun p hp => by
  rcases lay_mem hp with rfl | hp
  · exact ⟨hn, ha⟩
  · exact h p hp
theorem Ris.out {n : Nat} {L : Ml} (h : Ris L) : Ris (out n L) := List.Pairwise.filter _ h
theorem Fit8.out {n : Nat} {L : Ml} (h : Fit8 L) : Fit8 (out n L) := fun p hp => h p (List.mem_filter.1 hp).1
theorem ris_len : ∀ {L : Ml} {lo : Nat}, Ris L → (∀ p ∈ L, lo ≤ p.1 ∧ p.1 < 256) → L.length + lo ≤ max 256 lo
  | [], lo, _, _ => by simp; omega
  | q :: r, lo, h, hb => by
    obtain ⟨h1, h2⟩ := List.pairwise_cons.1 h
    have := hb q List.mem_cons_self
    have := ris_len (lo := q.1 + 1) h2 (fun p hp => ⟨h1 p hp, (hb p (List.mem_cons_of_mem _ hp)).2⟩)
    simp only [List.length_cons]
    omega
theorem len8 {L : Ml} (h : Ris L) (hf : Fit8 L) : L.length ≤ 256 := by
  have := ris_len (lo := 0) h (fun p hp => ⟨Nat.zero_le _, (hf p hp).1⟩)
  omega
theorem got_lay {n m : Nat} {a : Int} : ∀ {L : Ml}, got m (lay n a L) = if m = n then some a else got m L
  | [] => by simp [lay, got, eq_comm]
  | q :: r => by
    unfold lay
    split
    · simp [got, eq_comm]
    · split
      · rename_i h1 h2
        subst h2
        by_cases e : m = q.1
        · simp [got, e]
        · have e' : ¬ q.1 = m := fun h => e h.symm
          simp [got, e, e']
      · rename_i h1 h2
        simp only [got]
        rw [got_lay]
        by_cases e : q.1 = m
        · rw [if_pos e, if_pos e, if_neg (by omega)]
        · rw [if_neg e, if_neg e]
theorem got_mem {n : Nat} {a : Int} : ∀ {L : Ml}, got n L = some a → (n, a) ∈ L
  | [], h => by simp [got] at h
  | q :: r, h => by
    unfold got at h
    split at h
    · rename_i e; cases h; subst e; exact List.mem_cons_self
    · exact List.mem_cons_of_mem _ (got_mem h)
theorem got_of_mem {n : Nat} {a : Int} : ∀ {L : Ml}, Ris L → (n, a) ∈ L → got n L = some a
  | q :: r, hr, h => by
    obtain ⟨h1, h2⟩ := List.pairwise_cons.1 hr
    unfold got
    rcases List.mem_cons.1 h with rfl | h
    · simp
    · have := h1 _ h
      rw [if_neg (by simp only at this; omega)]
      exact got_of_mem h2 h
theorem got_none {n : Nat} : ∀ {L : Ml}, got n L = none ↔ ∀ p ∈ L, p.1 ≠ n
  | [] => by simp [got]
  | q :: r => by
    unfold got
    by_cases e : q.1 = n
    · simp [e]
    · rw [if_neg e, got_none]; simp [e]
theorem has_mk {n : Nat} : ∀ {L : Ml}, Maps.has (mk L) (.int .u8 (n : Int)) = (got n L).isSome
  | [] => rfl
  | q :: r => by
    have ih := has_mk (n := n) (L := r)
    simp only [mk, Maps.has_eq, List.map_cons, List.any_cons] at ih ⊢
    rw [ih, got_cons]
    by_cases e : q.1 = n
    · simp [ent, Lit.sameKey, e]
    · rw [if_neg e]
      have : ¬ ((q.1 : Int) = (n : Int)) := by omega
      simp [ent, Lit.sameKey, this]
theorem at_mk {n : Nat} (z : DataW Unit) : ∀ {L : Ml}, (mk L).atKey (.int .u8 (n : Int)) z = match got n L with | some v => .lit (.int .i64 v) | none => z
  | [] => rfl
  | q :: r => by
    have ih := at_mk (n := n) z (L := r)
    simp only [mk, DataW.atKey, List.map_cons, List.find?_cons] at ih ⊢
    rw [got_cons]
    by_cases e : q.1 = n
    · simp [ent, Lit.sameKey, e]
    · rw [if_neg e]
      have : ¬ ((q.1 : Int) = (n : Int)) := by omega
      rw [show (ent q).1.sameKey (.int .u8 (n : Int)) = false by simp [ent, Lit.sameKey, this]]
      exact ih
theorem size_mk (L : Ml) : Maps.size (mk L) = L.length := by simp [mk, Maps.size_eq]
theorem filter_far {n : Nat} {r : Ml} (h : ∀ p ∈ r, p.1 ≠ n) : (r.map ent).filter (fun p => !p.1.sameKey (.int .u8 (n : Int))) = r.map ent := by
  refine List.filter_eq_self.2 fun p hp => ?_
  obtain ⟨q, hq, rfl⟩ := List.mem_map.1 hp
  have : ¬ ((q.1 : Int) = (n : Int)) := by have := h q hq; omega
  simp [ent, Lit.sameKey, this]
theorem insert_low {n : Nat} {a : Int} {r : Ml} (h : ∀ p ∈ r, n < p.1) : DataW.insert (ent (n, a)) (r.map ent) = ((n, a) :: r).map ent := by
  cases r with
  | nil => rfl
  | cons q r =>
    have := h q List.mem_cons_self
    simp only [List.map_cons, DataW.insert]
    rw [if_pos (by simp [ent, Lit.before]; omega)]
theorem ins_mk {n : Nat} {a : Int} : ∀ {L : Ml}, Ris L → DataW.insert (ent (n, a)) ((L.map ent).filter (fun p => !p.1.sameKey (.int .u8 (n : Int)))) = (lay n a L).map ent
  | [], _ => rfl
  | q :: r, h => by
    obtain ⟨h1, h2⟩ := List.pairwise_cons.1 h
    unfold lay
    split
    · rename_i e
      rw [filter_far (fun p hp => by rcases List.mem_cons.1 hp with rfl | hp; omega; have := h1 p hp; omega)]
      exact insert_low (fun p hp => by rcases List.mem_cons.1 hp with rfl | hp; omega; have := h1 p hp; omega)
    · split
      · rename_i e1 e2
        rw [List.map_cons, List.filter_cons, if_neg (by simp [ent, Lit.sameKey, e2]), filter_far (fun p hp => by have := h1 p hp; omega)]
        exact insert_low (fun p hp => by have := h1 p hp; omega)
      · rename_i e1 e2
        have : ¬ ((q.1 : Int) = (n : Int)) := by omega
        rw [List.map_cons, List.filter_cons, if_pos (by simp [ent, Lit.sameKey, this]), DataW.insert, if_neg (by simp [ent, Lit.before]; omega), ins_mk h2]
        rfl
theorem put_mk {n : Nat} {a : Int} {L : Ml} (h : Ris L) : (mk L).put (.int .u8 (n : Int)) (.lit (.int .i64 a)) = mk (lay n a L) := congrArg DataW.map (ins_mk (a := a) h)
theorem del_mk {n : Nat} {L : Ml} : (mk L).del (.int .u8 (n : Int)) = mk (out n L) := by
  show DataW.map _ = DataW.map _
  congr 1
  unfold out
  induction L with
  | nil => rfl
  | cons q r ih =>
    rw [List.map_cons, List.filter_cons, List.filter_cons, ih]
    by_cases e : q.1 = n
    · simp [ent, Lit.sameKey, e]
    · have : ¬ ((q.1 : Int) = (n : Int)) := by omega
      simp [ent, Lit.sameKey, this, e]
/-- two rising lists with the same places are one -/
theorem ris_ext : ∀ {L M : Ml}, Ris L → Ris M → (∀ n, got n L = got n M) → L = M
  | [], [], _, _, _ => rfl
  | [], q :: r, _, _, h => by have := h q.1; simp [got] at this
  | q :: r, [], _, _, h => by have := h q.1; simp [got] at this
  | q :: r, q' :: r', hL, hM, h => by
    obtain ⟨h1, h2⟩ := List.pairwise_cons.1 hL
    obtain ⟨h3, h4⟩ := List.pairwise_cons.1 hM
    have a1 := got_mem (L := q' :: r') (n := q.1) (a := q.2) (by rw [← h]; simp [got])
    have a2 := got_mem (L := q :: r) (n := q'.1) (a := q'.2) (by rw [h]; simp [got])
    have e : q = q' := by
      rcases List.mem_cons.1 a1 with a1 | a1
      · exact a1
      · rcases List.mem_cons.1 a2 with a2 | a2
        · exact a2.symm
        · have := h3 _ a1; have := h1 _ a2; simp only at *; omega
    subst e
    refine congrArg (q :: ·) (ris_ext h2 h4 fun n => ?_)
    have hn := h n
    rw [got_cons, got_cons] at hn
    by_cases e : q.1 = n
    · rw [(got_none (L := r)).2 (fun p hp => by have := h1 p hp; omega), (got_none (L := r')).2 (fun p hp => by have := h3 p hp; omega)]
    · rwa [if_neg e, if_neg e] at hn
/-- which bytes are names -/
def gd (n : Nat) : Bool := n == 64 || (decide (97 ≤ n) && decide (n ≤ 122))
/-- what Load leaves of marks laid one behind the other on L -/
def ld : Ml → Ml → Ml
  | L, [] => L
  | L, p :: ms => ld (if gd p.1 && decide (0 ≤ p.2) then lay p.1 p.2 L else L) ms
theorem ld_snoc (L : Ml) : ∀ (ms : Ml) (p : Nat × Int), ld L (ms ++ [p]) = if gd p.1 && decide (0 ≤ p.2) then lay p.1 p.2 (ld L ms) else ld L ms := fun ms => by
  induction ms generalizing L with
  | nil => intro p; rfl
  | cons q ms ih => intro p; exact ih _ p
end Go.Proofs.Ytolafffpgkgadaa
