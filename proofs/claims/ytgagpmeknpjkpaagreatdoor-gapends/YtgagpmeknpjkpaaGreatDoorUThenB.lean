/-
  A region that draws its order, whose operations only read but for the last one, which waits for all of them: that it does so is asked operation by operation, so that long regions are asked too. No program is named here; no conditions beyond.
-/
import Derived.Test.YtgagpmeknpjkpaaGreatDoorUThen
namespace Bod
open Go

/-- whom an operation waits for -/
def waits (o : Oper) (i : Nat) : Bool := o.after.any fun e => Region.binds .any e && e.on == i
/-- everyone but the last is waited for by one behind; nobody waits for one behind -/
def fast (L : List Oper) : Bool :=
  ((List.range (L.length - 1)).all fun i => (List.range L.length).any fun j => decide (i < j) && ((L[j]?).map (waits · i)).getD false) &&
  ((List.range L.length).all fun i => ((L[i]?).map fun o => o.after.all fun e => !Region.binds .any e || decide (e.on < i)).getD true)

theorem gd (v : List Bool) (j : Nat) : (v ++ [false]).getD j false = v.getD j false := by
  simp only [List.getD_eq_getElem?_getD, List.getElem?_append]
  by_cases h : j < v.length
  · simp [h]
  · rw [if_neg h, List.getElem?_eq_none (show v.length ≤ j by omega)]
    cases hj : j - v.length with
    | zero => rfl
    | succ n => rfl
theorem vecs_len : ∀ (k : Nat) (v : List Bool), v ∈ vecs k → v.length = k
  | 0, v, h => by simp [vecs] at h; simp [h]
  | k + 1, v, h => by
    simp only [vecs, List.mem_flatMap] at h
    obtain ⟨u, hu, h⟩ := h
    have := vecs_len k u hu
    simp at h
    rcases h with rfl | rfl <;> simp [this]
theorem agd (v : List Bool) (j : Nat) (d : Bool) : v.toArray.getD j d = v.getD j d := by
  unfold Array.getD
  rw [List.getD_eq_getElem?_getD]
  split
  · rename_i h; rw [List.getElem?_eq_getElem (by simpa using h)]; rfl
  · rename_i h; rw [List.getElem?_eq_none (by simpa using h)]; rfl
/-- an operation's ways are all marked -/
def open' (o : Oper) (v : List Bool) : Bool := o.after.all fun e => !Region.binds .any e || v.getD e.on false
theorem open_waits {o : Oper} {v : List Bool} {i : Nat} (h : open' o v = true) (hw : waits o i = true) : v.getD i false = true := by
  unfold waits at hw
  unfold open' at h
  rw [Array.any_eq_true] at hw
  rw [Array.all_eq_true] at h
  obtain ⟨k, hk, h1⟩ := hw
  simp only [Bool.and_eq_true, beq_iff_eq] at h1
  have := h k hk
  rw [h1.1, h1.2] at this
  simpa using this
theorem shut_at {L : List Oper} {v : List Bool} (h : shut L v = true) {j : Nat} {o : Oper} (hj : L[j]? = some o) (hm : v.getD j false = true) : open' o v = true := by
  have hjv : j < v.length := by
    rcases Nat.lt_or_ge j v.length with h1 | h1
    · exact h1
    · rw [List.getD_eq_getElem?_getD, List.getElem?_eq_none h1] at hm; simp at hm
  have := List.all_eq_true.1 h j (List.mem_range.2 hjv)
  rw [hm, hj] at this
  exact this
theorem ready_at (L : List Oper) (v : List Bool) (i : Nat) : i ∈ Region.ready .any L.toArray v.toArray ↔ i < L.length ∧ v.getD i true = false ∧ ∃ o, L[i]? = some o ∧ open' o v = true := by
  simp only [Region.ready, List.mem_filter, List.mem_range, Bool.and_eq_true, List.size_toArray, agd, List.getElem?_toArray]
  constructor
  · rintro ⟨h1, h2, h3⟩
    rw [List.getElem?_eq_getElem h1] at h3
    exact ⟨h1, by simpa using h2, L[i], List.getElem?_eq_getElem h1, h3⟩
  · rintro ⟨h1, h2, o, h3, h4⟩
    rw [h3]
    exact ⟨h1, by simpa using h2, h4⟩
theorem gd_tf {v : List Bool} {i : Nat} (h : i < v.length) : v.getD i true = v.getD i false := by
  simp [List.getD_eq_getElem?_getD, h]
theorem all_of {v : List Bool} (h : ∀ i, i < v.length → v.getD i false = true) : v.all id = true := by
  rw [List.all_eq_true]
  intro x hx
  obtain ⟨i, hi, rfl⟩ := List.mem_iff_getElem.1 hx
  have := h i hi
  simpa [List.getD_eq_getElem?_getD, hi] using this
theorem of_all {v : List Bool} (h : v.all id = true) {i : Nat} (hi : i < v.length) : v.getD i false = true := by
  have := List.all_eq_true.1 h v[i] (List.getElem_mem hi)
  simpa [List.getD_eq_getElem?_getD, hi] using this
theorem fast_wait {L : List Oper} (h : fast L = true) {i : Nat} (hi : i < L.length - 1) : ∃ j o, i < j ∧ L[j]? = some o ∧ waits o i = true := by
  unfold fast at h
  rw [Bool.and_eq_true] at h
  have := List.all_eq_true.1 h.1 i (List.mem_range.2 hi)
  obtain ⟨j, hj, h1⟩ := List.any_eq_true.1 this
  have hj := List.mem_range.1 hj
  rw [List.getElem?_eq_getElem hj] at h1
  simp only [Option.map_some, Option.getD_some, Bool.and_eq_true, decide_eq_true_eq] at h1
  exact ⟨j, L[j], h1.1, List.getElem?_eq_getElem hj, h1.2⟩
theorem fast_back {L : List Oper} (h : fast L = true) {i : Nat} {o : Oper} (ho : L[i]? = some o) {v : List Bool} (hv : ∀ j, j < i → v.getD j false = true) : open' o v = true := by
  unfold fast at h
  rw [Bool.and_eq_true] at h
  have hi := (List.getElem?_eq_some_iff.1 ho).1
  have := List.all_eq_true.1 h.2 i (List.mem_range.2 hi)
  rw [ho] at this
  simp only [Option.map_some, Option.getD_some] at this
  unfold open'
  rw [Array.all_eq_true] at this ⊢
  intro k hk
  have h1 := this k hk
  rw [Bool.or_eq_true] at h1 ⊢
  rcases h1 with h1 | h1
  · exact .inl h1
  · exact .inr (hv _ (by simpa using h1))
theorem open_set {o : Oper} {v : List Bool} (h : open' o v = true) (i : Nat) : open' o (v.set i true) = true := by
  unfold open' at h ⊢
  rw [Array.all_eq_true] at h ⊢
  intro k hk
  have h1 := h k hk
  rw [Bool.or_eq_true] at h1 ⊢
  rcases h1 with h1 | h1
  · exact .inl h1
  · refine .inr ?_
    rw [List.getD_eq_getElem?_getD] at h1 ⊢
    rw [List.getElem?_set]
    split
    · split
      · rfl
      · rw [List.getElem?_eq_none (by omega)] at h1; simp at h1
    · exact h1
theorem open_app (o : Oper) (v : List Bool) : open' o (v ++ [false]) = open' o v := by
  unfold open'
  congr 1
  funext e
  rw [gd]
theorem shut_mk {L : List Oper} {v : List Bool} (h : ∀ j o, L[j]? = some o → v.getD j false = true → open' o v = true) : shut L v = true := by
  unfold shut
  rw [List.all_eq_true]
  intro j _
  cases hm : v.getD j false with
  | false => rfl
  | true =>
    cases ho : L[j]? with
    | none => rfl
    | some o => exact h j o ho hm
theorem shut_none (L : List Oper) (k : Nat) : shut L (List.replicate k false) = true := shut_mk fun j o _ hm => by
  rw [List.getD_eq_getElem?_getD, List.getElem?_replicate] at hm
  split at hm <;> simp at hm
theorem shut_set {L : List Oper} {v : List Bool} (h : shut L v = true) {i : Nat} {oi : Oper} (ho : L[i]? = some oi) (hop : open' oi v = true) : shut L (v.set i true) = true := shut_mk fun j oj hj hm => by
  by_cases e : j = i
  · subst e
    rw [ho] at hj
    cases hj
    exact open_set hop _
  · refine open_set (shut_at h hj ?_) _
    rw [List.getD_eq_getElem?_getD, List.getElem?_set, if_neg (fun h => e h.symm)] at hm
    rw [List.getD_eq_getElem?_getD]; exact hm
theorem fast_chk {L l : List Oper} {o : Oper} (hf : fast L = true) (hL : L = l ++ [o]) : (vecs l.length).all (chk L) = true := by
  rw [List.all_eq_true]
  intro v hv
  have hv := vecs_len _ v hv
  have hlen : L.length = l.length + 1 := by rw [hL]; simp
  have hat : L[l.length]? = some o := by rw [hL]; simp
  have hin : ∀ i, i < l.length → L[i]? = l[i]? := fun i h => by rw [hL, List.getElem?_append_left h]
  have hdl : L.dropLast = l := by rw [hL]; simp
  unfold chk
  cases hsh : shut L v with
  | false => rfl
  | true =>
    simp only [Bool.not_true, Bool.false_or]
    cases hall : v.all id with
    | true =>
      rw [if_pos rfl, Bool.and_eq_true, beq_iff_eq, beq_iff_eq]
      have ho : open' o (v ++ [false]) = true := by rw [open_app]; exact fast_back hf hat (fun j hj => of_all hall (by omega))
      have hr : List.range (l.length + 1) = List.range l.length ++ [l.length] := List.range_succ
      constructor
      · unfold Region.ready
        rw [List.size_toArray, hlen, hr, List.filter_append, List.filter_eq_nil_iff.2, List.nil_append, List.filter_cons_of_pos, List.filter_nil, hv]
        · simp only [agd, Bool.and_eq_true, List.getElem?_toArray, hat]
          refine ⟨?_, ho⟩
          simp [List.getD_eq_getElem?_getD, ← hv]
        · intro i hi
          have hi := List.mem_range.1 hi
          have : (v ++ [false]).getD i true = true := by
            rw [gd_tf (by simp; omega), gd]; exact of_all hall (by omega)
          rw [agd, this]
          simp
      · unfold Region.ready
        rw [List.filter_eq_nil_iff]
        intro i hi
        have hi := List.mem_range.1 hi
        rw [List.size_toArray, hlen] at hi
        have : (v ++ [true]).getD i true = true := by
          by_cases e : i < v.length
          · have := of_all hall e
            rw [List.getD_eq_getElem?_getD] at this ⊢
            rw [List.getElem?_append_left e]
            rw [List.getElem?_eq_getElem e] at this ⊢
            exact this
          · have : i = v.length := by omega
            subst this
            simp [List.getD_eq_getElem?_getD]
        rw [agd, this]
        simp
    | false =>
      have hno : open' o v = false := by
        cases h : open' o v with
        | false => rfl
        | true =>
          have : ∀ n i, i < v.length → v.length - i ≤ n → v.getD i false = true := fun n => by
            induction n with
            | zero => intro i h1 h2; omega
            | succ n ih =>
              intro i h1 _
              obtain ⟨j, oj, hj, hoj, hw⟩ := fast_wait hf (i := i) (by omega)
              have hjl := (List.getElem?_eq_some_iff.1 hoj).1
              by_cases e : j = l.length
              · subst e
                rw [hat] at hoj
                cases hoj
                exact open_waits h hw
              · exact open_waits (shut_at hsh hoj (ih j (by omega) (by omega))) hw
          rw [all_of (fun i hi => this _ i hi (Nat.le_refl _))] at hall
          cases hall
      rw [if_neg (by simp), hdl]
      have hrd : Region.ready .any L.toArray (v ++ [false]).toArray = Region.ready .any l.toArray v.toArray := by
        have hr : List.range (l.length + 1) = List.range l.length ++ [l.length] := List.range_succ
        unfold Region.ready
        rw [List.size_toArray, List.size_toArray, hlen, hr, List.filter_append, List.filter_cons_of_neg, List.filter_nil, List.append_nil]
        · refine List.filter_congr fun i hi => ?_
          have hi := List.mem_range.1 hi
          rw [agd, agd, List.getElem?_toArray, List.getElem?_toArray, hin i hi]
          have e1 : (v ++ [false]).getD i true = v.getD i true := by rw [gd_tf (by simp; omega), gd, gd_tf (by omega)]
          rw [e1]
          congr 2
          congr 1
          funext x
          congr 1
          funext e
          rw [agd, agd, gd]
        · rw [List.getElem?_toArray, hat]
          have : (o.after.all fun e => !Region.binds .any e || (v ++ [false]).toArray.getD e.on false) = open' o v := by
            rw [← open_app]
            unfold open'
            congr 1
            funext e
            rw [agd]
          simp only [Option.map_some, Option.getD_some, this, hno, Bool.and_false]
          simp
      rw [hrd]
      simp only [Bool.and_eq_true, beq_self_eq_true, true_and, bne_iff_ne, ne_eq]
      refine ⟨fun h0 => ?_, ?_⟩
      · have : ∀ n i, i < v.length → i < n → v.getD i false = true := fun n => by
          induction n with
          | zero => intro i _ h2; omega
          | succ n ih =>
            intro i h1 h2
            cases hm : v.getD i false with
            | true => rfl
            | false =>
              have hoi : l[i]? = some l[i] := List.getElem?_eq_getElem (by omega)
              have : i ∈ Region.ready .any l.toArray v.toArray := (ready_at l v i).2 ⟨by omega, by rw [gd_tf h1]; exact hm, _, hoi, fast_back hf (by rw [hin i (by omega)]; exact hoi) (fun j hj => ih j (by omega) (by omega))⟩
              rw [h0] at this
              cases this
        rw [all_of (fun i hi => this (i + 1) i hi (by omega))] at hall
        cases hall
      · rw [List.all_eq_true]
        intro i hi
        obtain ⟨h1, _, oi, h3, h4⟩ := (ready_at l v i).1 hi
        exact shut_set hsh (by rw [hin i h1]; exact h3) h4
theorem region_thenB {F : Fence} {n : Nat} {P : Program} {id : Nat} {Q : Exit → Act → World → Prop} {a : Act} {w : World} {L : List Oper} (hm : P.follows .mixedOrders = true) (hB : Region.lexB .any L.dropLast.toArray = true)
    (hnd : L.dropLast.all (fun o => !isDefer o.op && o.guard.isNone) = true) (hf : fast L = true) {o : Oper} (hl : L.getLast? = some o) (hgo : o.guard = none)
    (h : wpQuietIn F n P L.dropLast.toArray (fun w' => ∃ n, w' = w.drewN n) (fun a' => ∀ w', (∃ n, w' = w.drewN n) → wpListIn F n P L.toArray Q [o] a' w') L.dropLast a) : (Code.region id L.toArray true).wpIn F n P Q a w := by
  have hL : L = L.dropLast ++ [o] := by
    cases L with
    | nil => cases hl
    | cons x r =>
      have hne : x :: r ≠ [] := by simp
      rw [List.getLast?_eq_some_getLast hne] at hl
      cases hl
      exact (List.dropLast_concat_getLast hne).symm
  exact region_then hm hB hnd (by rw [Bool.and_eq_true]; exact ⟨shut_none _ _, fast_chk hf hL⟩) hl hgo h
end Bod
