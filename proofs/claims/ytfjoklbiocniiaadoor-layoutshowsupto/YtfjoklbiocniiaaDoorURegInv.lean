/-
  A region that draws its order, by an invariant over which of its operations have run: each operation, whenever it may run, keeps it. No program is named here; no conditions beyond.
-/
import Derived.Test.YtfjoklbiocniiaaDoorPkU
namespace Bod
open Go

/-- nobody waits for one behind, and none is guarded -/
def backs (L : List Oper) : Bool :=
  ((List.range L.length).all fun i => ((L[i]?).map fun o => o.after.all fun e => !Region.binds .any e || decide (e.on < i)).getD true) && L.all fun o => o.guard.isNone
theorem backs_open {L : List Oper} (h : backs L = true) {i : Nat} {o : Oper} (ho : L[i]? = some o) {v : List Bool} (hv : ∀ j, j < i → v.getD j false = true) : open' o v = true := by
  unfold backs at h
  rw [Bool.and_eq_true] at h
  have hi := (List.getElem?_eq_some_iff.1 ho).1
  have := List.all_eq_true.1 h.1 i (List.mem_range.2 hi)
  rw [ho] at this
  simp only [Option.map_some, Option.getD_some] at this
  unfold open'
  rw [Array.all_eq_true] at this ⊢
  intro k hk
  have h1 := this k hk
  rw [Bool.or_eq_true] at h1 ⊢
  rcases h1 with h1 | h1
  · exact .inl h1
  · exact .inr (hv _ (by simpa using h1))
theorem wp_Q {P : Program} {o : Oper} {a : Act} {w : World} {K I : Act → World → Prop} {Q : Exit → Act → World → Prop} (h : o.wp P a w K (Exit.then I Q)) : o.wp P a w K Q := by
  unfold Oper.wp at *
  generalize (execOp a.eval o).run P w = r at *
  cases r with
  | ok n w' =>
    cases n <;> simp only [Oper.upon] at h ⊢ <;>
      first
        | exact h
        | exact Calls.mono h (fun e w'' he => by cases e <;> exact he)
  | halt x w' => cases x <;> simp only [Oper.upon] at h ⊢ <;> exact h
def left (v : List Bool) : Nat := v.countP (! ·)
theorem left_set {v : List Bool} {i : Nat} (hi : i < v.length) (h : v.getD i true = false) : left (v.set i true) + 1 = left v := by
  have e : v[i] = false := by simpa [List.getD_eq_getElem?_getD, hi] using h
  unfold left
  have hp : 0 < v.countP (! ·) := List.countP_pos_iff.2 ⟨v[i], List.getElem_mem hi, by rw [e]; rfl⟩
  rw [List.countP_set hi]
  simp [e]
  omega
theorem left_all {v : List Bool} (h : left v = 0) : v.all id = true := by
  unfold left at h
  rw [List.countP_eq_zero] at h
  rw [List.all_eq_true]
  intro x hx
  have := h x hx
  simpa using this
theorem any_inv {P : Program} {L : List Oper} {Q : Exit → Act → World → Prop} (hb : backs L = true) (I : List Bool → Act → World → Prop)
    (hstep : ∀ (i : Nat) (o : Oper) (v : List Bool) (a : Act) (w : World), L[i]? = some o → v.length = L.length → v.getD i true = false → open' o v = true → I v a w → wpList P L.toArray (Exit.then (I (v.set i true)) Q) [o] a w)
    (hend : ∀ (v : List Bool) (a : Act) (w : World), v.length = L.length → v.all id = true → I v a w → Q .normal a w) :
    ∀ (fuel : Nat) (v : List Bool) (a : Act) (w : World), v.length = L.length → left v ≤ fuel → I v a w → wpAny P .any L.toArray Q fuel v.toArray a w := by
  intro fuel
  have done : ∀ (v : List Bool), v.length = L.length → v.all id = true → Region.ready .any L.toArray v.toArray = [] := fun v hv hall => by
    cases hr : Region.ready .any L.toArray v.toArray with
    | nil => rfl
    | cons i r =>
      have hi : i ∈ Region.ready .any L.toArray v.toArray := by rw [hr]; simp
      obtain ⟨h1, h2, _⟩ := (ready_at L v i).1 hi
      rw [gd_tf (by omega), of_all hall (by omega)] at h2
      cases h2
  have none' : ∀ (v : List Bool), v.length = L.length → Region.ready .any L.toArray v.toArray = [] → v.all id = true := fun v hv h0 => by
    have : ∀ n i, i < v.length → i < n → v.getD i false = true := fun n => by
      induction n with
      | zero => intro i _ h2; omega
      | succ n ih =>
        intro i h1 h2
        cases hm : v.getD i false with
        | true => rfl
        | false =>
          have hoi : L[i]? = some L[i] := List.getElem?_eq_getElem (by omega)
          have : i ∈ Region.ready .any L.toArray v.toArray := (ready_at L v i).2 ⟨by omega, by rw [gd_tf h1]; exact hm, _, hoi, backs_open hb hoi (fun j hj => ih j (by omega) (by omega))⟩
          rw [h0] at this
          cases this
    exact all_of (fun i hi => this (i + 1) i hi (by omega))
  induction fuel with
  | zero =>
    intro v a w hv hl hi
    have hall := left_all (show left v = 0 by omega)
    exact ⟨done v hv hall, hend v a w hv hall hi⟩
  | succ fuel ih =>
    intro v a w hv hl hi
    refine ⟨fun h0 => hend v a w hv (none' v hv h0) hi, fun i hr => ?_⟩
    obtain ⟨h1, h2, o, h3, h4⟩ := (ready_at L v i).1 hr
    have hs := hstep i o v a w h3 hv h2 h4 hi
    have hg : o.guard = none := by
      unfold backs at hb
      rw [Bool.and_eq_true] at hb
      have := List.all_eq_true.1 hb.2 o (List.mem_of_getElem? h3)
      simpa using this
    unfold wpOp
    rw [List.getElem?_toArray, h3]
    simp only
    rw [if_pos (by simp [Region.wanted, hg])]
    unfold wpList at hs
    rw [if_pos (by simp [Region.wanted, hg])] at hs
    have hset : v.toArray.setIfInBounds i true = (v.set i true).toArray := by simp
    rw [hset]
    have hleft := left_set (v := v) (i := i) (by omega) h2
    rcases hs with hs | hs
    · exact .inl (wp_Q (Oper.wp_mono (fun a' w' h => ih (v.set i true) a' w' (by simpa using hv) (by omega) h) hs))
    · exact .inr ⟨hs.1, by obtain ⟨x, y, z⟩ := hs.2; exact ⟨x, y, z⟩⟩
theorem region_inv {P : Program} {rid : Nat} {L : List Oper} {Q : Exit → Act → World → Prop} {a : Act} {w : World} (hm : P.follows .mixedOrders = true) (hb : backs L = true) (I : List Bool → Act → World → Prop)
    (h0 : I (List.replicate L.length false) a w.drew)
    (hstep : ∀ (i : Nat) (o : Oper) (v : List Bool) (a : Act) (w : World), L[i]? = some o → v.length = L.length → v.getD i true = false → open' o v = true → I v a w → wpList P L.toArray (Exit.then (I (v.set i true)) Q) [o] a w)
    (hend : ∀ (v : List Bool) (a : Act) (w : World), v.length = L.length → v.all id = true → I v a w → Q .normal a w) : (Code.region rid L.toArray true).wp P Q a w := by
  refine wp_region_any hm ?_
  have e : Array.replicate L.toArray.size false = (List.replicate L.length false).toArray := by simp
  rw [e]
  exact any_inv hb I hstep hend _ _ _ _ (by simp) (Nat.le_trans List.countP_le_length (by simp)) h0
end Bod
