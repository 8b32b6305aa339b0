/-
  Where a text has its cluster boundaries, in plain words; the next one, the one ahead; the clusters lie between them. No program in this text; no conditions.
-/
import Derived.Test.YtoijjkbnmicadaaDoorCMathC
import Derived.Test.YtoijjkbnmicadaaDoorUMathC
namespace Go.Proofs.YtoijjkbnmicadaaDoor
open Bod Wid

/-- is i a boundary between clusters? -/
def cbZ (s : ByteArray) (i : Int) : Bool := decide (i = 0) || decide (i = s.size) || (bdZ s i && !jn (ch s (prevZ s i).toNat) (ch s i.toNat))
theorem cb_zero (s : ByteArray) : cbZ s 0 = true := by simp [cbZ]
theorem cb_end (s : ByteArray) : cbZ s s.size = true := by simp [cbZ]
theorem cb_out {s : ByteArray} {i : Int} (h : i < 0 ∨ (s.size : Int) < i) : cbZ s i = false := by
  unfold cbZ
  rw [bdZ_out s i h, decide_eq_false (by omega), decide_eq_false (by omega)]
  rfl
theorem cb_off {s : ByteArray} {i : Int} (h0 : i ≠ 0) (h1 : i ≠ s.size) (h : bdZ s i = false) : cbZ s i = false := by
  unfold cbZ
  rw [h, decide_eq_false h0, decide_eq_false h1]
  rfl
theorem cb_at {s : ByteArray} {p : Nat} (hp : B s p) (hi : p < s.size) (hn : p + sz s p < s.size) : cbZ s ((p + sz s p : Nat) : Int) = !jn (ch s p) (ch s (p + sz s p)) := by
  have h1 := sz_pos hi
  unfold cbZ
  rw [decide_eq_false (by omega), decide_eq_false (by omega), bd_B (B_next hp hi), prev_B hp hi]
  simp only [Bool.false_or, Bool.true_and, Int.toNat_natCast]
theorem cb_B {s : ByteArray} {i : Int} (h : cbZ s i = true) : ∃ m : Nat, i = m ∧ B s m := by
  by_cases ho : i < 0 ∨ (s.size : Int) < i
  · rw [cb_out ho] at h; cases h
  · obtain ⟨m, rfl⟩ := Int.eq_ofNat_of_zero_le (show 0 ≤ i by omega)
    refine ⟨m, rfl, ?_⟩
    by_cases h0 : m = 0
    · subst h0; exact B_zero s
    · by_cases h1 : m = s.size
      · subst h1; exact B_end s
      · cases hb : bdZ s m with
        | true => exact (bdZ_iff s m).1 hb
        | false => rw [cb_off (by omega) (by omega) hb] at h; cases h
/-- within a unit there is none -/
theorem cb_in {s : ByteArray} {a k : Nat} (hi : a < s.size) (h1 : a < k) (h2 : k < a + sz s a) : cbZ s k = false := by
  have := sz_in hi
  exact cb_off (by omega) (by omega) (bd_in h1 h2)

/-- m is the least boundary above i, or the end -/
structure IsNext (s : ByteArray) (i : Int) (m : Nat) : Prop where
  cb : cbZ s m = true
  up : i < m ∨ (m = s.size ∧ (s.size : Int) ≤ i)
  no : ∀ j : Int, i < j → j < m → cbZ s j = false
theorem IsNext.uniq {s : ByteArray} {i : Int} {m n : Nat} (h : IsNext s i m) (k : IsNext s i n) : m = n := by
  have h1 := cb_B h.cb
  have h2 := cb_B k.cb
  obtain ⟨_, e1, b1⟩ := h1
  obtain ⟨_, e2, b2⟩ := h2
  have hm : m ≤ s.size := by have := b1.1; omega
  have hn : n ≤ s.size := by have := b2.1; omega
  rcases Nat.lt_trichotomy m n with hlt | he | hlt
  · rcases h.up with hu | ⟨hu, hv⟩
    · have := k.no m hu (by omega); rw [h.cb] at this; cases this
    · omega
  · exact he
  · rcases k.up with hu | ⟨hu, hv⟩
    · have := h.no n hu (by omega); rw [k.cb] at this; cases this
    · omega
/-- m is the greatest boundary below i, or 0 -/
structure IsPrev (s : ByteArray) (i : Int) (m : Nat) : Prop where
  cb : cbZ s m = true
  dn : (m : Int) < i ∨ (m = 0 ∧ i ≤ 0)
  no : ∀ j : Int, (m : Int) < j → j < i → cbZ s j = false
theorem IsPrev.uniq {s : ByteArray} {i : Int} {m n : Nat} (h : IsPrev s i m) (k : IsPrev s i n) : m = n := by
  rcases Nat.lt_trichotomy m n with hlt | he | hlt
  · rcases k.dn with hu | ⟨hu, hv⟩
    · have := h.no n (by omega) hu; rw [k.cb] at this; cases this
    · omega
  · exact he
  · rcases h.dn with hu | ⟨hu, hv⟩
    · have := k.no m (by omega) hu; rw [h.cb] at this; cases this
    · omega

/-- going on by units: what Next keeps -/
structure NxI (s : ByteArray) (i : Int) (m : Nat) : Prop where
  b : B s m
  up : i < m ∨ (m = s.size ∧ (s.size : Int) ≤ i)
  no : ∀ j : Int, i < j → j < m → cbZ s j = false
theorem nx_start (s : ByteArray) (i : Int) : ∃ m : Nat, nextZ s i = m ∧ NxI s i m := by
  by_cases h0 : i < 0
  · exact ⟨0, by unfold nextZ; rw [if_pos h0]; rfl, B_zero s, .inl (by omega), fun j h1 h2 => cb_out (.inl (by omega))⟩
  · by_cases h1 : (s.size : Int) ≤ i
    · exact ⟨s.size, by unfold nextZ; rw [if_neg h0, if_pos h1], B_end s, .inr ⟨rfl, h1⟩, fun j h2 h3 => by omega⟩
    · obtain ⟨k, rfl⟩ := Int.eq_ofNat_of_zero_le (show 0 ≤ i by omega)
      have hk : k < s.size := by omega
      have hd := dnF_Dn hk
      have hds : dnF s k < s.size := by have := hd.le; omega
      refine ⟨_, nextZ_in hk hd, B_next hd.bd hds, .inl (by have := hd.gt; omega), fun j h2 h3 => ?_⟩
      obtain ⟨q, rfl⟩ := Int.eq_ofNat_of_zero_le (show 0 ≤ j by omega)
      have := hd.le
      exact cb_in hds (by omega) (by omega)
theorem nx_go {s : ByteArray} {i : Int} {m : Nat} (h : NxI s i m) (hc : cbZ s m = false) : m < s.size ∧ nextZ s m = ((m + sz s m : Nat) : Int) ∧ NxI s i (m + sz s m) := by
  have hm : m < s.size := by
    have h1 := h.b.1
    by_cases e : m = s.size
    · subst e; rw [cb_end] at hc; cases hc
    · omega
  have hp := sz_pos hm
  have hu : i < m := by rcases h.up with hu | ⟨hu, _⟩ <;> omega
  refine ⟨hm, next_B h.b hm, B_next h.b hm, .inl (by omega), fun j h2 h3 => ?_⟩
  by_cases h4 : j < m
  · exact h.no j h2 h4
  · by_cases h5 : j = m
    · rw [h5]; exact hc
    · obtain ⟨q, rfl⟩ := Int.eq_ofNat_of_zero_le (show 0 ≤ j by omega)
      exact cb_in hm (by omega) (by omega)
theorem NxI.done {s : ByteArray} {i : Int} {m : Nat} (h : NxI s i m) (hc : cbZ s m = true) : IsNext s i m := ⟨hc, h.up, h.no⟩
/-- going back by units: what Prev keeps -/
structure PvI (s : ByteArray) (i : Int) (m : Nat) : Prop where
  b : B s m
  dn : (m : Int) < i ∨ (m = 0 ∧ i ≤ 0)
  no : ∀ j : Int, (m : Int) < j → j < i → cbZ s j = false
theorem pv_start (s : ByteArray) (i : Int) : ∃ m : Nat, prevZ s i = m ∧ PvI s i m := by
  by_cases h0 : i ≤ 0
  · exact ⟨0, by unfold prevZ; rw [if_pos h0]; rfl, B_zero s, .inr ⟨rfl, h0⟩, fun j h1 h2 => by omega⟩
  · by_cases h1 : (s.size : Int) < i
    · refine ⟨s.size, ?_, B_end s, .inl h1, fun j h2 h3 => cb_out (.inr h2)⟩
      unfold prevZ downZ
      rw [if_neg h0]
      by_cases h2 : i - 1 ≤ 0
      · rw [if_pos h2]; omega
      · rw [if_neg h2, if_pos (by omega)]
    · obtain ⟨k, hk⟩ := Int.eq_ofNat_of_zero_le (show 0 ≤ i - 1 by omega)
      have hks : k < s.size := by omega
      have hd := dnF_Dn hks
      have hds : dnF s k < s.size := by have := hd.le; omega
      refine ⟨dnF s k, ?_, hd.bd, .inl (by have := hd.le; omega), fun j h2 h3 => ?_⟩
      · unfold prevZ
        rw [if_neg h0, hk]
        exact downZ_in hks hd
      · obtain ⟨q, rfl⟩ := Int.eq_ofNat_of_zero_le (show 0 ≤ j by omega)
        have := hd.gt
        exact cb_in hds (by omega) (by omega)
theorem pv_go {s : ByteArray} {i : Int} {m : Nat} (h : PvI s i m) (hc : cbZ s m = false) : ∃ m' : Nat, prevZ s m = m' ∧ m' < m ∧ PvI s i m' := by
  have h0 : m ≠ 0 := fun e => by subst e; have := cb_zero s; rw [show ((0 : Nat) : Int) = 0 from rfl] at hc; rw [this] at hc; cases hc
  obtain ⟨m', h1, h2⟩ := pv_start s m
  have hlt : m' < m := by rcases h2.dn with hu | ⟨_, hu⟩ <;> omega
  have hu : (m : Int) < i := by rcases h.dn with hu | ⟨hu, _⟩ <;> omega
  refine ⟨m', h1, hlt, h2.b, .inl (by omega), fun j h3 h4 => ?_⟩
  by_cases h5 : j < m
  · exact h2.no j h3 h5
  · by_cases h6 : j = m
    · rw [h6]; exact hc
    · exact h.no j (by omega) h4
theorem PvI.done {s : ByteArray} {i : Int} {m : Nat} (h : PvI s i m) (hc : cbZ s m = true) : IsPrev s i m := ⟨hc, h.dn, h.no⟩

/-- m is the least boundary that is at least i, or the end -/
structure IsSnap (s : ByteArray) (i : Int) (m : Nat) : Prop where
  cb : cbZ s m = true
  up : i ≤ m ∨ (m = s.size ∧ (s.size : Int) ≤ i)
  no : ∀ j : Int, i ≤ j → j < m → cbZ s j = false
theorem IsNext.snap {s : ByteArray} {i : Int} {m : Nat} (h : IsNext s i m) (hc : cbZ s i = false) : IsSnap s i m :=
  ⟨h.cb, h.up.imp (fun h => by omega) id, fun j h1 h2 => by
    by_cases e : j = i
    · rw [e]; exact hc
    · exact h.no j (by omega) h2⟩
theorem IsSnap.self {s : ByteArray} {m : Nat} (hc : cbZ s m = true) : IsSnap s m m := ⟨hc, .inl (Int.le_refl _), fun j h1 h2 => by omega⟩
theorem IsSnap.uniq {s : ByteArray} {i : Int} {m n : Nat} (h : IsSnap s i m) (k : IsSnap s i n) : m = n := by
  obtain ⟨_, e1, b1⟩ := cb_B h.cb
  obtain ⟨_, e2, b2⟩ := cb_B k.cb
  have hm : m ≤ s.size := by have := b1.1; omega
  have hn : n ≤ s.size := by have := b2.1; omega
  rcases Nat.lt_trichotomy m n with hlt | he | hlt
  · rcases h.up with hu | ⟨hu, hv⟩
    · have := k.no m hu (by omega); rw [h.cb] at this; cases this
    · omega
  · exact he
  · rcases k.up with hu | ⟨hu, hv⟩
    · have := h.no n hu (by omega); rw [k.cb] at this; cases this
    · omega

/-- between the ends of a cluster there is no boundary, and its end is one -/
def Sp (s : ByteArray) (c : Clu) : Prop := cbZ s c.to = true ∧ ∀ j : Int, (c.fr : Int) < j → j < c.to → cbZ s j = false
theorem clF_cb (s : ByteArray) : ∀ (f i p : Nat) (c : Clu), s.size - i ≤ f → B s p → p < s.size → i = p + sz s p → c.to = i → c.fr < i → (∀ j : Int, (c.fr : Int) < j → j < i → cbZ s j = false) → ∀ d ∈ clF s c (ch s p) (offs s i), Sp s d
  | f, i, p, c, hf, hp, hps, hip, hto, hfr, hno, d, hd => by
    have hb : B s i := by rw [hip]; exact B_next hp hps
    by_cases h : i < s.size
    · have h1 := sz_pos h
      cases f with
      | zero => omega
      | succ f =>
        have hcb := cb_at hp hps (by omega)
        rw [← hip] at hcb
        rw [offs_step h] at hd
        simp only [clF] at hd
        by_cases hj : jn (ch s p) (ch s i) = true
        · rw [if_pos hj] at hd
          rw [hj] at hcb
          refine clF_cb s f (i + sz s i) i (gro s c i) (by omega) hb h rfl (by show c.to + _ = _; omega) (by show c.fr < _; omega) (fun j h2 h3 => ?_) d hd
          have h2 : (c.fr : Int) < j := h2
          by_cases h4 : j < i
          · exact hno j h2 h4
          · by_cases h5 : j = i
            · rw [h5]; exact hcb
            · obtain ⟨q, rfl⟩ := Int.eq_ofNat_of_zero_le (show 0 ≤ j by omega)
              exact cb_in h (by omega) (by omega)
        · rw [if_neg hj] at hd
          rw [Bool.not_eq_true] at hj
          rw [hj] at hcb
          rcases List.mem_cons.1 hd with rfl | hd
          · exact ⟨by rw [hto]; exact hcb, fun j h2 h3 => hno j h2 (by omega)⟩
          · refine clF_cb s f (i + sz s i) i (beg s i) (by omega) hb h rfl rfl (by show i < _; omega) (fun j h2 h3 => ?_) d hd
            have h2 : (i : Int) < j := h2
            obtain ⟨q, rfl⟩ := Int.eq_ofNat_of_zero_le (show 0 ≤ j by omega)
            exact cb_in h (by omega) (by omega)
    · have hi : i = s.size := by have := hb.1; omega
      rw [offs_end (by omega)] at hd
      simp only [clF, List.mem_singleton] at hd
      subst hd
      exact ⟨by rw [hto, hi]; exact cb_end s, fun j h2 h3 => hno j h2 (by omega)⟩
theorem cl_cb (s : ByteArray) : ∀ d ∈ cl s, Sp s d := by
  intro d hd
  by_cases h : 0 < s.size
  · have h1 := sz_pos h
    unfold cl at hd
    rw [offs_step h] at hd
    refine clF_cb s s.size (0 + sz s 0) 0 (beg s 0) (by omega) (B_zero s) h rfl rfl (by show 0 < _; omega) (fun j h2 h3 => ?_) d hd
    have h2 : ((0 : Nat) : Int) < j := h2
    obtain ⟨q, rfl⟩ := Int.eq_ofNat_of_zero_le (show 0 ≤ j by omega)
    exact cb_in h (by omega) (by omega)
  · rw [cl_nil (by omega)] at hd; simp at hd
/-- what begins a cluster is a boundary -/
theorem tiled_fr {s : ByteArray} : ∀ {l : List Clu} {i j : Nat}, tiled i l j → cbZ s i = true → (∀ d ∈ l, Sp s d) → ∀ d ∈ l, cbZ s d.fr = true
  | [], _, _, _, _, _, d, hd => by simp at hd
  | c :: r, i, j, h, hi, hs, d, hd => by
    obtain ⟨h1, h2, h3⟩ := h
    rcases List.mem_cons.1 hd with rfl | hd
    · rw [h1]; exact hi
    · exact tiled_fr h3 (hs c (by simp)).1 (fun e he => hs e (by simp [he])) d hd
theorem cl_fr (s : ByteArray) : ∀ d ∈ cl s, cbZ s d.fr = true := tiled_fr (cl_tile s) (by exact cb_zero s) (cl_cb s)
end Go.Proofs.YtoijjkbnmicadaaDoor
