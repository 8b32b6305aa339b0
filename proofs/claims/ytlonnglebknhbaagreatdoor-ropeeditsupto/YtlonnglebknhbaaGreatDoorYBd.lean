/-
  All boundaries of a text in one rising list, and what is looked up there: the next one, the one ahead, the one that is not below. No program in this text; no conditions.
-/
import Derived.Test.YtlonnglebknhbaaGreatDoorPkB
namespace Go.Proofs.YtlonnglebknhbaaGreatDoor
open Bod Wid

/-- all boundaries of a text, rising -/
def bds (s : ByteArray) : List Nat := 0 :: (cl s).map (·.to)
theorem bds_len (s : ByteArray) : (bds s).length = (cl s).length + 1 := by simp [bds]
theorem tiled_rise : ∀ {l : List Clu} {i j : Nat}, tiled i l j → (i :: l.map (·.to)).Pairwise (· < ·) ∧ j ∈ i :: l.map (·.to)
  | [], i, j, h => by have h : i = j := h; subst h; simp
  | c :: r, i, j, h => by
    obtain ⟨h1, h2, h3⟩ := h
    obtain ⟨h4, h5⟩ := tiled_rise h3
    refine ⟨?_, by simp only [List.map_cons]; exact List.mem_cons_of_mem _ h5⟩
    simp only [List.map_cons]
    refine List.pairwise_cons.2 ⟨fun x hx => ?_, h4⟩
    rcases List.mem_cons.1 hx with rfl | hx
    · exact h2
    · have := (List.pairwise_cons.1 h4).1 x hx
      omega
theorem tiled_has {s : ByteArray} : ∀ {l : List Clu} {i j k : Nat}, tiled i l j → (∀ d ∈ l, Sp s d) → i ≤ k → k ≤ j → cbZ s k = true → k ∈ i :: l.map (·.to)
  | [], i, j, k, h, _, h1, h2, _ => by have h : i = j := h; simp; omega
  | c :: r, i, j, k, h, hs, h1, h2, hc => by
    obtain ⟨h3, h4, h5⟩ := h
    by_cases e : k = i
    · simp [e]
    · by_cases e2 : k < c.to
      · have := (hs c (by simp)).2 k (by omega) (by omega)
        rw [hc] at this; cases this
      · simp only [List.map_cons]
        exact List.mem_cons_of_mem _ (tiled_has h5 (fun d hd => hs d (by simp [hd])) (by omega) h2 hc)
theorem bds_cb {s : ByteArray} {k : Nat} (h : k ∈ bds s) : cbZ s k = true := by
  rcases List.mem_cons.1 h with rfl | h
  · exact cb_zero s
  · obtain ⟨c, hc, rfl⟩ := List.mem_map.1 h
    exact (cl_cb s c hc).1
theorem bds_of {s : ByteArray} {i : Int} (h : cbZ s i = true) : ∃ k : Nat, i = k ∧ k ∈ bds s := by
  obtain ⟨k, rfl, hb⟩ := cb_B h
  exact ⟨k, rfl, tiled_has (cl_tile s) (cl_cb s) (Nat.zero_le _) hb.1 h⟩
theorem bds_end (s : ByteArray) : s.size ∈ bds s := (tiled_rise (cl_tile s)).2
theorem bds_lt {s : ByteArray} {i j a b : Nat} (h : i < j) (ha : (bds s)[i]? = some a) (hb : (bds s)[j]? = some b) : a < b := by
  obtain ⟨h1, rfl⟩ := List.getElem?_eq_some_iff.1 ha
  obtain ⟨h2, rfl⟩ := List.getElem?_eq_some_iff.1 hb
  exact List.pairwise_iff_getElem.1 (tiled_rise (cl_tile s)).1 i j h1 h2 h
theorem bds_at {s : ByteArray} {k : Nat} (h : k ∈ bds s) : ∃ j : Nat, (bds s)[j]? = some k := List.getElem?_of_mem h
theorem bds_le {s : ByteArray} {k : Nat} (h : k ∈ bds s) : k ≤ s.size := by
  have h1 := bds_cb h
  by_cases e : k ≤ s.size
  · exact e
  · rw [cb_out (.inr (by omega))] at h1; cases h1

theorem bd_found {s : ByteArray} {i : Int} {n b : Nat} (hb : (bds s)[n]? = some b) (e : (b : Int) = i) : cbZ s i = true := by
  rw [← e]; exact bds_cb (List.mem_of_getElem? hb)
theorem bd_none {s : ByteArray} {i : Int} {n : Nat} (hn : (bds s).length ≤ n) (hall : ∀ j c, j < n → (bds s)[j]? = some c → (c : Int) ≠ i) : cbZ s i = false := by
  cases h : cbZ s i with
  | false => rfl
  | true =>
    obtain ⟨k, rfl, hk⟩ := bds_of h
    obtain ⟨j, hj⟩ := bds_at hk
    exact absurd rfl (hall j k (by have := (List.getElem?_eq_some_iff.1 hj).1; omega) hj)
theorem next_found {s : ByteArray} {i : Int} {n b : Nat} (hb : (bds s)[n]? = some b) (hlt : i < b) (hall : ∀ j c, j < n → (bds s)[j]? = some c → (c : Int) ≤ i) : IsNext s i b :=
  ⟨bds_cb (List.mem_of_getElem? hb), .inl hlt, fun j h1 h2 => by
    cases h : cbZ s j with
    | false => rfl
    | true =>
      obtain ⟨k, rfl, hk⟩ := bds_of h
      obtain ⟨q, hq⟩ := bds_at hk
      rcases Nat.lt_trichotomy q n with h3 | rfl | h3
      · have := hall q k h3 hq; omega
      · rw [hb] at hq; cases hq; omega
      · have := bds_lt h3 hb hq; omega⟩
theorem next_none {s : ByteArray} {i : Int} {n : Nat} (hn : (bds s).length ≤ n) (hall : ∀ j c, j < n → (bds s)[j]? = some c → (c : Int) ≤ i) : IsNext s i s.size := by
  obtain ⟨q, hq⟩ := bds_at (bds_end s)
  have := hall q _ (by have := (List.getElem?_eq_some_iff.1 hq).1; omega) hq
  exact ⟨cb_end s, .inr ⟨rfl, this⟩, fun j h1 h2 => by omega⟩
theorem snap_found {s : ByteArray} {i : Int} {n b : Nat} (hb : (bds s)[n]? = some b) (hlt : i ≤ b) (hall : ∀ j c, j < n → (bds s)[j]? = some c → (c : Int) < i) : IsSnap s i b :=
  ⟨bds_cb (List.mem_of_getElem? hb), .inl hlt, fun j h1 h2 => by
    cases h : cbZ s j with
    | false => rfl
    | true =>
      obtain ⟨k, rfl, hk⟩ := bds_of h
      obtain ⟨q, hq⟩ := bds_at hk
      rcases Nat.lt_trichotomy q n with h3 | rfl | h3
      · have := hall q k h3 hq; omega
      · rw [hb] at hq; cases hq; omega
      · have := bds_lt h3 hb hq; omega⟩
theorem snap_none {s : ByteArray} {i : Int} {n : Nat} (hn : (bds s).length ≤ n) (hall : ∀ j c, j < n → (bds s)[j]? = some c → (c : Int) < i) : IsSnap s i s.size := by
  obtain ⟨q, hq⟩ := bds_at (bds_end s)
  have := hall q _ (by have := (List.getElem?_eq_some_iff.1 hq).1; omega) hq
  exact ⟨cb_end s, .inr ⟨rfl, by omega⟩, fun j h1 h2 => by omega⟩
theorem prev_found {s : ByteArray} {i : Int} {n b : Nat} (hb : (bds s)[n]? = some b) (hlt : (b : Int) < i) (hall : ∀ j c, n < j → (bds s)[j]? = some c → i ≤ (c : Int)) : IsPrev s i b :=
  ⟨bds_cb (List.mem_of_getElem? hb), .inl hlt, fun j h1 h2 => by
    cases h : cbZ s j with
    | false => rfl
    | true =>
      obtain ⟨k, rfl, hk⟩ := bds_of h
      obtain ⟨q, hq⟩ := bds_at hk
      rcases Nat.lt_trichotomy q n with h3 | rfl | h3
      · have := bds_lt h3 hq hb; omega
      · rw [hb] at hq; cases hq; omega
      · have := hall q k h3 hq; omega⟩
theorem prev_none {s : ByteArray} {i : Int} (hall : ∀ j c : Nat, (bds s)[j]? = some c → i ≤ (c : Int)) : IsPrev s i 0 := by
  have := hall 0 0 rfl
  exact ⟨cb_zero s, .inr ⟨rfl, by omega⟩, fun j h1 h2 => by omega⟩
end Go.Proofs.YtlonnglebknhbaaGreatDoor
