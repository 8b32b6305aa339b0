/-
  A text with capitals: the first unit of each word in its upper form, all else in its lower form; piece by piece. No program in this text; no conditions.
-/
import Derived.Test.YtoijjkbnmicadaaDoorWMathF
import Derived.Test.YtoijjkbnmicadaaDoorWMathC
namespace Go.Proofs.YtoijjkbnmicadaaDoor
open Bod Wid

/-- a piece that ends at a boundary has the units that the text has there -/
theorem un_sub {s : ByteArray} {a b k : Nat} (hb : B s b) (hk : a + k < b) : un (s.extract a b) k = un s (a + k) := by
  have h0 := hb.1
  have h1 := hb.2 (a + k) hk
  have e1 : s.extract a s.size = s.extract a b ++ s.extract b s.size := ByteArray.extract_eq_extract_append_extract b (by omega) h0
  have e2 := un_extract s a s.size k (Nat.le_refl _) (by omega) (.inr rfl)
  have hs : (s.extract a b).size = b - a := size_extract s a b h0
  rw [e1] at e2
  rw [← e2]
  refine un_left _ _ k (by omega) ?_
  have : sz (s.extract a b ++ s.extract b s.size) k = sz s (a + k) := by unfold sz; rw [e2]
  omega
theorem fs_sub {f : Int → Int} {s : ByteArray} {a b : Nat} (hb : B s b) : ∀ (n k : Nat), b - (a + k) ≤ n → a + k ≤ b → fs (fun _ => f) (s.extract a b) k (s.extract a b).size = fs (fun _ => f) s (a + k) b
  | n, k, hn, hk => by
    have h0 := hb.1
    have hs : (s.extract a b).size = b - a := size_extract s a b h0
    by_cases h : a + k < b
    · cases n with
      | zero => omega
      | succ n =>
        have hu := un_sub hb h
        have hz : sz (s.extract a b) k = sz s (a + k) := by unfold sz; rw [hu]
        have hc : ch (s.extract a b) k = ch s (a + k) := by unfold ch; rw [hu]
        have hp := sz_pos (s := s) (i := a + k) (by omega)
        have hle := hb.2 (a + k) h
        have hpc : pc (fun _ => f) (s.extract a b) k = pc (fun _ => f) s (a + k) := by
          unfold pc
          rw [hc]
          by_cases hn : ch s (a + k) < 0
          · rw [if_pos hn, if_pos hn]
            have hbt : bt (s.extract a b) k = bt s (a + k) := by rw [bt_extract, if_pos h]
            unfold bt at hbt
            rw [UInt8.toNat_inj.1 hbt]
          · rw [if_neg hn, if_neg hn]
        have ih := fs_sub (f := f) (a := a) hb n (k + sz s (a + k)) (by omega) (by omega)
        rw [fs_step (s := s.extract a b) (a := k) (by omega) (Nat.le_refl _), fs_step h h0, hz, hpc, ih, Nat.add_assoc]
    · rw [fs_nil (by omega), fs_nil (by omega)]
theorem fm_sub {f : Int → Int} {s : ByteArray} {a b : Nat} (hb : B s b) (hab : a ≤ b) : (fm (fun _ => f) (s.extract a b)).data.toList = fs (fun _ => f) s a b := by
  rw [fm_data, fs_sub hb b 0 (by omega) (by omega), Nat.add_zero]
theorem fs_congr {g h : Nat → Int → Int} {s : ByteArray} {b : Nat} (hb : b ≤ s.size) : ∀ (n a : Nat), b - a ≤ n → (∀ i, a ≤ i → i < b → g i = h i) → fs g s a b = fs h s a b
  | n, a, hn, hg => by
    by_cases ha : a < b
    · cases n with
      | zero => omega
      | succ n =>
        have hp := sz_pos (s := s) (i := a) (by omega)
        rw [fs_step ha hb, fs_step ha hb, fs_congr hb n (a + sz s a) (by omega) (fun i h1 h2 => hg i (by omega) h2)]
        congr 1
        unfold pc
        rw [hg a (Nat.le_refl _) ha]
    · rw [fs_nil (by omega), fs_nil (by omega)]

/-- the upper form where a word begins, the lower one elsewhere -/
def capG (ws : List (Nat × Nat)) (i : Nat) (c : Int) : Int := if ws.any (fun w => decide (w.1 = i)) then upc c else lowc c
theorem gd_cap (ws : List (Nat × Nat)) : Gd (capG ws) := fun i c => by
  unfold capG
  split
  · exact .inl rfl
  · exact .inr rfl
/-- behind k words, at d -/
structure CapI (s : ByteArray) (k d : Nat) : Prop where
  b : B s d
  pre : ∀ p ∈ (words s).take k, p.1 < d
  post : ∀ p ∈ (words s).drop k, d ≤ p.1
theorem capI_zero (s : ByteArray) : CapI s 0 0 := ⟨B_zero s, fun p h => by simp at h, fun p _ => Nat.zero_le _⟩
theorem word_B {s : ByteArray} {p : Nat × Nat} (h : p ∈ words s) : B s p.1 ∧ p.1 < s.size ∧ p.1 + sz s p.1 ≤ p.2 ∧ p.2 ≤ s.size ∧ B s p.2 := by
  obtain ⟨c1, c2⟩ := words_cb h
  obtain ⟨h1, h2⟩ := words_mem h
  obtain ⟨m, e, hB⟩ := cb_B c1
  obtain ⟨m2, e2, hB2⟩ := cb_B c2
  have : p.1 = m := by omega
  subst this
  have : p.2 = m2 := by omega
  subst this
  exact ⟨hB, by omega, hB2.2 _ h1, h2, hB2⟩
theorem words_lt {s : ByteArray} {i j : Nat} {p q : Nat × Nat} (hp : (words s)[i]? = some p) (hq : (words s)[j]? = some q) (h : i < j) : p.2 < q.1 := by
  have hs := words_sorted s
  obtain ⟨hi, ei⟩ := List.getElem?_eq_some_iff.1 hp
  obtain ⟨hj, ej⟩ := List.getElem?_eq_some_iff.1 hq
  have := List.pairwise_iff_getElem.1 hs i j hi hj h
  rw [ei, ej] at this
  exact this
theorem mem_take {α : Type} {l : List α} {k : Nat} {x : α} (h : x ∈ l.take k) : ∃ i, i < k ∧ l[i]? = some x := by
  obtain ⟨i, hi⟩ := List.mem_iff_getElem?.1 h
  have hlt := (List.getElem?_eq_some_iff.1 hi).1
  rw [List.length_take] at hlt
  exact ⟨i, by omega, by rwa [List.getElem?_take_of_lt (by omega)] at hi⟩
theorem mem_drop {α : Type} {l : List α} {k : Nat} {x : α} (h : x ∈ l.drop k) : ∃ i, k ≤ i ∧ l[i]? = some x := by
  obtain ⟨i, hi⟩ := List.mem_iff_getElem?.1 h
  rw [List.getElem?_drop] at hi
  exact ⟨k + i, by omega, hi⟩
theorem CapI.next {s : ByteArray} {k d : Nat} {p : Nat × Nat} (h : CapI s k d) (hp : (words s)[k]? = some p) : d ≤ p.1 ∧ CapI s (k + 1) (p.1 + sz s p.1) := by
  have hm : p ∈ words s := List.mem_of_getElem? hp
  obtain ⟨w1, w2, w3, w4, w5⟩ := word_B hm
  have hpos := sz_pos w2
  have hd : d ≤ p.1 := h.post p (by
    rw [List.drop_eq_getElem_cons (List.getElem?_eq_some_iff.1 hp).1]
    simp [(List.getElem?_eq_some_iff.1 hp).2])
  refine ⟨hd, B_next w1 w2, fun q hq => ?_, fun q hq => ?_⟩
  · obtain ⟨i, hi, hqi⟩ := mem_take hq
    by_cases e : i = k
    · subst e; rw [hp] at hqi; cases hqi; omega
    · have h1 := words_lt hqi hp (by omega)
      have := words_mem (List.mem_of_getElem? hqi)
      omega
  · obtain ⟨i, hi, hqi⟩ := mem_drop hq
    have := words_lt hp hqi (by omega)
    omega
theorem no_start {s : ByteArray} {k d i e : Nat} (h : CapI s k d) (hi : d ≤ i) (he : i < e) (hp : ∀ p, (words s)[k]? = some p → e ≤ p.1) : capG (words s) i = lowc := by
  funext c
  unfold capG
  rw [if_neg]
  rw [List.any_eq_true]
  rintro ⟨q, hq, hqi⟩
  have hqi : q.1 = i := by simpa using hqi
  obtain ⟨j, hj⟩ := List.mem_iff_getElem?.1 hq
  by_cases hjk : j < k
  · have := h.pre q (by
      rw [List.mem_iff_getElem?]
      exact ⟨j, by rwa [List.getElem?_take_of_lt hjk]⟩)
    omega
  · by_cases e2 : j = k
    · subst e2; have := hp q hj; omega
    · have hk : k < (words s).length := by have := (List.getElem?_eq_some_iff.1 hj).1; omega
      have hpk : (words s)[k]? = some (words s)[k] := List.getElem?_eq_getElem hk
      have h1 := hp _ hpk
      have h2 := words_lt hpk hj (by omega)
      have := words_mem (List.mem_of_getElem? hpk)
      omega
theorem at_start {s : ByteArray} {p : Nat × Nat} (h : p ∈ words s) : capG (words s) p.1 = upc := by
  funext c
  unfold capG
  rw [if_pos]
  rw [List.any_eq_true]
  exact ⟨p, h, by simp⟩
/-- one word more -/
theorem cap_step {s : ByteArray} {k d : Nat} {p : Nat × Nat} (h : CapI s k d) (hp : (words s)[k]? = some p) :
    fs (capG (words s)) s 0 (p.1 + sz s p.1) = fs (capG (words s)) s 0 d ++ fs (fun _ => lowc) s d p.1 ++ fs (fun _ => upc) s p.1 (p.1 + sz s p.1) := by
  have hm : p ∈ words s := List.mem_of_getElem? hp
  obtain ⟨w1, w2, w3, w4, w5⟩ := word_B hm
  obtain ⟨hd, hn⟩ := h.next hp
  have hz := sz_in w2
  rw [fs_app (b := p.1) w1 hz (Nat.zero_le _) (by omega), fs_app (b := d) h.b (by omega) (Nat.zero_le _) hd, fs_one w2, fs_one w2,
    fs_congr (g := capG (words s)) (h := fun _ => lowc) (by omega) p.1 d (by omega) (fun i h1 h2 => no_start h h1 h2 (fun q hq => by rw [hp] at hq; cases hq; exact Nat.le_refl _))]
  congr 1
  unfold pc
  rw [at_start hm]
theorem cap_end {s : ByteArray} {d : Nat} (h : CapI s (words s).length d) : (fm (capG (words s)) s).data.toList = fs (capG (words s)) s 0 d ++ fs (fun _ => lowc) s d s.size := by
  rw [fm_data, fs_app (b := d) h.b (Nat.le_refl _) (Nat.zero_le _) h.b.1,
    fs_congr (g := capG (words s)) (h := fun _ => lowc) (Nat.le_refl _) s.size d (by omega) (fun i h1 h2 => no_start h h1 h2 (fun q hq => by rw [List.getElem?_eq_none (Nat.le_refl _)] at hq; cases hq))]
end Go.Proofs.YtoijjkbnmicadaaDoor
