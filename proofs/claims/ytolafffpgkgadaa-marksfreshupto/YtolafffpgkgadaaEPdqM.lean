/-
  Plain facts for the library's pdqsortOrdered at bytes; its insertion sort said by ranges. Conditions: those of each theorem.
-/
import Derived.Test.YtolafffpgkgadaaEHeapB
namespace Go.Proofs.Ytolafffpgkgadaa
open Go.RowKit

theorem nth_app (A B : List Nat) (k : Nat) : nth (A ++ B) k = if k < A.length then nth A k else nth B (k - A.length) := by
  unfold nth
  rw [List.getD_eq_getElem?_getD, List.getElem?_append]
  split
  · rw [List.getD_eq_getElem?_getD]
  · rw [List.getD_eq_getElem?_getD]
theorem srt_nth {M : List Nat} (h : Srt M) {i j : Nat} (h1 : i < j) (h2 : j < M.length) : nth M i ≤ nth M j := by
  have := (List.pairwise_iff_getElem.1 h) i j (by omega) h2 h1
  have e1 := nth_get (xs := M) (k := i) (by omega)
  have e2 := nth_get (xs := M) (k := j) h2
  rw [List.getElem?_eq_getElem (by omega)] at e1
  rw [List.getElem?_eq_getElem h2] at e2
  rw [← Option.some.inj e1, ← Option.some.inj e2]
  exact this
theorem ins_rg (w : World) (g cap N : Nat) (xs : List Nat) (rest : List Value) (hN : xs.length = N) (hsz : N ≤ 1048576) (a b : Nat) (hab : a < b) (hb : b ≤ N) (h : Bx w g xs rest) :
    Calls Try.prog 57 #[.slice (some ⟨g, 0, none⟩) N cap, .int .i64 a, .int .i64 b] w fun e w' => e = .returned (.tuple #[]) ∧ ∃ ys, Rg w g a b xs rest ys w' ∧ SrtOn a b ys := by
  have sp := split3 xs (show a ≤ b by omega)
  have lA : (xs.take a).length = a := by rw [List.length_take]; omega
  have lM : ((xs.drop a).take (b - a)).length = b - a := by rw [List.length_take, List.length_drop]; omega
  refine (ins_any w g cap N (xs.take a) ((xs.drop a).take (b - a)) (xs.drop b) rest (by rw [← sp]; exact hN.symm) (by omega) a b lA (by omega) (fun e => by rw [e] at lM; simp at lM; omega) (by rw [← sp]; exact h)).mono ?_
  rintro e w' ⟨rfl, M', hp, hs, hbx, hg⟩
  have lM' : M'.length = b - a := hp.length_eq.trans lM
  have hnth : ∀ (M : List Nat), M.length = b - a → ∀ k, nth (xs.take a ++ M ++ xs.drop b) k = if k < a then nth xs k else if k < b then nth M (k - a) else nth xs k := fun M hM k => by
    rw [nth_app, nth_app, List.length_append, lA, hM]
    by_cases c1 : k < a
    · rw [if_pos (by omega), if_pos c1, if_pos c1, nth_take c1]
    · rw [if_neg c1, if_neg c1]
      by_cases c2 : k < b
      · rw [if_pos (by omega), if_pos c2]
      · rw [if_neg (by omega), if_neg c2, nth_drop]
        congr 1
        omega
  refine ⟨rfl, xs.take a ++ M' ++ xs.drop b, ⟨⟨?_, ?_, fun k hk => ?_⟩, hbx, hg⟩, fun i j h1 h2 h3 => ?_⟩
  · rw [List.length_append, List.length_append, lA, lM', List.length_drop]; omega
  · conv => rhs; rw [sp]
    exact List.Perm.append_right _ (List.Perm.append_left _ hp)
  · rw [hnth M' lM' k]
    by_cases c1 : k < a
    · rw [if_pos c1]
    · rw [if_neg c1, if_neg (by omega)]
  · rw [hnth M' lM' i, hnth M' lM' j, if_neg (by omega), if_pos (by omega), if_neg (by omega), if_pos h3]
    exact srt_nth hs (by omega) (by omega)
set_option maxRecDepth 100000 in
set_option maxHeartbeats 1000000 in
theorem ins_empty (w : World) (s : Value) (a : Nat) (ha : a ≤ 1048576) : Calls Try.prog 57 #[s, .int .i64 a, .int .i64 a] w fun e w' => e = .returned (.tuple #[]) ∧ w' = w := by
  go_enter Try.func57, Try.ntmps57
  go_wp2
  go_loopw [6] (fun vi wr => vi = .int .i64 ((a : Int) + 1) ∧ wr = w) (fun _ _ => 0)
  case atStart => exact ⟨rfl, rfl⟩
  case round =>
    obtain ⟨rfl, rfl⟩ := hrel
    have : ¬ ((a : Int) + 1 < (a : Int)) := by omega
    go_wp2
    go_end0
    exact ⟨rfl, rfl⟩
/-- what lies outside of [a', b') lies where it belongs -/
def Sep (a b a' b' : Nat) (ys : List Nat) : Prop := ∀ i j, a ≤ i → i < j → j < b → (i < a' ∨ b' ≤ j) → nth ys i ≤ nth ys j
theorem Sep.sub {a b a' b' : Nat} {ys zs : List Nat} (h : Sep a b a' b' ys) (hs : Sm a' b' ys zs) (hb : b' ≤ ys.length) (h1 : a ≤ a') (h2 : b' ≤ b) : Sep a b a' b' zs := fun i j hi hij hj hor => by
  have ex : ∀ k, a ≤ k → k < b → ∃ k', nth zs k = nth ys k' ∧ ((k < a' ∨ b' ≤ k) ∧ k' = k ∨ (a' ≤ k ∧ k < b') ∧ a' ≤ k' ∧ k' < b') := fun k _ _ => by
    by_cases c : k < a' ∨ b' ≤ k
    · exact ⟨k, hs.out k c, .inl ⟨c, rfl⟩⟩
    · obtain ⟨k', h3, h4, h5⟩ := hs.mem hb (k := k) (by omega) (by omega)
      exact ⟨k', h5, .inr ⟨by omega, h3, h4⟩⟩
  obtain ⟨i', e1, p1⟩ := ex i hi (by omega)
  obtain ⟨j', e2, p2⟩ := ex j (by omega) hj
  rw [e1, e2]
  exact h i' j' (by omega) (by omega) (by omega) (by omega)
theorem Sep.done {a b a' b' : Nat} {ys : List Nat} (h : Sep a b a' b' ys) (hs : SrtOn a' b' ys) : SrtOn a b ys := fun i j h1 h2 h3 => by
  by_cases c : i < a' ∨ b' ≤ j
  · exact h i j h1 h2 h3 c
  · exact hs i j (by omega) h2 (by omega)
/-- what lies right ahead is not above what lies within -/
def Pre (a b : Nat) (ys : List Nat) : Prop := 0 < a → ∀ k, a ≤ k → k < b → nth ys (a - 1) ≤ nth ys k
theorem Pre.sub {a b : Nat} {ys zs : List Nat} (h : Pre a b ys) (hs : Sm a b ys zs) (hb : b ≤ ys.length) : Pre a b zs := fun h0 k h1 h2 => by
  obtain ⟨k', h3, h4, h5⟩ := hs.mem hb h1 h2
  rw [h5, hs.out (a - 1) (.inl (by omega))]
  exact h h0 k' h3 h4
theorem Pre.now {a b a' b' : Nat} {ys : List Nat} (h : Pre a b ys) (hs : Sep a b a' b' ys) (h1 : a ≤ a') (h2 : b' ≤ b) : Pre a' b' ys := fun h0 k h3 h4 => by
  by_cases e : a' = a
  · subst e; exact h h0 k h3 (by omega)
  · exact hs (a' - 1) k (by omega) (by omega) (by omega) (.inl (by omega))
/-- the left side is sorted: on with the right one -/
theorem Sep.left {a b a' b' mid : Nat} {ys zs : List Nat} (h : Sep a b a' b' ys) (lo : ∀ k, a' ≤ k → k < mid → nth ys k < nth ys mid) (hi : ∀ k, mid < k → k < b' → nth ys mid ≤ nth ys k)
    (hz : Sm a' mid ys zs) (hs : SrtOn a' mid zs) (hb : b' ≤ ys.length) (h1 : a ≤ a') (h2 : b' ≤ b) (_h3 : a' ≤ mid) (h4 : mid < b') : Sep a b (mid + 1) b' zs := by
  have hz2 := h.sub (hz.mono (Nat.le_refl _) (show mid ≤ b' by omega)) hb h1 h2
  intro i j hi1 hij hj hor
  by_cases c : i < a' ∨ b' ≤ j
  · exact hz2 i j hi1 hij hj c
  · have hmid : nth zs mid = nth ys mid := hz.out mid (.inr (Nat.le_refl _))
    have low : ∀ k, a' ≤ k → k < mid → nth zs k ≤ nth ys mid := fun k k1 k2 => by
      obtain ⟨k', h5, h6, h7⟩ := hz.mem (by omega) k1 k2
      rw [h7]
      exact Nat.le_of_lt (lo k' h5 h6)
    have hig : ∀ k, mid < k → k < b' → nth ys mid ≤ nth zs k := fun k k1 k2 => by rw [hz.out k (.inr (by omega))]; exact hi k k1 k2
    by_cases e1 : i = mid
    · rw [e1, hmid]; exact hig j (by omega) (by omega)
    · have hil : i < mid := by omega
      by_cases e2 : j < mid
      · exact hs i j (by omega) hij e2
      · by_cases e3 : j = mid
        · rw [e3, hmid]; exact low i (by omega) hil
        · exact Nat.le_trans (low i (by omega) hil) (hig j (by omega) (by omega))
/-- the right side is sorted: on with the left one -/
theorem Sep.right {a b a' b' mid : Nat} {ys zs : List Nat} (h : Sep a b a' b' ys) (lo : ∀ k, a' ≤ k → k < mid → nth ys k < nth ys mid) (hi : ∀ k, mid < k → k < b' → nth ys mid ≤ nth ys k)
    (hz : Sm (mid + 1) b' ys zs) (hs : SrtOn (mid + 1) b' zs) (hb : b' ≤ ys.length) (h1 : a ≤ a') (h2 : b' ≤ b) (h3 : a' ≤ mid) (_h4 : mid < b') : Sep a b a' mid zs := by
  have hz2 := h.sub (hz.mono (show a' ≤ mid + 1 by omega) (Nat.le_refl _)) hb h1 h2
  intro i j hi1 hij hj hor
  by_cases c : i < a' ∨ b' ≤ j
  · exact hz2 i j hi1 hij hj c
  · have hmid : nth zs mid = nth ys mid := hz.out mid (.inl (by omega))
    have low : ∀ k, a' ≤ k → k < mid → nth zs k ≤ nth ys mid := fun k k1 k2 => by rw [hz.out k (.inl (by omega))]; exact Nat.le_of_lt (lo k k1 k2)
    have hig : ∀ k, mid < k → k < b' → nth ys mid ≤ nth zs k := fun k k1 k2 => by
      obtain ⟨k', h5, h6, h7⟩ := hz.mem hb (k := k) (by omega) k2
      rw [h7]
      exact hi k' (by omega) h6
    by_cases e1 : j = mid
    · rw [e1, hmid]; exact low i (by omega) (by omega)
    · by_cases e2 : mid < i
      · exact hs i j (by omega) hij (by omega)
      · by_cases e3 : i = mid
        · rw [e3, hmid]; exact hig j (by omega) (by omega)
        · exact Nat.le_trans (low i (by omega) (by omega)) (hig j (by omega) (by omega))
end Go.Proofs.Ytolafffpgkgadaa
