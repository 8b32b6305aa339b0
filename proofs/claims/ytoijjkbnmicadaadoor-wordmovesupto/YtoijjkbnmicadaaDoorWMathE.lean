/-
  Words cluster by cluster, as they are found from the left; the word that ends first above an offset, the one that begins last below it. No program in this text; no conditions.
-/
import Derived.Test.YtoijjkbnmicadaaDoorWMathB
import Derived.Test.YtoijjkbnmicadaaDoorCMathD
namespace Go.Proofs.YtoijjkbnmicadaaDoor
open Bod Wid

/-- one more cluster: it goes on with the last word, or begins one -/
def wst (p : Clu → Bool) (a : List (Nat × Nat)) (c : Clu) : List (Nat × Nat) :=
  if p c then (match a.getLast? with
    | some x => if x.2 = c.fr then a.dropLast ++ [(x.1, c.to)] else a ++ [(c.fr, c.to)]
    | none => a ++ [(c.fr, c.to)]) else a
def wac (p : Clu → Bool) (l : List Clu) : List (Nat × Nat) := l.foldl (wst p) []
theorem wac_snoc (p : Clu → Bool) (l : List Clu) (c : Clu) : wac p (l ++ [c]) = wst p (wac p l) c := by simp [wac]
theorem wst_no {p : Clu → Bool} {a : List (Nat × Nat)} {c : Clu} (h : p c = false) : wst p a c = a := by simp [wst, h]
theorem wst_on {p : Clu → Bool} {a : List (Nat × Nat)} {x : Nat} {c : Clu} (h : p c = true) : wst p (a ++ [(x, c.fr)]) c = a ++ [(x, c.to)] := by simp [wst, h]
theorem wst_new {p : Clu → Bool} {a : List (Nat × Nat)} {c : Clu} (h : p c = true) (hl : ∀ y, a.getLast? = some y → y.2 ≠ c.fr) : wst p a c = a ++ [(c.fr, c.to)] := by
  unfold wst
  rw [if_pos h]
  cases hy : a.getLast? with
  | none => rfl
  | some y => simp only; rw [if_neg (hl y hy)]
theorem wst_fold (p : Clu → Bool) : ∀ (l : List Clu) (i j : Nat), tiled i l j → (∀ a x, l.foldl (wst p) (a ++ [(x, i)]) = a ++ wrun p (some (x, i)) l) ∧ (∀ a, (∀ y, a.getLast? = some y → y.2 < i) → l.foldl (wst p) a = a ++ wrun p none l)
  | [], i, j, _ => ⟨fun a x => rfl, fun a _ => by simp [wrun]⟩
  | c :: r, i, j, h => by
    obtain ⟨h1, h2, h3⟩ := h
    obtain ⟨k1, k2⟩ := wst_fold p r c.to j h3
    subst h1
    refine ⟨fun a x => ?_, fun a ha => ?_⟩
    · by_cases hp : p c = true
      · rw [List.foldl_cons, wst_on hp, k1]
        simp [wrun, hp]
      · rw [Bool.not_eq_true] at hp
        rw [List.foldl_cons, wst_no hp, k2 _ (fun y hy => by simp at hy; rw [← hy]; exact h2)]
        simp [wrun, hp]
    · by_cases hp : p c = true
      · rw [List.foldl_cons, wst_new hp (fun y hy => by have := ha y hy; omega), k1]
        simp [wrun, hp]
      · rw [Bool.not_eq_true] at hp
        rw [List.foldl_cons, wst_no hp, k2 _ (fun y hy => by have := ha y hy; omega)]
        simp [wrun, hp]
theorem wac_eq (p : Clu → Bool) {l : List Clu} {i j : Nat} (h : tiled i l j) : wac p l = wsp p l := by
  have := (wst_fold p l i j h).2 [] (fun y hy => by cases hy)
  simpa [wac, wsp] using this
/-- where words lie -/
theorem wrun_mem (p : Clu → Bool) (lo : Nat) : ∀ (l : List Clu) (i j : Nat) (x : Option (Nat × Nat)), tiled i l j → lo ≤ i → (∀ y, x = some y → lo ≤ y.1 ∧ y.1 < y.2 ∧ y.2 ≤ i) → ∀ w ∈ wrun p x l, lo ≤ w.1 ∧ w.1 < w.2 ∧ w.2 ≤ j
  | [], i, j, none, _, _, _, w, hw => by simp [wrun] at hw
  | [], i, j, some y, h, _, hy, w, hw => by
    simp only [wrun, List.mem_singleton] at hw
    subst hw
    have := hy w rfl
    have : i = j := h
    omega
  | c :: r, i, j, none, h, hlo, _, w, hw => by
    obtain ⟨h1, h2, h3⟩ := h
    simp only [wrun] at hw
    split at hw
    · exact wrun_mem p lo r c.to j _ h3 (by omega) (fun y e => by cases e; exact ⟨by simp only; omega, by simp only; omega, Nat.le_refl _⟩) w hw
    · exact wrun_mem p lo r c.to j _ h3 (by omega) (fun y e => by cases e) w hw
  | c :: r, i, j, some x, h, hlo, hy, w, hw => by
    obtain ⟨h1, h2, h3⟩ := h
    have hx := hy x rfl
    have hj := tiled_le h3
    simp only [wrun] at hw
    split at hw
    · exact wrun_mem p lo r c.to j _ h3 (by omega) (fun y e => by cases e; exact ⟨hx.1, by simp only; omega, Nat.le_refl _⟩) w hw
    · rcases List.mem_cons.1 hw with rfl | hw
      · omega
      · exact wrun_mem p lo r c.to j _ h3 (by omega) (fun y e => by cases e) w hw
theorem wsp_mem (p : Clu → Bool) {l : List Clu} {i j : Nat} (h : tiled i l j) : ∀ w ∈ wsp p l, i ≤ w.1 ∧ w.1 < w.2 ∧ w.2 ≤ j := wrun_mem p i l i j none h (Nat.le_refl _) (fun y e => by cases e)
/-- words begin and end where clusters do -/
theorem wrun_ends (p : Clu → Bool) (P : Nat → Prop) : ∀ (l : List Clu) (x : Option (Nat × Nat)), (∀ c ∈ l, P c.fr ∧ P c.to) → (∀ y, x = some y → P y.1 ∧ P y.2) → ∀ w ∈ wrun p x l, P w.1 ∧ P w.2
  | [], none, _, _, w, hw => by simp [wrun] at hw
  | [], some y, _, hy, w, hw => by
    simp only [wrun, List.mem_singleton] at hw
    subst hw
    exact hy w rfl
  | c :: r, none, h, _, w, hw => by
    simp only [wrun] at hw
    split at hw
    · exact wrun_ends p P r _ (fun d hd => h d (by simp [hd])) (fun y e => by cases e; exact h c (by simp)) w hw
    · exact wrun_ends p P r _ (fun d hd => h d (by simp [hd])) (fun y e => by cases e) w hw
  | c :: r, some x, h, hy, w, hw => by
    simp only [wrun] at hw
    split at hw
    · exact wrun_ends p P r _ (fun d hd => h d (by simp [hd])) (fun y e => by cases e; exact ⟨(hy x rfl).1, (h c (by simp)).2⟩) w hw
    · rcases List.mem_cons.1 hw with rfl | hw
      · exact hy w rfl
      · exact wrun_ends p P r _ (fun d hd => h d (by simp [hd])) (fun y e => by cases e) w hw
theorem words_cb {s : ByteArray} {w : Nat × Nat} (h : w ∈ words s) : cbZ s w.1 = true ∧ cbZ s w.2 = true :=
  wrun_ends _ (fun i => cbZ s (i : Nat) = true) (cl s) none (fun c hc => ⟨cl_fr s c hc, (cl_cb s c hc).1⟩) (fun y e => by cases e) w h
theorem words_mem {s : ByteArray} {w : Nat × Nat} (h : w ∈ words s) : w.1 < w.2 ∧ w.2 ≤ s.size := (wsp_mem _ (cl_tile s) w h).2
/-- they lie one behind the other, apart -/
theorem wrun_sorted (p : Clu → Bool) : ∀ (l : List Clu) (i j : Nat) (x : Option (Nat × Nat)), tiled i l j → (∀ y, x = some y → y.1 < y.2 ∧ y.2 ≤ i) → (wrun p x l).Pairwise fun a b => a.2 < b.1
  | [], i, j, none, _, _ => by simp [wrun]
  | [], i, j, some y, h, _ => by simp [wrun]
  | c :: r, i, j, none, h, _ => by
    obtain ⟨h1, h2, h3⟩ := h
    simp only [wrun]
    split
    · exact wrun_sorted p r c.to j _ h3 (fun y e => by cases e; exact ⟨by simp only; omega, Nat.le_refl _⟩)
    · exact wrun_sorted p r c.to j _ h3 (fun y e => by cases e)
  | c :: r, i, j, some x, h, hy => by
    obtain ⟨h1, h2, h3⟩ := h
    have hx := hy x rfl
    simp only [wrun]
    split
    · exact wrun_sorted p r c.to j _ h3 (fun y e => by cases e; exact ⟨by simp only; omega, Nat.le_refl _⟩)
    · refine List.pairwise_cons.2 ⟨fun w hw => ?_, wrun_sorted p r c.to j _ h3 (fun y e => by cases e)⟩
      have := wrun_mem p c.to r c.to j none h3 (Nat.le_refl _) (fun y e => by cases e) w hw
      omega
theorem words_sorted (s : ByteArray) : (words s).Pairwise fun a b => a.2 < b.1 := wrun_sorted _ (cl s) 0 s.size none (cl_tile s) (fun y e => by cases e)

/-- the end of the first word that ends above a, or n -/
def aheadW (ws : List (Nat × Nat)) (n a : Nat) : Nat := ((ws.find? fun w => decide (a < w.2)).map (·.2)).getD n
/-- the beginning of the last word that begins below a, or 0 -/
def behindW (ws : List (Nat × Nat)) (a : Nat) : Nat := ((ws.map (·.1)).filter fun x => decide (x < a)).getLast?.getD 0
theorem find_head {ws : List (Nat × Nat)} {m : Nat} (h : ∀ w ∈ ws, m < w.2) : ws.find? (fun w => decide (m < w.2)) = ws.head? := by
  cases ws with
  | nil => rfl
  | cons w r => simp [h w (by simp)]
theorem find_past (p : Clu → Bool) : ∀ (a b : List Clu) (i m n : Nat) (x : Option (Nat × Nat)), tiled i a m → tiled m b n → (∀ y, x = some y → y.1 < y.2 ∧ y.2 = i) →
    ((wrun p x (a ++ b)).find? fun w => decide (m < w.2)).map (·.2) = (wrun p none b).head?.map (·.2)
  | [], b, i, m, n, none, _, hb, _ => by
    rw [List.nil_append, find_head (fun w hw => by have := wrun_mem p m b m n none hb (Nat.le_refl _) (fun y e => by cases e) w hw; omega)]
  | [], [], i, m, n, some x, ha, _, hx => by
    have : i = m := ha
    have := (hx x rfl).2
    simp [wrun]; omega
  | [], c :: r, i, m, n, some x, ha, hb, hx => by
    have e : i = m := ha
    obtain ⟨e1, e2⟩ := hx x rfl
    obtain ⟨h1, h2, h3⟩ := hb
    simp only [List.nil_append, wrun]
    split
    · rw [wrun_some, wrun_some]
      have hm := wrun_mem p m r c.to n (some (m, c.to)) h3 (by omega) (fun y e => by cases e; exact ⟨Nat.le_refl _, by simp only; omega, Nat.le_refl _⟩) (m, lastTo p c.to r) (by rw [wrun_some]; simp)
      simp [hm.2.1]
    · rw [List.find?_cons_of_neg (by simp; omega), find_head (fun w hw => by have := wrun_mem p c.to r c.to n none h3 (Nat.le_refl _) (fun y e => by cases e) w hw; omega)]
  | c :: a, b, i, m, n, none, ha, hb, _ => by
    obtain ⟨h1, h2, h3⟩ := ha
    simp only [List.cons_append, wrun]
    split
    · exact find_past p a b c.to m n _ h3 hb (fun y e => by cases e; exact ⟨by simp only; omega, rfl⟩)
    · exact find_past p a b c.to m n _ h3 hb (fun y e => by cases e)
  | c :: a, b, i, m, n, some x, ha, hb, hx => by
    obtain ⟨h1, h2, h3⟩ := ha
    obtain ⟨e1, e2⟩ := hx x rfl
    have hm := tiled_le h3
    simp only [List.cons_append, wrun]
    split
    · exact find_past p a b c.to m n _ h3 hb (fun y e => by cases e; exact ⟨by simp only; omega, rfl⟩)
    · rw [List.find?_cons_of_neg (by simp; omega)]
      exact find_past p a b c.to m n _ h3 hb (fun y e => by cases e)
/-- the beginnings of words in two parts -/
theorem starts_app (p : Clu → Bool) : ∀ (a b : List Clu) (i m n : Nat) (x : Option (Nat × Nat)), tiled i a m → tiled m b n → ∃ t, (wrun p x (a ++ b)).map (·.1) = (wrun p x a).map (·.1) ++ t ∧ ∀ y ∈ t, m ≤ y
  | [], b, i, m, n, none, _, hb => ⟨(wrun p none b).map (·.1), by simp [wrun], fun y hy => by
      obtain ⟨w, hw, rfl⟩ := List.mem_map.1 hy
      exact (wrun_mem p m b m n none hb (Nat.le_refl _) (fun y e => by cases e) w hw).1⟩
  | [], b, i, m, n, some x, ha, hb => ⟨(wrun p none (b.dropWhile p)).map (·.1), by simp [wrun_some, wrun], fun y hy => by
      obtain ⟨w, hw, rfl⟩ := List.mem_map.1 hy
      have : ∀ (l : List Clu) (m : Nat), tiled m l n → ∀ w ∈ wrun p none (l.dropWhile p), m ≤ w.1 := by
        intro l
        induction l with
        | nil => intro m _ w hw; simp [wrun] at hw
        | cons c r ih =>
          intro m h w hw
          obtain ⟨h1, h2, h3⟩ := h
          by_cases hp : p c = true
          · rw [List.dropWhile_cons_of_pos hp] at hw
            have := ih c.to h3 w hw
            omega
          · rw [List.dropWhile_cons_of_neg hp] at hw
            exact (wrun_mem p m (c :: r) m n none ⟨h1, h2, h3⟩ (Nat.le_refl _) (fun y e => by cases e) w hw).1
      exact this b m hb w hw⟩
  | c :: a, b, i, m, n, none, ha, hb => by
    obtain ⟨h1, h2, h3⟩ := ha
    simp only [List.cons_append, wrun]
    split
    · exact starts_app p a b c.to m n _ h3 hb
    · exact starts_app p a b c.to m n _ h3 hb
  | c :: a, b, i, m, n, some x, ha, hb => by
    obtain ⟨h1, h2, h3⟩ := ha
    simp only [List.cons_append, wrun]
    split
    · exact starts_app p a b c.to m n _ h3 hb
    · obtain ⟨t, h4, h5⟩ := starts_app p a b c.to m n none h3 hb
      exact ⟨t, by simp [h4], h5⟩
end Go.Proofs.YtoijjkbnmicadaaDoor
