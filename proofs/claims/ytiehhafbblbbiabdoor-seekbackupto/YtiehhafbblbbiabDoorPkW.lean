/-
  The document's own package seek, and cells in plain words. Conditions: those of each theorem.
-/
import Derived.Test.YtiehhafbblbbiabDoorPkF
import Derived.Test.YtiehhafbblbbiabDoorPkK
namespace Go.Proofs.YtiehhafbblbbiabDoor
open Go.RowKit Go.Shelf Bod Wid

/-- an offset as it counts -/
def hld (s : ByteArray) (a : Int) : Nat := (min (max a 0) s.size).toNat
theorem cnL_take (k : Ck) (to : Int) {l : List Clu} {i : Nat} {c : Clu} (h : l[i]? = some c) : cnL k to (l.take (i + 1)) = cnL k to (l.take i) + sb k to c := by
  rw [List.take_add_one, h, cnL_app]
  simp [cnL]
theorem cnL_bdR (k : Ck) (to : Int) : ∀ {l : List Clu}, (∀ d ∈ l, 0 ≤ d.n ∧ d.n ≤ 2) → 0 ≤ cnL k to l ∧ cnL k to l ≤ 2 * l.length
  | [], _ => by simp [cnL]
  | c :: l, h => by
    have h1 := itm_n k (h c List.mem_cons_self)
    have h2 := cnL_bdR k to (l := l) (fun d hd => h d (List.mem_cons_of_mem _ hd))
    simp only [cnL, sb, List.length_cons]
    split <;> omega
/-- the cells of the clusters that end at a or ahead of it -/
def ceL (a : Int) : List Clu → Int
  | [] => 0
  | c :: l => (if (c.to : Int) ≤ a then c.n else 0) + ceL a l
theorem ceL_app (a : Int) : ∀ x y : List Clu, ceL a (x ++ y) = ceL a x + ceL a y
  | [], y => by simp [ceL]
  | c :: x, y => by simp only [List.cons_append, ceL]; rw [ceL_app a x y]; omega
theorem ceL_bd (a : Int) : ∀ {l : List Clu}, (∀ d ∈ l, 0 ≤ d.n ∧ d.n ≤ 2) → 0 ≤ ceL a l ∧ ceL a l ≤ 2 * l.length
  | [], _ => by simp [ceL]
  | c :: l, h => by
    have h1 := h c List.mem_cons_self
    have h2 := ceL_bd a (l := l) (fun d hd => h d (List.mem_cons_of_mem _ hd))
    simp only [ceL, List.length_cons]
    split <;> omega
end Go.Proofs.YtiehhafbblbbiabDoor
namespace Go.Proofs.YtiehhafbblbbiabDoor
open Go.RowKit Go.Shelf Bod Wid

/-- where the item begins that a number belongs to, with the error's number -/
def fnd (k : Ck) (s : ByteArray) (n : Int) : Int × Int := if 0 ≤ n ∧ n < tot k s then (pos k s n, 0) else (0, 1)
/-- of a cluster: also of the number of all -/
def fcl (s : ByteArray) (n : Int) : Int × Int := if n = tot .C s then (s.size, 0) else fnd .C s n
/-- of a line -/
def fli (s : ByteArray) (n : Int) : Int × Int := if n = 0 then (0, 0) else if 0 ≤ n - 1 ∧ n - 1 < tot .L s then (pos .L s (n - 1) + 1, 0) else (0, 1)
theorem srch_C (d : Nat) : ∀ (l : List Clu) (n : Nat) (c : Clu), l[n]? = some c → srch .C d n l = c.fr
  | [], n, c, h => by simp at h
  | x :: l, 0, c, h => by cases h; rfl
  | x :: l, n + 1, c, h => by
    have h1 : l[n]? = some c := h
    show (if ((n + 1 : Nat) : Int) < 1 then x.fr else srch .C d (((n + 1 : Nat) : Int) - 1) l) = c.fr
    rw [if_neg (by omega), show ((n + 1 : Nat) : Int) - 1 = (n : Int) by omega]
    exact srch_C d l n c h1
theorem ful_nonneg (k : Ck) : ∀ {l : List Clu}, (∀ d ∈ l, 0 ≤ d.n ∧ d.n ≤ 2) → 0 ≤ ful k l
  | [], _ => Int.le_refl 0
  | c :: l, h => by
    have h1 := itm_n k (h c List.mem_cons_self)
    have h2 := ful_nonneg k (l := l) (fun d hd => h d (List.mem_cons_of_mem _ hd))
    show 0 ≤ (itm k c).2 + ful k l
    omega
/-- line feeds ahead of a later offset are no fewer -/
theorem nlt_mono (s : ByteArray) {i j : Nat} (h : i ≤ j) : nlt s i ≤ nlt s j := by
  unfold nlt
  have e : s.data.toList.take i = (s.data.toList.take j).take i := by rw [List.take_take, Nat.min_eq_left h]
  rw [e]
  exact List.Sublist.countP_le (List.take_sublist _ _)
/-- the line feed that the number n - 1 belongs to -/
theorem pos_lf (s : ByteArray) {i : Nat} (hi : i < s.size) (h : bt s i = 10) : pos .L s (nlt s i) = i ∧ (nlt s i : Int) < tot .L s := by
  have e1 := nlt_step s i hi
  rw [if_pos h] at e1
  have e2 : nlt s (i + 1) ≤ nls s := by rw [← nlt_all (Nat.le_refl s.size)]; exact nlt_mono s hi
  have e3 : (nlt s i : Int) < tot .L s := by show _ < ((nls s : Nat) : Int); omega
  obtain ⟨p1, p2, p3⟩ := pos_ok .L s (n := (nlt s i : Int)) (by omega) e3
  generalize pos .L s (nlt s i) = p at *
  rw [cn_lf s (by omega)] at p1
  have p2 : (nlt s i : Int) < cn .L s ((p + 1 : Nat) : Int) := p2
  rw [cn_lf s (by omega)] at p2
  refine ⟨?_, e3⟩
  rcases Nat.lt_trichotomy p i with h1 | h1 | h1
  · have := nlt_mono s (show p + 1 ≤ i by omega); omega
  · exact h1
  · have := nlt_mono s (show i + 1 ≤ p by omega); omega
end Go.Proofs.YtiehhafbblbbiabDoor
namespace Go.Proofs.YtiehhafbblbbiabDoor
open Bod Wid

theorem cl_to (s : ByteArray) : ∀ c ∈ cl s, cbZ s c.to = true := fun c hc => (cl_cb s c hc).1
theorem ceL_zero (a : Int) : ∀ {l : List Clu}, (∀ c ∈ l, a < (c.to : Int)) → ceL a l = 0
  | [], _ => rfl
  | c :: l, h => by
    have h1 := h c List.mem_cons_self
    simp only [ceL]
    rw [if_neg (by omega), ceL_zero a (fun d hd => h d (List.mem_cons_of_mem _ hd))]
    rfl
theorem ceL_full (a : Int) : ∀ {l : List Clu}, (∀ c ∈ l, (c.to : Int) ≤ a) → ceL a l = ful .N l
  | [], _ => rfl
  | c :: l, h => by
    have h1 := h c List.mem_cons_self
    simp only [ceL, ful, itm]
    rw [if_pos h1, ceL_full a (fun d hd => h d (List.mem_cons_of_mem _ hd))]
/-- at a boundary -/
theorem ce_bd (s : ByteArray) {a : Nat} (ha : a ≤ s.size) (h : cbZ s (a : Int) = true) : ceL a (cl s) = cn .N s a := by
  obtain ⟨x, y, e, x1, _⟩ := split_at ha
  subst e
  rw [← x1] at h ⊢
  rw [cn_cut .N h, cn_end, Int.sub_self, cn_low .N y (Int.le_refl 0), Int.add_zero, cl_cut h, ceL_app, ceL_full _ (fun c hc => by have := cl_span hc; omega), ceL_zero, Int.add_zero]
  intro c hc
  obtain ⟨d, hd, rfl⟩ := List.mem_map.1 hc
  have := cl_span hd
  show ((x.size : Nat) : Int) < ((sh x.size d).to : Int)
  simp only [sh]
  omega
/-- inside a cluster, of a list -/
theorem ce_in (d a : Nat) : ∀ (l : List Clu) (i j : Nat), tiled i l j → i < a → a ≤ j → (∀ c ∈ l, c.to ≠ a) → ceL a l = cnL .N (srch .C d (cnL .C a l - 1) l) l ∧ 1 ≤ cnL .C a l ∧ i ≤ srch .C d (cnL .C a l - 1) l ∧ srch .C d (cnL .C a l - 1) l < j
  | [], i, j, ht, h1, h2, _ => by have : i = j := ht; omega
  | c :: l, i, j, ht, h1, h2, hn => by
    obtain ⟨t1, t2, t3⟩ := ht
    have hl : ∀ x ∈ l, x.fr < x.to ∧ c.to ≤ x.fr := fun x hx => by have := tiled_mem t3 x hx; omega
    have hne := hn c List.mem_cons_self
    have hcj : c.to ≤ j := tiled_le t3
    have e0 : sb .C (a : Int) c = 1 := if_pos (show (c.fr : Int) < a by omega)
    by_cases q : a < c.to
    · have z1 : cnL .C (a : Int) l = 0 := cnL_zero .C _ fun x hx => ⟨(hl x hx).1, by have := (hl x hx).2; omega⟩
      have e1 : cnL .C (a : Int) (c :: l) = 1 := by simp only [cnL]; rw [e0, z1]; rfl
      have e2 : srch .C d (cnL .C (a : Int) (c :: l) - 1) (c :: l) = c.fr := by rw [e1]; rfl
      have z2 : cnL .N (c.fr : Int) l = 0 := cnL_zero .N _ fun x hx => ⟨(hl x hx).1, by have := (hl x hx).2; omega⟩
      have z3 : ceL (a : Int) l = 0 := ceL_zero _ fun x hx => by have := hl x hx; omega
      have e3 : sb .N (c.fr : Int) c = 0 := if_neg (show ¬ (c.fr : Int) < c.fr by omega)
      rw [e2, e1]
      refine ⟨?_, by omega, by omega, by omega⟩
      simp only [ceL, cnL]
      rw [if_neg (by omega), z3, z2, e3]
    · obtain ⟨r1, r2, r3, r4⟩ := ce_in d a l c.to j t3 (by omega) h2 (fun x hx => hn x (List.mem_cons_of_mem _ hx))
      have e1 : cnL .C (a : Int) (c :: l) = 1 + cnL .C (a : Int) l := by simp only [cnL]; rw [e0]
      have e2 : srch .C d (cnL .C (a : Int) (c :: l) - 1) (c :: l) = srch .C d (cnL .C (a : Int) l - 1) l := by
        rw [e1, show 1 + cnL .C (a : Int) l - 1 = cnL .C (a : Int) l by omega]
        exact if_neg (show ¬ cnL .C (a : Int) l < 1 by omega)
      rw [e2, e1]
      generalize srch .C d (cnL .C (a : Int) l - 1) l = b at *
      have e3 : sb .N (b : Int) c = c.n := if_pos (show (c.fr : Int) < b by omega)
      refine ⟨?_, by omega, by omega, r4⟩
      simp only [ceL, cnL]
      rw [if_pos (by omega), e3, r1]
/-- .. of a text -/
theorem ce_no (s : ByteArray) {a : Nat} (ha : a ≤ s.size) (h : cbZ s (a : Int) = false) : ceL a (cl s) = cn .N s (pos .C s (cn .C s a - 1)) ∧ 0 ≤ cn .C s a - 1 ∧ cn .C s a - 1 < tot .C s ∧ pos .C s (cn .C s a - 1) < s.size := by
  have h0 : 0 < a := by
    apply Decidable.byContradiction
    intro hn
    have : a = 0 := by omega
    rw [this, show ((0 : Nat) : Int) = 0 from rfl, cb_zero] at h
    cases h
  obtain ⟨r1, r2, r3, r4⟩ := ce_in s.size a (cl s) 0 s.size (cl_tile s) h0 ha (fun c hc e => by have := cl_to s c hc; rw [e, h] at this; cases this)
  have hm := cn_mono .C s (show (a : Int) ≤ s.size by omega)
  rw [cn_end, ful_tot] at hm
  have r2 : 1 ≤ cn .C s a := r2
  exact ⟨r1, by omega, by omega, r4⟩
end Go.Proofs.YtiehhafbblbbiabDoor
