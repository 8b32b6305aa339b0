/-
  A rope's tree in plain words: balance, shape, parts, text by text. No program is walked in this text; no conditions.
-/
import Derived.Test.YtplieccalmkloaaGreatDoorMMath
import Derived.Test.YtplieccalmkloaaGreatDoorPkB
namespace Go.Proofs.YtplieccalmkloaaGreatDoor
open Bod Wid

inductive Tr where
  | leaf (s : ByteArray)
  | knot (l r : Tr)
def Tr.h : Tr → Nat
  | .leaf _ => 0
  | .knot l r => max l.h r.h + 1
def Tr.text : Tr → ByteArray
  | .leaf s => s
  | .knot l r => l.text ++ r.text
def Tr.lv : Tr → List ByteArray
  | .leaf s => [s]
  | .knot l r => l.lv ++ r.lv
def Tr.lp : Tr → Tr
  | .leaf s => .leaf s
  | .knot l _ => l
def Tr.rp : Tr → Tr
  | .leaf s => .leaf s
  | .knot _ r => r
def noB : ByteArray := ⟨#[]⟩
theorem noB_size : noB.size = 0 := rfl
theorem noB_of {s : ByteArray} (h : s.size = 0) : s = noB := by
  cases s with
  | mk d => simp [ByteArray.size] at h; subst h; rfl
theorem app_noB (a : ByteArray) : a ++ noB = a := ext_data (by rw [data_app]; simp [noB])
theorem noB_app (a : ByteArray) : noB ++ a = a := ext_data (by rw [data_app]; simp [noB])
/-- texts one behind the other -/
def jo : List ByteArray → ByteArray
  | [] => noB
  | x :: l => x ++ jo l
theorem jo_app : ∀ a b : List ByteArray, jo (a ++ b) = jo a ++ jo b
  | [], b => (noB_app _).symm
  | x :: a, b => by show x ++ jo (a ++ b) = x ++ jo a ++ jo b; rw [jo_app a b, app_assoc]
theorem jo_size : ∀ a b : List ByteArray, (jo (a ++ b)).size = (jo a).size + (jo b).size := fun a b => by rw [jo_app, size_app]
theorem jo_one (x : ByteArray) : jo [x] = x := app_noB x
theorem text_lv : ∀ t : Tr, t.text = jo t.lv
  | .leaf s => (app_noB s).symm
  | .knot l r => by show l.text ++ r.text = jo (l.lv ++ r.lv); rw [jo_app, text_lv l, text_lv r]
theorem lv_ne : ∀ t : Tr, t.lv ≠ []
  | .leaf s => by simp [Tr.lv]
  | .knot l r => by simp [Tr.lv, lv_ne l]
theorem rp_h {t : Tr} (h : 0 < t.h) : t.rp.h < t.h := by
  cases t with
  | leaf s => simp [Tr.h] at h
  | knot l r => simp only [Tr.rp, Tr.h]; omega
theorem lp_h {t : Tr} (h : 0 < t.h) : t.lp.h < t.h := by
  cases t with
  | leaf s => simp [Tr.h] at h
  | knot l r => simp only [Tr.lp, Tr.h]; omega
theorem knot_of {t : Tr} (h : 0 < t.h) : t = .knot t.lp t.rp := by
  cases t with
  | leaf s => simp [Tr.h] at h
  | knot l r => rfl
/-- a part of the left tree goes over to the right -/
def trR (l r : Tr) : Tr := if l.rp.h ≤ l.lp.h then .knot l.lp (.knot l.rp r) else .knot (.knot l.lp l.rp.lp) (.knot l.rp.rp r)
def trL (l r : Tr) : Tr := if r.lp.h ≤ r.rp.h then .knot (.knot l r.lp) r.rp else .knot (.knot l r.lp.lp) (.knot r.lp.rp r.rp)
def bal (l r : Tr) : Tr := if r.h + 1 < l.h then trR l r else if l.h + 1 < r.h then trL l r else .knot l r
/-- the tree of the leaves of both -/
def lnk (l r : Tr) : Tr :=
  if l.text.size = 0 then r else if r.text.size = 0 then l
  else if _h : r.h + 1 < l.h then bal l.lp (lnk l.rp r)
  else if _h : l.h + 1 < r.h then bal (lnk l r.lp) r.rp
  else .knot l r
termination_by l.h + r.h
decreasing_by
  · have := rp_h (t := l) (by omega); omega
  · have := lp_h (t := r) (by omega); omega
theorem lnk_l {l r : Tr} (h : l.text.size = 0) : lnk l r = r := by rw [lnk, if_pos h]
theorem lnk_r {l r : Tr} (h : l.text.size ≠ 0) (k : r.text.size = 0) : lnk l r = l := by rw [lnk, if_neg h, if_pos k]
theorem lnk_hi {l r : Tr} (h : l.text.size ≠ 0) (k : r.text.size ≠ 0) (m : r.h + 1 < l.h) : lnk l r = bal l.lp (lnk l.rp r) := by rw [lnk, if_neg h, if_neg k, dif_pos m]
theorem lnk_lo {l r : Tr} (h : l.text.size ≠ 0) (k : r.text.size ≠ 0) (m : l.h + 1 < r.h) : lnk l r = bal (lnk l r.lp) r.rp := by rw [lnk, if_neg h, if_neg k, dif_neg (by omega), dif_pos m]
theorem lnk_eq {l r : Tr} (h : l.text.size ≠ 0) (k : r.text.size ≠ 0) (m : ¬ r.h + 1 < l.h) (n : ¬ l.h + 1 < r.h) : lnk l r = .knot l r := by rw [lnk, if_neg h, if_neg k, dif_neg m, dif_neg n]

/-- balanced -/
def Avl : Tr → Prop
  | .leaf _ => True
  | .knot l r => Avl l ∧ Avl r ∧ l.h ≤ r.h + 1 ∧ r.h ≤ l.h + 1
theorem Avl.lp {t : Tr} (h : Avl t) : Avl t.lp := by
  cases t with
  | leaf s => trivial
  | knot l r => exact h.1
theorem Avl.rp {t : Tr} (h : Avl t) : Avl t.rp := by
  cases t with
  | leaf s => trivial
  | knot l r => exact h.2.1
theorem trR_le {a b r : Tr} (h : b.h ≤ a.h) : trR (.knot a b) r = .knot a (.knot b r) := if_pos h
theorem trR_gt {a c d r : Tr} (h : ¬ (Tr.knot c d).h ≤ a.h) : trR (.knot a (.knot c d)) r = .knot (.knot a c) (.knot d r) := if_neg h
theorem trL_le {a b l : Tr} (h : a.h ≤ b.h) : trL l (.knot a b) = .knot (.knot l a) b := if_pos h
theorem trL_gt {b c d l : Tr} (h : ¬ (Tr.knot c d).h ≤ b.h) : trL l (.knot (.knot c d) b) = .knot (.knot l c) (.knot d b) := if_neg h
theorem bal_R {l r : Tr} (h : r.h + 1 < l.h) : bal l r = trR l r := if_pos h
theorem bal_L {l r : Tr} (h : l.h + 1 < r.h) : bal l r = trL l r := by unfold bal; rw [if_neg (by omega), if_pos h]
theorem bal_M {l r : Tr} (h : ¬ r.h + 1 < l.h) (k : ¬ l.h + 1 < r.h) : bal l r = .knot l r := by unfold bal; rw [if_neg h, if_neg k]
theorem bal_ok {l r : Tr} (hl : Avl l) (hr : Avl r) (h1 : l.h ≤ r.h + 2) (h2 : r.h ≤ l.h + 2) : Avl (bal l r) ∧ max l.h r.h ≤ (bal l r).h ∧ (bal l r).h ≤ max l.h r.h + 1 ∧ (l.h ≤ r.h + 1 → r.h ≤ l.h + 1 → (bal l r).h = max l.h r.h + 1) := by
  by_cases h : r.h + 1 < l.h
  · rw [bal_R h]
    cases l with
    | leaf s => simp [Tr.h] at h
    | knot a b =>
      by_cases k : b.h ≤ a.h
      · rw [trR_le k]
        simp only [Avl, Tr.h] at *
        exact ⟨⟨hl.1, ⟨hl.2.1, hr, by omega, by omega⟩, by omega, by omega⟩, by omega, by omega, by omega⟩
      · cases b with
        | leaf s => simp [Tr.h] at k
        | knot c d =>
          rw [trR_gt k]
          simp only [Avl, Tr.h] at *
          exact ⟨⟨⟨hl.1, hl.2.1.1, by omega, by omega⟩, ⟨hl.2.1.2.1, hr, by omega, by omega⟩, by omega, by omega⟩, by omega, by omega, by omega⟩
  · by_cases h' : l.h + 1 < r.h
    · rw [bal_L h']
      cases r with
      | leaf s => simp [Tr.h] at h'
      | knot a b =>
        by_cases k : a.h ≤ b.h
        · rw [trL_le k]
          simp only [Avl, Tr.h] at *
          exact ⟨⟨⟨hl, hr.1, by omega, by omega⟩, hr.2.1, by omega, by omega⟩, by omega, by omega, by omega⟩
        · cases a with
          | leaf s => simp [Tr.h] at k
          | knot c d =>
            rw [trL_gt k]
            simp only [Avl, Tr.h] at *
            exact ⟨⟨⟨hl, hr.1.1, by omega, by omega⟩, ⟨hr.1.2.1, hr.2.1, by omega, by omega⟩, by omega, by omega⟩, by omega, by omega, by omega⟩
    · rw [bal_M h h']
      simp only [Avl, Tr.h] at *
      exact ⟨⟨hl, hr, by omega, by omega⟩, by omega, by omega, by intros; first | omega | trivial⟩
theorem bal_lv (l r : Tr) : (bal l r).lv = l.lv ++ r.lv := by
  by_cases h : r.h + 1 < l.h
  · rw [bal_R h]
    cases l with
    | leaf s => simp [Tr.h] at h
    | knot a b =>
      by_cases k : b.h ≤ a.h
      · rw [trR_le k]; simp [Tr.lv]
      · cases b with
        | leaf s => simp [Tr.h] at k
        | knot c d => rw [trR_gt k]; simp [Tr.lv]
  · by_cases h' : l.h + 1 < r.h
    · rw [bal_L h']
      cases r with
      | leaf s => simp [Tr.h] at h'
      | knot a b =>
        by_cases k : a.h ≤ b.h
        · rw [trL_le k]; simp [Tr.lv]
        · cases a with
          | leaf s => simp [Tr.h] at k
          | knot c d => rw [trL_gt k]; simp [Tr.lv]
    · rw [bal_M h h']; rfl
/-- no leaf is empty -/
def Pos (t : Tr) : Prop := ∀ x ∈ t.lv, 0 < x.size
theorem Pos.l {l r : Tr} (h : Pos (.knot l r)) : Pos l := fun x hx => h x (List.mem_append_left _ hx)
theorem Pos.r {l r : Tr} (h : Pos (.knot l r)) : Pos r := fun x hx => h x (List.mem_append_right _ hx)
theorem jo_len : ∀ (l : List ByteArray), (∀ x ∈ l, 0 < x.size) → l.length ≤ (jo l).size
  | [], _ => Nat.zero_le _
  | x :: l, h => by
    show l.length + 1 ≤ (x ++ jo l).size
    rw [size_app]
    have := jo_len l (fun y hy => h y (List.mem_cons_of_mem _ hy))
    have := h x List.mem_cons_self
    omega
theorem Pos.size {t : Tr} (h : Pos t) : t.lv.length ≤ t.text.size := by rw [text_lv]; exact jo_len _ h
theorem lv_pos (t : Tr) : 0 < t.lv.length := List.length_pos_iff.2 (lv_ne t)
theorem Pos.ne {t : Tr} (h : Pos t) : t.text.size ≠ 0 := by have := h.size; have := lv_pos t; omega
theorem h_lv : ∀ t : Tr, t.h < t.lv.length
  | .leaf s => by simp [Tr.h, Tr.lv]
  | .knot l r => by have := h_lv l; have := h_lv r; simp only [Tr.h, Tr.lv, List.length_append]; omega
theorem lnk_ok : ∀ (n : Nat) {l r : Tr}, l.h + r.h ≤ n → Pos l → Pos r → Avl l → Avl r → Avl (lnk l r) ∧ (lnk l r).h ≤ max l.h r.h + 1 ∧ max l.h r.h ≤ (lnk l r).h ∧ (lnk l r).lv = l.lv ++ r.lv
  | n, l, r, hn, pl, pr, hl, hr => by
    by_cases c : r.h + 1 < l.h
    · rw [lnk_hi pl.ne pr.ne c]
      cases l with
      | leaf s => simp [Tr.h] at c
      | knot o i =>
        cases n with
        | zero => simp [Tr.h] at hn
        | succ n =>
          have h' := hl
          simp only [Avl] at h'
          simp only [Tr.h] at c hn
          obtain ⟨q1, q2, q3, q4⟩ := lnk_ok n (l := i) (r := r) (by omega) pl.r pr h'.2.1 hr
          simp only [Tr.lp, Tr.rp, Tr.h, Tr.lv]
          obtain ⟨b1, b2, b3, b4⟩ := bal_ok h'.1 q1 (by omega) (by omega)
          refine ⟨b1, ?_, ?_, by rw [bal_lv, q4, List.append_assoc]⟩
          · omega
          · by_cases e : o.h ≤ (lnk i r).h + 1 ∧ (lnk i r).h ≤ o.h + 1
            · have := b4 e.1 e.2; omega
            · omega
    · by_cases d : l.h + 1 < r.h
      · rw [lnk_lo pl.ne pr.ne d]
        cases r with
        | leaf s => simp [Tr.h] at d
        | knot i o =>
          cases n with
          | zero => simp [Tr.h] at hn
          | succ n =>
            have h' := hr
            simp only [Avl] at h'
            simp only [Tr.h] at c d hn
            obtain ⟨q1, q2, q3, q4⟩ := lnk_ok n (l := l) (r := i) (by omega) pl pr.l hl h'.1
            simp only [Tr.lp, Tr.rp, Tr.h, Tr.lv]
            obtain ⟨b1, b2, b3, b4⟩ := bal_ok q1 h'.2.1 (by omega) (by omega)
            refine ⟨b1, ?_, ?_, by rw [bal_lv, q4, List.append_assoc]⟩
            · omega
            · by_cases e : (lnk l i).h ≤ o.h + 1 ∧ o.h ≤ (lnk l i).h + 1
              · have := b4 e.1 e.2; omega
              · omega
      · rw [lnk_eq pl.ne pr.ne c d]
        simp only [Avl, Tr.h, Tr.lv]
        exact ⟨⟨hl, hr, by omega, by omega⟩, by omega, by omega, by first | rfl | trivial⟩
/-- the leaves that count: none of the empty text -/
def Tr.ls (t : Tr) : List ByteArray := if t.text.size = 0 then [] else t.lv
/-- one empty leaf, or no empty leaf -/
def Fine (t : Tr) : Prop := t = .leaf noB ∨ Pos t
theorem Fine.ls_lv {t : Tr} (h : Fine t) (k : t.text.size ≠ 0) : Pos t ∧ t.ls = t.lv := by
  rcases h with rfl | h
  · exact absurd rfl k
  · exact ⟨h, if_neg k⟩
theorem ls_nil {t : Tr} (k : t.text.size = 0) : t.ls = [] := if_pos k
theorem ls_text (t : Tr) : jo t.ls = t.text := by
  unfold Tr.ls
  split
  · rename_i h; exact (noB_of h).symm
  · exact (text_lv t).symm
theorem lnk_fine {l r : Tr} (hl : Fine l) (hr : Fine r) (al : Avl l) (ar : Avl r) : Fine (lnk l r) ∧ Avl (lnk l r) ∧ (lnk l r).ls = l.ls ++ r.ls := by
  by_cases a : l.text.size = 0
  · rw [lnk_l a, ls_nil a]; exact ⟨hr, ar, rfl⟩
  by_cases b : r.text.size = 0
  · rw [lnk_r a b, ls_nil b]; exact ⟨hl, al, (List.append_nil _).symm⟩
  obtain ⟨p1, e1⟩ := hl.ls_lv a
  obtain ⟨p2, e2⟩ := hr.ls_lv b
  obtain ⟨q1, q2, q3, q4⟩ := lnk_ok _ (Nat.le_refl _) p1 p2 al ar
  have hp : Pos (lnk l r) := fun x hx => by
    rw [q4] at hx
    rcases List.mem_append.1 hx with h | h
    · exact p1 x h
    · exact p2 x h
  refine ⟨.inr hp, q1, ?_⟩
  rw [e1, e2, ← q4]
  exact if_neg hp.ne
theorem lnk_text {l r : Tr} (hl : Fine l) (hr : Fine r) (al : Avl l) (ar : Avl r) : (lnk l r).text = l.text ++ r.text := by
  rw [← ls_text, (lnk_fine hl hr al ar).2.2, jo_app, ls_text, ls_text]
theorem Fine.h_le {t : Tr} (h : Fine t) : t.h ≤ t.text.size := by
  rcases h with rfl | h
  · exact Nat.zero_le _
  · have := h.size; have := h_lv t; omega
theorem fine_no : Fine (.leaf noB) := .inl rfl
theorem Fine.knot {l r : Tr} (h : Fine (.knot l r)) : Pos l ∧ Pos r := by
  rcases h with h | h
  · cases h
  · exact ⟨h.l, h.r⟩

/-- Fibonacci: so many leaves has a balanced tree -/
def fib : Nat → Nat
  | 0 => 1
  | 1 => 2
  | n + 2 => fib (n + 1) + fib n
theorem fib_mono : ∀ n, fib n ≤ fib (n + 1)
  | 0 => by decide
  | 1 => by decide
  | n + 2 => by show fib (n + 1) + fib n ≤ fib (n + 2) + fib (n + 1); have := fib_mono (n + 1); have := fib_mono n; show fib (n + 1) + fib n ≤ (fib (n + 1) + fib n) + fib (n + 1); omega
theorem avl_fib : ∀ {t : Tr}, Avl t → fib t.h ≤ t.lv.length
  | .leaf s, _ => Nat.le_refl _
  | .knot l r, h => by
    obtain ⟨h1, h2, h3, h4⟩ := h
    have q1 := avl_fib h1
    have q2 := avl_fib h2
    simp only [Tr.h, Tr.lv, List.length_append]
    have key : ∀ a b : Nat, a ≤ b → b ≤ a + 1 → fib (b + 1) ≤ fib b + fib a := fun a b h1 h2 => by
      cases b with
      | zero =>
        obtain rfl : a = 0 := by omega
        decide
      | succ b =>
        show fib (b + 1) + fib b ≤ _
        have : fib b ≤ fib a := by
          rcases Nat.lt_or_ge b a with h | h
          · obtain rfl : a = b + 1 := by omega
            exact fib_mono b
          · obtain rfl : a = b := by omega
            exact Nat.le_refl _
        omega
    rcases Nat.le_total l.h r.h with h | h
    · rw [Nat.max_eq_right h]; have := key l.h r.h h h4; omega
    · rw [Nat.max_eq_left h]; have := key r.h l.h h h3; omega

/-- leaves laid together by halves -/
def tol (ls : List ByteArray) : Tr :=
  if h : ls.length / 2 = 0 then .leaf (ls.headD noB)
  else .knot (tol (ls.take (ls.length / 2))) (tol (ls.drop (ls.length / 2)))
termination_by ls.length
decreasing_by
  · simp; omega
  · simp; omega
theorem tol_one (x : ByteArray) : tol [x] = .leaf x := by rw [tol, dif_pos (by simp)]; rfl
theorem tol_two {ls : List ByteArray} (h : ls.length / 2 ≠ 0) : tol ls = .knot (tol (ls.take (ls.length / 2))) (tol (ls.drop (ls.length / 2))) := by rw [tol, dif_neg h]
theorem tol_lv : ∀ (n : Nat) {ls : List ByteArray}, ls.length ≤ n → ls ≠ [] → (tol ls).lv = ls
  | 0, ls, h, k => absurd (List.length_eq_zero_iff.1 (by omega)) k
  | n + 1, ls, h, k => by
    have hp := List.length_pos_iff.2 k
    by_cases e : ls.length / 2 = 0
    · match ls, k with
      | [x], _ => rw [tol_one]; rfl
      | x :: y :: l, _ => simp at e; omega
    · rw [tol_two e]
      have hh : ls.length / 2 < ls.length := by omega
      show (tol _).lv ++ (tol _).lv = _
      rw [tol_lv n (by rw [List.length_take]; omega) (by rw [ne_eq, ← List.length_eq_zero_iff, List.length_take]; omega), tol_lv n (by rw [List.length_drop]; omega) (by rw [ne_eq, ← List.length_eq_zero_iff, List.length_drop]; omega), List.take_append_drop]
def hh (n : Nat) : Nat := if h : n / 2 = 0 then 0 else max (hh (n / 2)) (hh (n - n / 2)) + 1
termination_by n
decreasing_by all_goals omega
theorem hh_two {n : Nat} (h : n / 2 ≠ 0) : hh n = max (hh (n / 2)) (hh (n - n / 2)) + 1 := by rw [hh, dif_neg h]
theorem hh_step : ∀ (k n : Nat), n ≤ k → 0 < n → hh n ≤ hh (n + 1) ∧ hh (n + 1) ≤ hh n + 1
  | 0, n, h, p => by omega
  | k + 1, n, h, p => by
    by_cases h1 : n = 1
    · subst h1
      have e1 : hh 1 = 0 := by rw [hh]; rfl
      have e2 : hh 2 = max (hh 1) (hh 1) + 1 := hh_two (by decide)
      rw [show 1 + 1 = 2 from rfl, e2, e1]; decide
    rw [hh_two (n := n) (by omega), hh_two (n := n + 1) (by omega)]
    rcases Nat.mod_two_eq_zero_or_one n with e | e
    · obtain ⟨m, rfl⟩ : ∃ m, n = 2 * m := ⟨n / 2, by omega⟩
      have q := hh_step k m (by omega) (by omega)
      rw [show 2 * m / 2 = m by omega, show (2 * m + 1) / 2 = m by omega, show 2 * m - m = m by omega, show 2 * m + 1 - m = m + 1 by omega]
      omega
    · obtain ⟨m, rfl⟩ : ∃ m, n = 2 * m + 1 := ⟨n / 2, by omega⟩
      have q := hh_step k m (by omega) (by omega)
      rw [show (2 * m + 1) / 2 = m by omega, show (2 * m + 1 + 1) / 2 = m + 1 by omega, show 2 * m + 1 - m = m + 1 by omega, show 2 * m + 1 + 1 - (m + 1) = m + 1 by omega]
      omega
theorem tol_avl : ∀ (n : Nat) {ls : List ByteArray}, ls.length ≤ n → Avl (tol ls) ∧ (tol ls).h = hh ls.length
  | n, ls, h => by
    by_cases e : ls.length / 2 = 0
    · rw [tol, dif_pos e, hh, dif_pos e]; exact ⟨trivial, rfl⟩
    · cases n with
      | zero => omega
      | succ n =>
        rw [tol_two e, hh_two e]
        obtain ⟨a1, a2⟩ := tol_avl n (ls := ls.take (ls.length / 2)) (by simp; omega)
        obtain ⟨b1, b2⟩ := tol_avl n (ls := ls.drop (ls.length / 2)) (by simp; omega)
        rw [List.length_take, Nat.min_eq_left (by omega)] at a2
        rw [List.length_drop] at b2
        simp only [Avl, Tr.h]
        rw [a2, b2]
        refine ⟨⟨a1, b1, ?_⟩, rfl⟩
        rcases Nat.mod_two_eq_zero_or_one ls.length with q | q
        · rw [show ls.length - ls.length / 2 = ls.length / 2 by omega]; omega
        · rw [show ls.length - ls.length / 2 = ls.length / 2 + 1 by omega]
          have := hh_step _ (ls.length / 2) (Nat.le_refl _) (by omega)
          omega
end Go.Proofs.YtplieccalmkloaaGreatDoor
namespace Go.Proofs.YtplieccalmkloaaGreatDoor
open Bod Wid

/-- a boundary far from both ends of a piece is one of the whole -/
theorem cb_mid {a x b : ByteArray} {i : Nat} (h0 : 4 ≤ i) (h1 : i + 4 ≤ x.size) : cbZ (a ++ (x ++ b)) ((a.size + i : Nat) : Int) = cbZ x (i : Int) := by
  refine cb_near (by omega) (by rw [size_app, size_app]; omega) (by omega) (by omega) (by omega) fun d h2 h3 => ?_
  rw [show a.size + i - d = a.size + (i - d) by omega, un_right, un_left4 _ _ _ (by omega)]
theorem cb_pre {x b : ByteArray} {i : Nat} (h0 : 4 ≤ i) (h1 : i + 4 ≤ x.size) : cbZ (x ++ b) (i : Int) = cbZ x (i : Int) := by
  have := cb_mid (a := noB) (b := b) h0 h1
  rwa [noB_app, noB_size, Nat.zero_add] at this
theorem cb_suf {a x : ByteArray} {i : Nat} (h0 : 4 ≤ i) (h1 : i + 4 ≤ x.size) : cbZ (a ++ x) ((a.size + i : Nat) : Int) = cbZ x (i : Int) := by
  have := cb_mid (a := a) (b := noB) h0 h1
  rwa [app_noB] at this
/-- a leaf may end between x and y -/
def Seam (x y : ByteArray) : Prop := cbZ (x ++ y) (x.size : Int) = true
/-- a leaf that is too long can't be cut -/
def Unc (x : ByteArray) : Prop := 64 < x.size → ∀ i : Nat, 32 ≤ i → i + 32 ≤ x.size → cbZ x (i : Int) = false
theorem seam_iff {u c d v : ByteArray} (h1 : 4 ≤ c.size) (h2 : 4 ≤ d.size) : Seam (u ++ c) (d ++ v) ↔ Seam c d := by
  unfold Seam
  have := cb_mid (a := u) (x := c ++ d) (b := v) (i := c.size) h1 (by rw [size_app]; omega)
  rw [show u ++ c ++ (d ++ v) = u ++ (c ++ d ++ v) by simp only [app_assoc], size_app, this]
/-- the first, the last 32 bytes in common -/
def Com (y z : ByteArray) : Prop := ∃ d v v', d.size = 32 ∧ y = d ++ v ∧ z = d ++ v'
def Coe (y z : ByteArray) : Prop := ∃ c u u', c.size = 32 ∧ y = u ++ c ∧ z = u' ++ c
theorem split_at {x : ByteArray} {n : Nat} (h : n ≤ x.size) : ∃ u v, x = u ++ v ∧ u.size = n ∧ v.size = x.size - n :=
  ⟨x.extract 0 n, x.extract n x.size, (extract_cut x n h).symm, by rw [size_extract _ _ _ h]; omega, by rw [size_extract _ _ _ (Nat.le_refl _)]⟩
theorem app_inj {a b c d : ByteArray} (h : a ++ b = c ++ d) (hs : a.size = c.size) : a = c ∧ b = d := by
  have e := congrArg (fun x : ByteArray => x.data.toList) h
  simp only [data_app] at e
  have hl : a.data.toList.length = c.data.toList.length := hs
  obtain ⟨e1, e2⟩ := List.append_inj e hl
  exact ⟨ext_data e1, ext_data e2⟩
theorem com_of {y z r : ByteArray} (h : y ++ r = z) (k : 32 ≤ y.size) : Com y z := by
  obtain ⟨u, v, e, e1, _⟩ := split_at k
  exact ⟨u, v, v ++ r, e1, e, by rw [← h, e, app_assoc]⟩
theorem coe_of {y z r : ByteArray} (h : r ++ y = z) (k : 32 ≤ y.size) : Coe y z := by
  obtain ⟨u, v, e, e1, e2⟩ := split_at (x := y) (n := y.size - 32) (by omega)
  exact ⟨v, u, r ++ u, by omega, e, by rw [← h, e, app_assoc]⟩
theorem Com.symm {y z : ByteArray} (h : Com y z) : Com z y := by obtain ⟨d, v, v', h1, h2, h3⟩ := h; exact ⟨d, v', v, h1, h3, h2⟩
theorem Coe.symm {y z : ByteArray} (h : Coe y z) : Coe z y := by obtain ⟨d, v, v', h1, h2, h3⟩ := h; exact ⟨d, v', v, h1, h3, h2⟩
theorem Com.trans {x y z : ByteArray} (h : Com x y) (k : Com y z) : Com x z := by
  obtain ⟨d, v, v', h1, h2, h3⟩ := h
  obtain ⟨e, u, u', k1, k2, k3⟩ := k
  rw [h3] at k2
  obtain ⟨rfl, _⟩ := app_inj k2 (by omega)
  exact ⟨d, v, u', h1, h2, k3⟩
theorem app_inj' {a b c d : ByteArray} (h : a ++ b = c ++ d) (hs : b.size = d.size) : a = c ∧ b = d := by
  have e := congrArg (fun x : ByteArray => x.size) h
  simp only [size_app] at e
  exact app_inj h (by omega)
theorem Coe.trans {x y z : ByteArray} (h : Coe x y) (k : Coe y z) : Coe x z := by
  obtain ⟨d, v, v', h1, h2, h3⟩ := h
  obtain ⟨e, u, u', k1, k2, k3⟩ := k
  rw [h3] at k2
  obtain ⟨_, rfl⟩ := app_inj' k2 (by omega)
  exact ⟨d, v, u', h1, h2, k3⟩
theorem Seam.com {x z y : ByteArray} (h : Seam x z) (hx : 32 ≤ x.size) (k : Com z y) : Seam x y := by
  obtain ⟨d, v, v', h1, rfl, rfl⟩ := k
  obtain ⟨u, c, e, _, e2⟩ := split_at (x := x) (n := x.size - 32) (by omega)
  subst e
  rw [seam_iff (by omega) (by omega)] at h ⊢
  exact h
theorem Seam.coe {x z y : ByteArray} (h : Seam x z) (hz : 32 ≤ z.size) (k : Coe x y) : Seam y z := by
  obtain ⟨c, u, u', h1, rfl, rfl⟩ := k
  obtain ⟨d, v, e, e1, _⟩ := split_at (x := z) (n := 32) hz
  subst e
  rw [seam_iff (by omega) (by omega)] at h ⊢
  exact h

/-- leaves one behind the other, in the shape -/
def Ch : List ByteArray → Prop
  | [] => True
  | [_] => True
  | x :: y :: l => Seam x y ∧ Ch (y :: l)
structure Sh (ls : List ByteArray) : Prop where
  sz : ls.length ≤ 1 ∨ ∀ x ∈ ls, 32 ≤ x.size
  un : ∀ x ∈ ls, Unc x
  ch : Ch ls
theorem Ch.tail {x : ByteArray} {l : List ByteArray} (h : Ch (x :: l)) : Ch l := by
  cases l with
  | nil => trivial
  | cons y l => exact h.2
theorem Ch.left : ∀ {a b : List ByteArray}, Ch (a ++ b) → Ch a
  | [], _, _ => trivial
  | [_], _, _ => trivial
  | _ :: y :: a, b, h => ⟨h.1, Ch.left (a := y :: a) (b := b) h.2⟩
theorem Ch.right : ∀ {a b : List ByteArray}, Ch (a ++ b) → Ch b
  | [], _, h => h
  | _ :: a, _, h => Ch.right (a := a) (Ch.tail h)
theorem Ch.seam : ∀ {a b : List ByteArray} {x y : ByteArray}, Ch (a ++ x :: y :: b) → Seam x y
  | [], _, _, _, h => h.1
  | _ :: a, _, _, _, h => Ch.seam (a := a) (Ch.tail h)
theorem Ch.app : ∀ {a b : List ByteArray} {x y : ByteArray}, Ch (a ++ [x]) → Ch (y :: b) → Seam x y → Ch (a ++ x :: y :: b)
  | [], _, _, _, _, h2, h3 => ⟨h3, h2⟩
  | [_], _, _, _, h1, h2, h3 => ⟨h1.1, h3, h2⟩
  | _ :: z' :: a, _, _, _, h1, h2, h3 => ⟨h1.1, Ch.app (a := z' :: a) h1.2 h2 h3⟩
theorem Sh.left {a b : List ByteArray} (h : Sh (a ++ b)) : Sh a :=
  ⟨h.sz.imp (fun h => by simp at h; omega) (fun h x hx => h x (List.mem_append_left _ hx)), fun x hx => h.un x (List.mem_append_left _ hx), h.ch.left⟩
theorem Sh.right {a b : List ByteArray} (h : Sh (a ++ b)) : Sh b :=
  ⟨h.sz.imp (fun h => by simp at h; omega) (fun h x hx => h x (List.mem_append_right _ hx)), fun x hx => h.un x (List.mem_append_right _ hx), h.ch.right⟩
theorem Sh.big {a b : List ByteArray} (h : Sh (a ++ b)) (ha : a ≠ []) (hb : b ≠ []) : ∀ x ∈ a ++ b, 32 ≤ x.size := by
  rcases h.sz with k | k
  · have := List.length_pos_iff.2 ha
    have := List.length_pos_iff.2 hb
    simp at k
    omega
  · exact k
theorem sh_nil : Sh [] := ⟨.inl (Nat.zero_le _), (fun x h => by cases h), trivial⟩
/-- what was cut anew, between leaves that stay -/
theorem sh_lay {L M R : List ByteArray} (hM : Sh M) (hm : ∀ x ∈ M, 0 < x.size)
    (hL : L = [] ∨ ∃ z rest, Sh (L ++ z :: rest) ∧ 32 ≤ (jo M).size ∧ Com z (jo M))
    (hR : R = [] ∨ ∃ z rest, Sh (rest ++ z :: R) ∧ 32 ≤ (jo M).size ∧ Coe z (jo M)) : Sh (L ++ M ++ R) := by
  have big : (L ≠ [] ∨ R ≠ []) → 32 ≤ (jo M).size ∧ M ≠ [] ∧ ∀ x ∈ M, 32 ≤ x.size := fun h => by
    have h1 : 32 ≤ (jo M).size := by
      rcases h with h | h
      · rcases hL with k | ⟨_, _, _, k, _⟩
        · exact absurd k h
        · exact k
      · rcases hR with k | ⟨_, _, _, k, _⟩
        · exact absurd k h
        · exact k
    have h2 : M ≠ [] := fun e => by rw [e] at h1; exact absurd h1 (by decide)
    refine ⟨h1, h2, ?_⟩
    rcases hM.sz with k | k
    · match M, h2, k with
      | [x], _, _ => intro y hy; rw [List.mem_singleton.1 hy]; rwa [jo_one] at h1
    · exact k
  have lm : Sh (L ++ M) := by
    rcases hL with rfl | ⟨z, rest, k1, k2, k3⟩
    · exact hM
    by_cases hLe : L = []
    · rw [hLe]; exact hM
    obtain ⟨_, b2, b3⟩ := big (.inl hLe)
    have bL := k1.big hLe (by simp)
    refine ⟨.inr fun x hx => ?_, fun x hx => ?_, ?_⟩
    · rcases List.mem_append.1 hx with h | h
      · exact bL x (List.mem_append_left _ h)
      · exact b3 x h
    · rcases List.mem_append.1 hx with h | h
      · exact k1.left.un x h
      · exact hM.un x h
    · obtain ⟨L', x, rfl⟩ : ∃ L' x, L = L' ++ [x] := ⟨L.dropLast, L.getLast hLe, (List.dropLast_concat_getLast hLe).symm⟩
      match M, b2, hM, b3, k3 with
      | y :: M, _, hM, b3, k3 =>
        rw [List.append_assoc]
        refine Ch.app k1.left.ch hM.ch ?_
        have s1 : Seam x z := by have := k1.ch; rw [List.append_assoc] at this; exact this.seam
        refine s1.com (bL x (by simp)) (k3.trans (Com.symm (com_of (r := jo M) rfl (b3 y List.mem_cons_self))))
  rcases hR with rfl | ⟨z, rest, k1, k2, k3⟩
  · rw [List.append_nil]; exact lm
  by_cases hRe : R = []
  · rw [hRe, List.append_nil]; exact lm
  obtain ⟨_, b2, b3⟩ := big (.inr hRe)
  have e1 : rest ++ z :: R = (rest ++ [z]) ++ R := by simp
  rw [e1] at k1
  have bR := k1.big (by simp) hRe
  have bLM : ∀ x ∈ L ++ M, 32 ≤ x.size := by
    rcases lm.sz with k | k
    · have hl0 : L = [] := by
        have := List.length_pos_iff.2 b2
        simp at k
        exact List.length_eq_zero_iff.1 (by omega)
      rw [hl0]; exact b3
    · exact k
  refine ⟨.inr fun x hx => ?_, fun x hx => ?_, ?_⟩
  · rcases List.mem_append.1 hx with h | h
    · exact bLM x h
    · exact bR x (List.mem_append_right _ h)
  · rcases List.mem_append.1 hx with h | h
    · exact lm.un x h
    · exact k1.right.un x h
  · obtain ⟨M', y, rfl⟩ : ∃ M' y, M = M' ++ [y] := ⟨M.dropLast, M.getLast b2, (List.dropLast_concat_getLast b2).symm⟩
    match R, hRe, k1, bR with
    | x :: R, _, k1, bR =>
      have hc := lm.ch
      rw [← List.append_assoc] at hc ⊢
      rw [List.append_assoc]
      refine Ch.app hc k1.right.ch ?_
      have s1 : Seam z x := by have := k1.ch; rw [List.append_assoc] at this; exact this.seam
      refine s1.coe (bR x (by simp)) (k3.trans (Coe.symm (coe_of (r := jo M') ?_ (b3 y (by simp)))))
      rw [jo_app, jo_one]

/-- the boundary ahead, the boundary behind -/
def pvC (s : ByteArray) : Nat → Nat
  | 0 => 0
  | i + 1 => if cbZ s (i : Int) then i else pvC s i
def nxF (s : ByteArray) : Nat → Nat → Nat
  | 0, _ => s.size
  | f + 1, i => if cbZ s ((i + 1 : Nat) : Int) then i + 1 else nxF s f (i + 1)
theorem pvC_is (s : ByteArray) : ∀ i : Nat, IsPrev s (i : Int) (pvC s i)
  | 0 => ⟨cb_zero s, .inr ⟨rfl, Int.le_refl _⟩, fun j h1 h2 => by simp only [pvC] at h1; omega⟩
  | i + 1 => by
    unfold pvC
    split
    · rename_i h; exact ⟨h, .inl (by omega), fun j h1 h2 => by omega⟩
    · rename_i h
      have q := pvC_is s i
      refine ⟨q.cb, .inl ?_, fun j h1 h2 => ?_⟩
      · rcases q.dn with h | ⟨h, _⟩ <;> omega
      · by_cases e : j = i
        · rw [e]; simpa using h
        · exact q.no j h1 (by omega)
theorem nxF_is (s : ByteArray) : ∀ f i : Nat, i < s.size → s.size - i ≤ f + 1 → IsNext s (i : Int) (nxF s f i)
  | 0, i, h, k => ⟨cb_end s, .inl (by simp only [nxF]; omega), fun j h1 h2 => by simp only [nxF] at h2; omega⟩
  | f + 1, i, h, k => by
    unfold nxF
    split
    · rename_i c; exact ⟨c, .inl (by omega), fun j h1 h2 => by omega⟩
    · rename_i c
      by_cases e : i + 1 < s.size
      · have q := nxF_is s f (i + 1) e (by omega)
        refine ⟨q.cb, .inl ?_, fun j h1 h2 => ?_⟩
        · rcases q.up with h | ⟨h, _⟩ <;> omega
        · by_cases e : j = ((i + 1 : Nat) : Int)
          · rw [e]; simpa using c
          · exact q.no j (by omega) h2
      · have e' : i + 1 = s.size := by omega
        rw [e'] at c
        exact absurd (cb_end s) c
def nxC (s : ByteArray) (i : Nat) : Nat := nxF s (s.size - i) i
theorem nxC_is {s : ByteArray} {i : Nat} (h : i < s.size) : IsNext s (i : Int) (nxC s i) := nxF_is s _ i h (by omega)
/-- where the first leaf of a text ends -/
def fe (s : ByteArray) : Nat :=
  if s.size ≤ 64 then s.size
  else if 32 ≤ pvC s (min 64 (s.size - 32) + 1) then pvC s (min 64 (s.size - 32) + 1)
  else if nxC s (min 64 (s.size - 32)) ≤ s.size - 32 then nxC s (min 64 (s.size - 32))
  else s.size
theorem fe_ok (s : ByteArray) : (fe s = s.size ∧ Unc s) ∨ (32 ≤ fe s ∧ fe s + 32 ≤ s.size ∧ cbZ s (fe s : Int) = true ∧ (64 < fe s → ∀ i : Nat, 32 ≤ i → i < fe s → cbZ s (i : Int) = false)) := by
  unfold fe
  split
  · exact .inl ⟨rfl, fun h => by omega⟩
  · have p := pvC_is s (min 64 (s.size - 32) + 1)
    have q := nxC_is (s := s) (i := min 64 (s.size - 32)) (by omega)
    have hp : (pvC s (min 64 (s.size - 32) + 1) : Int) ≤ min 64 (s.size - 32) := by rcases p.dn with h | ⟨h, _⟩ <;> omega
    have hq : ((min 64 (s.size - 32) : Nat) : Int) < nxC s (min 64 (s.size - 32)) := by rcases q.up with h | ⟨h, k⟩ <;> omega
    split
    · rename_i h
      exact .inr ⟨h, by omega, p.cb, fun h => by omega⟩
    · rename_i h
      have no : ∀ i : Nat, 32 ≤ i → i < nxC s (min 64 (s.size - 32)) → cbZ s (i : Int) = false := fun i h1 h2 => by
        rcases Nat.lt_or_ge (min 64 (s.size - 32)) i with k | k
        · exact q.no i (by omega) (by omega)
        · exact p.no i (by omega) (by omega)
      split
      · rename_i k
        exact .inr ⟨by omega, by omega, q.cb, fun _ => no⟩
      · exact .inl ⟨rfl, fun _ i h1 h2 => no i h1 (by omega)⟩
theorem fe_le (s : ByteArray) : fe s ≤ s.size := by rcases fe_ok s with h | h <;> omega
def cuts (s : ByteArray) : List ByteArray :=
  if _h : 0 < fe s ∧ fe s < s.size then s.extract 0 (fe s) :: cuts (s.extract (fe s) s.size) else [s]
termination_by s.size
decreasing_by rw [size_extract _ _ _ (Nat.le_refl _)]; omega
theorem cuts_end {s : ByteArray} (h : ¬ fe s < s.size) : cuts s = [s] := by rw [cuts, dif_neg (by omega)]
theorem cuts_on {s : ByteArray} (h : fe s < s.size) : cuts s = s.extract 0 (fe s) :: cuts (s.extract (fe s) s.size) := by
  rw [cuts, dif_pos ⟨by rcases fe_ok s with k | k <;> omega, h⟩]
theorem cuts_ok : ∀ (n : Nat) {s : ByteArray}, s.size ≤ n → jo (cuts s) = s ∧ cuts s ≠ [] ∧ Sh (cuts s) ∧ (0 < s.size → ∀ x ∈ cuts s, 0 < x.size)
  | n, s, hn => by
    by_cases h : fe s < s.size
    · cases n with
      | zero => omega
      | succ n =>
        obtain ⟨k1, k2, k3, k4⟩ : 32 ≤ fe s ∧ fe s + 32 ≤ s.size ∧ cbZ s (fe s : Int) = true ∧ (64 < fe s → ∀ i : Nat, 32 ≤ i → i < fe s → cbZ s (i : Int) = false) := by
          rcases fe_ok s with k | k
          · omega
          · exact k
        rw [cuts_on h]
        have e := extract_cut s (fe s) (by omega)
        have z1 := size_extract s 0 (fe s) (by omega)
        have z2 := size_extract s (fe s) s.size (Nat.le_refl _)
        obtain ⟨c1, c2, c3, c4⟩ := cuts_ok n (s := s.extract (fe s) s.size) (by omega)
        generalize s.extract 0 (fe s) = x at *
        generalize s.extract (fe s) s.size = r at *
        generalize cuts r = M at *
        have hb : ∀ y ∈ M, 32 ≤ y.size := by
          rcases c3.sz with k | k
          · match M, c2, k with
            | [y], _, _ => intro u hu; rw [List.mem_singleton.1 hu]; rw [jo_one] at c1; rw [c1]; omega
          · exact k
        refine ⟨by show x ++ jo M = s; rw [c1, e], by simp, ⟨.inr fun y hy => ?_, fun y hy => ?_, ?_⟩, fun _ y hy => ?_⟩
        · rcases List.mem_cons.1 hy with rfl | hy
          · omega
          · exact hb y hy
        · rcases List.mem_cons.1 hy with rfl | hy
          · intro g i g1 g2
            have := cb_pre (x := y) (b := r) (i := i) (by omega) (by omega)
            rw [e] at this
            rw [← this]
            exact k4 (by omega) i g1 (by omega)
          · exact c3.un y hy
        · match M, c2, c3, c1, hb with
          | y :: M, _, c3, c1, hb =>
            refine ⟨?_, c3.ch⟩
            have := cb_pre (x := x ++ y) (b := jo M) (i := x.size) (by omega) (by rw [size_app]; have := hb y (by simp); omega)
            rw [app_assoc, show y ++ jo M = r from c1, e, show x.size = fe s by omega] at this
            show cbZ (x ++ y) (x.size : Int) = true
            rw [show x.size = fe s by omega, ← this]
            exact k3
        · rcases List.mem_cons.1 hy with rfl | hy
          · omega
          · have := hb y hy; omega
    · rw [cuts_end h]
      refine ⟨jo_one s, by simp, ⟨.inl (by simp), fun x hx => ?_, trivial⟩, fun hp x hx => ?_⟩
      · rw [List.mem_singleton.1 hx]
        rcases fe_ok s with k | k
        · exact k.2
        · omega
      · rw [List.mem_singleton.1 hx]; exact hp
/-- the tree of a text -/
def tof (s : ByteArray) : Tr := tol (cuts s)
theorem tof_ok (s : ByteArray) : Fine (tof s) ∧ Avl (tof s) ∧ (tof s).text = s ∧ Sh (tof s).ls ∧ (tof s).lv = cuts s := by
  obtain ⟨c1, c2, c3, c4⟩ := cuts_ok _ (Nat.le_refl s.size)
  have e : (tof s).lv = cuts s := tol_lv _ (Nat.le_refl _) c2
  have ht : (tof s).text = s := by rw [text_lv, e, c1]
  refine ⟨?_, (tol_avl _ (Nat.le_refl _)).1, ht, ?_, e⟩
  · by_cases h : 0 < s.size
    · exact .inr fun x hx => by rw [e] at hx; exact c4 h x hx
    · left
      have hs : s = noB := noB_of (by omega)
      unfold tof
      rw [cuts_end (by have := fe_le s; omega), tol_one, hs]
  · unfold Tr.ls
    split
    · exact sh_nil
    · rw [e]; exact c3
end Go.Proofs.YtplieccalmkloaaGreatDoor
namespace Go.Proofs.YtplieccalmkloaaGreatDoor
open Bod Wid

theorem ext_left {a b : ByteArray} {n : Nat} (h : n ≤ a.size) : (a ++ b).extract 0 n = a.extract 0 n := by
  apply ext_data
  rw [data_extract', data_extract', data_app]
  simp only [List.drop_zero, Nat.sub_zero]
  exact List.take_append_of_le_length h
theorem ext_right {a b : ByteArray} {n : Nat} (h : a.size ≤ n) : (a ++ b).extract 0 n = a ++ b.extract 0 (n - a.size) := by
  apply ext_data
  rw [data_extract', data_app, data_app, data_extract']
  simp only [List.drop_zero, Nat.sub_zero]
  have hl : a.data.toList.length = a.size := rfl
  rw [List.take_append, List.take_of_length_le (by omega), hl]
theorem exd_left {a b : ByteArray} {n : Nat} (h : n ≤ a.size) : (a ++ b).extract n (a ++ b).size = a.extract n a.size ++ b := by
  apply ext_data
  rw [data_extract', data_app, data_app, data_extract', size_app]
  have hl : a.data.toList.length = a.size := rfl
  have hk : b.data.toList.length = b.size := rfl
  rw [List.drop_append_of_le_length (by omega), List.take_of_length_le (by simp; omega), List.take_of_length_le (by simp)]
theorem exd_right {a b : ByteArray} {n : Nat} (h : a.size ≤ n) : (a ++ b).extract n (a ++ b).size = b.extract (n - a.size) b.size := by
  apply ext_data
  rw [data_extract', data_app, data_extract', size_app]
  have hl : a.data.toList.length = a.size := rfl
  have hk : b.data.toList.length = b.size := rfl
  rw [List.drop_append, List.drop_eq_nil_of_le (by omega), List.nil_append, hl, List.take_of_length_le (by simp; omega), List.take_of_length_le (by simp)]
theorem ext_all (a : ByteArray) : a.extract 0 a.size = a := by
  apply ext_data
  rw [data_extract']
  simp only [List.drop_zero, Nat.sub_zero]
  exact List.take_of_length_le (Nat.le_refl _)
theorem exd_all (a : ByteArray) : a.extract a.size a.size = noB := noB_of (by rw [size_extract _ _ _ (Nat.le_refl _)]; omega)

/-- the leaves ahead of the byte just ahead of n, and that one's leaf up to n -/
def hdO : Tr → Nat → Tr × ByteArray
  | .leaf s, n => (.leaf noB, s.extract 0 n)
  | .knot l r, n => if n ≤ l.text.size then hdO l n else (lnk l (hdO r (n - l.text.size)).1, (hdO r (n - l.text.size)).2)
/-- the leaf of the byte at n from n on, and the leaves behind it -/
def tlO : Tr → Nat → ByteArray × Tr
  | .leaf s, n => (s.extract n s.size, .leaf noB)
  | .knot l r, n => if l.text.size ≤ n then tlO r (n - l.text.size) else ((tlO l n).1, lnk (tlO l n).2 r)
theorem ls_no : (Tr.leaf noB).ls = [] := rfl
theorem Pos.ls {t : Tr} (h : Pos t) : t.ls = t.lv := if_neg h.ne
theorem hdO_ok : ∀ {t : Tr} {n : Nat}, Fine t → Avl t → n ≤ t.text.size →
    Fine (hdO t n).1 ∧ Avl (hdO t n).1 ∧ (hdO t n).1.text ++ (hdO t n).2 = t.text.extract 0 n ∧
      ∃ z rest, t.lv = (hdO t n).1.ls ++ z :: rest ∧ (hdO t n).2 = z.extract 0 (hdO t n).2.size ∧ (hdO t n).2.size ≤ z.size ∧ (0 < n → 0 < (hdO t n).2.size) ∧ (n = t.text.size → (hdO t n).2 = z ∧ rest = [])
  | .leaf s, n, hf, ha, hn => by
    have hn : n ≤ s.size := hn
    have z := size_extract s 0 n hn
    refine ⟨fine_no, trivial, noB_app _, s, [], rfl, ?_, ?_, fun h => ?_, fun h => ⟨?_, rfl⟩⟩
    · show s.extract 0 n = s.extract 0 (s.extract 0 n).size
      rw [z, Nat.sub_zero]
    · show (s.extract 0 n).size ≤ _; omega
    · show 0 < (s.extract 0 n).size; omega
    · have h : n = s.size := h
      show s.extract 0 n = s
      rw [h, ext_all]
  | .knot l r, n, hf, ha, hn => by
    obtain ⟨pl, pr⟩ := hf.knot
    obtain ⟨al, ar, _, _⟩ := ha
    have hn : n ≤ (l.text ++ r.text).size := hn
    rw [size_app] at hn
    have tx : (Tr.knot l r).text = l.text ++ r.text := rfl
    by_cases h : n ≤ l.text.size
    · have e : hdO (.knot l r) n = hdO l n := by rw [hdO, if_pos h]
      rw [e]
      obtain ⟨q1, q2, q3, z, rest, q4, q5, q6, q7, q8⟩ := hdO_ok (t := l) (n := n) (.inr pl) al h
      refine ⟨q1, q2, by rw [q3, tx, ext_left h], z, rest ++ r.lv, by show l.lv ++ r.lv = _; rw [q4]; simp, q5, q6, q7, fun hk => ?_⟩
      rw [tx, size_app] at hk
      have := pr.size
      have := lv_pos r
      omega
    · have e : hdO (.knot l r) n = (lnk l (hdO r (n - l.text.size)).1, (hdO r (n - l.text.size)).2) := by rw [hdO, if_neg h]
      rw [e]
      obtain ⟨q1, q2, q3, z, rest, q4, q5, q6, q7, q8⟩ := hdO_ok (t := r) (n := n - l.text.size) (.inr pr) ar (by omega)
      obtain ⟨f1, f2, f3⟩ := lnk_fine (.inr pl) q1 al q2
      refine ⟨f1, f2, ?_, z, rest, ?_, q5, q6, fun _ => q7 (by omega), fun hk => q8 ?_⟩
      · show (lnk l _).text ++ _ = _
        rw [lnk_text (.inr pl) q1 al q2, app_assoc, q3, tx, ext_right (by omega)]
      · show l.lv ++ r.lv = (lnk l _).ls ++ _
        rw [f3, pl.ls, List.append_assoc, ← q4]
      · rw [tx, size_app] at hk; omega
theorem tlO_ok : ∀ {t : Tr} {n : Nat}, Fine t → Avl t → n ≤ t.text.size →
    Fine (tlO t n).2 ∧ Avl (tlO t n).2 ∧ (tlO t n).1 ++ (tlO t n).2.text = t.text.extract n t.text.size ∧
      ∃ z rest, t.lv = rest ++ z :: (tlO t n).2.ls ∧ (∃ k, (tlO t n).1 = z.extract k z.size) ∧ (tlO t n).1.size ≤ z.size ∧ (n < t.text.size → 0 < (tlO t n).1.size) ∧ (n = 0 → (tlO t n).1 = z ∧ rest = [])
  | .leaf s, n, hf, ha, hn => by
    have hn : n ≤ s.size := hn
    have z := size_extract s n s.size (Nat.le_refl _)
    refine ⟨fine_no, trivial, app_noB _, s, [], rfl, ⟨n, rfl⟩, ?_, fun h => ?_, fun h => ⟨?_, rfl⟩⟩
    · show (s.extract n s.size).size ≤ _; omega
    · have h : n < s.size := h
      show 0 < (s.extract n s.size).size; omega
    · show s.extract n s.size = s
      rw [h, ext_all]
  | .knot l r, n, hf, ha, hn => by
    obtain ⟨pl, pr⟩ := hf.knot
    obtain ⟨al, ar, _, _⟩ := ha
    have hn : n ≤ (l.text ++ r.text).size := hn
    rw [size_app] at hn
    have tx : (Tr.knot l r).text = l.text ++ r.text := rfl
    by_cases h : l.text.size ≤ n
    · have e : tlO (.knot l r) n = tlO r (n - l.text.size) := by rw [tlO, if_pos h]
      rw [e]
      obtain ⟨q1, q2, q3, z, rest, q4, q5, q6, q7, q8⟩ := tlO_ok (t := r) (n := n - l.text.size) (.inr pr) ar (by omega)
      refine ⟨q1, q2, by rw [q3, tx, exd_right h], z, l.lv ++ rest, by show l.lv ++ r.lv = _; rw [q4]; simp, q5, q6, fun hk => q7 ?_, fun hk => ?_⟩
      · rw [tx, size_app] at hk; omega
      · have := pl.size
        have := lv_pos l
        omega
    · have e : tlO (.knot l r) n = ((tlO l n).1, lnk (tlO l n).2 r) := by rw [tlO, if_neg h]
      rw [e]
      obtain ⟨q1, q2, q3, z, rest, q4, q5, q6, q7, q8⟩ := tlO_ok (t := l) (n := n) (.inr pl) al (by omega)
      obtain ⟨f1, f2, f3⟩ := lnk_fine q1 (.inr pr) q2 ar
      refine ⟨f1, f2, ?_, z, rest, ?_, q5, q6, fun _ => q7 (by omega), q8⟩
      · show _ ++ (lnk _ r).text = _
        rw [lnk_text q1 (.inr pr) q2 ar, ← app_assoc, q3, tx, exd_left (by omega)]
      · show l.lv ++ r.lv = _ ++ _ :: (lnk _ r).ls
        rw [f3, pr.ls, q4]
        simp
/-- a rope's tree as the chapter wants it -/
structure Good (t : Tr) : Prop where
  fine : Fine t
  avl : Avl t
  sh : Sh t.ls
theorem good_no : Good (.leaf noB) := ⟨fine_no, trivial, sh_nil⟩
theorem tof_good (s : ByteArray) : Good (tof s) := by obtain ⟨h1, h2, _, h4, _⟩ := tof_ok s; exact ⟨h1, h2, h4⟩
theorem tof_text (s : ByteArray) : (tof s).text = s := (tof_ok s).2.2.1
def bef (t : Tr) (n : Nat) : Tr × ByteArray := if 32 ≤ (hdO t n).2.size then hdO t n else ((hdO (hdO t n).1 (hdO t n).1.text.size).1, (hdO (hdO t n).1 (hdO t n).1.text.size).2 ++ (hdO t n).2)
def aft (t : Tr) (n : Nat) : ByteArray × Tr := if 32 ≤ (tlO t n).1.size then tlO t n else ((tlO t n).1 ++ (tlO (tlO t n).2 0).1, (tlO (tlO t n).2 0).2)
theorem com_ext {z : ByteArray} {n : Nat} {a : ByteArray} (e : a = z.extract 0 n) (h : 32 ≤ a.size) : Com z a := by
  rcases Nat.lt_or_ge z.size n with g | g
  · have : a = z := by
      rw [e]
      apply ext_data
      rw [data_extract']
      have hl : z.data.toList.length = z.size := rfl
      simp only [List.drop_zero, Nat.sub_zero]
      exact List.take_of_length_le (by omega)
    rw [this] at h ⊢
    exact com_of (app_noB z) h
  · refine Com.symm (com_of (r := z.extract n z.size) ?_ h)
    rw [e, extract_cut z n g]
theorem coe_ext {z : ByteArray} {n : Nat} {a : ByteArray} (e : a = z.extract n z.size) (h : 32 ≤ a.size) : Coe z a := by
  rcases Nat.lt_or_ge z.size n with g | g
  · have := size_extract z n z.size (Nat.le_refl _)
    rw [← e] at this
    omega
  · refine Coe.symm (coe_of (r := z.extract 0 n) ?_ h)
    rw [e, extract_cut z n g]
theorem Good.sh_lv {t : Tr} (h : Good t) (k : t.text.size ≠ 0) : Sh t.lv ∧ Pos t := by
  obtain ⟨h1, h2⟩ := h.fine.ls_lv k
  have := h.sh
  rw [h2] at this
  exact ⟨this, h1⟩
theorem bef_ok {t : Tr} {n : Nat} (h : Good t) (hn : n ≤ t.text.size) :
    Fine (bef t n).1 ∧ Avl (bef t n).1 ∧ (bef t n).1.text ++ (bef t n).2 = t.text.extract 0 n ∧
      ((bef t n).1.ls = [] ∨ ∃ z rest, Sh ((bef t n).1.ls ++ z :: rest) ∧ 32 ≤ (bef t n).2.size ∧ Com z (bef t n).2) := by
  obtain ⟨q1, q2, q3, z, rest, q4, q5, q6, q7, _⟩ := hdO_ok h.fine h.avl hn
  by_cases hz : t.text.size = 0
  · have hn0 : n = 0 := by omega
    have ht : t = .leaf noB := by
      rcases h.fine with k | k
      · exact k
      · exact absurd hz k.ne
    subst ht
    subst hn0
    have e : bef (.leaf noB) 0 = (.leaf noB, noB) := by
      have e0 : hdO (.leaf noB) 0 = (.leaf noB, noB) := by show (Tr.leaf noB, noB.extract 0 0) = _; rw [show noB.extract 0 0 = noB from ext_all noB]
      unfold bef
      rw [e0, if_neg (by decide)]
      show ((hdO (.leaf noB) 0).1, (hdO (.leaf noB) 0).2 ++ noB) = _
      rw [e0, app_noB]
    rw [e]
    exact ⟨fine_no, trivial, by show noB ++ noB = noB.extract 0 0; rw [app_noB]; exact (ext_all noB).symm, .inl rfl⟩
  obtain ⟨s1, p1⟩ := h.sh_lv hz
  by_cases c : 32 ≤ (hdO t n).2.size
  · have e : bef t n = hdO t n := if_pos c
    rw [e]
    exact ⟨q1, q2, q3, .inr ⟨z, rest, by rw [← q4]; exact s1, c, com_ext q5 c⟩⟩
  · have e : bef t n = ((hdO (hdO t n).1 (hdO t n).1.text.size).1, (hdO (hdO t n).1 (hdO t n).1.text.size).2 ++ (hdO t n).2) := if_neg c
    rw [e]
    generalize hdO t n = A at *
    obtain ⟨r1, r2, r3, y, rest', r4, r5, r6, r7, r8⟩ := hdO_ok q1 q2 (Nat.le_refl A.1.text.size)
    rw [ext_all] at r3
    refine ⟨r1, r2, ?_, ?_⟩
    · show _ ++ (_ ++ _) = _
      rw [← app_assoc, r3, q3]
    · obtain ⟨e1, e2⟩ := r8 rfl
      subst e2
      by_cases g : A.1.text.size = 0
      · left
        show (hdO A.1 A.1.text.size).1.ls = []
        have := congrArg ByteArray.size r3
        rw [size_app] at this
        exact ls_nil (by omega)
      · right
        obtain ⟨g1, g2⟩ := q1.ls_lv g
        have hs : Sh ((hdO A.1 A.1.text.size).1.ls ++ y :: z :: rest) := by
          have := s1
          rw [q4, g2, r4] at this
          simpa using this
        have hb : 32 ≤ y.size := by
          have := s1.sz
          rw [q4, g2, r4] at this
          rcases this with k | k
          · simp at k; omega
          · exact k y (by simp)
        show ∃ z rest, Sh ((hdO A.1 A.1.text.size).1.ls ++ z :: rest) ∧ 32 ≤ ((hdO A.1 A.1.text.size).2 ++ A.2).size ∧ Com z ((hdO A.1 A.1.text.size).2 ++ A.2)
        rw [e1]
        exact ⟨y, z :: rest, hs, by rw [size_app]; omega, com_of rfl hb⟩
theorem aft_ok {t : Tr} {n : Nat} (h : Good t) (hn : n ≤ t.text.size) :
    Fine (aft t n).2 ∧ Avl (aft t n).2 ∧ (aft t n).1 ++ (aft t n).2.text = t.text.extract n t.text.size ∧
      ((aft t n).2.ls = [] ∨ ∃ z rest, Sh (rest ++ z :: (aft t n).2.ls) ∧ 32 ≤ (aft t n).1.size ∧ Coe z (aft t n).1) := by
  obtain ⟨q1, q2, q3, z, rest, q4, ⟨k, q5⟩, q6, q7, _⟩ := tlO_ok h.fine h.avl hn
  by_cases hz : t.text.size = 0
  · have hn0 : n = 0 := by omega
    have ht : t = .leaf noB := by
      rcases h.fine with k | k
      · exact k
      · exact absurd hz k.ne
    subst ht
    subst hn0
    have e : aft (.leaf noB) 0 = (noB, .leaf noB) := by
      have e0 : tlO (.leaf noB) 0 = (noB, .leaf noB) := by show (noB.extract 0 0, Tr.leaf noB) = _; rw [show noB.extract 0 0 = noB from ext_all noB]
      unfold aft
      rw [e0, if_neg (by decide)]
      show (noB ++ (tlO (.leaf noB) 0).1, (tlO (.leaf noB) 0).2) = _
      rw [e0, app_noB]
    rw [e]
    exact ⟨fine_no, trivial, by show noB ++ noB = noB.extract 0 0; rw [app_noB]; exact (ext_all noB).symm, .inl rfl⟩
  obtain ⟨s1, p1⟩ := h.sh_lv hz
  by_cases c : 32 ≤ (tlO t n).1.size
  · have e : aft t n = tlO t n := if_pos c
    rw [e]
    exact ⟨q1, q2, q3, .inr ⟨z, rest, by rw [← q4]; exact s1, c, coe_ext q5 c⟩⟩
  · have e : aft t n = ((tlO t n).1 ++ (tlO (tlO t n).2 0).1, (tlO (tlO t n).2 0).2) := if_neg c
    rw [e]
    generalize tlO t n = A at *
    obtain ⟨r1, r2, r3, y, rest', r4, r5, r6, r7, r8⟩ := tlO_ok q1 q2 (Nat.zero_le A.2.text.size)
    rw [ext_all] at r3
    refine ⟨r1, r2, ?_, ?_⟩
    · show (_ ++ _) ++ _ = _
      rw [app_assoc, r3, q3]
    · obtain ⟨e1, e2⟩ := r8 rfl
      subst e2
      by_cases g : A.2.text.size = 0
      · left
        show (tlO A.2 0).2.ls = []
        have := congrArg ByteArray.size r3
        rw [size_app] at this
        exact ls_nil (by omega)
      · right
        obtain ⟨g1, g2⟩ := q1.ls_lv g
        have hs : Sh ((rest ++ [z]) ++ y :: (tlO A.2 0).2.ls) := by
          have := s1
          rw [q4, g2, r4] at this
          simpa using this
        have hb : 32 ≤ y.size := by
          have := s1.sz
          rw [q4, g2, r4] at this
          rcases this with k | k
          · simp at k; omega
          · exact k y (by simp)
        show ∃ z rest, Sh (rest ++ z :: (tlO A.2 0).2.ls) ∧ 32 ≤ (A.1 ++ (tlO A.2 0).1).size ∧ Coe z (A.1 ++ (tlO A.2 0).1)
        rw [e1]
        exact ⟨y, rest ++ [z], hs, by rw [size_app]; omega, coe_of rfl hb⟩
/-- leaves that stay, a text cut anew, leaves that stay -/
def lay (l : Tr) (s : ByteArray) (r : Tr) : Tr := lnk (lnk l (tof s)) r
theorem com_app {z a b : ByteArray} (h : Com z a) : Com z (a ++ b) := by
  obtain ⟨d, v, v', h1, h2, rfl⟩ := h
  exact ⟨d, v, v' ++ b, h1, h2, by rw [app_assoc]⟩
theorem coe_app {z a b : ByteArray} (h : Coe z a) : Coe z (b ++ a) := by
  obtain ⟨d, v, v', h1, h2, rfl⟩ := h
  exact ⟨d, v, b ++ v', h1, h2, by rw [app_assoc]⟩
theorem lay_ok {l r : Tr} {a b s : ByteArray} (hl : Fine l) (al : Avl l) (hr : Fine r) (ar : Avl r)
    (hL : l.ls = [] ∨ ∃ z rest, Sh (l.ls ++ z :: rest) ∧ 32 ≤ a.size ∧ Com z a)
    (hR : r.ls = [] ∨ ∃ z rest, Sh (rest ++ z :: r.ls) ∧ 32 ≤ b.size ∧ Coe z b) (h1 : ∃ x, s = a ++ x) (h2 : ∃ x, s = x ++ b) :
    Good (lay l s r) ∧ (lay l s r).text = l.text ++ s ++ r.text := by
  obtain ⟨t1, t2, t3, t4, t5⟩ := tof_ok s
  obtain ⟨f1, f2, f3⟩ := lnk_fine hl t1 al t2
  obtain ⟨g1, g2, g3⟩ := lnk_fine f1 hr f2 ar
  have e : jo (tof s).ls = s := by rw [ls_text, t3]
  refine ⟨⟨g1, g2, ?_⟩, ?_⟩
  · show Sh (lnk (lnk l (tof s)) r).ls
    rw [g3, f3]
    refine sh_lay t4 (fun x hx => ?_) ?_ ?_
    · by_cases h0 : (tof s).text.size = 0
      · rw [ls_nil h0] at hx; cases hx
      · obtain ⟨p, e⟩ := t1.ls_lv h0
        rw [e] at hx
        exact p x hx
    · rw [e]
      obtain ⟨x, rfl⟩ := h1
      rcases hL with h | ⟨z, rest, k1, k2, k3⟩
      · exact .inl h
      · exact .inr ⟨z, rest, k1, by rw [size_app]; omega, com_app k3⟩
    · rw [e]
      obtain ⟨x, rfl⟩ := h2
      rcases hR with h | ⟨z, rest, k1, k2, k3⟩
      · exact .inl h
      · exact .inr ⟨z, rest, k1, by rw [size_app]; omega, coe_app k3⟩
  · show (lnk (lnk l (tof s)) r).text = _
    rw [lnk_text f1 hr f2 ar, lnk_text hl t1 al t2, t3]
/-- Replace -/
def rep (t : Tr) (n m : Nat) (put : ByteArray) : Tr := lay (bef t n).1 ((bef t n).2 ++ put ++ (aft t m).1) (aft t m).2
theorem rep_ok {t : Tr} {n m : Nat} (put : ByteArray) (h : Good t) (hn : n ≤ t.text.size) (hm : m ≤ t.text.size) :
    Good (rep t n m put) ∧ (rep t n m put).text = t.text.extract 0 n ++ put ++ t.text.extract m t.text.size := by
  obtain ⟨a1, a2, a3, a4⟩ := bef_ok h hn
  obtain ⟨b1, b2, b3, b4⟩ := aft_ok h hm
  obtain ⟨q1, q2⟩ := lay_ok a1 a2 b1 b2 a4 b4 (s := (bef t n).2 ++ put ++ (aft t m).1) ⟨put ++ (aft t m).1, by rw [app_assoc]⟩ ⟨_, rfl⟩
  refine ⟨q1, ?_⟩
  show (lay _ _ _).text = _
  rw [q2, ← a3, ← b3]
  simp only [app_assoc]
/-- Split -/
def spl (t : Tr) (n : Nat) : Tr × Tr := (lay (bef t n).1 (bef t n).2 (.leaf noB), lay (.leaf noB) (aft t n).1 (aft t n).2)
theorem spl_ok {t : Tr} {n : Nat} (h : Good t) (hn : n ≤ t.text.size) :
    Good (spl t n).1 ∧ (spl t n).1.text = t.text.extract 0 n ∧ Good (spl t n).2 ∧ (spl t n).2.text = t.text.extract n t.text.size := by
  obtain ⟨a1, a2, a3, a4⟩ := bef_ok h hn
  obtain ⟨b1, b2, b3, b4⟩ := aft_ok h hn
  obtain ⟨q1, q2⟩ := lay_ok a1 a2 fine_no (r := .leaf noB) trivial a4 (.inl rfl) (b := noB) (s := (bef t n).2) ⟨noB, (app_noB _).symm⟩ ⟨_, (app_noB _).symm⟩
  obtain ⟨r1, r2⟩ := lay_ok fine_no (l := .leaf noB) trivial b1 b2 (.inl rfl) b4 (a := noB) (s := (aft t n).1) ⟨_, (noB_app _).symm⟩ ⟨noB, (noB_app _).symm⟩
  refine ⟨q1, ?_, r1, ?_⟩
  · show (lay _ _ _).text = _
    rw [q2, ← a3]
    exact app_noB _
  · show (lay _ _ _).text = _
    rw [r2, ← b3]
    show noB ++ _ ++ _ = _
    rw [noB_app]
/-- Concat, by halves -/
def tog2 (f b : Tr) : Tr := lay (bef f f.text.size).1 ((bef f f.text.size).2 ++ (aft b 0).1) (aft b 0).2
theorem tog2_ok {f b : Tr} (hf : Good f) (hb : Good b) : Good (tog2 f b) ∧ (tog2 f b).text = f.text ++ b.text := by
  obtain ⟨a1, a2, a3, a4⟩ := bef_ok hf (Nat.le_refl _)
  obtain ⟨b1, b2, b3, b4⟩ := aft_ok hb (Nat.zero_le _)
  obtain ⟨q1, q2⟩ := lay_ok a1 a2 b1 b2 a4 b4 (s := (bef f f.text.size).2 ++ (aft b 0).1) ⟨_, rfl⟩ ⟨_, rfl⟩
  refine ⟨q1, ?_⟩
  show (lay _ _ _).text = _
  rw [ext_all] at a3 b3
  have e : ∀ x y u v : ByteArray, x ++ (y ++ u) ++ v = (x ++ y) ++ (u ++ v) := fun x y u v => by simp only [app_assoc]
  rw [q2, e, a3, b3]
def tog (ts : List Tr) : Tr :=
  match ts with
  | [] => .leaf noB
  | [t] => t
  | t :: u :: l => tog2 (tog ((t :: u :: l).take ((l.length + 2) / 2))) (tog ((t :: u :: l).drop ((l.length + 2) / 2)))
termination_by ts.length
decreasing_by
  · simp; omega
  · simp; omega
theorem tog_two {ts : List Tr} (h : 2 ≤ ts.length) : tog ts = tog2 (tog (ts.take (ts.length / 2))) (tog (ts.drop (ts.length / 2))) := by
  match ts, h with
  | t :: u :: l, _ => rw [tog]; rfl
def joT : List Tr → ByteArray
  | [] => noB
  | t :: l => t.text ++ joT l
theorem joT_app : ∀ a b : List Tr, joT (a ++ b) = joT a ++ joT b
  | [], b => (noB_app _).symm
  | x :: a, b => by show x.text ++ joT (a ++ b) = x.text ++ joT a ++ joT b; rw [joT_app a b, app_assoc]
theorem tog_ok : ∀ (n : Nat) {ts : List Tr}, ts.length ≤ n → (∀ t ∈ ts, Good t) → Good (tog ts) ∧ (tog ts).text = joT ts
  | n, [], _, _ => by rw [tog]; exact ⟨good_no, rfl⟩
  | n, [t], _, h => by rw [tog]; exact ⟨h t List.mem_cons_self, (app_noB _).symm⟩
  | 0, t :: u :: l, hn, _ => by simp at hn
  | n + 1, t :: u :: l, hn, h => by
    rw [tog_two (by simp)]
    generalize hts : t :: u :: l = ts at *
    have hl : 2 ≤ ts.length := by rw [← hts]; simp
    obtain ⟨a1, a2⟩ := tog_ok n (ts := ts.take (ts.length / 2)) (by rw [List.length_take]; omega) (fun t ht => h t (List.mem_of_mem_take ht))
    obtain ⟨b1, b2⟩ := tog_ok n (ts := ts.drop (ts.length / 2)) (by rw [List.length_drop]; omega) (fun t ht => h t (List.mem_of_mem_drop ht))
    obtain ⟨c1, c2⟩ := tog2_ok a1 b1
    refine ⟨c1, ?_⟩
    rw [c2, a2, b2, ← joT_app, List.take_append_drop]
end Go.Proofs.YtplieccalmkloaaGreatDoor
