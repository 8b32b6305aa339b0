/-
  Same of layer 20, the program's and the document's own, of any two frames: true just where all that they hold is the same. Conditions: no more than 2^31 rows and cells in a row.
-/
import Derived.Laws.EntriesVeiled
import Derived.Deep.DeepCutAuto
import Derived.Deep.RegionHeld3
import Derived.Deep.CutRange
import Derived.Test.YtfjoklbiocniiaaDoorOFrm
namespace Go.Proofs.YtfjoklbiocniiaaDoor
open Go.RowKit
theorem tl_same {t t' : ByteArray} : t.toList = t'.toList ↔ t = t' := by
  constructor
  · intro h
    rw [ByteArray.toList_eq, ByteArray.toList_eq] at h
    apply ByteArray.ext
    exact Array.toList_inj.1 h
  · rintro rfl
    rfl
theorem cel_apart (t t' : ByteArray) (n n' : Int) (w : World) : (binOp .neq 42 (.agg #[.string t, .int .i64 n]) (.agg #[.string t', .int .i64 n'])).run Tryd.prog w = .ok (.bool (!(decide (t = t') && decide (n = n')))) w := by
  have h0 : Tryd.prog.underlying 42 = some (.struct (Tryd.prog.fieldsOf 42)) := by kernel_rfl
  have h1 : Tryd.prog.stoodInHeld 42 = false := by kernel_rfl
  rw [run_neq_struct, run_equalIn_agg (d := 9999) _ _ _ _ h0 h1]
  simp [go_sem, Op.eqFields]
  by_cases e : t = t' <;> by_cases e2 : n = n' <;> simp [tl_same, e, e2]
theorem w64t {i : Nat} (h : i < 4294967296) : wrap64 ((i : Int) + 1) = ((i + 1 : Nat) : Int) := by
  unfold wrap64
  omega
theorem pl_neq (r c r' c' : Int) (w : World) : (binOp .neq 28 (.agg #[.int .i64 r, .int .i64 c]) (.agg #[.int .i64 r', .int .i64 c'])).run Tryd.prog w = .ok (.bool (!(decide (r = r') && decide (c = c')))) w := by
  have h0 : Tryd.prog.underlying 28 = some (.struct (Tryd.prog.fieldsOf 28)) := by kernel_rfl
  have h1 : Tryd.prog.stoodInHeld 28 = false := by kernel_rfl
  rw [run_neq_struct, run_equalIn_agg (d := 9999) _ _ _ _ h0 h1]
  simp [go_sem, Op.eqFields]
  by_cases e : r = r' <;> by_cases e2 : c = c' <;> simp [e, e2]
theorem pl_eq (r c r' c' : Int) (w : World) : (binOp .eql 28 (.agg #[.int .i64 r, .int .i64 c]) (.agg #[.int .i64 r', .int .i64 c'])).run Tryd.prog w = .ok (.bool (decide (r = r') && decide (c = c'))) w := by
  have h0 : Tryd.prog.underlying 28 = some (.struct (Tryd.prog.fieldsOf 28)) := by kernel_rfl
  have h1 : Tryd.prog.stoodInHeld 28 = false := by kernel_rfl
  rw [run_eql_struct, run_equalIn_agg (d := 9999) _ _ _ _ h0 h1]
  simp [go_sem, Op.eqFields]
  by_cases e : r = r' <;> by_cases e2 : c = c' <;> simp [e, e2]
theorem cel_ext {a b : Cel} (h1 : a.tx = b.tx) (h2 : a.sp = b.sp) : a = b := by cases a; cases b; simp_all
/-- a row of cells, cell by cell -/
theorem RdCe.get {W : World} {v : Value} {l : List Cel} (h : RdCe W v l) : ∃ a c, v = .slice a l.length c ∧ ∀ (k : Nat) x, l[k]? = some x → ∃ g o, a = some ⟨g, o, none⟩ ∧ W.cell? ⟨g, o + k * 2, none⟩ = some (.string x.tx) ∧ W.cell? ⟨g, o + k * 2 + 1, none⟩ = some (.int .i64 x.sp) := by
  obtain ⟨a, c, e, h⟩ := h
  refine ⟨a, c, e, fun k x hk => ?_⟩
  obtain ⟨-, g, o, e, -, hc⟩ := h (by rintro rfl; simp at hk)
  exact ⟨g, o, e, hc k x hk⟩
/-- the same cell, row, rows -/
def celE (a b : Cel) : Bool := decide (a.tx = b.tx) && decide (a.sp = b.sp)
def rowE : List Cel → List Cel → Bool
  | [], [] => true
  | a :: l, b :: m => celE a b && rowE l m
  | _, _ => false
def rowsE : List (List Cel) → List (List Cel) → Bool
  | [], [] => true
  | a :: l, b :: m => rowE a b && rowsE l m
  | _, _ => false
def fmE (f g : Fm) : Bool := decide (f.w = g.w) && (decide (f.r = g.r) && decide (f.c = g.c)) && rowsE f.rows g.rows
theorem celE_iff {a b : Cel} : celE a b = true ↔ a = b := by
  unfold celE
  constructor
  · intro h
    simp at h
    exact cel_ext h.1 h.2
  · rintro rfl
    simp
theorem rowE_len {l m : List Cel} (h : l.length ≠ m.length) : rowE l m = false := by
  induction l generalizing m with
  | nil => cases m with
    | nil => exact absurd rfl h
    | cons b m => rfl
  | cons a l ih => cases m with
    | nil => rfl
    | cons b m => rw [rowE, ih (by simpa using h), Bool.and_false]
theorem rowE_self (l : List Cel) : rowE l l = true := by
  induction l with
  | nil => rfl
  | cons a l ih => rw [rowE, ih, celE_iff.2 rfl]; rfl
theorem rowE_at {l m : List Cel} {k : Nat} {x y : Cel} (h1 : l[k]? = some x) (h2 : m[k]? = some y) (h : ¬(x.tx = y.tx ∧ x.sp = y.sp)) : rowE l m = false := by
  induction l generalizing m k with
  | nil => simp at h1
  | cons a l ih => cases m with
    | nil => rfl
    | cons b m => cases k with
      | zero =>
        obtain rfl : a = x := by simpa using h1
        obtain rfl : b = y := by simpa using h2
        have : celE a b = false := by
          cases e : celE a b with
          | false => rfl
          | true => exact absurd (by rw [celE_iff.1 e]; exact ⟨rfl, rfl⟩) h
        rw [rowE, this, Bool.false_and]
      | succ k => rw [rowE, ih (k := k) (by simpa using h1) (by simpa using h2), Bool.and_false]
theorem rowE_all {l m : List Cel} (hl : l.length = m.length) (h : ∀ (k : Nat) x y, l[k]? = some x → m[k]? = some y → x.tx = y.tx ∧ x.sp = y.sp) : rowE l m = true := by
  induction l generalizing m with
  | nil => cases m with
    | nil => rfl
    | cons b m => simp at hl
  | cons a l ih => cases m with
    | nil => simp at hl
    | cons b m =>
      have h0 := h 0 a b rfl rfl
      rw [rowE, ih (by simpa using hl) (fun k x y h1 h2 => h (k + 1) x y (by simpa using h1) (by simpa using h2)), celE_iff.2 (cel_ext h0.1 h0.2)]
      rfl
theorem rowsE_len {l m : List (List Cel)} (h : l.length ≠ m.length) : rowsE l m = false := by
  induction l generalizing m with
  | nil => cases m with
    | nil => exact absurd rfl h
    | cons b m => rfl
  | cons a l ih => cases m with
    | nil => rfl
    | cons b m => rw [rowsE, ih (by simpa using h), Bool.and_false]
theorem rowsE_self (l : List (List Cel)) : rowsE l l = true := by
  induction l with
  | nil => rfl
  | cons a l ih => rw [rowsE, ih, rowE_self]; rfl
theorem rowsE_at {l m : List (List Cel)} {k : Nat} {x y : List Cel} (h1 : l[k]? = some x) (h2 : m[k]? = some y) (h : rowE x y = false) : rowsE l m = false := by
  induction l generalizing m k with
  | nil => simp at h1
  | cons a l ih => cases m with
    | nil => rfl
    | cons b m => cases k with
      | zero =>
        obtain rfl : a = x := by simpa using h1
        obtain rfl : b = y := by simpa using h2
        rw [rowsE, h, Bool.false_and]
      | succ k => rw [rowsE, ih (k := k) (by simpa using h1) (by simpa using h2), Bool.and_false]
theorem rowsE_all {l m : List (List Cel)} (hl : l.length = m.length) (h : ∀ (k : Nat) x y, l[k]? = some x → m[k]? = some y → rowE x y = true) : rowsE l m = true := by
  induction l generalizing m with
  | nil => cases m with
    | nil => rfl
    | cons b m => simp at hl
  | cons a l ih => cases m with
    | nil => simp at hl
    | cons b m =>
      rw [rowsE, ih (by simpa using hl) (fun k x y h1 h2 => h (k + 1) x y (by simpa using h1) (by simpa using h2)), h 0 a b rfl rfl]
      rfl
theorem fmE_self (f : Fm) : fmE f f = true := by simp [fmE, rowsE_self]
/-- the rows of a frame, row by row -/
theorem RdRw.get {W : World} {v : Value} {L : List (List Cel)} (h : RdRw W v L) : ∃ a c, v = .slice a L.length c ∧ ∀ (k : Nat) x, L[k]? = some x → ∃ g o b m, a = some ⟨g, o, none⟩ ∧ g < W.heap.size ∧ W.cell? ⟨g, o + k, none⟩ = some (.slice b x.length m) ∧ RdCe W (.slice b x.length m) x := by
  obtain ⟨a, c, e, h⟩ := h
  refine ⟨a, c, e, fun k x hk => ?_⟩
  obtain ⟨-, g, o, e, hg, hc⟩ := h (by rintro rfl; simp at hk)
  obtain ⟨rv, h1, h2⟩ := hc k x hk
  obtain ⟨b, m, rfl, _⟩ := id h2
  exact ⟨g, o, b, m, e, hg, h1, h2⟩
set_option maxRecDepth 100000 in
set_option maxHeartbeats 1000000 in
theorem rsrf_any {v1 v2 : Value} (l l' : List Cel) (hn : l.length ≤ 2147483648) (_hn' : l'.length ≤ 2147483648) (w : World) (h1 : RdCe w v1 l) (h2 : RdCe w v2 l') :
    Calls Tryd.prog 24 #[v1, v2] w fun e w' => e = .returned (.bool (rowE l l')) ∧ Below w.heap.size w w' := by
  have hne := cel_apart
  obtain ⟨a1, k1, rfl, hc1⟩ := h1.get
  obtain ⟨a2, k2, rfl, hc2⟩ := h2.get
  obtain ⟨n, hln⟩ : ∃ n, l.length = n := ⟨_, rfl⟩
  obtain ⟨n', hln'⟩ : ∃ n', l'.length = n' := ⟨_, rfl⟩
  clear h1 h2
  by_cases hl : n = n'
  · subst hl
    have H1 : Hid (∀ j c, l[j]? = some c → ∃ g o, a1 = some ⟨g, o, none⟩ ∧ w.cell? ⟨g, o + j * 2, none⟩ = some (.string c.tx) ∧ w.cell? ⟨g, o + j * 2 + 1, none⟩ = some (.int .i64 c.sp)) := hc1
    have H2 : Hid (∀ j c, l'[j]? = some c → ∃ g o, a2 = some ⟨g, o, none⟩ ∧ w.cell? ⟨g, o + j * 2, none⟩ = some (.string c.tx) ∧ w.cell? ⟨g, o + j * 2 + 1, none⟩ = some (.int .i64 c.sp)) := hc2
    have HN : Hid (l.length = n ∧ l'.length = n) := ⟨hln, hln'⟩
    rw [hln] at hn ⊢
    rw [hln']
    clear hc1 hc2 _hn' hln hln'
    go_enter Tryd.func24, Tryd.ntmps24
    go_wp2
    go_loopw [5] (fun t wr => ∃ k m : Nat, k ≤ n ∧ t = .int .i64 k ∧ wr = w.drewN m ∧ Hid (∀ j x y, j < k → l[j]? = some x → l'[j]? = some y → x.tx = y.tx ∧ x.sp = y.sp)) (fun t _ => n - (intOf t).toNat)
    case atStart => exact ⟨0, 0, Nat.zero_le _, rfl, rfl, fun j x y h => absurd h (Nat.not_lt_zero _)⟩
    case round =>
      obtain ⟨k, m, hk, rfl, rfl, HS⟩ := hrel
      by_cases hlt : k < n
      · obtain ⟨c, hc⟩ : ∃ c, l[k]? = some c := ⟨l[k]'(by rw [HN.out.1]; exact hlt), List.getElem?_eq_getElem _⟩
        obtain ⟨c', hc'⟩ : ∃ c, l'[k]? = some c := ⟨l'[k]'(by rw [HN.out.2]; exact hlt), List.getElem?_eq_getElem _⟩
        obtain ⟨g1, o1, rfl, x0, x1⟩ := H1.out k c hc
        obtain ⟨g2, o2, rfl, y0, y1⟩ := H2.out k c' hc'
        have HC : Hid (l[k]? = some c ∧ l'[k]? = some c') := ⟨hc, hc'⟩
        clear H1 H2 hc hc'
        by_cases hs : c.tx = c'.tx ∧ c.sp = c'.sp
        · have HE : Hid (∀ j x y, j < k + 1 → l[j]? = some x → l'[j]? = some y → x.tx = y.tx ∧ x.sp = y.sp) := fun j x y hj hx hy => by
            by_cases hjk : j < k
            · exact HS.out j x y hjk hx hy
            · obtain rfl : j = k := by omega
              obtain rfl : c = x := Option.some.inj (HC.out.1.symm.trans hx)
              obtain rfl : c' = y := Option.some.inj (HC.out.2.symm.trans hy)
              exact hs
          rw [← hs.1] at y0
          rw [← hs.2] at y1
          have hn1 := hne c.tx c.tx c.sp c.sp
          simp only [decide_true, Bool.and_self, Bool.not_true] at hn1
          clear hne hs HS HC
          go_wp2
          go_quiet (fail)
          go_wp2
          exact ⟨⟨k + 1, m + nq, by omega, by go_num, rfl, HE⟩, by simp [intOf]; omega⟩
        · have hn1 := hne c.tx c'.tx c.sp c'.sp
          have hb : (!(decide (c.tx = c'.tx) && decide (c.sp = c'.sp))) = true := by
            by_cases e1 : c.tx = c'.tx <;> by_cases e2 : c.sp = c'.sp <;> simp [e1, e2]
            exact hs ⟨e1, e2⟩
          simp only [hb] at hn1
          have hf := rowE_at HC.out.1 HC.out.2 hs
          clear hne hs HS HC hb
          go_wp2
          go_quiet (fail)
          go_wp2
          go_ret
          try rw [hf]
          exact ⟨rfl, rfl, rfl, rfl, Nat.le_refl _, fun _ _ => rfl⟩
      · have hf : rowE l l' = true := rowE_all (HN.out.1.trans HN.out.2.symm) fun j x y hx hy => HS.out j x y (by have := (List.getElem?_eq_some_iff.1 hx).1; have := HN.out.1; omega) hx hy
        go_wp2
        go_ret
        try rw [hf]
        exact ⟨rfl, rfl, rfl, rfl, Nat.le_refl _, fun _ _ => rfl⟩
  · have hf := rowE_len (l := l) (m := l') (by omega)
    rw [hln] at hn ⊢
    rw [hln'] at _hn' ⊢
    have hl2 : ¬ (n : Int) = n' := by omega
    have hl3 : decide (n = n') = false := by simp [hl]
    clear hc1 hc2 hln hln' hne
    go_enter Tryd.func24, Tryd.ntmps24
    go_wp2
    go_ret
    try rw [hf]
    exact ⟨rfl, rfl, rfl, rfl, Nat.le_refl _, fun _ _ => rfl⟩
theorem fmE_eq {f g : Fm} (h : f.w = g.w ∧ f.r = g.r ∧ f.c = g.c) : fmE f g = rowsE f.rows g.rows := by simp [fmE, h.1, h.2.1, h.2.2]
theorem fmE_no {f g : Fm} (h : ¬(f.w = g.w ∧ f.r = g.r ∧ f.c = g.c)) : fmE f g = false := by
  unfold fmE
  by_cases h1 : f.w = g.w <;> by_cases h2 : f.r = g.r <;> by_cases h3 : f.c = g.c <;> simp [h1, h2, h3]
  exact absurd ⟨h1, h2, h3⟩ h
/-- a frame that fits the machine -/
def Fsz (f : Fm) : Prop := f.rows.length ≤ 2147483648 ∧ ∀ l ∈ f.rows, l.length ≤ 2147483648
end Go.Proofs.YtfjoklbiocniiaaDoor
