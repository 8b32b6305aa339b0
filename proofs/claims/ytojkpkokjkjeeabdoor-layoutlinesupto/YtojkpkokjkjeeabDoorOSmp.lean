/-
  Package layout's Same: frames of the same cells are the same (slices.EqualFunc, sameRow, slices.Equal with it). Conditions: no more than 2^31 rows and cells in a row.
-/
import Derived.Laws.EntriesVeiled
import Derived.Test.YtojkpkokjkjeeabDoorOAwk
namespace Go.Proofs.YtojkpkokjkjeeabDoor
open Go.RowKit Go.Shelf Bod Wid
/-- the rows of a frame, wherever they lie -/
def FrW (ov : Value) (R : List (List Cel)) (Y : World) : Prop :=
  ∃ vs : List (List Cel × Value), vs.map Prod.fst = R ∧ (∃ b, Y.ownsRow b 31 1 ov vs.length (vs.map Prod.snd)) ∧ ∀ o ∈ vs, ∃ b, Y.ownsRow b 34 2 o.2 o.1.length (ccs o.1)
theorem Fr.weak {w Y : World} {ov : Value} {R : List (List Cel)} (h : Fr w ov R Y) : FrW ov R Y := by
  obtain ⟨vs, h1, h2, h3, -⟩ := h
  exact ⟨vs, h1, ⟨_, h2⟩, fun o ho => ⟨_, h3 o ho⟩⟩
theorem FrW.below {Y Z : World} {ov : Value} {R : List (List Cel)} (h : FrW ov R Y) (hb : Below Y.heap.size Y Z) : FrW ov R Z := by
  obtain ⟨vs, h1, ⟨b, h2⟩, h3⟩ := h
  exact ⟨vs, h1, ⟨b, o_keep h2 (fun g e => hb.block g (o_blk h2 e).2.2)⟩, fun o ho => by obtain ⟨b, h4⟩ := h3 o ho; exact ⟨b, o_keep h4 (fun g e => hb.block g (o_blk h4 e).2.2)⟩⟩
theorem FrW.len {Y : World} {ov : Value} {R : List (List Cel)} (h : FrW ov R Y) : ∃ oa ok, ov = .slice oa R.length ok := by
  obtain ⟨vs, rfl, ⟨b, h2⟩, -⟩ := h
  obtain ⟨a, k, e⟩ := o_slice h2
  exact ⟨a, k, by simpa using e⟩
theorem FrW.at {Y : World} {ov : Value} {R : List (List Cel)} (h : FrW ov R Y) {i : Nat} {l : List Cel} (hi : R[i]? = some l) : ∃ og ok a k b, ov = .slice (some ⟨og, 0, none⟩) R.length ok ∧ og < Y.heap.size ∧ Y.cell? ⟨og, i, none⟩ = some (.slice a l.length k) ∧ Y.ownsRow b 34 2 (.slice a l.length k) l.length (ccs l) := by
  obtain ⟨vs, rfl, ⟨b, h2⟩, h3⟩ := h
  rw [List.getElem?_map] at hi
  obtain ⟨o, ho, rfl⟩ := Option.map_eq_some_iff.1 hi
  have hlt := (List.getElem?_eq_some_iff.1 ho).1
  obtain ⟨og, ok, rfl, -, hog⟩ := h2.form (by omega)
  obtain ⟨b', h4⟩ := h3 o (List.mem_of_getElem? ho)
  obtain ⟨a, k, e⟩ := o_slice h4
  refine ⟨og, ok, a, k, b', by simp, hog, ?_, by rw [← e]; exact h4⟩
  rw [h2.cellAt i (by omega), List.getElem?_map, ho, ← e]
  rfl
theorem cel_neq' (t t' : ByteArray) (n n' : Int) (w : World) : (binOp .neq 34 (.agg #[.string t, .int .i64 n]) (.agg #[.string t', .int .i64 n'])).run Tryd.prog w = .ok (.bool (!(decide (t = t') && decide (n = n')))) w := by
  have h0 : Tryd.prog.underlying 34 = some (.struct (Tryd.prog.fieldsOf 34)) := by kernel_rfl
  have h1 : Tryd.prog.stoodInHeld 34 = false := by kernel_rfl
  rw [run_neq_struct, run_equalIn_agg (d := 9999) _ _ _ _ h0 h1]
  simp [go_sem, Op.eqFields]
  by_cases e : t = t' <;> by_cases e2 : n = n' <;> simp [tl_inj, e, e2]
set_option maxRecDepth 100000 in
set_option maxHeartbeats 1000000 in
theorem seq_any {base1 base2 : Nat} {a1 a2 : Option Addr} {n k1 k2 : Nat} (l : List Cel) (hl : l.length = n) (hn : n ≤ 2147483648) (w : World) (h1 : w.ownsRow base1 34 2 (.slice a1 n k1) n (ccs l)) (h2 : w.ownsRow base2 34 2 (.slice a2 n k2) n (ccs l)) :
    Calls Tryd.prog 42 #[.slice a1 n k1, .slice a2 n k2] w fun e w' => e = .returned (.bool true) ∧ Below w.heap.size w w' := by
  have hne := cel_neq'
  have H1 : Hid (∀ j c, l[j]? = some c → ∃ g, a1 = some ⟨g, 0, none⟩ ∧ w.cell? ⟨g, j * 2, none⟩ = some (.string c.tx) ∧ w.cell? ⟨g, j * 2 + 1, none⟩ = some (.int .i64 c.sp)) := fun j c hj => by
    have hlt := (List.getElem?_eq_some_iff.1 hj).1
    obtain ⟨g, q, e, -, hg⟩ := h1.form (by omega)
    have ea : a1 = some ⟨g, 0, none⟩ := by injection e
    subst ea
    exact ⟨g, rfl, own_cells h1 hj (by omega) (o := none) rfl⟩
  have H2 : Hid (∀ j c, l[j]? = some c → ∃ g, a2 = some ⟨g, 0, none⟩ ∧ w.cell? ⟨g, j * 2, none⟩ = some (.string c.tx) ∧ w.cell? ⟨g, j * 2 + 1, none⟩ = some (.int .i64 c.sp)) := fun j c hj => by
    have hlt := (List.getElem?_eq_some_iff.1 hj).1
    obtain ⟨g, q, e, -, hg⟩ := h2.form (by omega)
    have ea : a2 = some ⟨g, 0, none⟩ := by injection e
    subst ea
    exact ⟨g, rfl, own_cells h2 hj (by omega) (o := none) rfl⟩
  have HN : Hid (l.length = n) := hl
  clear h1 h2 hl
  go_enter Tryd.func42, Tryd.ntmps42
  go_wp2
  go_loopw [13] (fun t wr => ∃ k m : Nat, k ≤ n ∧ t = .int .i64 k ∧ wr = w.drewN m) (fun t _ => n - (intOf t).toNat)
  case atStart => exact ⟨0, 0, Nat.zero_le _, rfl, rfl⟩
  case round =>
    obtain ⟨k, m, hk, rfl, rfl⟩ := hrel
    by_cases hlt : k < n
    · obtain ⟨c, hc⟩ : ∃ c, l[k]? = some c := ⟨l[k]'(by rw [HN.out]; exact hlt), List.getElem?_eq_getElem _⟩
      obtain ⟨g1, rfl, x0, x1⟩ := H1.out k c hc
      obtain ⟨g2, rfl, y0, y1⟩ := H2.out k c hc
      have hn1 := hne c.tx c.tx c.sp c.sp
      simp only [decide_true, Bool.and_self, Bool.not_true] at hn1
      clear hne H1 H2
      go_wp2
      go_quiet (fail)
      go_wp2
      exact ⟨⟨k + 1, m + nq, by omega, by go_num, rfl⟩, by simp [intOf]; omega⟩
    · go_wp2
      go_ret
      exact ⟨rfl, rfl, rfl, rfl, Nat.le_refl _, fun _ _ => rfl⟩
set_option maxRecDepth 100000 in
set_option maxHeartbeats 1000000 in
theorem srw_any {base1 base2 : Nat} {a1 a2 : Option Addr} {n k1 k2 : Nat} (l : List Cel) (hl : l.length = n) (hn : n ≤ 2147483648) (w : World) (h1 : w.ownsRow base1 34 2 (.slice a1 n k1) n (ccs l)) (h2 : w.ownsRow base2 34 2 (.slice a2 n k2) n (ccs l)) :
    Calls Tryd.prog 25 #[.slice a1 n k1, .slice a2 n k2] w fun e w' => e = .returned (.bool true) ∧ Below w.heap.size w w' := by
  have C := seq_any l hl hn w h1 h2
  clear h1 h2 hl
  go_enter Tryd.func25, Tryd.ntmps25
  go_wp2_with (go_at_call 42; refine C.mono ?_; clear C; rintro e w1 ⟨rfl, hb1⟩)
  go_ret
  exact ⟨rfl, hb1⟩
set_option maxRecDepth 100000 in
set_option maxHeartbeats 1000000 in
theorem eqf_any {oa1 oa2 : Option Addr} {N ok1 ok2 : Nat} (R : List (List Cel)) (hN : R.length = N) (hR : N ≤ 2147483648) (hl : ∀ l ∈ R, l.length ≤ 2147483648) (w : World) (h1 : FrW (.slice oa1 N ok1) R w) (h2 : FrW (.slice oa2 N ok2) R w) :
    Calls Tryd.prog 24 #[.slice oa1 N ok1, .slice oa2 N ok2, .func (.func 25) #[] #[]] w fun e w' => e = .returned (.bool true) ∧ Below w.heap.size w w' := by
  have HN : Hid (R.length = N ∧ N ≤ 2147483648) := ⟨hN, hR⟩
  have HR : Hid (∀ (i : Nat) (l : List Cel), R[i]? = some l → ∀ Y, Below w.heap.size w Y → ∃ g1 g2 a1 a2 k1 k2, oa1 = some ⟨g1, 0, none⟩ ∧ oa2 = some ⟨g2, 0, none⟩ ∧ Y.cell? ⟨g1, i, none⟩ = some (.slice a1 l.length k1) ∧ Y.cell? ⟨g2, i, none⟩ = some (.slice a2 l.length k2) ∧ ∀ Z, Below w.heap.size w Z → Calls Tryd.prog 25 #[.slice a1 l.length k1, .slice a2 l.length k2] Z fun e w' => e = .returned (.bool true) ∧ Hid (Below Z.heap.size Z w')) := fun i l hi Y hY => by
    obtain ⟨g1, o1, a1, k1, b1, e1, f1, c1, w1⟩ := h1.at hi
    obtain ⟨g2, o2, a2, k2, b2, e2, f2, c2, w2⟩ := h2.at hi
    have e1 : oa1 = some ⟨g1, 0, none⟩ := by injection e1
    have e2 : oa2 = some ⟨g2, 0, none⟩ := by injection e2
    refine ⟨g1, g2, a1, a2, k1, k2, e1, e2, (hY.cell (p := ⟨g1, i, none⟩) f1).trans c1, (hY.cell (p := ⟨g2, i, none⟩) f2).trans c2, fun Z hZ => ?_⟩
    exact srw_any l rfl (hl l (List.mem_of_getElem? hi)) Z (o_keep w1 (fun g e => hZ.block g (o_blk w1 e).2.2)) (o_keep w2 (fun g e => hZ.block g (o_blk w2 e).2.2))
  clear h1 h2 hR hl hN
  go_enter Tryd.func24, Tryd.ntmps24
  go_wp2
  go_loopw [17] (fun t wr => ∃ k : Nat, k ≤ N ∧ t = .int .i64 k ∧ Hid (Below w.heap.size w wr)) (fun t _ => N - (intOf t).toNat)
  case atStart => exact ⟨0, Nat.zero_le _, rfl, Below.refl _ w⟩
  case round =>
    obtain ⟨k, hk, rfl, HW⟩ := hrel
    by_cases hlt : k < N
    · obtain ⟨l, hl⟩ : ∃ l, R[k]? = some l := ⟨R[k]'(by rw [HN.out.1]; exact hlt), List.getElem?_eq_getElem _⟩
      obtain ⟨g1, g2, a1, a2, k1, k2, rfl, rfl, x0, y0, hc⟩ := HR.out k l hl wr HW.out
      have HC : Hid (∀ Z, Below w.heap.size w Z → Calls Tryd.prog 25 #[.slice a1 l.length k1, .slice a2 l.length k2] Z fun e w' => e = .returned (.bool true) ∧ Hid (Below Z.heap.size Z w')) := hc
      have hlt' : (k : Int) < N := by omega
      have HLT : Hid (k < N ∧ N ≤ 2147483648) := ⟨hlt, HN.out.2⟩
      obtain ⟨n, hn⟩ : ∃ n, l.length = n := ⟨_, rfl⟩
      rw [hn] at x0 y0 HC
      clear hc hl hn hlt HR
      go_wp2_with (go_at_call 25; refine (HC.out _ HW.out).mono ?_; clear HC; rintro e w2 ⟨rfl, HB2⟩)
      go_roundw
      case rel => exact ⟨k + 1, by have := HLT.out; omega, by rw [w64s (by have := HLT.out; omega)], HW.out.trans (HB2.out.mono HW.out.size)⟩
      case measure => have := HLT.out; rw [w64s (by omega)]; simp [intOf]; omega
    · have hd : ¬ (k : Int) < N := by omega
      go_wp2
      go_ret
      exact ⟨rfl, HW.out⟩
set_option maxRecDepth 100000 in
set_option maxHeartbeats 1000000 in
theorem psm_any {W r c : Int} {v1 v2 : Value} (R : List (List Cel)) (hR : R.length ≤ 2147483648) (hl : ∀ l ∈ R, l.length ≤ 2147483648) (w : World) (h1 : FrW v1 R w) (h2 : FrW v2 R w) :
    Calls Tryd.prog 15 #[.agg #[.int .i64 W, v1, .int .i64 r, .int .i64 c], .agg #[.int .i64 W, v2, .int .i64 r, .int .i64 c]] w fun e w' => e = .returned (.bool true) ∧ Below w.heap.size w w' := by
  obtain ⟨oa1, ok1, e1⟩ := h1.len
  obtain ⟨oa2, ok2, e2⟩ := h2.len
  obtain ⟨N, hN⟩ : ∃ N, R.length = N := ⟨_, rfl⟩
  rw [hN] at e1 e2
  subst e1
  subst e2
  have HB : Hid (∀ o o', Below w.heap.size w ((w.alloc o).alloc o')) := fun o o' => ((Below.refl _ w).alloc (Nat.le_refl _) o).alloc (by simp) o'
  have CE : Hid (∀ o o', Calls Tryd.prog 24 #[.slice oa1 N ok1, .slice oa2 N ok2, .func (.func 25) #[] #[]] ((w.alloc o).alloc o') fun e w' => e = .returned (.bool true) ∧ Hid (Below ((w.alloc o).alloc o').heap.size ((w.alloc o).alloc o') w')) := fun o o' => eqf_any R hN (by omega) hl _ (h1.below (HB.out o o')) (h2.below (HB.out o o'))
  clear h1 h2 hl hR hN
  go_enter Tryd.func15, Tryd.ntmps15
  go_wp2_with (go_at_call 24; refine (CE.out _ _).mono ?_; clear CE; rintro e w1 ⟨rfl, HB1⟩)
  go_ret
  exact ⟨rfl, (HB.out _ _).trans (HB1.out.mono (HB.out _ _).size)⟩
end Go.Proofs.YtojkpkokjkjeeabDoor
