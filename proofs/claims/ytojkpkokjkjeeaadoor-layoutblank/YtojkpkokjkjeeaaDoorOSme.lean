/-
  The document's own Same and SameRow of layer 20: frames of the same cells are the same. Conditions: no more than 2^31 rows and cells in a row.
-/
import Derived.Test.YtojkpkokjkjeeaaDoorOAwk
namespace Go.Proofs.YtojkpkokjkjeeaaDoor
open Go.RowKit Go.Shelf Bod Wid
theorem cel_neq (t t' : ByteArray) (n n' : Int) (w : World) : (binOp .neq 44 (.agg #[.string t, .int .i64 n]) (.agg #[.string t', .int .i64 n'])).run Tryd.prog w = .ok (.bool (!(decide (t = t') && decide (n = n')))) w := by
  have h0 : Tryd.prog.underlying 44 = some (.struct (Tryd.prog.fieldsOf 44)) := by kernel_rfl
  have h1 : Tryd.prog.stoodInHeld 44 = false := by kernel_rfl
  rw [run_neq_struct, run_equalIn_agg (d := 9999) _ _ _ _ h0 h1]
  simp [go_sem, Op.eqFields]
  by_cases e : t = t' <;> by_cases e2 : n = n' <;> simp [tl_inj, e, e2]
set_option maxRecDepth 100000 in
set_option maxHeartbeats 1000000 in
theorem rsr_any {base1 base2 : Nat} {a1 a2 : Option Addr} {n k1 k2 : Nat} (l : List Cel) (hl : l.length = n) (hn : n ≤ 2147483648) (w : World) (h1 : w.ownsRow base1 44 2 (.slice a1 n k1) n (ccs l)) (h2 : w.ownsRow base2 44 2 (.slice a2 n k2) n (ccs l)) :
    Calls Tryd.prog 27 #[.slice a1 n k1, .slice a2 n k2] w fun e w' => e = .returned (.bool true) ∧ Below w.heap.size w w' := by
  have hne := cel_neq
  have H1 : Hid (∀ j c, l[j]? = some c → ∃ g, a1 = some ⟨g, 0, none⟩ ∧ w.cell? ⟨g, j * 2, none⟩ = some (.string c.tx) ∧ w.cell? ⟨g, j * 2 + 1, none⟩ = some (.int .i64 c.sp)) := fun j c hj => by
    have hlt := (List.getElem?_eq_some_iff.1 hj).1
    obtain ⟨g, q, e, -, hg⟩ := h1.form (by omega)
    have ea : a1 = some ⟨g, 0, none⟩ := by injection e
    subst ea
    exact ⟨g, rfl, own_cells h1 hj (by omega) (o := none) rfl⟩
  have H2 : Hid (∀ j c, l[j]? = some c → ∃ g, a2 = some ⟨g, 0, none⟩ ∧ w.cell? ⟨g, j * 2, none⟩ = some (.string c.tx) ∧ w.cell? ⟨g, j * 2 + 1, none⟩ = some (.int .i64 c.sp)) := fun j c hj => by
    have hlt := (List.getElem?_eq_some_iff.1 hj).1
    obtain ⟨g, q, e, -, hg⟩ := h2.form (by omega)
    have ea : a2 = some ⟨g, 0, none⟩ := by injection e
    subst ea
    exact ⟨g, rfl, own_cells h2 hj (by omega) (o := none) rfl⟩
  have HN : Hid (l.length = n) := hl
  clear h1 h2 hl
  go_enter Tryd.func27, Tryd.ntmps27
  go_wp2
  go_loopw [5] (fun t wr => ∃ k m : Nat, k ≤ n ∧ t = .int .i64 k ∧ wr = w.drewN m) (fun t _ => n - (intOf t).toNat)
  case atStart => exact ⟨0, 0, Nat.zero_le _, rfl, rfl⟩
  case round =>
    obtain ⟨k, m, hk, rfl, rfl⟩ := hrel
    by_cases hlt : k < n
    · obtain ⟨c, hc⟩ : ∃ c, l[k]? = some c := ⟨l[k]'(by rw [HN.out]; exact hlt), List.getElem?_eq_getElem _⟩
      obtain ⟨g1, rfl, x0, x1⟩ := H1.out k c hc
      obtain ⟨g2, rfl, y0, y1⟩ := H2.out k c hc
      have hn1 := hne c.tx c.tx c.sp c.sp
      simp only [decide_true, Bool.and_self, Bool.not_true] at hn1
      clear hne H1 H2
      go_wp2
      go_quiet (fail)
      go_wp2
      exact ⟨⟨k + 1, m + nq, by omega, by go_num, rfl⟩, by simp [intOf]; omega⟩
    · go_wp2
      go_ret
      exact ⟨rfl, rfl, rfl, rfl, Nat.le_refl _, fun _ _ => rfl⟩
set_option maxRecDepth 100000 in
set_option maxHeartbeats 1000000 in
theorem rsm_any {b1 b2 : World} {W r c : Int} {v1 v2 : Value} (R : List (List Cel)) (hR : R.length ≤ 2147483648) (hl : ∀ l ∈ R, l.length ≤ 2147483648) (w : World) (h1 : Fr b1 v1 R w) (h2 : Fr b2 v2 R w) :
    Calls Tryd.prog 11 #[.agg #[.int .i64 W, v1, .int .i64 r, .int .i64 c], .agg #[.int .i64 W, v2, .int .i64 r, .int .i64 c]] w fun e w' => e = .returned (.bool true) ∧ Below w.heap.size w w' := by
  obtain ⟨oa1, ok1, e1⟩ := h1.len
  obtain ⟨oa2, ok2, e2⟩ := h2.len
  obtain ⟨N, hN⟩ : ∃ N, R.length = N := ⟨_, rfl⟩
  rw [hN] at e1 e2
  subst e1
  subst e2
  have HN : Hid (R.length = N ∧ N ≤ 2147483648) := ⟨hN, by omega⟩
  have HR : Hid (∀ (i : Nat) (l : List Cel), R[i]? = some l → ∀ Y, Below w.heap.size w Y → ∃ g1 g2 a1 a2 k1 k2, oa1 = some ⟨g1, 0, none⟩ ∧ oa2 = some ⟨g2, 0, none⟩ ∧ Y.cell? ⟨g1, i, none⟩ = some (.slice a1 l.length k1) ∧ Y.cell? ⟨g2, i, none⟩ = some (.slice a2 l.length k2) ∧ ∀ Z, Below w.heap.size w Z → Calls Tryd.prog 27 #[.slice a1 l.length k1, .slice a2 l.length k2] Z fun e w' => e = .returned (.bool true) ∧ Below Z.heap.size Z w') := fun i l hi Y hY => by
    obtain ⟨g1, o1, a1, k1, e1, f1, c1, w1⟩ := h1.at hi
    obtain ⟨g2, o2, a2, k2, e2, f2, c2, w2⟩ := h2.at hi
    have e1 : oa1 = some ⟨g1, 0, none⟩ := by injection e1
    have e2 : oa2 = some ⟨g2, 0, none⟩ := by injection e2
    refine ⟨g1, g2, a1, a2, k1, k2, e1, e2, (hY.cell (p := ⟨g1, i, none⟩) f1).trans c1, (hY.cell (p := ⟨g2, i, none⟩) f2).trans c2, fun Z hZ => ?_⟩
    exact rsr_any l rfl (hl l (List.mem_of_getElem? hi)) Z (o_keep w1 (fun g e => hZ.block g (o_blk w1 e).2.2)) (o_keep w2 (fun g e => hZ.block g (o_blk w2 e).2.2))
  have H0 : Hid (Below w.heap.size w ((w.alloc (.cells #[.int .i64 W, .slice oa1 N ok1, .int .i64 r, .int .i64 c] 30)).alloc (.cells #[.int .i64 W, .slice oa2 N ok2, .int .i64 r, .int .i64 c] 30)) ∧ ((w.alloc (.cells #[.int .i64 W, .slice oa1 N ok1, .int .i64 r, .int .i64 c] 30)).alloc (.cells #[.int .i64 W, .slice oa2 N ok2, .int .i64 r, .int .i64 c] 30)).heap[w.heap.size]? = some (.cells #[.int .i64 W, .slice oa1 N ok1, .int .i64 r, .int .i64 c] 30 (0, 0)) ∧ ((w.alloc (.cells #[.int .i64 W, .slice oa1 N ok1, .int .i64 r, .int .i64 c] 30)).alloc (.cells #[.int .i64 W, .slice oa2 N ok2, .int .i64 r, .int .i64 c] 30)).heap[w.heap.size + 1]? = some (.cells #[.int .i64 W, .slice oa2 N ok2, .int .i64 r, .int .i64 c] 30 (0, 0))) := by
    obtain ⟨q0, q1⟩ := push2 w.heap (.cells #[.int .i64 W, .slice oa1 N ok1, .int .i64 r, .int .i64 c] 30) (.cells #[.int .i64 W, .slice oa2 N ok2, .int .i64 r, .int .i64 c] 30)
    exact ⟨((Below.refl _ w).alloc (Nat.le_refl _) _).alloc (by simp) _, q0, q1⟩
  clear h1 h2 hR hl hN
  go_enter Tryd.func11, Tryd.ntmps11
  go_wp2
  generalize ((w.alloc (.cells #[.int .i64 W, .slice oa1 N ok1, .int .i64 r, .int .i64 c] 30)).alloc (.cells #[.int .i64 W, .slice oa2 N ok2, .int .i64 r, .int .i64 c] 30)) = W0 at H0 ⊢
  go_loopw [5] (fun t wr => ∃ k : Nat, k ≤ N ∧ t = .int .i64 k ∧ Hid (Below w.heap.size w wr ∧ wr.heap[w.heap.size]? = some (.cells #[.int .i64 W, .slice oa1 N ok1, .int .i64 r, .int .i64 c] 30 (0, 0)) ∧ wr.heap[w.heap.size + 1]? = some (.cells #[.int .i64 W, .slice oa2 N ok2, .int .i64 r, .int .i64 c] 30 (0, 0)))) (fun t _ => N - (intOf t).toNat)
  case atStart => exact ⟨0, Nat.zero_le _, rfl, H0⟩
  case round =>
    clear H0
    obtain ⟨k, hk, rfl, HW⟩ := hrel
    obtain ⟨⟨-, p1, -, -⟩, -⟩ := box4 HW.out.2.1
    obtain ⟨⟨-, q1, -, -⟩, -⟩ := box4 HW.out.2.2
    by_cases hlt : k < N
    · obtain ⟨l, hl⟩ : ∃ l, R[k]? = some l := ⟨R[k]'(by rw [HN.out.1]; exact hlt), List.getElem?_eq_getElem _⟩
      obtain ⟨g1, g2, a1, a2, k1, k2, rfl, rfl, x0, y0, hc⟩ := HR.out k l hl wr HW.out.1
      have HC : Hid (∀ Z, Below w.heap.size w Z → Calls Tryd.prog 27 #[.slice a1 l.length k1, .slice a2 l.length k2] Z fun e w' => e = .returned (.bool true) ∧ Hid (Below Z.heap.size Z w')) := hc
      have hlt' : (k : Int) < N := by omega
      have HLT : Hid (k < N ∧ N ≤ 2147483648) := ⟨hlt, HN.out.2⟩
      have HD : Hid (Below w.heap.size w wr.drew) := ⟨HW.out.1.os, HW.out.1.tape, HW.out.1.output, HW.out.1.size, HW.out.1.block⟩
      obtain ⟨n, hn⟩ : ∃ n, l.length = n := ⟨_, rfl⟩
      rw [hn] at x0 y0 HC
      clear hc hl hn hlt HR
      go_wp2
      go_region_held3 (fun w' => w'.cell? ⟨w.heap.size, 1, none⟩ = some (.slice (some ⟨g1, 0, none⟩) N ok1) ∧ w'.cell? ⟨w.heap.size + 1, 1, none⟩ = some (.slice (some ⟨g2, 0, none⟩) N ok2) ∧ w'.cell? ⟨g1, k, none⟩ = some (.slice a1 n k1) ∧ w'.cell? ⟨g2, k, none⟩ = some (.slice a2 n k2)) (first | go_keep | exact ⟨p1, q1, x0, y0⟩) (first | (go_at_call 27; refine (HC.out _ HD.out).mono ?_; clear HC; rintro e w2 ⟨rfl, HB2⟩; replace p1 := (HB2.out.cell (p := ⟨w.heap.size, 1, none⟩) (World.block_lt_of_cell? wr _ p1)).trans p1; replace q1 := (HB2.out.cell (p := ⟨w.heap.size + 1, 1, none⟩) (World.block_lt_of_cell? wr _ q1)).trans q1; replace x0 := (HB2.out.cell (p := ⟨g1, k, none⟩) (World.block_lt_of_cell? wr _ x0)).trans x0; replace y0 := (HB2.out.cell (p := ⟨g2, k, none⟩) (World.block_lt_of_cell? wr _ y0)).trans y0) | fail)
      all_goals
        go_wp2
        go_roundw
      all_goals first
        | exact ⟨k + 1, by have := HLT.out; omega, by rw [w64s (by have := HLT.out; omega)], HD.out.trans (HB2.out.mono HD.out.size), (HB2.out.block _ (Array.getElem?_eq_some_iff.1 HW.out.2.1).1).trans HW.out.2.1, (HB2.out.block _ (Array.getElem?_eq_some_iff.1 HW.out.2.2).1).trans HW.out.2.2⟩
        | (have := HLT.out; rw [w64s (by omega)]; simp [intOf]; omega)
    · go_wp2
      go_ret
      exact ⟨rfl, HW.out.1⟩
end Go.Proofs.YtojkpkokjkjeeaaDoor
