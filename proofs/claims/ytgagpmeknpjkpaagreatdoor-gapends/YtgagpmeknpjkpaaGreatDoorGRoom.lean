/-
  What package gap's makeRoom does: the capacity becomes lawful, the text and the gap's place stay. Conditions: the length that is asked for is at most the limit, and at least the text's.
-/
import Derived.Test.YtgagpmeknpjkpaaGreatDoorGShift
import Derived.Deep.OwnRows
namespace Go.Proofs.YtgagpmeknpjkpaaGreatDoor
open Go.RowKit Bod

theorem infoZ : (Tryz.prog.info? 5).map (fun i => (i.zero, i.size, i.bytes)) = some (some (.int .u8 0), 1, 1) := by kernel_rfl
theorem made_bc (m : Nat) : madeCells #[.int .u8 0] m = (Lib.byteCells (List.replicate m 0)).toArray := by
  apply Array.ext
  · simp [Lib.byteCells, madeCells]
  · intro i h1 h2
    simp [Lib.byteCells, madeCells, Nat.mod_one]

/-- the last operation of a region whose run is known -/
theorem last_run {F : Fence} {n : Nat} {P : Program} {ops : Array Oper} {Q : Exit → Act → World → Prop} {o : Oper} {a : Act} {w w' : World} {v : Value} (hgo : o.guard = none) (hro : F.round = none) (hF : ∀ f, F.fn f) (hr : (execOp a.eval o).run P w = .ok (.value v) w') (h : Q .normal (a.put o.dst v) w') : wpListIn F n P ops Q [o] a w := by
  unfold wpListIn
  rw [if_pos (by simp [Region.wanted, hgo])]
  unfold Oper.wpIn
  refine ⟨fun f _ => hF f, ?_⟩
  rw [hro, Oper.semAt_none, hr]
  exact h
/-- bytes of one row are copied into another -/
theorem copy_to {j : Nat} {Z A : List UInt8} {a : Option Addr} {dl dc off so n : Nat} {r : Option Nat} (hnil : r = none → A = []) (ha : 0 < n → a = some ⟨j, off, none⟩) (hn : n ≤ dl) (h1 : off + n ≤ Z.length) (h2 : so + n ≤ A.length) (ty : TypeId) (X : World) (hj : X.heap[j]? = some (.cells (Lib.byteCells Z).toArray 5 (0, 0))) (hsrc : ∀ k, r = some k → X.heap[k]? = some (.cells (Lib.byteCells A).toArray 5 (0, 0))) :
    (Builtin.copy_ #[39, 39] ty #[.slice a dl dc, cutV (ad r) so (so + n) A.length]).run Tryz.prog X = .ok (goInt n) (X.setRow j (Lib.byteCells (splice Z off ((A.drop so).take n))).toArray) := by
  have hcl : ((A.drop so).take n).length = n := by simp; omega
  by_cases hn0 : n = 0
  · subst hn0
    have e1 : splice Z off ((A.drop so).take 0) = Z := by simp [splice]
    rw [e1, setRow_self X j _ 5 _ hj]
    unfold cutV sliced
    exact run_copy_none (P := Tryz.prog) _ 39 39 ty 5 _ _ _ _ _ _ Tryz.underlying39 infoB (by simp)
  · obtain rfl := ha (by omega)
    cases r with
    | none => have := hnil rfl; subst this; simp at h2; omega
    | some i =>
      unfold cutV sliced ad
      rw [if_neg (by omega)]
      have hrow := hsrc i rfl
      have := run_copy_row Tryz.prog X 39 39 ty 5 j off dl dc ⟨i, so * 1, none⟩ (so + n - so) (A.length - so) (Lib.byteCells Z).toArray 5 (Lib.byteCells ((A.drop so).take n)) Tryz.underlying39 infoB hj
        (by rw [bc_len, hcl]; show n = min _ _; omega) (fun m v hv => ?_) (by simp [bc_len, hcl]; omega) (bc_one _)
      · rw [bc_len, hcl] at this
        simp only [Option.map_some, adr, Nat.zero_add]
        rw [this, bc_splice, bc_len, hcl]
        simp
      · have hi : m < n := by
          have := (List.getElem?_eq_some_iff.1 hv).1
          rw [bc_len, hcl] at this
          exact this
        rw [adr]
        have e1 : (Lib.byteCells A)[so * 1 + m]? = some v := by
          rw [← hv]
          simp [Lib.byteCells, hi]
        unfold World.cell?
        dsimp only
        rw [hrow]
        simpa using e1
theorem run_cut_h (a : Option Addr) (N hi : Nat) (h : hi ≤ N) (W : World) : (Instr.sliceAt 39 (.slice a N N) none (some (.int .i64 hi)) none).run Tryz.prog W = .ok (cutV a 0 hi N) W := by
  rw [run_sliceAt_slice _ _ _ _ _ _ unLB, run_slice_h _ _ _ _ _ unLB _ _ (by omega) (by omega), szLB]
  rfl
theorem cell_row {X : World} {j b : Nat} (hne : b ≠ j) (cs : Array Value) (i : Nat) : (X.setRow j cs).cell? ⟨b, i, none⟩ = X.cell? ⟨b, i, none⟩ := by
  unfold World.cell?
  dsimp only
  rw [setRow_other X j b cs hne]
theorem frozen_row {X : World} {j b : Nat} (hne : b ≠ j) (cs : Array Value) (i : Nat) : (X.setRow j cs).frozen? ⟨b, i, none⟩ = X.frozen? ⟨b, i, none⟩ := by
  unfold World.frozen?
  dsimp only
  rw [setRow_other X j b cs hne]

set_option maxRecDepth 100000 in
set_option maxHeartbeats 1000000 in
theorem room_kept {b : Nat} {r : Option Nat} {A : List UInt8} {p e l n : Nat} (w : World) (h : PA w b r A p e l) (h1 : n ≤ A.length) (h2 : A.length ≤ 2 * max n 64) (hA : A.length ≤ 4294967296) :
    Calls Tryz.prog 64 #[.pointer (some ⟨b, 0, none⟩), .int .i64 n] w fun x w' => x = .returned (.tuple #[]) ∧ w' = w := by
  obtain ⟨⟨c0, c1, c2, c3⟩, f0, f1, f2, f3⟩ := box4 h.box
  have hb := h.lt
  obtain ⟨N, hN⟩ : ∃ N, A.length = N := ⟨_, rfl⟩
  rw [hN] at c0 h1 h2 hA
  obtain ⟨R, hR⟩ : ∃ R : Nat, (max (n : Int) 64) = R := ⟨max n 64, by omega⟩
  have h3 : (N : Int) ≤ 2 * R := by omega
  clear h hN h2
  go_enter Tryz.func64, Tryz.ntmps64
  go_wp2
  exact bodyPost_ret (v := .tuple #[]) (by simp [results, Tryz.results64, go_sem]) rfl ⟨rfl, rfl⟩

set_option maxRecDepth 100000 in
set_option maxHeartbeats 4000000 in
theorem room_new {b : Nat} {r : Option Nat} {A : List UInt8} {p e l n : Nat} {t : List UInt8} (w : World) (h : PA w b r A p e l) (hg : Gap A p e t) (ht : t.length ≤ n) (hn : n ≤ l) (hl : l ≤ 1073741824) (h1 : ¬ (n ≤ A.length ∧ A.length ≤ 2 * max n 64)) (hA : A.length ≤ 4294967296) :
    CallsIn .wide 0 Tryz.prog 64 #[.pointer (some ⟨b, 0, none⟩), .int .i64 n] w fun x w' => x = .returned (.tuple #[]) ∧ ∃ A' e', PA w' b (some w.heap.size) A' p e' l ∧ Gap A' p e' t ∧ n ≤ A'.length ∧ A'.length ≤ 2 * max n 64 ∧ A'.length ≤ l ∧ Ch b r w w' := by
  obtain ⟨⟨c0, c1, c2, c3⟩, f0, f1, f2, f3⟩ := box4 h.box
  have hb := h.lt
  obtain ⟨R, hR⟩ : ∃ R : Nat, (max (n : Int) 64) = R := ⟨max n 64, by omega⟩
  have hRN : max n 64 = R := by omega
  rw [hRN] at h1 ⊢
  obtain ⟨N, hN⟩ : ∃ N, A.length = N := ⟨_, rfl⟩
  rw [hN] at c0 h1 hA
  have h1 : N < n ∨ (n ≤ N ∧ (2 : Int) * R < N) := by omega
  have g1 := hg.pe; have g2 := hg.eA; have g3 := hg.len
  rw [hN] at g2 g3
  obtain ⟨m, hm⟩ : ∃ m : Nat, (min ((n : Int) + R / 2) l) = m := ⟨min (n + R / 2) l, by omega⟩
  obtain ⟨j, hj⟩ : ∃ j, w.heap.size = j := ⟨_, rfl⟩
  rw [hj]
  obtain ⟨q, hq⟩ : ∃ q, N - e = q := ⟨_, rfl⟩
  obtain ⟨f, hf⟩ : ∃ f, m - q = f := ⟨_, rfl⟩
  have hm1 : n ≤ m := by omega
  have hm2 : m ≤ 2 * R := by omega
  have hm3 : m ≤ l := by omega
  obtain ⟨W0, hW0⟩ : ∃ W0, w.alloc (.cells (Lib.byteCells (List.replicate m 0)).toArray 5) = W0 := ⟨_, rfl⟩
  have hB0 : Below w.heap.size w W0 := by rw [← hW0]; exact (Below.refl _ w).alloc (Nat.le_refl _) _
  have hP0 : PA W0 b r A p e l := h.below hB0
  have hr0 : W0.heap[j]? = some (.cells (Lib.byteCells (List.replicate m 0)).toArray 5 (0, 0)) := by rw [← hW0, ← hj]; exact World.alloc_heap_new w _
  have hbj : b ≠ j := by omega
  have hrj : ∀ k, r = some k → k ≠ j := fun k hk => by have := h.rlt hk; omega
  obtain ⟨⟨d0, d1, d2, d3⟩, e0, e1, e2, e3⟩ := box4 hP0.box
  rw [hN] at d0
  have hmk : (Instr.makeSlice 39 (.int .i64 (m : Int)) (.int .i64 (m : Int))).run Tryz.prog w = .ok (.slice (some ⟨j, 0, none⟩) m m) W0 := by
    rw [run_make_row' 39 5 (.int .u8 0) 1 Tryz.underlying39 infoZ rfl .i64 .i64 m (by omega) (by omega) w, made_bc, hj, hW0]
  have s1 : ∀ W, (Instr.sliceAt 39 (.slice (ad r) N N) none (some (.int .i64 p)) none).run Tryz.prog W = .ok (cutV (ad r) 0 p N) W := fun W => run_cut_h _ N p (by omega) W
  have s2 : ∀ W, (Instr.sliceAt 39 (.slice (ad r) N N) (some (.int .i64 e)) none none).run Tryz.prog W = .ok (cutV (ad r) e N N) W := fun W => run_cut _ N e (by omega) W
  have s3 : ∀ W, (Instr.sliceAt 39 (.slice (some ⟨j, 0, none⟩) m m) (some (.int .i64 f)) none none).run Tryz.prog W = .ok (cutV (some ⟨j, 0, none⟩) f m m) W := fun W => run_cut _ m f (by omega) W
  have k1 : IntKind.i64.wrap ((N : Int) - e) = q := by rw [IntKind.wrap_i64]; omega
  have k2 : IntKind.i64.wrap ((m : Int) - q) = f := by rw [IntKind.wrap_i64]; omega
  have cr : ∀ (X : World) cs i, (X.setRow j cs).cell? ⟨b, i, none⟩ = X.cell? ⟨b, i, none⟩ := fun X cs i => cell_row hbj cs i
  have fr : ∀ (X : World) cs i, (X.setRow j cs).frozen? ⟨b, i, none⟩ = X.frozen? ⟨b, i, none⟩ := fun X cs i => frozen_row hbj cs i
  have hL1 : (splice (List.replicate m (0 : UInt8)) 0 (A.take p)).length = m := by rw [length_splice _ _ _ (by simp; omega)]; simp
  have HZ : Hid (∀ X : World, X.heap = W0.heap → (Builtin.copy_ #[39, 39] 3 #[.slice (some ⟨j, 0, none⟩) m m, cutV (ad r) 0 p N]).run Tryz.prog X = .ok (goInt p) (X.setRow j (Lib.byteCells (splice (List.replicate m 0) 0 (A.take p))).toArray)) := fun X hX => by
    have := copy_to (j := j) (Z := List.replicate m 0) (A := A) (a := some ⟨j, 0, none⟩) (dl := m) (dc := m) (off := 0) (so := 0) (n := p) (r := r) h.nil (fun _ => rfl) (by omega) (by simp; omega) (by omega) 3 X (by rw [hX]; exact hr0) (fun k hk => by rw [hX]; exact (hP0.row k hk).2)
    rw [hN] at this
    simpa using this
  have HY : Hid (∀ X : World, (∀ k, r = some k → X.heap[k]? = W0.heap[k]?) → X.heap[j]? = some (.cells (Lib.byteCells (splice (List.replicate m 0) 0 (A.take p))).toArray 5 (0, 0)) → (Builtin.copy_ #[39, 39] 3 #[cutV (some ⟨j, 0, none⟩) f m m, cutV (ad r) e N N]).run Tryz.prog X = .ok (goInt q) (X.setRow j (Lib.byteCells (splice (splice (List.replicate m 0) 0 (A.take p)) f (A.drop e))).toArray)) := fun X hX hXj => by
    have := copy_to (j := j) (Z := splice (List.replicate m 0) 0 (A.take p)) (A := A) (a := if m = f then some ⟨j, 0, none⟩ else some ⟨j, f, none⟩) (dl := m - f) (dc := m - f) (off := f) (so := e) (n := q) (r := r) h.nil (fun _ => by rw [if_neg (by omega)]) (by omega) (by rw [hL1]; omega) (by omega) 3 X hXj (fun k hk => by rw [hX k hk]; exact (hP0.row k hk).2)
    rw [hN, show e + q = N by omega, show (A.drop e).take q = A.drop e from List.take_of_length_le (by rw [List.length_drop]; omega)] at this
    rw [← this]
    unfold cutV sliced
    simp [adr]
  have hL2 : (splice (splice (List.replicate m (0 : UInt8)) 0 (A.take p)) f (A.drop e)).length = m := by rw [length_splice _ _ _ (by rw [hL1]; simp; omega)]; exact hL1
  have HG : Hid (Gap (splice (splice (List.replicate m (0 : UInt8)) 0 (A.take p)) f (A.drop e)) p f t ∧ (splice (splice (List.replicate m (0 : UInt8)) 0 (A.take p)) f (A.drop e)).length = m) := by
    refine ⟨?_, hL2⟩
    have := hg.remade (Z := List.replicate m 0) (by rw [List.length_replicate]; omega)
    rw [List.length_replicate, hN, hq, hf] at this
    exact this
  have HF : Hid (∀ k1 k2, PA ((((((W0.drewN k1).setRow j (Lib.byteCells (splice (List.replicate m 0) 0 (A.take p))).toArray).drewN k2).setRow j (Lib.byteCells (splice (splice (List.replicate m 0) 0 (A.take p)) f (A.drop e))).toArray).setCell ⟨b, 0, none⟩ (.slice (some ⟨j, 0, none⟩) m m)).setCell ⟨b, 2, none⟩ (.int .i64 f)) b (some j) (splice (splice (List.replicate m 0) 0 (A.take p)) f (A.drop e)) p f l ∧
      Ch b r w ((((((W0.drewN k1).setRow j (Lib.byteCells (splice (List.replicate m 0) 0 (A.take p))).toArray).drewN k2).setRow j (Lib.byteCells (splice (splice (List.replicate m 0) 0 (A.take p)) f (A.drop e))).toArray).setCell ⟨b, 0, none⟩ (.slice (some ⟨j, 0, none⟩) m m)).setCell ⟨b, 2, none⟩ (.int .i64 f))) := fun k1 k2 => by
    obtain ⟨X1, hX1⟩ : ∃ X1, ((W0.drewN k1).setRow j (Lib.byteCells (splice (List.replicate m 0) 0 (A.take p))).toArray).drewN k2 = X1 := ⟨_, rfl⟩
    have x1 : X1.heap[b]? = some (.cells #[.slice (ad r) N N, .int .i64 p, .int .i64 e, .int .i64 l] 41 (0, 0)) := by
      rw [← hX1, ← hN]
      exact (setRow_other _ _ _ _ hbj).trans hP0.box
    have x2 : X1.heap[j]? = some (.cells (Lib.byteCells (splice (List.replicate m 0) 0 (A.take p))).toArray 5 (0, 0)) := by
      rw [← hX1]
      exact setRow_heap _ _ _ _ _ _ hr0
    have x3 : Ch b (some j) W0 X1 := by
      rw [← hX1]
      exact ((Ch.drewN b (some j) W0 k1).trans (Nw.refl _ _) (Ch.setRow b j _ _)).trans (Nw.refl _ _) (Ch.drewN b (some j) _ k2)
    rw [hX1]
    obtain ⟨X2, hX2⟩ : ∃ X2, X1.setRow j (Lib.byteCells (splice (splice (List.replicate m 0) 0 (A.take p)) f (A.drop e))).toArray = X2 := ⟨_, rfl⟩
    have y1 : X2.heap[b]? = some (.cells #[.slice (ad r) N N, .int .i64 p, .int .i64 e, .int .i64 l] 41 (0, 0)) := by
      rw [← hX2]
      exact (setRow_other _ _ _ _ hbj).trans x1
    have y2 : X2.heap[j]? = some (.cells (Lib.byteCells (splice (splice (List.replicate m 0) 0 (A.take p)) f (A.drop e))).toArray 5 (0, 0)) := by
      rw [← hX2]
      exact setRow_heap _ _ _ _ _ _ x2
    have y3 : Ch b (some j) W0 X2 := by
      rw [← hX2]
      exact x3.trans (Nw.refl _ _) (Ch.setRow b j _ _)
    rw [hX2]
    refine ⟨⟨?_, fun k hk => ?_, fun h0 => by cases h0⟩, ?_⟩
    · have := set1 (i := 2) (.int .i64 f) (set1 (i := 0) (.slice (some ⟨j, 0, none⟩) m m) y1)
      rw [this, hL2]
      rfl
    · cases hk
      refine ⟨fun e => hbj e.symm, ?_⟩
      have g1 := gcell X2 b 0 (.slice (some ⟨j, 0, none⟩) m m)
      have hjl : j < X2.heap.size := (Array.getElem?_eq_some_iff.1 y2).1
      have hne : some j ≠ some b := fun e => hbj (Option.some.inj e).symm
      rw [(gcell _ b 2 (.int .i64 f)).block j (Nat.lt_of_lt_of_le hjl g1.size) hne, g1.block j hjl hne]
      exact y2
    · exact (Ch.below hB0).trans (.inr ⟨j, rfl, by omega⟩) ((y3.trans (Nw.refl _ _) (Ch.set b (some j) _ 0 _)).trans (Nw.refl _ _) (Ch.set b (some j) _ 2 _))
  rcases h1 with h1 | h1
  · have hd : ¬ ((n : Int) ≤ N) := by omega
    clear h hg ht hW0 hB0 hP0 c2 hL1 hL2 h1 hRN hq hf hN g1 g2 g3
    refine callsIn_of_wp_marks Tryz.func64 rfl trivial ?_ rfl
    simp only [Tryz.ntmps64, List.size_toArray, List.length_cons, List.length_nil, Nat.reduceAdd, Nat.reduceSub, Array.replicate_succ, Array.replicate_zero, List.push_toArray, List.append_toArray, List.nil_append, List.cons_append]
    gi_wp2
    refine wpIn_region_quiet_lit rfl (by kernel_rfl) (by kernel_rfl) ?_
    repeat (gi_big_quiet_step (fail))
    refine wpQuietIn_nil ?_
    intro _ hw'
    obtain ⟨nq, hw''⟩ := hw'
    subst hw''
    gi_wp2
    refine region_thenB (by kernel_rfl) (by kernel_rfl) (by kernel_rfl) (by kernel_rfl) rfl rfl ?_
    dsimp only [List.dropLast, List.getLast]
    repeat (gi_big_quiet_step (fail))
    refine wpQuietIn_nil ?_
    intro _ hw'
    obtain ⟨nr, hw''⟩ := hw'
    subst hw''
    refine last_run rfl rfl (fun _ => trivial) (exec_copy (.tmp 49) (.tmp 58) 39 39 rfl _ _ rfl rfl (HZ.out _ rfl)) ?_
    simp only [Act.put, List.setIfInBounds_toArray, List.set_cons_succ, List.set_cons_zero]
    gi_wp2
    refine region_thenB (by kernel_rfl) (by kernel_rfl) (by kernel_rfl) (by kernel_rfl) rfl rfl ?_
    dsimp only [List.dropLast, List.getLast]
    repeat (gi_big_quiet_step (fail))
    refine wpQuietIn_nil ?_
    intro _ hw'
    obtain ⟨ns, hw''⟩ := hw'
    subst hw''
    refine last_run rfl rfl (fun _ => trivial) (exec_copy (.tmp 62) (.tmp 71) 39 39 rfl _ _ rfl rfl (HY.out _ (fun k hk => setRow_other _ _ _ _ (hrj k hk)) (setRow_heap _ _ _ _ _ _ hr0))) ?_
    simp only [Act.put, List.setIfInBounds_toArray, List.set_cons_succ, List.set_cons_zero]
    gi_wp2
    exact ⟨.tuple #[], by simp [results, Tryz.results64, go_sem], rfl, _, f, (HF.out _ _).1, HG.out.1, by rw [HG.out.2]; exact hm1, by rw [HG.out.2]; exact hm2, by rw [HG.out.2]; exact hm3, (HF.out _ _).2⟩
  · have hd : (n : Int) ≤ N := by omega
    have hd2 : (2 : Int) * R < N := by omega
    clear h hg ht hW0 hB0 hP0 c2 hL1 hL2 h1 hRN hq hf hN g1 g2 g3
    refine callsIn_of_wp_marks Tryz.func64 rfl trivial ?_ rfl
    simp only [Tryz.ntmps64, List.size_toArray, List.length_cons, List.length_nil, Nat.reduceAdd, Nat.reduceSub, Array.replicate_succ, Array.replicate_zero, List.push_toArray, List.append_toArray, List.nil_append, List.cons_append]
    gi_wp2
    refine wpIn_region_quiet_lit rfl (by kernel_rfl) (by kernel_rfl) ?_
    repeat (gi_big_quiet_step (fail))
    refine wpQuietIn_nil ?_
    intro _ hw'
    obtain ⟨nq, hw''⟩ := hw'
    subst hw''
    gi_wp2
    refine region_thenB (by kernel_rfl) (by kernel_rfl) (by kernel_rfl) (by kernel_rfl) rfl rfl ?_
    dsimp only [List.dropLast, List.getLast]
    repeat (gi_big_quiet_step (fail))
    refine wpQuietIn_nil ?_
    intro _ hw'
    obtain ⟨nr, hw''⟩ := hw'
    subst hw''
    refine last_run rfl rfl (fun _ => trivial) (exec_copy (.tmp 49) (.tmp 58) 39 39 rfl _ _ rfl rfl (HZ.out _ rfl)) ?_
    simp only [Act.put, List.setIfInBounds_toArray, List.set_cons_succ, List.set_cons_zero]
    gi_wp2
    refine region_thenB (by kernel_rfl) (by kernel_rfl) (by kernel_rfl) (by kernel_rfl) rfl rfl ?_
    dsimp only [List.dropLast, List.getLast]
    repeat (gi_big_quiet_step (fail))
    refine wpQuietIn_nil ?_
    intro _ hw'
    obtain ⟨ns, hw''⟩ := hw'
    subst hw''
    refine last_run rfl rfl (fun _ => trivial) (exec_copy (.tmp 62) (.tmp 71) 39 39 rfl _ _ rfl rfl (HY.out _ (fun k hk => setRow_other _ _ _ _ (hrj k hk)) (setRow_heap _ _ _ _ _ _ hr0))) ?_
    simp only [Act.put, List.setIfInBounds_toArray, List.set_cons_succ, List.set_cons_zero]
    gi_wp2
    exact ⟨.tuple #[], by simp [results, Tryz.results64, go_sem], rfl, _, f, (HF.out _ _).1, HG.out.1, by rw [HG.out.2]; exact hm1, by rw [HG.out.2]; exact hm2, by rw [HG.out.2]; exact hm3, (HF.out _ _).2⟩

theorem room_any {b : Nat} {r : Option Nat} {A : List UInt8} {p e l n : Nat} {t : List UInt8} (w : World) (h : PA w b r A p e l) (hg : Gap A p e t) (ht : t.length ≤ n) (hn : n ≤ l) (hl : l ≤ 1073741824) (hA : A.length ≤ 4294967296) :
    Calls Tryz.prog 64 #[.pointer (some ⟨b, 0, none⟩), .int .i64 n] w fun x w' => x = .returned (.tuple #[]) ∧ ∃ r' A' e', PA w' b r' A' p e' l ∧ Gap A' p e' t ∧ n ≤ A'.length ∧ A'.length ≤ 2 * max n 64 ∧ (A.length ≤ l → A'.length ≤ l) ∧ Ch b r w w' ∧ Nw w r r' := by
  by_cases h1 : n ≤ A.length ∧ A.length ≤ 2 * max n 64
  · exact (room_kept w h h1.1 h1.2 hA).mono fun x w' ⟨e1, e2⟩ => ⟨e1, r, A, e, by rw [e2]; exact h, hg, h1.1, h1.2, id, by rw [e2]; exact Ch.refl _ _ _, .inl rfl⟩
  · exact (callsIn_wide.1 (room_new w h hg ht hn hl h1 hA)).mono fun x w' ⟨e1, A', e', q1, q2, q3, q4, q6, q5⟩ => ⟨e1, some w.heap.size, A', e', q1, q2, q3, q4, fun _ => q6, q5, .inr ⟨_, rfl, Nat.le_refl _⟩⟩
end Go.Proofs.YtgagpmeknpjkpaaGreatDoor
