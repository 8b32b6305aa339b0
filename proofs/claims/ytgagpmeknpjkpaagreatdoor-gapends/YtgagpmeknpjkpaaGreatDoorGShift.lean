/-
  What package gap's shift does: the gap comes to another place, the text stays. Conditions: the place is in the text; the array is so short that its numbers don't wrap.
-/
import Derived.Test.YtgagpmeknpjkpaaGreatDoorGPro
import Derived.Lib.BufferWrite
namespace Go.Proofs.YtgagpmeknpjkpaaGreatDoor
open Go.RowKit Bod

theorem bc_splice (A cs : List UInt8) (off : Nat) : Lib.byteCells (splice A off cs) = (Lib.byteCells A).take off ++ (Lib.byteCells cs ++ (Lib.byteCells A).drop (off + (Lib.byteCells cs).length)) := by
  simp [Lib.byteCells, splice]
theorem bc_one (l : List UInt8) : ∀ v ∈ Lib.byteCells l, v.oneCell' = true := Lib.byteCells_one l
theorem bc_len (l : List UInt8) : (Lib.byteCells l).length = l.length := by simp [Lib.byteCells]
theorem adr (j x i : Nat) : (⟨j, x, none⟩ : Addr).add i = ⟨j, x + i, none⟩ := by unfold Addr.add; split <;> simp_all
/-- a cut of the array, as the model lays it -/
def cutV (a : Option Addr) (l h m : Nat) : Value := sliced a l h m 1
theorem infoB : (Tryz.prog.info? 5).map (·.size) = some 1 := by kernel_rfl
theorem exec_copy {P : Program} {w : World} {o : Oper} {a : Act} (d s : Operand) (t t' : TypeId) (ho : o.op = .call { callee := .builtin .copy, args := #[d, s], argTypes := #[t, t'] }) (v u : Value) (hd : a.eval d = v) (hs : a.eval s = u) {v' : Value} {w' : World}
    (hr : (Builtin.copy_ #[t, t'] o.type #[v, u]).run P w = .ok v' w') : (execOp a.eval o).run P w = .ok (.value v') w' := by
  unfold execOp
  simp only [ho, resolve, invoke, builtin, Sem.run_bind, Sem.run_pure, Result.andThen_ok, List.map_toArray, List.map_cons, List.map_nil, hd, hs, hr]
/-- bytes of the array are copied within it -/
theorem copy_in {w : World} {b : Nat} {r : Option Nat} {A : List UInt8} {p e l : Nat} (h : PA w b r A p e l) {off so n : Nat} (h1 : off + n ≤ A.length) (h2 : so + n ≤ A.length) (ty : TypeId) :
    ∃ w1, (∀ k, (Builtin.copy_ #[39, 39] ty #[cutV (ad r) off A.length A.length, cutV (ad r) so (so + n) A.length]).run Tryz.prog (w.drewN k) = .ok (goInt n) (w1.drewN k)) ∧ PA w1 b r (splice A off ((A.drop so).take n)) p e l ∧ Ch b r w w1 := by
  have hcl : ((A.drop so).take n).length = n := by simp; omega
  by_cases hn : n = 0
  · subst hn
    refine ⟨w, fun k => ?_, by simpa [splice] using h, Ch.refl _ _ _⟩
    unfold cutV sliced
    exact run_copy_none (P := Tryz.prog) _ 39 39 ty 5 _ _ _ _ _ _ Tryz.underlying39 infoB (by simp)
  · cases r with
    | none => have := h.nil rfl; subst this; simp at h1; omega
    | some j =>
      refine ⟨w.setRow j (Lib.byteCells (splice A off ((A.drop so).take n))).toArray, fun k => ?_, h.setRow (length_splice _ _ _ (by omega)), Ch.setRow b j w _⟩
      unfold cutV sliced ad
      rw [if_neg (by omega), if_neg (by omega)]
      have hrow := (h.row j rfl).2
      have := run_copy_row Tryz.prog (w.drewN k) 39 39 ty 5 j (off * 1) (A.length - off) (A.length - off) ⟨j, so * 1, none⟩ (so + n - so) (A.length - so) (Lib.byteCells A).toArray 5 (Lib.byteCells ((A.drop so).take n)) Tryz.underlying39 infoB hrow
        (by rw [bc_len, hcl]; show n = min _ _; omega) (fun i v hv => ?_) (by simp [bc_len, hcl]; omega) (bc_one _)
      · rw [bc_len, hcl] at this
        simp only [Option.map_some, adr, Nat.zero_add]
        rw [this, bc_splice, bc_len, hcl]
        simp
        rfl
      · have hi : i < n := by
          have := (List.getElem?_eq_some_iff.1 hv).1
          rw [bc_len, hcl] at this
          exact this
        rw [adr]
        have e1 : (Lib.byteCells A)[so * 1 + i]? = some v := by
          rw [← hv]
          simp [Lib.byteCells, hi]
        have hrow' : (w.drewN k).heap[j]? = some (.cells (Lib.byteCells A).toArray 5 (0, 0)) := hrow
        unfold World.cell?
        dsimp only
        rw [hrow']
        simpa using e1
theorem unLB : Tryz.prog.underlying 39 = some (.slice (Tryz.prog.elem 39)) := by kernel_rfl
theorem szLB (W : World) : (sizeOf (Tryz.prog.elem 39)).run Tryz.prog W = .ok 1 W := by kernel_rfl
theorem run_cut (a : Option Addr) (N lo : Nat) (h : lo ≤ N) (W : World) : (Instr.sliceAt 39 (.slice a N N) (some (.int .i64 lo)) none none).run Tryz.prog W = .ok (cutV a lo N N) W := by
  rw [run_sliceAt_slice _ _ _ _ _ _ unLB, run_slice_l _ _ _ _ _ unLB _ _ (by omega) (by omega), szLB]
  rfl
theorem run_cuts (a : Option Addr) (N lo hi : Nat) (h : lo ≤ hi) (h' : hi ≤ N) (W : World) : (Instr.sliceAt 39 (.slice a N N) (some (.int .i64 lo)) (some (.int .i64 hi)) none).run Tryz.prog W = .ok (cutV a lo hi N) W := by
  rw [run_sliceAt_slice _ _ _ _ _ _ unLB, run_slice_lh _ _ _ _ _ unLB _ _ _ _ (by omega) (by omega) (by omega), szLB]
  rfl

set_option maxRecDepth 100000 in
set_option maxHeartbeats 4000000 in
theorem shift_left {b : Nat} {r : Option Nat} {A : List UInt8} {p e l q : Nat} {t : List UInt8} (w : World) (h : PA w b r A p e l) (hg : Gap A p e t) (hq : q < p) (hA : A.length ≤ 4294967296) :
    CallsIn .wide 0 Tryz.prog 49 #[.pointer (some ⟨b, 0, none⟩), .int .i64 q] w fun x w' => x = .returned (.tuple #[]) ∧ ∃ A' e', PA w' b r A' q e' l ∧ Gap A' q e' t ∧ A'.length = A.length ∧ Ch b r w w' := by
  obtain ⟨⟨c0, c1, c2, c3⟩, f0, f1, f2, f3⟩ := box4 h.box
  have hb := h.lt
  have g1 := hg.pe; have g2 := hg.eA
  obtain ⟨d, hd⟩ : ∃ d, d = p - q := ⟨_, rfl⟩
  obtain ⟨f, hf⟩ : ∃ f, f = e - d := ⟨_, rfl⟩
  obtain ⟨w1, hrun, hP1, hC1⟩ := copy_in h (off := f) (so := q) (n := d) (by omega) (by omega) 3
  obtain ⟨⟨d0, d1, d2, d3⟩, e0, e1, e2, e3⟩ := box4 hP1.box
  have hG1 : Gap (splice A f ((A.drop q).take d)) q f t := by
    have := hg.left (k := q) (by omega)
    rw [← hd, ← hf, List.drop_take, ← hd] at this
    exact this
  have hl : (splice A f ((A.drop q).take d)).length = A.length := length_splice _ _ _ (by simp; omega)
  rw [hl] at d0
  have HX : Hid ((∀ k, (Builtin.copy_ #[39, 39] 3 #[cutV (ad r) f A.length A.length, cutV (ad r) q (q + d) A.length]).run Tryz.prog (w.drewN k) = .ok (goInt d) (w1.drewN k)) ∧ PA w1 b r (splice A f ((A.drop q).take d)) p e l ∧ Ch b r w w1 ∧ Gap (splice A f ((A.drop q).take d)) q f t ∧ (splice A f ((A.drop q).take d)).length = A.length) := ⟨hrun, hP1, hC1, hG1, hl⟩
  clear hrun hP1 hC1 hG1 hl
  obtain ⟨N, hN⟩ : ∃ N, A.length = N := ⟨_, rfl⟩
  rw [hN] at c0 d0 g2 hA
  have s1 : ∀ W, (Instr.sliceAt 39 (.slice (ad r) N N) (some (.int .i64 f)) none none).run Tryz.prog W = .ok (cutV (ad r) f N N) W := fun W => run_cut _ N f (by omega) W
  have s2 : ∀ W, (Instr.sliceAt 39 (.slice (ad r) N N) (some (.int .i64 q)) (some (.int .i64 p)) none).run Tryz.prog W = .ok (cutV (ad r) q p N) W := fun W => run_cuts _ N q p (by omega) (by omega) W
  have k1 : IntKind.i64.wrap ((p : Int) - q) = d := by rw [IntKind.wrap_i64]; omega
  have k2 : IntKind.i64.wrap ((e : Int) - d) = f := by rw [IntKind.wrap_i64]; omega
  have hpq : q + d = p := by omega
  obtain ⟨W, hW0, hW1⟩ : ∃ W : Bool → World, W false = w ∧ W true = w1 := ⟨fun s => if s then w1 else w, rfl, rfl⟩
  obtain ⟨U, hU, hU'⟩ := both W
  have C0 : ∀ m, (U m).cell? ⟨b, 0, none⟩ = some (.slice (ad r) N N) := fun m => by obtain ⟨s, k, hm⟩ := hU' m; rw [hm]; cases s <;> simp [hW0, hW1, c0, d0]
  have C1 : ∀ m, (U m).cell? ⟨b, 1, none⟩ = some (.int .i64 p) := fun m => by obtain ⟨s, k, hm⟩ := hU' m; rw [hm]; cases s <;> simp [hW0, hW1, c1, d1]
  have C2 : ∀ m, (U m).cell? ⟨b, 2, none⟩ = some (.int .i64 e) := fun m => by obtain ⟨s, k, hm⟩ := hU' m; rw [hm]; cases s <;> simp [hW0, hW1, c2, d2]
  have HU : Hid (∀ s k, ∃ m, (W s).drewN k = U m) := hU
  have HW : Hid (W true = w1) := hW1
  have HW0 : Hid (W false = w) := hW0
  have HD : Hid ((d : Int) = p - q ∧ q + d = p ∧ A.length = N) := ⟨by omega, hpq, hN⟩
  clear h hg hd hf hW0 hW1 hU hU' g1 g2 hpq hN
  refine callsIn_of_wp_marks Tryz.func49 rfl trivial ?_ rfl
  simp only [Tryz.ntmps49, List.size_toArray, List.length_cons, List.length_nil, Nat.reduceAdd, Nat.reduceSub, Array.replicate_succ, Array.replicate_zero, List.push_toArray, List.append_toArray, List.nil_append, List.cons_append]
  gi_wp2
  refine region_mid W HW0.out U HU.out 30 rfl (fun _ => trivial) (by kernel_rfl) (by kernel_rfl) (by kernel_rfl) (by kernel_rfl) rfl rfl rfl ?_
  dsimp only [List.dropLast, List.take, List.drop]
  repeat (gi_big_quiet_step (fail))
  refine wpQuietIn_nil ?_
  refine ⟨.int .i64 d, fun k => ?_, ?_⟩
  · rw [HW0.out, HW.out]
    refine exec_copy (.tmp 29) (.tmp 39) 39 39 rfl _ _ rfl rfl ?_
    have := HX.out.1 k
    rw [HD.out.2.1, HD.out.2.2] at this
    exact this
  simp only [Act.put, List.setIfInBounds_toArray, List.set_cons_succ, List.set_cons_zero]
  repeat (gi_big_quiet_step (fail))
  refine wpQuietIn_nil ?_
  intro k
  rw [HW.out]
  gi_wp2
  obtain ⟨_, x1, x2, x3, x4⟩ := HX.out
  refine ⟨.tuple #[], by simp [results, Tryz.results49, go_sem], rfl, _, f, ((x1.drewN k).setE f).setP q, x3, x4, ?_⟩
  exact ((x2.trans (Nw.refl _ _) (Ch.drewN b r w1 k)).trans (Nw.refl _ _) (Ch.set b r _ 2 _)).trans (Nw.refl _ _) (Ch.set b r _ 1 _)

set_option maxRecDepth 100000 in
set_option maxHeartbeats 4000000 in
theorem shift_right {b : Nat} {r : Option Nat} {A : List UInt8} {p e l q : Nat} {t : List UInt8} (w : World) (h : PA w b r A p e l) (hg : Gap A p e t) (hq : p ≤ q) (hqt : q ≤ t.length) (hA : A.length ≤ 4294967296) :
    CallsIn .wide 0 Tryz.prog 49 #[.pointer (some ⟨b, 0, none⟩), .int .i64 q] w fun x w' => x = .returned (.tuple #[]) ∧ ∃ A' e', PA w' b r A' q e' l ∧ Gap A' q e' t ∧ A'.length = A.length ∧ Ch b r w w' := by
  obtain ⟨⟨c0, c1, c2, c3⟩, f0, f1, f2, f3⟩ := box4 h.box
  have hb := h.lt
  have g1 := hg.pe; have g2 := hg.eA; have g3 := hg.len
  obtain ⟨d, hd⟩ : ∃ d, d = q - p := ⟨_, rfl⟩
  obtain ⟨f, hf⟩ : ∃ f, f = e + d := ⟨_, rfl⟩
  obtain ⟨w1, hrun, hP1, hC1⟩ := copy_in h (off := p) (so := e) (n := d) (by omega) (by omega) 3
  obtain ⟨⟨d0, d1, d2, d3⟩, e0, e1, e2, e3⟩ := box4 hP1.box
  have hG1 : Gap (splice A p ((A.drop e).take d)) q f t := by
    have := hg.right (n := d) (by omega)
    rw [← hf, show p + d = q by omega] at this
    exact this
  have hl : (splice A p ((A.drop e).take d)).length = A.length := length_splice _ _ _ (by simp; omega)
  rw [hl] at d0
  have HX : Hid ((∀ k, (Builtin.copy_ #[39, 39] 3 #[cutV (ad r) p A.length A.length, cutV (ad r) e (e + d) A.length]).run Tryz.prog (w.drewN k) = .ok (goInt d) (w1.drewN k)) ∧ PA w1 b r (splice A p ((A.drop e).take d)) p e l ∧ Ch b r w w1 ∧ Gap (splice A p ((A.drop e).take d)) q f t ∧ (splice A p ((A.drop e).take d)).length = A.length) := ⟨hrun, hP1, hC1, hG1, hl⟩
  clear hrun hP1 hC1 hG1 hl
  obtain ⟨N, hN⟩ : ∃ N, A.length = N := ⟨_, rfl⟩
  rw [hN] at c0 d0 g2 g3 hA
  have s1 : ∀ W, (Instr.sliceAt 39 (.slice (ad r) N N) (some (.int .i64 p)) none none).run Tryz.prog W = .ok (cutV (ad r) p N N) W := fun W => run_cut _ N p (by omega) W
  have s2 : ∀ W, (Instr.sliceAt 39 (.slice (ad r) N N) (some (.int .i64 e)) (some (.int .i64 f)) none).run Tryz.prog W = .ok (cutV (ad r) e f N) W := fun W => run_cuts _ N e f (by omega) (by omega) W
  have k1 : IntKind.i64.wrap ((e : Int) + q) = (e : Int) + q := by rw [IntKind.wrap_i64]; omega
  have k2 : IntKind.i64.wrap ((e : Int) + q - p) = f := by rw [IntKind.wrap_i64]; omega
  have k3 : IntKind.i64.wrap ((e : Int) + d) = f := by rw [IntKind.wrap_i64]; omega
  obtain ⟨W, hW0, hW1⟩ : ∃ W : Bool → World, W false = w ∧ W true = w1 := ⟨fun s => if s then w1 else w, rfl, rfl⟩
  obtain ⟨U, hU, hU'⟩ := both W
  have C0 : ∀ m, (U m).cell? ⟨b, 0, none⟩ = some (.slice (ad r) N N) := fun m => by obtain ⟨s, k, hm⟩ := hU' m; rw [hm]; cases s <;> simp [hW0, hW1, c0, d0]
  have C1 : ∀ m, (U m).cell? ⟨b, 1, none⟩ = some (.int .i64 p) := fun m => by obtain ⟨s, k, hm⟩ := hU' m; rw [hm]; cases s <;> simp [hW0, hW1, c1, d1]
  have C2 : ∀ m, (U m).cell? ⟨b, 2, none⟩ = some (.int .i64 e) := fun m => by obtain ⟨s, k, hm⟩ := hU' m; rw [hm]; cases s <;> simp [hW0, hW1, c2, d2]
  have HU : Hid (∀ s k, ∃ m, (W s).drewN k = U m) := hU
  have HW : Hid (W true = w1) := hW1
  have HW0 : Hid (W false = w) := hW0
  have HD : Hid (e + d = f ∧ A.length = N) := ⟨by omega, hN⟩
  have hq' : ¬ q < p := by omega
  clear h hg hd hf hW0 hW1 hU hU' g1 g2 g3 hN hq hqt
  refine callsIn_of_wp_marks Tryz.func49 rfl trivial ?_ rfl
  simp only [Tryz.ntmps49, List.size_toArray, List.length_cons, List.length_nil, Nat.reduceAdd, Nat.reduceSub, Array.replicate_succ, Array.replicate_zero, List.push_toArray, List.append_toArray, List.nil_append, List.cons_append]
  gi_wp2
  refine region_mid W HW0.out U HU.out 33 rfl (fun _ => trivial) (by kernel_rfl) (by kernel_rfl) (by kernel_rfl) (by kernel_rfl) rfl rfl rfl ?_
  dsimp only [List.dropLast, List.take, List.drop]
  repeat (gi_big_quiet_step (fail))
  refine wpQuietIn_nil ?_
  refine ⟨.int .i64 d, fun k => ?_, ?_⟩
  · rw [HW0.out, HW.out]
    refine exec_copy (.tmp 56) (.tmp 76) 39 39 rfl _ _ rfl rfl ?_
    have := HX.out.1 k
    rw [HD.out.1, HD.out.2] at this
    exact this
  simp only [Act.put, List.setIfInBounds_toArray, List.set_cons_succ, List.set_cons_zero]
  repeat (gi_big_quiet_step (fail))
  refine wpQuietIn_nil ?_
  intro k
  rw [HW.out]
  gi_wp2
  obtain ⟨_, x1, x2, x3, x4⟩ := HX.out
  refine ⟨.tuple #[], by simp [results, Tryz.results49, go_sem], rfl, _, f, ((x1.drewN k).setE f).setP q, x3, x4, ?_⟩
  exact ((x2.trans (Nw.refl _ _) (Ch.drewN b r w1 k)).trans (Nw.refl _ _) (Ch.set b r _ 2 _)).trans (Nw.refl _ _) (Ch.set b r _ 1 _)

theorem shift_any {b : Nat} {r : Option Nat} {A : List UInt8} {p e l q : Nat} {t : List UInt8} (w : World) (h : PA w b r A p e l) (hg : Gap A p e t) (hqt : q ≤ t.length) (hA : A.length ≤ 4294967296) :
    Calls Tryz.prog 49 #[.pointer (some ⟨b, 0, none⟩), .int .i64 q] w fun x w' => x = .returned (.tuple #[]) ∧ ∃ A' e', PA w' b r A' q e' l ∧ Gap A' q e' t ∧ A'.length = A.length ∧ Ch b r w w' := by
  rcases Nat.lt_or_ge q p with hq | hq
  · exact callsIn_wide.1 (shift_left w h hg hq hA)
  · exact callsIn_wide.1 (shift_right w h hg hq hqt hA)
end Go.Proofs.YtgagpmeknpjkpaaGreatDoor
