/-
  How package gap lays, moves and widens its array. Conditions: those of each theorem.
-/
import Derived.Test.YtcjmfoadimpffaaGreatDoorGPkA
import Derived.Test.YtcjmfoadimpffaaGreatDoorKBase
import Derived.Test.YtcjmfoadimpffaaGreatDoorURegMid
import Derived.Lib.BufferWrite
import Derived.Laws.AppendOwnNone
import Derived.Deep.OwnRows
namespace Go.Proofs.YtcjmfoadimpffaaGreatDoor.Gap
open Go.RowKit Bod

/-- the row's address -/
def ad (r : Option Nat) : Option Addr := r.map fun k => ⟨k, 0, none⟩
/-- the block b is a buffer with the bytes A (in the row r, if there is one), the gap from p up to e, the limit l -/
structure PA (W : World) (b : Nat) (r : Option Nat) (A : List UInt8) (p e l : Nat) : Prop where
  box : W.heap[b]? = some (.cells #[.slice (ad r) A.length A.length, .int .i64 p, .int .i64 e, .int .i64 l] 154 (0, 0))
  row : ∀ k, r = some k → k ≠ b ∧ W.heap[k]? = some (.cells (Lib.byteCells A).toArray 5 (0, 0))
  nil : r = none → A = []
theorem PA.lt {W : World} {b : Nat} {r : Option Nat} {A : List UInt8} {p e l : Nat} (h : PA W b r A p e l) : b < W.heap.size := (Array.getElem?_eq_some_iff.1 h.box).1
theorem PA.rlt {W : World} {b : Nat} {r : Option Nat} {A : List UInt8} {p e l : Nat} (h : PA W b r A p e l) {k : Nat} (hk : r = some k) : k < W.heap.size := (Array.getElem?_eq_some_iff.1 (h.row k hk).2).1
theorem PA.drewN {W : World} {b : Nat} {r : Option Nat} {A : List UInt8} {p e l : Nat} (h : PA W b r A p e l) (n : Nat) : PA (W.drewN n) b r A p e l := ⟨h.box, h.row, h.nil⟩
/-- nothing but the block b and the row r is turned -/
def Ch (b : Nat) (r : Option Nat) (w w' : World) : Prop := w'.os = w.os ∧ w'.tape = w.tape ∧ w'.output = w.output ∧ w.heap.size ≤ w'.heap.size ∧ ∀ k, k < w.heap.size → k ≠ b → r ≠ some k → w'.heap[k]? = w.heap[k]?
theorem Ch.refl (b : Nat) (r : Option Nat) (w : World) : Ch b r w w := ⟨rfl, rfl, rfl, Nat.le_refl _, fun _ _ _ _ => rfl⟩
/-- another row is the same or a new one -/
def Nw (w : World) (r r' : Option Nat) : Prop := r' = r ∨ ∃ k, r' = some k ∧ w.heap.size ≤ k
theorem Ch.trans {b : Nat} {r r' : Option Nat} {w w1 w2 : World} (h : Ch b r w w1) (hr : Nw w r r') (g : Ch b r' w1 w2) : Ch b r w w2 :=
  ⟨g.1.trans h.1, g.2.1.trans h.2.1, g.2.2.1.trans h.2.2.1, Nat.le_trans h.2.2.2.1 g.2.2.2.1, fun k hk hb hn => by
    rw [g.2.2.2.2 k (Nat.lt_of_lt_of_le hk h.2.2.2.1) hb (fun e => ?_), h.2.2.2.2 k hk hb hn]
    rcases hr with rfl | ⟨j, rfl, hj⟩
    · exact hn e
    · cases e; omega⟩
theorem Nw.refl (w : World) (r : Option Nat) : Nw w r r := .inl rfl
theorem Nw.trans {w w1 : World} {r r' r'' : Option Nat} (h : Nw w r r') (hs : w.heap.size ≤ w1.heap.size) (g : Nw w1 r' r'') : Nw w r r'' := by
  rcases g with rfl | ⟨k, rfl, hk⟩
  · exact h
  · exact .inr ⟨k, rfl, by omega⟩
theorem Ch.below {b : Nat} {r : Option Nat} {w w' : World} (h : Below w.heap.size w w') : Ch b r w w' := ⟨h.os, h.tape, h.output, h.size, fun k hk _ _ => h.block k hk⟩
theorem Ch.drewN (b : Nat) (r : Option Nat) (w : World) (n : Nat) : Ch b r w (w.drewN n) := ⟨rfl, rfl, rfl, Nat.le_refl _, fun _ _ _ _ => rfl⟩
theorem Ch.set (b : Nat) (r : Option Nat) (w : World) (i : Nat) (v : Value) : Ch b r w (w.setCell ⟨b, i, none⟩ v) :=
  have g := gcell w b i v
  ⟨g.os, g.tape, g.output, g.size, fun k hk hb _ => g.block k hk (fun e => hb (Option.some.inj e))⟩
theorem Ch.setRow (b k : Nat) (w : World) (cs : Array Value) : Ch b (some k) w (w.setRow k cs) := ⟨rfl, rfl, rfl, by simp [World.setRow], fun j _ _ hn => setRow_other w k j cs (fun e => hn (by rw [e]))⟩
theorem PA.kept {W W' : World} {b : Nat} {r : Option Nat} {A : List UInt8} {p e l b' : Nat} {r' : Option Nat} (h : PA W b r A p e l) (hc : Ch b' r' W W') (h1 : b ≠ b') (h2 : r' ≠ some b) (h3 : ∀ k, r = some k → k ≠ b' ∧ r' ≠ some k) : PA W' b r A p e l :=
  ⟨(hc.2.2.2.2 b h.lt h1 h2).trans h.box, fun k hk => ⟨(h.row k hk).1, (hc.2.2.2.2 k (h.rlt hk) (h3 k hk).1 (h3 k hk).2).trans (h.row k hk).2⟩, h.nil⟩
theorem PA.below {W W' : World} {b : Nat} {r : Option Nat} {A : List UInt8} {p e l : Nat} (h : PA W b r A p e l) (hb : Below W.heap.size W W') : PA W' b r A p e l :=
  ⟨(hb.block b h.lt).trans h.box, fun k hk => ⟨(h.row k hk).1, (hb.block k (h.rlt hk)).trans (h.row k hk).2⟩, h.nil⟩
/-- one of the three numbers is set -/
theorem PA.setP {W : World} {b : Nat} {r : Option Nat} {A : List UInt8} {p e l : Nat} (h : PA W b r A p e l) (q : Nat) : PA (W.setCell ⟨b, 1, none⟩ (.int .i64 q)) b r A q e l :=
  ⟨set1 (i := 1) _ h.box, fun k hk => ⟨(h.row k hk).1, ((gcell W b 1 _).block k (h.rlt hk) (fun e => (h.row k hk).1 (Option.some.inj e))).trans (h.row k hk).2⟩, h.nil⟩
theorem PA.setE {W : World} {b : Nat} {r : Option Nat} {A : List UInt8} {p e l : Nat} (h : PA W b r A p e l) (q : Nat) : PA (W.setCell ⟨b, 2, none⟩ (.int .i64 q)) b r A p q l :=
  ⟨set1 (i := 2) _ h.box, fun k hk => ⟨(h.row k hk).1, ((gcell W b 2 _).block k (h.rlt hk) (fun e => (h.row k hk).1 (Option.some.inj e))).trans (h.row k hk).2⟩, h.nil⟩
/-- the row is written over -/
theorem PA.setRow {W : World} {b k : Nat} {A : List UInt8} {p e l : Nat} (h : PA W b (some k) A p e l) {B : List UInt8} (hB : B.length = A.length) : PA (W.setRow k (Lib.byteCells B).toArray) b (some k) B p e l := by
  refine ⟨?_, fun j hj => ⟨(h.row j hj).1, ?_⟩, fun h0 => by cases h0⟩
  · rw [setRow_other W k b _ (Ne.symm (h.row k rfl).1), h.box, hB]
  · cases hj
    exact setRow_heap W k _ _ 5 _ (h.row k rfl).2

set_option maxRecDepth 100000 in
set_option maxHeartbeats 1000000 in
theorem ore_any (b : Nat) (w : World) : Calls Tryz.prog 96 #[.pointer (some ⟨b, 0, none⟩)] w fun x w' => x = .returned (.pointer (some ⟨b, 0, none⟩)) ∧ w' = w := by
  go_enter Tryz.func96, Tryz.ntmps96
  go_wp2
  go_ret
  exact ⟨rfl, rfl⟩

set_option maxRecDepth 100000 in
set_option maxHeartbeats 1000000 in
theorem len_any {b : Nat} {r : Option Nat} {A : List UInt8} {p e l : Nat} (w : World) (h : PA w b r A p e l) (hp : p ≤ e) (he : e ≤ A.length) (hA : A.length ≤ 4294967296) :
    Calls Tryz.prog 98 #[.pointer (some ⟨b, 0, none⟩)] w fun x w' => x = .returned (.int .i64 (p + (A.length - e) : Nat)) ∧ ∃ k, w' = w.drewN k := by
  obtain ⟨⟨c0, c1, c2, c3⟩, f0, f1, f2, f3⟩ := box4 h.box
  have hb := h.lt
  obtain ⟨N, hN⟩ : ∃ N, A.length = N := ⟨_, rfl⟩
  rw [hN] at c0 hA he ⊢
  have k1 : IntKind.i64.wrap ((p : Int) + N) = (p : Int) + N := by rw [IntKind.wrap_i64]; omega
  have k2 : IntKind.i64.wrap ((p : Int) + N - e) = (p : Int) + N - e := by rw [IntKind.wrap_i64]; omega
  have HF : Hid ((p : Int) + N - e = (p + (N - e) : Nat)) := show _ = _ by omega
  have CO := ore_any b w
  clear h hN
  go_enter Tryz.func98, Tryz.ntmps98
  go_wp2_with (go_at_call 96; refine CO.mono ?_; clear CO; rintro x w1 ⟨rfl, rfl⟩)
  go_quiet (fail)
  go_wp2
  go_ret
  exact ⟨ret_int HF.out, ⟨_, rfl⟩⟩
end Go.Proofs.YtcjmfoadimpffaaGreatDoor.Gap
namespace Go.Proofs.YtcjmfoadimpffaaGreatDoor.Gap
open Go.RowKit Bod

theorem bc_splice (A cs : List UInt8) (off : Nat) : Lib.byteCells (splice A off cs) = (Lib.byteCells A).take off ++ (Lib.byteCells cs ++ (Lib.byteCells A).drop (off + (Lib.byteCells cs).length)) := by
  simp [Lib.byteCells, splice]
theorem bc_one (l : List UInt8) : ∀ v ∈ Lib.byteCells l, v.oneCell' = true := Lib.byteCells_one l
theorem bc_len (l : List UInt8) : (Lib.byteCells l).length = l.length := by simp [Lib.byteCells]
theorem adr (j x i : Nat) : (⟨j, x, none⟩ : Addr).add i = ⟨j, x + i, none⟩ := by unfold Addr.add; split <;> simp_all
/-- a cut of the array, as the model lays it -/
def cutV (a : Option Addr) (l h m : Nat) : Value := sliced a l h m 1
theorem infoB : (Tryz.prog.info? 5).map (·.size) = some 1 := by kernel_rfl
theorem exec_copy {P : Program} {w : World} {o : Oper} {a : Act} (d s : Operand) (t t' : TypeId) (ho : o.op = .call { callee := .builtin .copy, args := #[d, s], argTypes := #[t, t'] }) (v u : Value) (hd : a.eval d = v) (hs : a.eval s = u) {v' : Value} {w' : World}
    (hr : (Builtin.copy_ #[t, t'] o.type #[v, u]).run P w = .ok v' w') : (execOp a.eval o).run P w = .ok (.value v') w' := by
  unfold execOp
  simp only [ho, resolve, invoke, builtin, Sem.run_bind, Sem.run_pure, Result.andThen_ok, List.map_toArray, List.map_cons, List.map_nil, hd, hs, hr]
/-- bytes of the array are copied within it -/
theorem copy_in {w : World} {b : Nat} {r : Option Nat} {A : List UInt8} {p e l : Nat} (h : PA w b r A p e l) {off so n : Nat} (h1 : off + n ≤ A.length) (h2 : so + n ≤ A.length) (ty : TypeId) :
    ∃ w1, (∀ k, (Builtin.copy_ #[140, 140] ty #[cutV (ad r) off A.length A.length, cutV (ad r) so (so + n) A.length]).run Tryz.prog (w.drewN k) = .ok (goInt n) (w1.drewN k)) ∧ PA w1 b r (splice A off ((A.drop so).take n)) p e l ∧ Ch b r w w1 := by
  have hcl : ((A.drop so).take n).length = n := by simp; omega
  by_cases hn : n = 0
  · subst hn
    refine ⟨w, fun k => ?_, by simpa [splice] using h, Ch.refl _ _ _⟩
    unfold cutV sliced
    exact run_copy_none (P := Tryz.prog) _ 140 140 ty 5 _ _ _ _ _ _ Tryz.underlying140 infoB (by simp)
  · cases r with
    | none => have := h.nil rfl; subst this; simp at h1; omega
    | some j =>
      refine ⟨w.setRow j (Lib.byteCells (splice A off ((A.drop so).take n))).toArray, fun k => ?_, h.setRow (length_splice _ _ _ (by omega)), Ch.setRow b j w _⟩
      unfold cutV sliced ad
      rw [if_neg (by omega), if_neg (by omega)]
      have hrow := (h.row j rfl).2
      have := run_copy_row Tryz.prog (w.drewN k) 140 140 ty 5 j (off * 1) (A.length - off) (A.length - off) ⟨j, so * 1, none⟩ (so + n - so) (A.length - so) (Lib.byteCells A).toArray 5 (Lib.byteCells ((A.drop so).take n)) Tryz.underlying140 infoB hrow
        (by rw [bc_len, hcl]; show n = min _ _; omega) (fun i v hv => ?_) (by simp [bc_len, hcl]; omega) (bc_one _)
      · rw [bc_len, hcl] at this
        simp only [Option.map_some, adr, Nat.zero_add]
        rw [this, bc_splice, bc_len, hcl]
        simp
        rfl
      · have hi : i < n := by
          have := (List.getElem?_eq_some_iff.1 hv).1
          rw [bc_len, hcl] at this
          exact this
        rw [adr]
        have e1 : (Lib.byteCells A)[so * 1 + i]? = some v := by
          rw [← hv]
          simp [Lib.byteCells, hi]
        have hrow' : (w.drewN k).heap[j]? = some (.cells (Lib.byteCells A).toArray 5 (0, 0)) := hrow
        unfold World.cell?
        dsimp only
        rw [hrow']
        simpa using e1
theorem unLB : Tryz.prog.underlying 140 = some (.slice (Tryz.prog.elem 140)) := by kernel_rfl
theorem szLB (W : World) : (sizeOf (Tryz.prog.elem 140)).run Tryz.prog W = .ok 1 W := by kernel_rfl
theorem run_cut (a : Option Addr) (N lo : Nat) (h : lo ≤ N) (W : World) : (Instr.sliceAt 140 (.slice a N N) (some (.int .i64 lo)) none none).run Tryz.prog W = .ok (cutV a lo N N) W := by
  rw [run_sliceAt_slice _ _ _ _ _ _ unLB, run_slice_l _ _ _ _ _ unLB _ _ (by omega) (by omega), szLB]
  rfl
theorem run_cuts (a : Option Addr) (N lo hi : Nat) (h : lo ≤ hi) (h' : hi ≤ N) (W : World) : (Instr.sliceAt 140 (.slice a N N) (some (.int .i64 lo)) (some (.int .i64 hi)) none).run Tryz.prog W = .ok (cutV a lo hi N) W := by
  rw [run_sliceAt_slice _ _ _ _ _ _ unLB, run_slice_lh _ _ _ _ _ unLB _ _ _ _ (by omega) (by omega) (by omega), szLB]
  rfl

set_option maxRecDepth 100000 in
set_option maxHeartbeats 4000000 in
theorem shift_left {b : Nat} {r : Option Nat} {A : List UInt8} {p e l q : Nat} {t : List UInt8} (w : World) (h : PA w b r A p e l) (hg : Gap A p e t) (hq : q < p) (hA : A.length ≤ 4294967296) :
    CallsIn .wide 0 Tryz.prog 162 #[.pointer (some ⟨b, 0, none⟩), .int .i64 q] w fun x w' => x = .returned (.tuple #[]) ∧ ∃ A' e', PA w' b r A' q e' l ∧ Gap A' q e' t ∧ A'.length = A.length ∧ Ch b r w w' := by
  obtain ⟨⟨c0, c1, c2, c3⟩, f0, f1, f2, f3⟩ := box4 h.box
  have hb := h.lt
  have g1 := hg.pe; have g2 := hg.eA
  obtain ⟨d, hd⟩ : ∃ d, d = p - q := ⟨_, rfl⟩
  obtain ⟨f, hf⟩ : ∃ f, f = e - d := ⟨_, rfl⟩
  obtain ⟨w1, hrun, hP1, hC1⟩ := copy_in h (off := f) (so := q) (n := d) (by omega) (by omega) 3
  obtain ⟨⟨d0, d1, d2, d3⟩, e0, e1, e2, e3⟩ := box4 hP1.box
  have hG1 : Gap (splice A f ((A.drop q).take d)) q f t := by
    have := hg.left (k := q) (by omega)
    rw [← hd, ← hf, List.drop_take, ← hd] at this
    exact this
  have hl : (splice A f ((A.drop q).take d)).length = A.length := length_splice _ _ _ (by simp; omega)
  rw [hl] at d0
  have HX : Hid ((∀ k, (Builtin.copy_ #[140, 140] 3 #[cutV (ad r) f A.length A.length, cutV (ad r) q (q + d) A.length]).run Tryz.prog (w.drewN k) = .ok (goInt d) (w1.drewN k)) ∧ PA w1 b r (splice A f ((A.drop q).take d)) p e l ∧ Ch b r w w1 ∧ Gap (splice A f ((A.drop q).take d)) q f t ∧ (splice A f ((A.drop q).take d)).length = A.length) := ⟨hrun, hP1, hC1, hG1, hl⟩
  clear hrun hP1 hC1 hG1 hl
  obtain ⟨N, hN⟩ : ∃ N, A.length = N := ⟨_, rfl⟩
  rw [hN] at c0 d0 g2 hA
  have s1 : ∀ W, (Instr.sliceAt 140 (.slice (ad r) N N) (some (.int .i64 f)) none none).run Tryz.prog W = .ok (cutV (ad r) f N N) W := fun W => run_cut _ N f (by omega) W
  have s2 : ∀ W, (Instr.sliceAt 140 (.slice (ad r) N N) (some (.int .i64 q)) (some (.int .i64 p)) none).run Tryz.prog W = .ok (cutV (ad r) q p N) W := fun W => run_cuts _ N q p (by omega) (by omega) W
  have k1 : IntKind.i64.wrap ((p : Int) - q) = d := by rw [IntKind.wrap_i64]; omega
  have k2 : IntKind.i64.wrap ((e : Int) - d) = f := by rw [IntKind.wrap_i64]; omega
  have hpq : q + d = p := by omega
  obtain ⟨W, hW0, hW1⟩ : ∃ W : Bool → World, W false = w ∧ W true = w1 := ⟨fun s => if s then w1 else w, rfl, rfl⟩
  obtain ⟨U, hU, hU'⟩ := both W
  have C0 : ∀ m, (U m).cell? ⟨b, 0, none⟩ = some (.slice (ad r) N N) := fun m => by obtain ⟨s, k, hm⟩ := hU' m; rw [hm]; cases s <;> simp [hW0, hW1, c0, d0]
  have C1 : ∀ m, (U m).cell? ⟨b, 1, none⟩ = some (.int .i64 p) := fun m => by obtain ⟨s, k, hm⟩ := hU' m; rw [hm]; cases s <;> simp [hW0, hW1, c1, d1]
  have C2 : ∀ m, (U m).cell? ⟨b, 2, none⟩ = some (.int .i64 e) := fun m => by obtain ⟨s, k, hm⟩ := hU' m; rw [hm]; cases s <;> simp [hW0, hW1, c2, d2]
  have HU : Hid (∀ s k, ∃ m, (W s).drewN k = U m) := hU
  have HW : Hid (W true = w1) := hW1
  have HW0 : Hid (W false = w) := hW0
  have HD : Hid ((d : Int) = p - q ∧ q + d = p ∧ A.length = N) := ⟨by omega, hpq, hN⟩
  clear h hg hd hf hW0 hW1 hU hU' g1 g2 hpq hN
  refine callsIn_of_wp_marks Tryz.func162 rfl trivial ?_ rfl
  simp only [Tryz.ntmps162, List.size_toArray, List.length_cons, List.length_nil, Nat.reduceAdd, Nat.reduceSub, Array.replicate_succ, Array.replicate_zero, List.push_toArray, List.append_toArray, List.nil_append, List.cons_append]
  gi_wp2
  refine region_mid W HW0.out U HU.out 30 rfl (fun _ => trivial) (by kernel_rfl) (by kernel_rfl) (by kernel_rfl) (by kernel_rfl) rfl rfl rfl ?_
  dsimp only [List.dropLast, List.take, List.drop]
  repeat (gi_big_quiet_step (fail))
  refine wpQuietIn_nil ?_
  refine ⟨.int .i64 d, fun k => ?_, ?_⟩
  · rw [HW0.out, HW.out]
    refine exec_copy (.tmp 29) (.tmp 39) 140 140 rfl _ _ rfl rfl ?_
    have := HX.out.1 k
    rw [HD.out.2.1, HD.out.2.2] at this
    exact this
  simp only [Act.put, List.setIfInBounds_toArray, List.set_cons_succ, List.set_cons_zero]
  repeat (gi_big_quiet_step (fail))
  refine wpQuietIn_nil ?_
  intro k
  rw [HW.out]
  gi_wp2
  obtain ⟨_, x1, x2, x3, x4⟩ := HX.out
  refine ⟨.tuple #[], by simp [results, Tryz.results162, go_sem], rfl, _, f, ((x1.drewN k).setE f).setP q, x3, x4, ?_⟩
  exact ((x2.trans (Nw.refl _ _) (Ch.drewN b r w1 k)).trans (Nw.refl _ _) (Ch.set b r _ 2 _)).trans (Nw.refl _ _) (Ch.set b r _ 1 _)

set_option maxRecDepth 100000 in
set_option maxHeartbeats 4000000 in
theorem shift_right {b : Nat} {r : Option Nat} {A : List UInt8} {p e l q : Nat} {t : List UInt8} (w : World) (h : PA w b r A p e l) (hg : Gap A p e t) (hq : p ≤ q) (hqt : q ≤ t.length) (hA : A.length ≤ 4294967296) :
    CallsIn .wide 0 Tryz.prog 162 #[.pointer (some ⟨b, 0, none⟩), .int .i64 q] w fun x w' => x = .returned (.tuple #[]) ∧ ∃ A' e', PA w' b r A' q e' l ∧ Gap A' q e' t ∧ A'.length = A.length ∧ Ch b r w w' := by
  obtain ⟨⟨c0, c1, c2, c3⟩, f0, f1, f2, f3⟩ := box4 h.box
  have hb := h.lt
  have g1 := hg.pe; have g2 := hg.eA; have g3 := hg.len
  obtain ⟨d, hd⟩ : ∃ d, d = q - p := ⟨_, rfl⟩
  obtain ⟨f, hf⟩ : ∃ f, f = e + d := ⟨_, rfl⟩
  obtain ⟨w1, hrun, hP1, hC1⟩ := copy_in h (off := p) (so := e) (n := d) (by omega) (by omega) 3
  obtain ⟨⟨d0, d1, d2, d3⟩, e0, e1, e2, e3⟩ := box4 hP1.box
  have hG1 : Gap (splice A p ((A.drop e).take d)) q f t := by
    have := hg.right (n := d) (by omega)
    rw [← hf, show p + d = q by omega] at this
    exact this
  have hl : (splice A p ((A.drop e).take d)).length = A.length := length_splice _ _ _ (by simp; omega)
  rw [hl] at d0
  have HX : Hid ((∀ k, (Builtin.copy_ #[140, 140] 3 #[cutV (ad r) p A.length A.length, cutV (ad r) e (e + d) A.length]).run Tryz.prog (w.drewN k) = .ok (goInt d) (w1.drewN k)) ∧ PA w1 b r (splice A p ((A.drop e).take d)) p e l ∧ Ch b r w w1 ∧ Gap (splice A p ((A.drop e).take d)) q f t ∧ (splice A p ((A.drop e).take d)).length = A.length) := ⟨hrun, hP1, hC1, hG1, hl⟩
  clear hrun hP1 hC1 hG1 hl
  obtain ⟨N, hN⟩ : ∃ N, A.length = N := ⟨_, rfl⟩
  rw [hN] at c0 d0 g2 g3 hA
  have s1 : ∀ W, (Instr.sliceAt 140 (.slice (ad r) N N) (some (.int .i64 p)) none none).run Tryz.prog W = .ok (cutV (ad r) p N N) W := fun W => run_cut _ N p (by omega) W
  have s2 : ∀ W, (Instr.sliceAt 140 (.slice (ad r) N N) (some (.int .i64 e)) (some (.int .i64 f)) none).run Tryz.prog W = .ok (cutV (ad r) e f N) W := fun W => run_cuts _ N e f (by omega) (by omega) W
  have k1 : IntKind.i64.wrap ((e : Int) + q) = (e : Int) + q := by rw [IntKind.wrap_i64]; omega
  have k2 : IntKind.i64.wrap ((e : Int) + q - p) = f := by rw [IntKind.wrap_i64]; omega
  have k3 : IntKind.i64.wrap ((e : Int) + d) = f := by rw [IntKind.wrap_i64]; omega
  obtain ⟨W, hW0, hW1⟩ : ∃ W : Bool → World, W false = w ∧ W true = w1 := ⟨fun s => if s then w1 else w, rfl, rfl⟩
  obtain ⟨U, hU, hU'⟩ := both W
  have C0 : ∀ m, (U m).cell? ⟨b, 0, none⟩ = some (.slice (ad r) N N) := fun m => by obtain ⟨s, k, hm⟩ := hU' m; rw [hm]; cases s <;> simp [hW0, hW1, c0, d0]
  have C1 : ∀ m, (U m).cell? ⟨b, 1, none⟩ = some (.int .i64 p) := fun m => by obtain ⟨s, k, hm⟩ := hU' m; rw [hm]; cases s <;> simp [hW0, hW1, c1, d1]
  have C2 : ∀ m, (U m).cell? ⟨b, 2, none⟩ = some (.int .i64 e) := fun m => by obtain ⟨s, k, hm⟩ := hU' m; rw [hm]; cases s <;> simp [hW0, hW1, c2, d2]
  have HU : Hid (∀ s k, ∃ m, (W s).drewN k = U m) := hU
  have HW : Hid (W true = w1) := hW1
  have HW0 : Hid (W false = w) := hW0
  have HD : Hid (e + d = f ∧ A.length = N) := ⟨by omega, hN⟩
  have hq' : ¬ q < p := by omega
  clear h hg hd hf hW0 hW1 hU hU' g1 g2 g3 hN hq hqt
  refine callsIn_of_wp_marks Tryz.func162 rfl trivial ?_ rfl
  simp only [Tryz.ntmps162, List.size_toArray, List.length_cons, List.length_nil, Nat.reduceAdd, Nat.reduceSub, Array.replicate_succ, Array.replicate_zero, List.push_toArray, List.append_toArray, List.nil_append, List.cons_append]
  gi_wp2
  refine region_mid W HW0.out U HU.out 33 rfl (fun _ => trivial) (by kernel_rfl) (by kernel_rfl) (by kernel_rfl) (by kernel_rfl) rfl rfl rfl ?_
  dsimp only [List.dropLast, List.take, List.drop]
  repeat (gi_big_quiet_step (fail))
  refine wpQuietIn_nil ?_
  refine ⟨.int .i64 d, fun k => ?_, ?_⟩
  · rw [HW0.out, HW.out]
    refine exec_copy (.tmp 56) (.tmp 76) 140 140 rfl _ _ rfl rfl ?_
    have := HX.out.1 k
    rw [HD.out.1, HD.out.2] at this
    exact this
  simp only [Act.put, List.setIfInBounds_toArray, List.set_cons_succ, List.set_cons_zero]
  repeat (gi_big_quiet_step (fail))
  refine wpQuietIn_nil ?_
  intro k
  rw [HW.out]
  gi_wp2
  obtain ⟨_, x1, x2, x3, x4⟩ := HX.out
  refine ⟨.tuple #[], by simp [results, Tryz.results162, go_sem], rfl, _, f, ((x1.drewN k).setE f).setP q, x3, x4, ?_⟩
  exact ((x2.trans (Nw.refl _ _) (Ch.drewN b r w1 k)).trans (Nw.refl _ _) (Ch.set b r _ 2 _)).trans (Nw.refl _ _) (Ch.set b r _ 1 _)

theorem shift_any {b : Nat} {r : Option Nat} {A : List UInt8} {p e l q : Nat} {t : List UInt8} (w : World) (h : PA w b r A p e l) (hg : Gap A p e t) (hqt : q ≤ t.length) (hA : A.length ≤ 4294967296) :
    Calls Tryz.prog 162 #[.pointer (some ⟨b, 0, none⟩), .int .i64 q] w fun x w' => x = .returned (.tuple #[]) ∧ ∃ A' e', PA w' b r A' q e' l ∧ Gap A' q e' t ∧ A'.length = A.length ∧ Ch b r w w' := by
  rcases Nat.lt_or_ge q p with hq | hq
  · exact callsIn_wide.1 (shift_left w h hg hq hA)
  · exact callsIn_wide.1 (shift_right w h hg hq hqt hA)
end Go.Proofs.YtcjmfoadimpffaaGreatDoor.Gap
namespace Go.Proofs.YtcjmfoadimpffaaGreatDoor.Gap
open Go.RowKit Bod

theorem sizeT : (Tryz.prog.info? 142).map (·.size) = some 2 := by kernel_rfl
theorem liesT : liesAt Tryz.prog Tryz.prog.depth 142 (2 / Tryz.prog.cellsOf 142) 0 142 1 = true := by kernel_rfl
theorem infoU8 : (Tryz.prog.info? 5).map (fun i => (i.zero, i.size, i.bytes)) = some (some (.int .u8 0), 1, 1) := by kernel_rfl

/-- the block b is a builder (p: its own address, if it was written) that holds bs; its row lies at hi or beyond -/
structure Bld (b hi : Nat) (bs : List Value) (W : World) (p v : Value) : Prop where
  box : W.heap[b]? = some (.cells #[p, v] 142 (0, 0))
  row : W.ownsRow hi 5 1 v bs.length bs
  adr : p = .pointer none ∨ p = .pointer (some ⟨b, 0, none⟩)
theorem Bld.far {b hi : Nat} {bs : List Value} {W : World} {p v : Value} (h : Bld b hi bs W p v) {g : Nat} (hg : v.ownBlock = some g) : hi ≤ g := (h.row.lt g hg).1
theorem Bld.block {b hi : Nat} {bs : List Value} {W : World} {p v : Value} (h : Bld b hi bs W p v) {g : Nat} (hg : v.ownBlock = some g) : ∃ vs, W.heap[g]? = some (.cells vs 5 (0, 0)) := by
  rcases h.row.2 with ⟨h0, _⟩ | ⟨g', cap', cur, hv, _, hgb, _⟩
  · rw [h0] at hg; cases hg
  · rw [hv] at hg; cases hg; exact ⟨_, hgb⟩
theorem Bld.kept {b hi : Nat} {bs : List Value} {W W' : World} {p v : Value} {row : Option Nat} (h : Bld b hi bs W p v) (hg : W.grownBy W' row) (h1 : row ≠ some b) (h2 : ∀ g, v.ownBlock = some g → row ≠ some g) : Bld b hi bs W' p v :=
  ⟨(hg.block b (Array.getElem?_eq_some_iff.1 h.box).1 (fun e => h1 e.symm)).trans h.box, h.row.kept hg (by cases hb : v.ownBlock with
    | none => exact .inl rfl
    | some g => exact .inr (fun e => h2 g hb e.symm)), h.adr⟩
/-- what a write to the builder leaves as it was: all but its own block and rows of bytes at hi or beyond -/
def Wr (b hi : Nat) (W W' : World) : Prop := W'.os = W.os ∧ W'.tape = W.tape ∧ W'.output = W.output ∧ W.heap.size ≤ W'.heap.size ∧ ∀ k o, W.heap[k]? = some o → k ≠ b → (hi ≤ k → ∀ vs fz, o ≠ .cells vs 5 fz) → W'.heap[k]? = some o
theorem Wr.refl (b hi : Nat) (W : World) : Wr b hi W W := ⟨rfl, rfl, rfl, Nat.le_refl _, fun _ _ h _ _ => h⟩
theorem Wr.trans {b hi : Nat} {X Y Z : World} (h : Wr b hi X Y) (k : Wr b hi Y Z) : Wr b hi X Z :=
  ⟨k.1.trans h.1, k.2.1.trans h.2.1, k.2.2.1.trans h.2.2.1, Nat.le_trans h.2.2.2.1 k.2.2.2.1, fun i o a b c => k.2.2.2.2 i o (h.2.2.2.2 i o a b c) b c⟩
theorem Wr.set (b hi i : Nat) (W : World) (u : Value) : Wr b hi W (W.setCell ⟨b, i, none⟩ u) :=
  have g := gcell W b i u
  ⟨g.os, g.tape, g.output, g.size, fun k _ hk hne _ => (g.block k (Array.getElem?_eq_some_iff.1 hk).1 (fun e => hne (by cases e; rfl))).trans hk⟩

set_option maxRecDepth 100000 in
set_option maxHeartbeats 1000000 in
theorem check_used (b : Nat) (w : World) (h0 : w.cell? ⟨b, 0, none⟩ = some (.pointer (some ⟨b, 0, none⟩))) :
    Calls Tryz.prog 123 #[.pointer (some ⟨b, 0, none⟩)] w fun e w' => e = .returned (.tuple #[]) ∧ w' = w := by
  obtain ⟨j, hj, hjs⟩ := Option.map_eq_some_iff.1 sizeT
  have hq := Lib.run_neq_ptr_same (P := Tryz.prog) w ⟨b, 0, none⟩ Tryz.underlying139 hj
  go_enter Tryz.func123, Tryz.ntmps123
  go_wp2
  go_end0
  exact ⟨rfl, rfl⟩
set_option maxRecDepth 100000 in
set_option maxHeartbeats 1000000 in
theorem check_new (b : Nat) (v : Value) (w : World) (hb : w.heap[b]? = some (.cells #[.pointer none, v] 142 (0, 0))) :
    Calls Tryz.prog 123 #[.pointer (some ⟨b, 0, none⟩)] w fun e w' => e = .returned (.tuple #[]) ∧ w' = w.setCell ⟨b, 0, none⟩ (.pointer (some ⟨b, 0, none⟩)) := by
  obtain ⟨j, hj, hjs⟩ := Option.map_eq_some_iff.1 sizeT
  have h0 : w.cell? ⟨b, 0, none⟩ = some (.pointer none) := by simp [World.cell?, hb]
  have hf : w.frozen? ⟨b, 0, none⟩ = false := by simp [World.frozen?, hb]
  have hsh : w.shape? b = some (142, 2) := by simp [World.shape?, hb]
  have hto := Lib.run_to_unsafe (P := Tryz.prog) w ⟨b, 0, none⟩ Tryz.underlying139 Tryz.underlying225 hj (by rw [hjs]; decide) hsh (by decide : (0 : Nat) < 2)
  have hfr := Lib.run_from_unsafe (P := Tryz.prog) w ⟨b, 0, none⟩ Tryz.underlying225 Tryz.underlying139 hj hsh liesT
  have hq := Lib.run_neq_ptr_same (P := Tryz.prog) (w.setCell ⟨b, 0, none⟩ (.pointer (some ⟨b, 0, none⟩))) ⟨b, 0, none⟩ Tryz.underlying139 hj
  have hno : ∀ x : Value, (callFunc 158 #[x]).run Tryz.prog w = .ok (.value x) w := fun x => by
    rw [run_callFunc_extern Tryz.func158 (by kernel_rfl) (by kernel_rfl) (by kernel_rfl) (e := Extern.AbiNoEscape.same) (by kernel_rfl), Lib.run_noEscape]
    rfl
  go_enter Tryz.func123, Tryz.ntmps123
  go_wp2
  go_end0
  exact ⟨rfl, rfl⟩

theorem check_any {b hi : Nat} {bs : List Value} {w : World} {p v : Value} (h : Bld b hi bs w p v) (hb : b < hi) :
    Calls Tryz.prog 123 #[.pointer (some ⟨b, 0, none⟩)] w fun e w' => e = .returned (.tuple #[]) ∧ Bld b hi bs w' (.pointer (some ⟨b, 0, none⟩)) v ∧ Wr b hi w w' ∧ w'.heap.size = w.heap.size := by
  have hbox := h.box
  rcases h.adr with rfl | rfl
  · refine (check_new b v w hbox).mono ?_
    rintro e w' ⟨rfl, rfl⟩
    refine ⟨rfl, ⟨set1 (i := 0) (.pointer (some ⟨b, 0, none⟩)) hbox, h.row.kept (gcell w b 0 _) ?_, .inr rfl⟩, Wr.set _ _ _ _ _, by simp [World.setCell]⟩
    cases hv : v.ownBlock with
    | none => exact .inl rfl
    | some g => exact .inr (fun e => by cases e; have := h.far hv; omega)
  · refine (check_used b w (by simp [World.cell?, hbox])).mono ?_
    rintro e w' ⟨rfl, rfl⟩
    exact ⟨rfl, h, Wr.refl _ _ _, rfl⟩
/-- behind the append: what the new buffer leaves -/
theorem Bld.put {b hi : Nat} {bs bs' : List Value} {w1 w2 : World} {p v v' : Value} (h : Bld b hi bs w1 p v) (hb : b < hi) (hg : w1.grownBy w2 v.ownBlock) (hown : w2.ownsRow hi 5 1 v' bs'.length bs') :
    w2.heap[b]? = some (.cells #[p, v] 142 (0, 0)) ∧ Bld b hi bs' (w2.setCell ⟨b, 1, none⟩ v') p v' ∧ Wr b hi w1 (w2.setCell ⟨b, 1, none⟩ v') := by
  have h2 : w2.heap[b]? = some (.cells #[p, v] 142 (0, 0)) := (hg.block b (Array.getElem?_eq_some_iff.1 h.box).1 (fun e => by have := h.far e.symm; omega)).trans h.box
  refine ⟨h2, ⟨set1 (i := 1) v' h2, hown.kept (gcell w2 b 1 _) ?_, h.adr⟩, Wr.trans ⟨hg.os, hg.tape, hg.output, hg.size, fun k o hk hne hrow => (hg.block k (Array.getElem?_eq_some_iff.1 hk).1 (fun e => ?_)).trans hk⟩ (Wr.set _ _ _ _ _)⟩
  · cases hv : v'.ownBlock with
    | none => exact .inl rfl
    | some g => exact .inr (fun e => by cases e; have := (hown.lt _ hv).1; omega)
  · obtain ⟨vs, hvs⟩ := h.block e.symm
    rw [hvs] at hk; cases hk
    exact hrow (h.far e.symm) _ _ rfl
theorem row_slice {W : World} {base : Nat} {e : TypeId} {size : Nat} {v : Value} {n : Nat} {xs : List Value} (h : W.ownsRow base e size v n xs) : ∃ ao ln cp, v = .slice ao ln cp := by
  rcases h.2 with ⟨h0, _⟩ | ⟨g, cap, cur, hv, _⟩
  · exact ⟨_, _, _, h0⟩
  · exact ⟨_, _, _, hv⟩
theorem row_len {xs : List Value} {n : Nat} (h : xs.length = n * 1) : xs.length = n := by omega
theorem wr_alloc {b hi : Nat} (W : World) (o : Obj) : Wr b hi W (W.alloc o) := ⟨rfl, rfl, rfl, by simp, fun k _ hk _ _ => (Below.heap_alloc _ _ _ (Array.getElem?_eq_some_iff.1 hk).1).trans hk⟩

set_option maxRecDepth 100000 in
set_option maxHeartbeats 1000000 in
theorem write_none {b hi : Nat} {bs : List Value} {w : World} {p v : Value} (h : Bld b hi bs w p v) (hb : b < hi) :
    Calls Tryz.prog 132 #[.pointer (some ⟨b, 0, none⟩), .slice none 0 0] w fun e w' => (∃ u, e = .returned u) ∧ (∃ p' v', Bld b hi bs w' p' v') ∧ Wr b hi w w' := by
  obtain ⟨i0, hi0, hz0, hz1, hz2⟩ := info_parts infoU8
  have cC := check_any h hb
  go_enter Tryz.func132, Tryz.ntmps132
  go_wp2_with (first | (go_at_call 123; refine cC.mono ?_; clear cC; rintro e w1 ⟨rfl, k1, HW1, hsz⟩; obtain ⟨ao, ln, cp, rfl⟩ := row_slice k1.row; clear hsz; have c1 : w1.cell? ⟨b, 1, none⟩ = some (.slice ao ln cp) := (by simp [World.cell?, k1.box]); have f1 : w1.frozen? ⟨b, 1, none⟩ = false := (by simp [World.frozen?, k1.box])) | (at_builtin; refine wpList_append_own_none rfl _ _ 140 rfl hi 5 i0 1 Tryz.underlying140 hi0 _ _ _ rfl k1.row rfl ?_))
  have q2 : Bld b hi bs (w1.setCell ⟨b, 1, none⟩ (.slice ao ln cp)) (.pointer (some ⟨b, 0, none⟩)) (.slice ao ln cp) := ((k1.put hb (by
    refine ⟨rfl, rfl, rfl, Nat.le_refl _, fun _ _ _ => rfl⟩) k1.row).2.1)
  exact bodyPost_ret (v := .tuple #[.int .i64 0, .nilIface]) (by simp [results, Tryz.results132, go_sem]) rfl ⟨⟨_, rfl⟩, ⟨_, _, q2⟩, HW1.trans (Wr.set _ _ _ _ _)⟩
set_option maxRecDepth 100000 in
set_option maxHeartbeats 1000000 in
theorem write_some {b hi : Nat} {bs : List Value} {w : World} {p v : Value} (h : Bld b hi bs w p v) (hb : b < hi) (hw : hi ≤ w.heap.size) {k o m c : Nat} {A : List UInt8} (hk : k < hi) (hkb : k ≠ b) (hr : w.heap[k]? = some (.cells (Lib.byteCells A).toArray 5 (0, 0))) (ho : o + m ≤ A.length) (hl : bs.length + m ≤ 70368744177664) :
    Calls Tryz.prog 132 #[.pointer (some ⟨b, 0, none⟩), .slice (some ⟨k, o, none⟩) m c] w fun e w' => (∃ u, e = .returned u) ∧ (∃ p' v', Bld b hi (bs ++ Lib.byteCells ((A.drop o).take m)) w' p' v') ∧ Wr b hi w w' := by
  obtain ⟨i0, hi0, hz0, hz1, hz2⟩ := info_parts infoU8
  have cC := check_any h hb
  have hcl : (Lib.byteCells ((A.drop o).take m)).length = m := by rw [bc_len]; simp; omega
  have hml : bs.length + m ≤ maxLen := by unfold maxLen; omega
  have HN : Hid (∀ X : World, X.heap[k]? = some (.cells (Lib.byteCells A).toArray 5 (0, 0)) → ∀ j u, (Lib.byteCells ((A.drop o).take m))[j]? = some u → X.cell? ((⟨k, o, none⟩ : Addr).add j) = some u) := fun X hX j u hu => by
    have hj : j < m := by
      have := (List.getElem?_eq_some_iff.1 hu).1
      omega
    rw [adr]
    have e1 : (Lib.byteCells A)[o + j]? = some u := by
      rw [← hu]
      simp [Lib.byteCells, hj]
    unfold World.cell?
    dsimp only
    rw [hX]
    simpa using e1
  have HK : Hid (∀ X, Wr b hi w X → X.heap[k]? = some (.cells (Lib.byteCells A).toArray 5 (0, 0))) := fun X hX => hX.2.2.2.2 k _ hr hkb (fun h => by omega)
  obtain ⟨nw, hnw⟩ : ∃ nw, Lib.byteCells ((A.drop o).take m) = nw := ⟨_, rfl⟩
  have H1 : Hid (∀ u ∈ nw, u.oneCell' = true) := show ∀ u ∈ nw, _ by rw [← hnw]; exact bc_one _
  rw [hnw] at HN hcl ⊢
  have HL : Hid (nw.length = m ∧ bs.length + m ≤ maxLen ∧ bs.length + m ≤ 70368744177664 ∧ hi ≤ w.heap.size) := ⟨hcl, hml, hl, hw⟩
  clear hr hk ho hnw hcl hml hl hw h
  go_enter Tryz.func132, Tryz.ntmps132
  go_wp2_with (first | (go_at_call 123; refine cC.mono ?_; clear cC; rintro e w1 ⟨rfl, k1, HW1, hsz⟩; have HS : Hid (w1.heap.size = w.heap.size) := hsz; clear hsz; have c1 : w1.cell? ⟨b, 1, none⟩ = some v := (by simp [World.cell?, k1.box])) | (at_builtin; refine wpList_append_own _ rfl _ _ 140 rfl hi 5 i0 (.int .u8 0) 1 1 Tryz.underlying140 hi0 hz0 hz1 hz2 rfl (by decide) _ _ _ rfl k1.row ⟨k, o, none⟩ m c nw rfl (by rw [HL.out.1]; omega) (HN.out _ (HK.out _ HW1)) H1.out HL.out.2.1 (by have := HL.out; omega) (by have := HL.out; have := HS.out; omega) ?_; intro v' w2 hown' hgrow _; obtain ⟨ao, ln, cp, rfl⟩ := row_slice hown'; obtain ⟨q1, q2, q3⟩ := k1.put (bs' := bs ++ nw) hb hgrow (by rw [row_len hown'.1]; exact hown'); have d1 : w2.cell? ⟨b, 1, none⟩ = some v := (by simp [World.cell?, q1]); have f1 : w2.frozen? ⟨b, 1, none⟩ = false := (by simp [World.frozen?, q1])))
  exact bodyPost_ret (v := .tuple #[.int .i64 m, .nilIface]) (by simp [results, Tryz.results132, go_sem]) rfl ⟨⟨_, rfl⟩, ⟨_, _, q2⟩, HW1.trans q3⟩
end Go.Proofs.YtcjmfoadimpffaaGreatDoor.Gap
namespace Go.Proofs.YtcjmfoadimpffaaGreatDoor.Gap
open Go.RowKit Bod

theorem infoZ : (Tryz.prog.info? 5).map (fun i => (i.zero, i.size, i.bytes)) = some (some (.int .u8 0), 1, 1) := by kernel_rfl
theorem made_bc (m : Nat) : madeCells #[.int .u8 0] m = (Lib.byteCells (List.replicate m 0)).toArray := by
  apply Array.ext
  · simp [Lib.byteCells, madeCells]
  · intro i h1 h2
    simp [Lib.byteCells, madeCells, Nat.mod_one]

/-- the last operation of a region whose run is known -/
theorem last_run {F : Fence} {n : Nat} {P : Program} {ops : Array Oper} {Q : Exit → Act → World → Prop} {o : Oper} {a : Act} {w w' : World} {v : Value} (hgo : o.guard = none) (hro : F.round = none) (hF : ∀ f, F.fn f) (hr : (execOp a.eval o).run P w = .ok (.value v) w') (h : Q .normal (a.put o.dst v) w') : wpListIn F n P ops Q [o] a w := by
  unfold wpListIn
  rw [if_pos (by simp [Region.wanted, hgo])]
  unfold Oper.wpIn
  refine ⟨fun f _ => hF f, ?_⟩
  rw [hro, Oper.semAt_none, hr]
  exact h
/-- bytes of one row are copied into another -/
theorem copy_to {j : Nat} {Z A : List UInt8} {a : Option Addr} {dl dc off so n : Nat} {r : Option Nat} (hnil : r = none → A = []) (ha : 0 < n → a = some ⟨j, off, none⟩) (hn : n ≤ dl) (h1 : off + n ≤ Z.length) (h2 : so + n ≤ A.length) (ty : TypeId) (X : World) (hj : X.heap[j]? = some (.cells (Lib.byteCells Z).toArray 5 (0, 0))) (hsrc : ∀ k, r = some k → X.heap[k]? = some (.cells (Lib.byteCells A).toArray 5 (0, 0))) :
    (Builtin.copy_ #[140, 140] ty #[.slice a dl dc, cutV (ad r) so (so + n) A.length]).run Tryz.prog X = .ok (goInt n) (X.setRow j (Lib.byteCells (splice Z off ((A.drop so).take n))).toArray) := by
  have hcl : ((A.drop so).take n).length = n := by simp; omega
  by_cases hn0 : n = 0
  · subst hn0
    have e1 : splice Z off ((A.drop so).take 0) = Z := by simp [splice]
    rw [e1, setRow_self X j _ 5 _ hj]
    unfold cutV sliced
    exact run_copy_none (P := Tryz.prog) _ 140 140 ty 5 _ _ _ _ _ _ Tryz.underlying140 infoB (by simp)
  · obtain rfl := ha (by omega)
    cases r with
    | none => have := hnil rfl; subst this; simp at h2; omega
    | some i =>
      unfold cutV sliced ad
      rw [if_neg (by omega)]
      have hrow := hsrc i rfl
      have := run_copy_row Tryz.prog X 140 140 ty 5 j off dl dc ⟨i, so * 1, none⟩ (so + n - so) (A.length - so) (Lib.byteCells Z).toArray 5 (Lib.byteCells ((A.drop so).take n)) Tryz.underlying140 infoB hj
        (by rw [bc_len, hcl]; show n = min _ _; omega) (fun m v hv => ?_) (by simp [bc_len, hcl]; omega) (bc_one _)
      · rw [bc_len, hcl] at this
        simp only [Option.map_some, adr, Nat.zero_add]
        rw [this, bc_splice, bc_len, hcl]
        simp
      · have hi : m < n := by
          have := (List.getElem?_eq_some_iff.1 hv).1
          rw [bc_len, hcl] at this
          exact this
        rw [adr]
        have e1 : (Lib.byteCells A)[so * 1 + m]? = some v := by
          rw [← hv]
          simp [Lib.byteCells, hi]
        unfold World.cell?
        dsimp only
        rw [hrow]
        simpa using e1
theorem run_cut_h (a : Option Addr) (N hi : Nat) (h : hi ≤ N) (W : World) : (Instr.sliceAt 140 (.slice a N N) none (some (.int .i64 hi)) none).run Tryz.prog W = .ok (cutV a 0 hi N) W := by
  rw [run_sliceAt_slice _ _ _ _ _ _ unLB, run_slice_h _ _ _ _ _ unLB _ _ (by omega) (by omega), szLB]
  rfl
theorem cell_row {X : World} {j b : Nat} (hne : b ≠ j) (cs : Array Value) (i : Nat) : (X.setRow j cs).cell? ⟨b, i, none⟩ = X.cell? ⟨b, i, none⟩ := by
  unfold World.cell?
  dsimp only
  rw [setRow_other X j b cs hne]
theorem frozen_row {X : World} {j b : Nat} (hne : b ≠ j) (cs : Array Value) (i : Nat) : (X.setRow j cs).frozen? ⟨b, i, none⟩ = X.frozen? ⟨b, i, none⟩ := by
  unfold World.frozen?
  dsimp only
  rw [setRow_other X j b cs hne]

set_option maxRecDepth 100000 in
set_option maxHeartbeats 1000000 in
theorem room_kept {b : Nat} {r : Option Nat} {A : List UInt8} {p e l n : Nat} (w : World) (h : PA w b r A p e l) (h1 : n ≤ A.length) (h2 : A.length ≤ 2 * max n 64) (hA : A.length ≤ 4294967296) :
    Calls Tryz.prog 163 #[.pointer (some ⟨b, 0, none⟩), .int .i64 n] w fun x w' => x = .returned (.tuple #[]) ∧ w' = w := by
  obtain ⟨⟨c0, c1, c2, c3⟩, f0, f1, f2, f3⟩ := box4 h.box
  have hb := h.lt
  obtain ⟨N, hN⟩ : ∃ N, A.length = N := ⟨_, rfl⟩
  rw [hN] at c0 h1 h2 hA
  obtain ⟨R, hR⟩ : ∃ R : Nat, (max (n : Int) 64) = R := ⟨max n 64, by omega⟩
  have h3 : (N : Int) ≤ 2 * R := by omega
  clear h hN h2
  go_enter Tryz.func163, Tryz.ntmps163
  go_wp2
  exact bodyPost_ret (v := .tuple #[]) (by simp [results, Tryz.results163, go_sem]) rfl ⟨rfl, rfl⟩

set_option maxRecDepth 100000 in
set_option maxHeartbeats 4000000 in
theorem room_new {b : Nat} {r : Option Nat} {A : List UInt8} {p e l n : Nat} {t : List UInt8} (w : World) (h : PA w b r A p e l) (hg : Gap A p e t) (ht : t.length ≤ n) (hn : n ≤ l) (hl : l ≤ 1073741824) (h1 : ¬ (n ≤ A.length ∧ A.length ≤ 2 * max n 64)) (hA : A.length ≤ 4294967296) :
    CallsIn .wide 0 Tryz.prog 163 #[.pointer (some ⟨b, 0, none⟩), .int .i64 n] w fun x w' => x = .returned (.tuple #[]) ∧ ∃ A' e', PA w' b (some w.heap.size) A' p e' l ∧ Gap A' p e' t ∧ n ≤ A'.length ∧ A'.length ≤ 2 * max n 64 ∧ A'.length ≤ l ∧ Ch b r w w' := by
  obtain ⟨⟨c0, c1, c2, c3⟩, f0, f1, f2, f3⟩ := box4 h.box
  have hb := h.lt
  obtain ⟨R, hR⟩ : ∃ R : Nat, (max (n : Int) 64) = R := ⟨max n 64, by omega⟩
  have hRN : max n 64 = R := by omega
  rw [hRN] at h1 ⊢
  obtain ⟨N, hN⟩ : ∃ N, A.length = N := ⟨_, rfl⟩
  rw [hN] at c0 h1 hA
  have h1 : N < n ∨ (n ≤ N ∧ (2 : Int) * R < N) := by omega
  have g1 := hg.pe; have g2 := hg.eA; have g3 := hg.len
  rw [hN] at g2 g3
  obtain ⟨m, hm⟩ : ∃ m : Nat, (min ((n : Int) + R / 2) l) = m := ⟨min (n + R / 2) l, by omega⟩
  obtain ⟨j, hj⟩ : ∃ j, w.heap.size = j := ⟨_, rfl⟩
  rw [hj]
  obtain ⟨q, hq⟩ : ∃ q, N - e = q := ⟨_, rfl⟩
  obtain ⟨f, hf⟩ : ∃ f, m - q = f := ⟨_, rfl⟩
  have hm1 : n ≤ m := by omega
  have hm2 : m ≤ 2 * R := by omega
  have hm3 : m ≤ l := by omega
  obtain ⟨W0, hW0⟩ : ∃ W0, w.alloc (.cells (Lib.byteCells (List.replicate m 0)).toArray 5) = W0 := ⟨_, rfl⟩
  have hB0 : Below w.heap.size w W0 := by rw [← hW0]; exact (Below.refl _ w).alloc (Nat.le_refl _) _
  have hP0 : PA W0 b r A p e l := h.below hB0
  have hr0 : W0.heap[j]? = some (.cells (Lib.byteCells (List.replicate m 0)).toArray 5 (0, 0)) := by rw [← hW0, ← hj]; exact World.alloc_heap_new w _
  have hbj : b ≠ j := by omega
  have hrj : ∀ k, r = some k → k ≠ j := fun k hk => by have := h.rlt hk; omega
  obtain ⟨⟨d0, d1, d2, d3⟩, e0, e1, e2, e3⟩ := box4 hP0.box
  rw [hN] at d0
  have hmk : (Instr.makeSlice 140 (.int .i64 (m : Int)) (.int .i64 (m : Int))).run Tryz.prog w = .ok (.slice (some ⟨j, 0, none⟩) m m) W0 := by
    rw [run_make_row' 140 5 (.int .u8 0) 1 Tryz.underlying140 infoZ rfl .i64 .i64 m (by omega) (by omega) w, made_bc, hj, hW0]
  have s1 : ∀ W, (Instr.sliceAt 140 (.slice (ad r) N N) none (some (.int .i64 p)) none).run Tryz.prog W = .ok (cutV (ad r) 0 p N) W := fun W => run_cut_h _ N p (by omega) W
  have s2 : ∀ W, (Instr.sliceAt 140 (.slice (ad r) N N) (some (.int .i64 e)) none none).run Tryz.prog W = .ok (cutV (ad r) e N N) W := fun W => run_cut _ N e (by omega) W
  have s3 : ∀ W, (Instr.sliceAt 140 (.slice (some ⟨j, 0, none⟩) m m) (some (.int .i64 f)) none none).run Tryz.prog W = .ok (cutV (some ⟨j, 0, none⟩) f m m) W := fun W => run_cut _ m f (by omega) W
  have k1 : IntKind.i64.wrap ((N : Int) - e) = q := by rw [IntKind.wrap_i64]; omega
  have k2 : IntKind.i64.wrap ((m : Int) - q) = f := by rw [IntKind.wrap_i64]; omega
  have cr : ∀ (X : World) cs i, (X.setRow j cs).cell? ⟨b, i, none⟩ = X.cell? ⟨b, i, none⟩ := fun X cs i => cell_row hbj cs i
  have fr : ∀ (X : World) cs i, (X.setRow j cs).frozen? ⟨b, i, none⟩ = X.frozen? ⟨b, i, none⟩ := fun X cs i => frozen_row hbj cs i
  have hL1 : (splice (List.replicate m (0 : UInt8)) 0 (A.take p)).length = m := by rw [length_splice _ _ _ (by simp; omega)]; simp
  have HZ : Hid (∀ X : World, X.heap = W0.heap → (Builtin.copy_ #[140, 140] 3 #[.slice (some ⟨j, 0, none⟩) m m, cutV (ad r) 0 p N]).run Tryz.prog X = .ok (goInt p) (X.setRow j (Lib.byteCells (splice (List.replicate m 0) 0 (A.take p))).toArray)) := fun X hX => by
    have := copy_to (j := j) (Z := List.replicate m 0) (A := A) (a := some ⟨j, 0, none⟩) (dl := m) (dc := m) (off := 0) (so := 0) (n := p) (r := r) h.nil (fun _ => rfl) (by omega) (by simp; omega) (by omega) 3 X (by rw [hX]; exact hr0) (fun k hk => by rw [hX]; exact (hP0.row k hk).2)
    rw [hN] at this
    simpa using this
  have HY : Hid (∀ X : World, (∀ k, r = some k → X.heap[k]? = W0.heap[k]?) → X.heap[j]? = some (.cells (Lib.byteCells (splice (List.replicate m 0) 0 (A.take p))).toArray 5 (0, 0)) → (Builtin.copy_ #[140, 140] 3 #[cutV (some ⟨j, 0, none⟩) f m m, cutV (ad r) e N N]).run Tryz.prog X = .ok (goInt q) (X.setRow j (Lib.byteCells (splice (splice (List.replicate m 0) 0 (A.take p)) f (A.drop e))).toArray)) := fun X hX hXj => by
    have := copy_to (j := j) (Z := splice (List.replicate m 0) 0 (A.take p)) (A := A) (a := if m = f then some ⟨j, 0, none⟩ else some ⟨j, f, none⟩) (dl := m - f) (dc := m - f) (off := f) (so := e) (n := q) (r := r) h.nil (fun _ => by rw [if_neg (by omega)]) (by omega) (by rw [hL1]; omega) (by omega) 3 X hXj (fun k hk => by rw [hX k hk]; exact (hP0.row k hk).2)
    rw [hN, show e + q = N by omega, show (A.drop e).take q = A.drop e from List.take_of_length_le (by rw [List.length_drop]; omega)] at this
    rw [← this]
    unfold cutV sliced
    simp [adr]
  have hL2 : (splice (splice (List.replicate m (0 : UInt8)) 0 (A.take p)) f (A.drop e)).length = m := by rw [length_splice _ _ _ (by rw [hL1]; simp; omega)]; exact hL1
  have HG : Hid (Gap (splice (splice (List.replicate m (0 : UInt8)) 0 (A.take p)) f (A.drop e)) p f t ∧ (splice (splice (List.replicate m (0 : UInt8)) 0 (A.take p)) f (A.drop e)).length = m) := by
    refine ⟨?_, hL2⟩
    have := hg.remade (Z := List.replicate m 0) (by rw [List.length_replicate]; omega)
    rw [List.length_replicate, hN, hq, hf] at this
    exact this
  have HF : Hid (∀ k1 k2, PA ((((((W0.drewN k1).setRow j (Lib.byteCells (splice (List.replicate m 0) 0 (A.take p))).toArray).drewN k2).setRow j (Lib.byteCells (splice (splice (List.replicate m 0) 0 (A.take p)) f (A.drop e))).toArray).setCell ⟨b, 0, none⟩ (.slice (some ⟨j, 0, none⟩) m m)).setCell ⟨b, 2, none⟩ (.int .i64 f)) b (some j) (splice (splice (List.replicate m 0) 0 (A.take p)) f (A.drop e)) p f l ∧
      Ch b r w ((((((W0.drewN k1).setRow j (Lib.byteCells (splice (List.replicate m 0) 0 (A.take p))).toArray).drewN k2).setRow j (Lib.byteCells (splice (splice (List.replicate m 0) 0 (A.take p)) f (A.drop e))).toArray).setCell ⟨b, 0, none⟩ (.slice (some ⟨j, 0, none⟩) m m)).setCell ⟨b, 2, none⟩ (.int .i64 f))) := fun k1 k2 => by
    obtain ⟨X1, hX1⟩ : ∃ X1, ((W0.drewN k1).setRow j (Lib.byteCells (splice (List.replicate m 0) 0 (A.take p))).toArray).drewN k2 = X1 := ⟨_, rfl⟩
    have x1 : X1.heap[b]? = some (.cells #[.slice (ad r) N N, .int .i64 p, .int .i64 e, .int .i64 l] 154 (0, 0)) := by
      rw [← hX1, ← hN]
      exact (setRow_other _ _ _ _ hbj).trans hP0.box
    have x2 : X1.heap[j]? = some (.cells (Lib.byteCells (splice (List.replicate m 0) 0 (A.take p))).toArray 5 (0, 0)) := by
      rw [← hX1]
      exact setRow_heap _ _ _ _ _ _ hr0
    have x3 : Ch b (some j) W0 X1 := by
      rw [← hX1]
      exact ((Ch.drewN b (some j) W0 k1).trans (Nw.refl _ _) (Ch.setRow b j _ _)).trans (Nw.refl _ _) (Ch.drewN b (some j) _ k2)
    rw [hX1]
    obtain ⟨X2, hX2⟩ : ∃ X2, X1.setRow j (Lib.byteCells (splice (splice (List.replicate m 0) 0 (A.take p)) f (A.drop e))).toArray = X2 := ⟨_, rfl⟩
    have y1 : X2.heap[b]? = some (.cells #[.slice (ad r) N N, .int .i64 p, .int .i64 e, .int .i64 l] 154 (0, 0)) := by
      rw [← hX2]
      exact (setRow_other _ _ _ _ hbj).trans x1
    have y2 : X2.heap[j]? = some (.cells (Lib.byteCells (splice (splice (List.replicate m 0) 0 (A.take p)) f (A.drop e))).toArray 5 (0, 0)) := by
      rw [← hX2]
      exact setRow_heap _ _ _ _ _ _ x2
    have y3 : Ch b (some j) W0 X2 := by
      rw [← hX2]
      exact x3.trans (Nw.refl _ _) (Ch.setRow b j _ _)
    rw [hX2]
    refine ⟨⟨?_, fun k hk => ?_, fun h0 => by cases h0⟩, ?_⟩
    · have := set1 (i := 2) (.int .i64 f) (set1 (i := 0) (.slice (some ⟨j, 0, none⟩) m m) y1)
      rw [this, hL2]
      rfl
    · cases hk
      refine ⟨fun e => hbj e.symm, ?_⟩
      have g1 := gcell X2 b 0 (.slice (some ⟨j, 0, none⟩) m m)
      have hjl : j < X2.heap.size := (Array.getElem?_eq_some_iff.1 y2).1
      have hne : some j ≠ some b := fun e => hbj (Option.some.inj e).symm
      rw [(gcell _ b 2 (.int .i64 f)).block j (Nat.lt_of_lt_of_le hjl g1.size) hne, g1.block j hjl hne]
      exact y2
    · exact (Ch.below hB0).trans (.inr ⟨j, rfl, by omega⟩) ((y3.trans (Nw.refl _ _) (Ch.set b (some j) _ 0 _)).trans (Nw.refl _ _) (Ch.set b (some j) _ 2 _))
  rcases h1 with h1 | h1
  · have hd : ¬ ((n : Int) ≤ N) := by omega
    clear h hg ht hW0 hB0 hP0 c2 hL1 hL2 h1 hRN hq hf hN g1 g2 g3
    refine callsIn_of_wp_marks Tryz.func163 rfl trivial ?_ rfl
    simp only [Tryz.ntmps163, List.size_toArray, List.length_cons, List.length_nil, Nat.reduceAdd, Nat.reduceSub, Array.replicate_succ, Array.replicate_zero, List.push_toArray, List.append_toArray, List.nil_append, List.cons_append]
    gi_wp2
    refine wpIn_region_quiet_lit rfl (by kernel_rfl) (by kernel_rfl) ?_
    repeat (gi_big_quiet_step (fail))
    refine wpQuietIn_nil ?_
    intro _ hw'
    obtain ⟨nq, hw''⟩ := hw'
    subst hw''
    gi_wp2
    refine region_thenB (by kernel_rfl) (by kernel_rfl) (by kernel_rfl) (by kernel_rfl) rfl rfl ?_
    dsimp only [List.dropLast, List.getLast]
    repeat (gi_big_quiet_step (fail))
    refine wpQuietIn_nil ?_
    intro _ hw'
    obtain ⟨nr, hw''⟩ := hw'
    subst hw''
    refine last_run rfl rfl (fun _ => trivial) (exec_copy (.tmp 49) (.tmp 58) 140 140 rfl _ _ rfl rfl (HZ.out _ rfl)) ?_
    simp only [Act.put, List.setIfInBounds_toArray, List.set_cons_succ, List.set_cons_zero]
    gi_wp2
    refine region_thenB (by kernel_rfl) (by kernel_rfl) (by kernel_rfl) (by kernel_rfl) rfl rfl ?_
    dsimp only [List.dropLast, List.getLast]
    repeat (gi_big_quiet_step (fail))
    refine wpQuietIn_nil ?_
    intro _ hw'
    obtain ⟨ns, hw''⟩ := hw'
    subst hw''
    refine last_run rfl rfl (fun _ => trivial) (exec_copy (.tmp 62) (.tmp 71) 140 140 rfl _ _ rfl rfl (HY.out _ (fun k hk => setRow_other _ _ _ _ (hrj k hk)) (setRow_heap _ _ _ _ _ _ hr0))) ?_
    simp only [Act.put, List.setIfInBounds_toArray, List.set_cons_succ, List.set_cons_zero]
    gi_wp2
    exact ⟨.tuple #[], by simp [results, Tryz.results163, go_sem], rfl, _, f, (HF.out _ _).1, HG.out.1, by rw [HG.out.2]; exact hm1, by rw [HG.out.2]; exact hm2, by rw [HG.out.2]; exact hm3, (HF.out _ _).2⟩
  · have hd : (n : Int) ≤ N := by omega
    have hd2 : (2 : Int) * R < N := by omega
    clear h hg ht hW0 hB0 hP0 c2 hL1 hL2 h1 hRN hq hf hN g1 g2 g3
    refine callsIn_of_wp_marks Tryz.func163 rfl trivial ?_ rfl
    simp only [Tryz.ntmps163, List.size_toArray, List.length_cons, List.length_nil, Nat.reduceAdd, Nat.reduceSub, Array.replicate_succ, Array.replicate_zero, List.push_toArray, List.append_toArray, List.nil_append, List.cons_append]
    gi_wp2
    refine wpIn_region_quiet_lit rfl (by kernel_rfl) (by kernel_rfl) ?_
    repeat (gi_big_quiet_step (fail))
    refine wpQuietIn_nil ?_
    intro _ hw'
    obtain ⟨nq, hw''⟩ := hw'
    subst hw''
    gi_wp2
    refine region_thenB (by kernel_rfl) (by kernel_rfl) (by kernel_rfl) (by kernel_rfl) rfl rfl ?_
    dsimp only [List.dropLast, List.getLast]
    repeat (gi_big_quiet_step (fail))
    refine wpQuietIn_nil ?_
    intro _ hw'
    obtain ⟨nr, hw''⟩ := hw'
    subst hw''
    refine last_run rfl rfl (fun _ => trivial) (exec_copy (.tmp 49) (.tmp 58) 140 140 rfl _ _ rfl rfl (HZ.out _ rfl)) ?_
    simp only [Act.put, List.setIfInBounds_toArray, List.set_cons_succ, List.set_cons_zero]
    gi_wp2
    refine region_thenB (by kernel_rfl) (by kernel_rfl) (by kernel_rfl) (by kernel_rfl) rfl rfl ?_
    dsimp only [List.dropLast, List.getLast]
    repeat (gi_big_quiet_step (fail))
    refine wpQuietIn_nil ?_
    intro _ hw'
    obtain ⟨ns, hw''⟩ := hw'
    subst hw''
    refine last_run rfl rfl (fun _ => trivial) (exec_copy (.tmp 62) (.tmp 71) 140 140 rfl _ _ rfl rfl (HY.out _ (fun k hk => setRow_other _ _ _ _ (hrj k hk)) (setRow_heap _ _ _ _ _ _ hr0))) ?_
    simp only [Act.put, List.setIfInBounds_toArray, List.set_cons_succ, List.set_cons_zero]
    gi_wp2
    exact ⟨.tuple #[], by simp [results, Tryz.results163, go_sem], rfl, _, f, (HF.out _ _).1, HG.out.1, by rw [HG.out.2]; exact hm1, by rw [HG.out.2]; exact hm2, by rw [HG.out.2]; exact hm3, (HF.out _ _).2⟩

theorem room_any {b : Nat} {r : Option Nat} {A : List UInt8} {p e l n : Nat} {t : List UInt8} (w : World) (h : PA w b r A p e l) (hg : Gap A p e t) (ht : t.length ≤ n) (hn : n ≤ l) (hl : l ≤ 1073741824) (hA : A.length ≤ 4294967296) :
    Calls Tryz.prog 163 #[.pointer (some ⟨b, 0, none⟩), .int .i64 n] w fun x w' => x = .returned (.tuple #[]) ∧ ∃ r' A' e', PA w' b r' A' p e' l ∧ Gap A' p e' t ∧ n ≤ A'.length ∧ A'.length ≤ 2 * max n 64 ∧ (A.length ≤ l → A'.length ≤ l) ∧ Ch b r w w' ∧ Nw w r r' := by
  by_cases h1 : n ≤ A.length ∧ A.length ≤ 2 * max n 64
  · exact (room_kept w h h1.1 h1.2 hA).mono fun x w' ⟨e1, e2⟩ => ⟨e1, r, A, e, by rw [e2]; exact h, hg, h1.1, h1.2, id, by rw [e2]; exact Ch.refl _ _ _, .inl rfl⟩
  · exact (callsIn_wide.1 (room_new w h hg ht hn hl h1 hA)).mono fun x w' ⟨e1, A', e', q1, q2, q3, q4, q6, q5⟩ => ⟨e1, some w.heap.size, A', e', q1, q2, q3, q4, fun _ => q6, q5, .inr ⟨_, rfl, Nat.le_refl _⟩⟩
end Go.Proofs.YtcjmfoadimpffaaGreatDoor.Gap