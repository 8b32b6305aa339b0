/-
  Clone of a store. Conditions: those of each theorem.
-/
import Derived.Test.YtffipfmnpffdaaaGreatDoorGPkD
import Derived.Test.YtffipfmnpffdaaaGreatDoorGPkE
import Derived.Lib.SlBuf
import Derived.Deep.RegionHeld3
import Derived.Test.YtffipfmnpffdaaaGreatDoorPkTD
namespace Go.Proofs.YtffipfmnpffdaaaGreatDoor.Gap
open Go.RowKit Bod

theorem cut_all (r : Option Nat) (N : Nat) : cutV (ad r) 0 N N = .slice (ad r) N N := by
  unfold cutV sliced
  cases r with
  | none => simp [ad]
  | some k => simp [ad, adr]

set_option maxRecDepth 100000 in
set_option maxHeartbeats 1000000 in
theorem clone_none (w : World) : Calls Tryz.prog 159 #[.pointer none] w fun x w' => x = .returned (.pointer none) ∧ w' = w := by
  go_enter Tryz.func159, Tryz.ntmps159
  go_wp2
  go_ret
  exact ⟨rfl, rfl⟩

set_option maxRecDepth 100000 in
set_option maxHeartbeats 4000000 in
theorem clone_pb {w : World} {b : Nat} {r : Option Nat} {g : Gp} {n : Nat} (h : PB w b r g n) :
    Calls Tryz.prog 159 #[.pointer (some ⟨b, 0, none⟩)] w fun x w' => x = .returned (.pointer (some ⟨w.heap.size + 1, 0, none⟩)) ∧ PB w' (w.heap.size + 1) (some w.heap.size) g n ∧ Below w.heap.size w w' := by
  obtain ⟨A, e, hP, hg, hA⟩ := h.ex
  have hsm := h.small
  have hb := h.lt
  obtain ⟨⟨c0, c1, c2, c3⟩, -⟩ := box4 hP.box
  rw [hA] at c0
  obtain ⟨j, hj⟩ : ∃ j, w.heap.size = j := ⟨_, rfl⟩
  obtain ⟨W0, hW0⟩ : ∃ W0, w.alloc (.cells (Lib.byteCells (List.replicate n 0)).toArray 5) = W0 := ⟨_, rfl⟩
  have hB0 : Below w.heap.size w W0 := by rw [← hW0]; exact (Below.refl _ w).alloc (Nat.le_refl _) _
  have hr0 : W0.heap[j]? = some (.cells (Lib.byteCells (List.replicate n 0)).toArray 5 (0, 0)) := by rw [← hW0, ← hj]; exact World.alloc_heap_new w _
  have hz0 : W0.heap.size = j + 1 := by rw [← hW0, ← hj]; simp
  have hmk : (Instr.makeSlice 165 (.int .i64 (n : Int)) (.int .i64 (n : Int))).run Tryz.prog w = .ok (.slice (some ⟨j, 0, none⟩) n n) W0 := by
    rw [run_make_row' 165 5 (.int .u8 0) 1 Tryz.underlying165 infoZ rfl .i64 .i64 n (by omega) (by omega) w, made_bc, hj, hW0]
  have hP0 := hP.below hB0
  obtain ⟨⟨v0, -⟩, -⟩ := box4 hP0.box
  rw [hA] at v0
  have hfull : splice (List.replicate n (0 : UInt8)) 0 ((A.drop 0).take n) = A := by
    rw [List.drop_zero, List.take_of_length_le (by omega)]
    unfold splice
    rw [List.take_zero, List.nil_append, List.drop_of_length_le (by simp; omega), List.append_nil]
  obtain ⟨W1, hW1⟩ : ∃ W1, W0.setRow j (Lib.byteCells A).toArray = W1 := ⟨_, rfl⟩
  have hcp : (Builtin.copy_ #[165, 165] 3 #[.slice (some ⟨j, 0, none⟩) n n, .slice (ad r) n n]).run Tryz.prog W0 = .ok (goInt n) W1 := by
    have := copy_to (j := j) (Z := List.replicate n 0) (A := A) (a := some ⟨j, 0, none⟩) (dl := n) (dc := n) (off := 0) (so := 0) (n := n) (r := r) hP.nil (fun _ => rfl) (Nat.le_refl _) (by simp) (by omega) 3 W0 hr0 (fun k hk => (hP0.row k hk).2)
    rw [hfull, hA, Nat.zero_add, cut_all, hW1] at this
    exact this
  have hbj : b ≠ j := by omega
  have hP1 : W1.heap[b]? = some (.cells #[.slice (ad r) A.length A.length, .int .i64 g.p, .int .i64 e, .int .i64 g.l] 192 (0, 0)) := by rw [← hW1]; exact (setRow_other _ _ _ _ hbj).trans hP0.box
  have hr1 : W1.heap[j]? = some (.cells (Lib.byteCells A).toArray 5 (0, 0)) := by rw [← hW1]; exact setRow_heap _ _ _ _ _ _ hr0
  have hz1 : W1.heap.size = j + 1 := by rw [← hW1, ← hz0]; simp [World.setRow]
  have hB1 : Below w.heap.size w W1 := by rw [← hW1]; exact hB0.trans ⟨rfl, rfl, rfl, by simp [World.setRow], fun k hk => setRow_other _ _ _ _ (by omega)⟩
  obtain ⟨⟨d0, d1, d2, d3⟩, -⟩ := box4 hP1
  have HC : Hid (W1.cell? ⟨b, 1, none⟩ = some (.int .i64 g.p) ∧ W1.cell? ⟨b, 2, none⟩ = some (.int .i64 e) ∧ W1.cell? ⟨b, 3, none⟩ = some (.int .i64 g.l)) := ⟨d1, d2, d3⟩
  have HF : Hid (PB (W1.alloc (.cells #[.slice (some ⟨j, 0, none⟩) n n, .int .i64 g.p, .int .i64 e, .int .i64 g.l] 192)).drew (j + 1) (some j) g n ∧ Below w.heap.size w (W1.alloc (.cells #[.slice (some ⟨j, 0, none⟩) n n, .int .i64 g.p, .int .i64 e, .int .i64 g.l] 192)).drew) := by
    have q1 := World.alloc_heap_new W1 (.cells #[.slice (some ⟨j, 0, none⟩) n n, .int .i64 g.p, .int .i64 e, .int .i64 g.l] 192)
    rw [hz1] at q1
    have q2 : PB (W1.alloc (.cells #[.slice (some ⟨j, 0, none⟩) n n, .int .i64 g.p, .int .i64 e, .int .i64 g.l] 192)) (j + 1) (some j) g n := by
      refine ⟨⟨A, e, ⟨by rw [hA]; exact q1, fun i hi => ?_, fun h0 => by cases h0⟩, hg, hA⟩, h.cap, h.lm, h.ok⟩
      cases hi
      exact ⟨by omega, (Below.heap_alloc _ _ _ (by rw [hz1]; omega)).trans hr1⟩
    refine ⟨q2.below ⟨rfl, rfl, rfl, Nat.le_refl _, fun _ _ => rfl⟩, ?_⟩
    have q3 := hB1.alloc hB1.size (.cells #[.slice (some ⟨j, 0, none⟩) n n, .int .i64 g.p, .int .i64 e, .int .i64 g.l] 192)
    exact ⟨q3.os, q3.tape, q3.output, q3.size, q3.block⟩
  have HZ : Hid (W1.heap.size = j + 1) := hz1
  have HCa : Hid ((W1.alloc (.cells #[.slice (some ⟨j, 0, none⟩) n n, .int .i64 g.p, .int .i64 e, .int .i64 g.l] 192)).drew.cell? ⟨b, 1, none⟩ = some (.int .i64 g.p) ∧ (W1.alloc (.cells #[.slice (some ⟨j, 0, none⟩) n n, .int .i64 g.p, .int .i64 e, .int .i64 g.l] 192)).drew.cell? ⟨b, 2, none⟩ = some (.int .i64 e) ∧ (W1.alloc (.cells #[.slice (some ⟨j, 0, none⟩) n n, .int .i64 g.p, .int .i64 e, .int .i64 g.l] 192)).drew.cell? ⟨b, 3, none⟩ = some (.int .i64 g.l)) := (box4 ((Below.heap_alloc W1 _ b (by rw [hz1]; omega)).trans hP1)).1.2
  rw [hj] at hB0 hB1 HF ⊢
  clear h hP hg hP0 hP1 hr0 hr1 hB0 hB1 hfull hW0 hW1 hj hz0 hz1 d0 d1 d2 d3 hA hbj
  go_enter Tryz.func159, Tryz.ntmps159
  go_wp2_with (at_builtin; refine Lib.wpList_copy_run _ rfl (.tmp 12) (.tmp 16) 165 165 rfl _ _ rfl rfl hcp ?_)
  go_region_held3 (fun w' => w'.cell? ⟨b, 1, none⟩ = some (.int .i64 g.p) ∧ w'.cell? ⟨b, 2, none⟩ = some (.int .i64 e) ∧ w'.cell? ⟨b, 3, none⟩ = some (.int .i64 g.l)) (first | exact HC.out | exact HCa.out) (fail)
  go_wp2
  go_ret
  exact ⟨by rw [HZ.out]; rfl, HF.out⟩

end Go.Proofs.YtffipfmnpffdaaaGreatDoor.Gap
namespace Go.Proofs.YtffipfmnpffdaaaGreatDoor.Sto
open Go.RowKit Go.Shelf Bod Wid
open Gap (Gp RB)

/-- a text like x's, all new -/
def Cop (w : World) (x : Tx) (K : Kp) (e : Ending) (W' : World) : Prop := ∃ y K', e = .returned y.val ∧ Hold W' y K' ∧ y.bk = x.bk ∧ K'.text = K.text ∧ K'.lim = K.lim ∧ Below w.heap.size w W' ∧ ∀ j, K'.blk j → w.heap.size ≤ j
set_option maxRecDepth 100000 in
set_option maxHeartbeats 1000000 in
theorem copied_gap {w : World} {v : Value} {o : Option (Nat × Option Nat)} {g : Gp} {n : Nat} (h : Gap.Is w v o g n) : Calls Tryz.prog 103 #[.iface 143 v] w (Cop w (.gap v) (.gap o g n)) := by
  have C1 : Hid (Calls Tryz.prog 159 #[v] w fun e W' => ∃ u, e = .returned u ∧ Hid (∃ o', Gap.Is W' u o' g n ∧ Below w.heap.size w W' ∧ ∀ j, (Kp.gap o' g n).blk j → w.heap.size ≤ j)) := by
    cases o with
    | none =>
      obtain ⟨rfl, h2, h3⟩ := h
      refine (Gap.clone_none w).mono ?_
      rintro e W' ⟨rfl, rfl⟩
      exact ⟨_, rfl, none, ⟨rfl, h2, h3⟩, Below.refl _ _, fun j hj => by obtain ⟨b, r, e, _⟩ := hj; cases e⟩
    | some x =>
      obtain ⟨b, r⟩ := x
      obtain ⟨rfl, h2⟩ := h
      refine (Gap.clone_pb h2).mono ?_
      rintro e W' ⟨rfl, q1, q2⟩
      refine ⟨_, rfl, some (w.heap.size + 1, some w.heap.size), ⟨rfl, q1⟩, q2, fun j hj => ?_⟩
      obtain ⟨b', r', e, hj⟩ := hj
      cases e
      rcases hj with rfl | hj
      · omega
      · cases hj; omega
  have ha := fun W => as_gap1 W v
  clear h
  go_enter Tryz.func103, Tryz.ntmps103
  go_wp2_with (go_at_call 159; refine C1.out.mono ?_; clear C1; rintro e w1 ⟨u, rfl, HB⟩)
  go_ret
  obtain ⟨o', q1, q2, q3⟩ := HB.out
  exact ⟨.gap u, .gap o' g n, rfl, q1, rfl, rfl, rfl, q2, q3⟩
set_option maxRecDepth 100000 in
set_option maxHeartbeats 1000000 in
theorem copied_rope {w : World} {b : Nat} {v : Value} {t : Tr} {l : Nat} (h : Rq w b v t l) (hg : Good t) (hl : t.text.size ≤ l) (hl2 : l ≤ 1073741824) : Calls Tryz.prog 103 #[.iface 188 (.pointer (some ⟨b, 0, none⟩))] w (Cop w (.rope (.pointer (some ⟨b, 0, none⟩))) (.rope b v t l)) := by
  obtain ⟨c0, c1, _, hlt⟩ := qcells h.box
  have HF : Hid (∀ i, Cop w (.rope (.pointer (some ⟨b, 0, none⟩))) (.rope b v t l) (.returned (.iface 188 (.pointer (some ⟨w.heap.size, 0, none⟩)))) ((w.alloc (.cells #[v, .int .i64 (l : Int)] 190)).drewN i)) := fun i => by
    have hb0 := (Below.refl _ w).alloc (Nat.le_refl _) (.cells #[v, .int .i64 (l : Int)] 190)
    have hb : Below w.heap.size w ((w.alloc (.cells #[v, .int .i64 (l : Int)] 190)).drewN i) := ⟨hb0.os, hb0.tape, hb0.output, hb0.size, hb0.block⟩
    exact ⟨.rope (.pointer (some ⟨w.heap.size, 0, none⟩)), .rope w.heap.size v t l, rfl, ⟨rfl, ⟨World.alloc_heap_new w _, h.rp.below hb⟩, hg, hl, hl2⟩, rfl, rfl, rfl, hb, fun j hj => by have e : j = w.heap.size := hj; omega⟩
  have ha := fun W => as_rope1 W (.pointer (some ⟨b, 0, none⟩))
  have ha2 := fun W => as_rope W (.pointer (some ⟨b, 0, none⟩))
  obtain ⟨q, rfl⟩ : ∃ q, v = .pointer q := by
    rcases h.rp with ⟨e, _⟩ | ⟨b', _, e, _⟩
    · exact ⟨_, e⟩
    · exact ⟨_, e⟩
  clear h hg hl hl2
  go_enter Tryz.func103, Tryz.ntmps103
  go_wp2
  go_region
  go_wp2
  go_ret
  exact HF.out 1
theorem copied_any {w : World} {x : Tx} {K : Kp} (h : Hold w x K) : Calls Tryz.prog 103 #[x.val] w (Cop w x K) := by
  cases x <;> cases K <;> first | exact h.elim | skip
  · exact copied_gap h
  · obtain ⟨rfl, h1, h2, h3, h4⟩ := h
    exact copied_rope h1 h2 h3 h4
set_option maxRecDepth 100000 in
set_option maxHeartbeats 1000000 in
theorem sclone_any {w : World} {b : Nat} {x : Option Tx} {k : Sk} {K : Kp} (h : Pst w b x k K) : Calls Tryz.prog 26 #[.pointer (some ⟨b, 0, none⟩)] w fun e W' => e = .returned (.pointer (some ⟨w.heap.size, 0, none⟩)) ∧ ∃ y K', Pst W' w.heap.size (some y) k K' ∧ y.bk = (Tx.or x).bk ∧ K'.text = K.text ∧ Below w.heap.size w W' ∧ ∀ j, K'.blk j → w.heap.size ≤ j := by
  obtain ⟨c0, c1, c2, c3, c4, c5, c6, c7, hlt⟩ := scells h.box
  obtain ⟨W0, hW0⟩ : ∃ W0, w.alloc (.cells (scl (Tx.at x) k) 50) = W0 := ⟨_, rfl⟩
  have hb0 : Below w.heap.size w W0 := by rw [← hW0]; exact (Below.refl _ w).alloc (Nat.le_refl _) _
  have hr0 : W0.heap[w.heap.size]? = some (.cells (scl (Tx.at x) k) 50 (0, 0)) := by rw [← hW0]; exact World.alloc_heap_new w _
  have C1 : Hid (Calls Tryz.prog 104 #[.pointer (some ⟨b, 0, none⟩)] W0 fun e W' => e = .returned (Tx.or x).val ∧ W' = W0) := body_any (h.below hb0).spt
  have C2 : Hid (Calls Tryz.prog 103 #[(Tx.or x).val] W0 fun e W' => ∃ T q, e = .returned (.iface T q) ∧ Hid (∃ (y : Tx) (K' : Kp), y.val = .iface T q ∧ Hold W' y K' ∧ y.bk = (Tx.or x).bk ∧ K'.text = K.text ∧ K'.lim = K.lim ∧ Below W0.heap.size W0 W' ∧ ∀ j, K'.blk j → W0.heap.size ≤ j)) := by
    refine (copied_any (h.below hb0).hold).mono ?_
    rintro e W' ⟨y, K', q⟩
    obtain ⟨T, u, hu⟩ : ∃ T u, y.val = .iface T u := by cases y <;> exact ⟨_, _, rfl⟩
    exact ⟨T, u, by rw [q.1, hu], y, K', hu, q.2⟩
  have HL : Hid (k.limit = K.lim) := h.lim
  have HB0 : Hid (Below w.heap.size w W0 ∧ W0.heap[w.heap.size]? = some (.cells (scl (Tx.at x) k) 50 (0, 0))) := ⟨hb0, hr0⟩
  obtain ⟨V, hV⟩ : ∃ V, (Tx.or x).val = V := ⟨_, rfl⟩
  rw [hV] at C1 C2
  have HW : Hid (w.alloc (.cells (scl (Tx.at x) k) 50) = W0) := hW0
  have hlt0 : w.heap.size < W0.heap.size := (Array.getElem?_eq_some_iff.1 hr0).1
  unfold scl at hW0
  clear h hb0 hr0 hV
  have hu : Tx.at x = .nilIface ∨ ∃ T q, Tx.at x = .iface T q := by
    cases x with
    | none => exact .inl rfl
    | some y => cases y <;> exact .inr ⟨_, _, rfl⟩
  have HE2 : Hid (∀ w2 T q, w2.heap[w.heap.size]? = some (.cells (scl (Tx.at x) k) 50 (0, 0)) → Hid (∃ (y : Tx) (K' : Kp), y.val = .iface T q ∧ Hold w2 y K' ∧ y.bk = (Tx.or x).bk ∧ K'.text = K.text ∧ K'.lim = K.lim ∧ Below W0.heap.size W0 w2 ∧ ∀ j, K'.blk j → W0.heap.size ≤ j) → ∃ y K', Pst (w2.setCell ⟨w.heap.size, 0, none⟩ (.iface T q)) w.heap.size (some y) k K' ∧ y.bk = (Tx.or x).bk ∧ K'.text = K.text ∧ Below w.heap.size w (w2.setCell ⟨w.heap.size, 0, none⟩ (.iface T q)) ∧ ∀ j, K'.blk j → w.heap.size ≤ j) := fun w2 T q HR ⟨y, K', q0, q1, q2, q3, q4, q5, q6⟩ => by
    have hg := gcell w2 w.heap.size 0 (.iface T q)
    have hbx := set1 (i := 0) (.iface T q) HR
    rw [scl_set, ← q0] at hbx
    have hB2 : Below w.heap.size w w2 := Below.on HB0.out.1 q5
    exact ⟨y, K', ⟨by rw [← q0]; exact hbx, q1.turn HR hg, by rw [HL.out, q4]⟩, q2, q3, hB2.setCell (p := ⟨w.heap.size, 0, none⟩) (Nat.le_refl _) _, fun j hj => Nat.le_trans HB0.out.1.size (q6 j hj)⟩
  have HQ : Hid (∀ w2, Below W0.heap.size W0 w2 → w2.heap[w.heap.size]? = some (.cells (scl (Tx.at x) k) 50 (0, 0))) := fun w2 h2 => (h2.block _ hlt0).trans HB0.out.2
  clear HB0 HW HL
  rcases hu with hu | ⟨T0, q0, hu⟩
  · rw [hu] at c0 hW0
    go_enter Tryz.func26, Tryz.ntmps26
    go_wp2_with (first | (go_at_call 104; refine C1.out.mono ?_; clear C1; rintro e w1 ⟨rfl, rfl⟩) | (go_at_call 103; refine C2.out.mono ?_; clear C2; rintro e w2 ⟨T, q, rfl, HB⟩; have HR : Hid (w2.heap[w.heap.size]? = some (.cells (scl (Tx.at x) k) 50 (0, 0))) := HQ.out _ (by obtain ⟨_, _, _, _, _, _, _, h5, _⟩ := HB.out; exact h5); have f0 := sfroz (i := 0) HR.out; obtain ⟨z0, _⟩ := scells HR.out; have hl2 : w.heap.size < w2.heap.size := (Array.getElem?_eq_some_iff.1 HR.out).1))
    go_ret
    exact ⟨rfl, HE2.out _ _ _ HR.out HB⟩
  · rw [hu] at c0 hW0
    go_enter Tryz.func26, Tryz.ntmps26
    go_wp2_with (first | (go_at_call 104; refine C1.out.mono ?_; clear C1; rintro e w1 ⟨rfl, rfl⟩) | (go_at_call 103; refine C2.out.mono ?_; clear C2; rintro e w2 ⟨T, q, rfl, HB⟩; have HR : Hid (w2.heap[w.heap.size]? = some (.cells (scl (Tx.at x) k) 50 (0, 0))) := HQ.out _ (by obtain ⟨_, _, _, _, _, _, _, h5, _⟩ := HB.out; exact h5); have f0 := sfroz (i := 0) HR.out; obtain ⟨z0, _⟩ := scells HR.out; have hl2 : w.heap.size < w2.heap.size := (Array.getElem?_eq_some_iff.1 HR.out).1))
    go_ret
    exact ⟨rfl, HE2.out _ _ _ HR.out HB⟩
/-- the cells of the document's store, in one -/
def R8 (W : World) (b p : Nat) (k : Rk) : Prop := W.cell? ⟨b, 0, none⟩ = some (.pointer (some ⟨p, 0, none⟩)) ∧ W.cell? ⟨b, 1, none⟩ = some (.int .i64 k.kind) ∧ W.cell? ⟨b, 2, none⟩ = some (.int .i64 k.now) ∧ W.cell? ⟨b, 3, none⟩ = some (.int .i64 k.lo) ∧ W.cell? ⟨b, 4, none⟩ = some (.int .i64 k.hi) ∧ W.cell? ⟨b, 5, none⟩ = some (.int .i64 k.mv) ∧ W.cell? ⟨b, 6, none⟩ = some (.int .i64 k.fo) ∧ W.cell? ⟨b, 7, none⟩ = some (.int .i64 k.ed)
end Go.Proofs.YtffipfmnpffdaaaGreatDoor.Sto
