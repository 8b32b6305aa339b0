/-
  Two pairs of stores, apart; Clone. Conditions: those of each theorem.
-/
import Derived.Test.YtkmihnjmchfopaaGreatDoorGPkD
import Derived.Test.YtkmihnjmchfopaaGreatDoorGPkE
import Derived.Lib.SlBuf
import Derived.Deep.RegionHeld3
import Derived.Test.YtkmihnjmchfopaaGreatDoorPkTD
import Derived.Test.YtkmihnjmchfopaaGreatDoorPkTG
namespace Go.Proofs.YtkmihnjmchfopaaGreatDoor.Gap
open Go.RowKit Bod

theorem cut_all (r : Option Nat) (N : Nat) : cutV (ad r) 0 N N = .slice (ad r) N N := by
  unfold cutV sliced
  cases r with
  | none => simp [ad]
  | some k => simp [ad, adr]

set_option maxRecDepth 100000 in
set_option maxHeartbeats 1000000 in
theorem clone_none (w : World) : Calls Tryz.prog 126 #[.pointer none] w fun x w' => x = .returned (.pointer none) ∧ w' = w := by
  go_enter Tryz.func126, Tryz.ntmps126
  go_wp2
  go_ret
  exact ⟨rfl, rfl⟩

set_option maxRecDepth 100000 in
set_option maxHeartbeats 4000000 in
theorem clone_pb {w : World} {b : Nat} {r : Option Nat} {g : Gp} {n : Nat} (h : PB w b r g n) :
    Calls Tryz.prog 126 #[.pointer (some ⟨b, 0, none⟩)] w fun x w' => x = .returned (.pointer (some ⟨w.heap.size + 1, 0, none⟩)) ∧ PB w' (w.heap.size + 1) (some w.heap.size) g n ∧ Below w.heap.size w w' := by
  obtain ⟨A, e, hP, hg, hA⟩ := h.ex
  have hsm := h.small
  have hb := h.lt
  obtain ⟨⟨c0, c1, c2, c3⟩, -⟩ := box4 hP.box
  rw [hA] at c0
  obtain ⟨j, hj⟩ : ∃ j, w.heap.size = j := ⟨_, rfl⟩
  obtain ⟨W0, hW0⟩ : ∃ W0, w.alloc (.cells (Lib.byteCells (List.replicate n 0)).toArray 5) = W0 := ⟨_, rfl⟩
  have hB0 : Below w.heap.size w W0 := by rw [← hW0]; exact (Below.refl _ w).alloc (Nat.le_refl _) _
  have hr0 : W0.heap[j]? = some (.cells (Lib.byteCells (List.replicate n 0)).toArray 5 (0, 0)) := by rw [← hW0, ← hj]; exact World.alloc_heap_new w _
  have hz0 : W0.heap.size = j + 1 := by rw [← hW0, ← hj]; simp
  have hmk : (Instr.makeSlice 131 (.int .i64 (n : Int)) (.int .i64 (n : Int))).run Tryz.prog w = .ok (.slice (some ⟨j, 0, none⟩) n n) W0 := by
    rw [run_make_row' 131 5 (.int .u8 0) 1 Tryz.underlying131 infoZ rfl .i64 .i64 n (by omega) (by omega) w, made_bc, hj, hW0]
  have hP0 := hP.below hB0
  obtain ⟨⟨v0, -⟩, -⟩ := box4 hP0.box
  rw [hA] at v0
  have hfull : splice (List.replicate n (0 : UInt8)) 0 ((A.drop 0).take n) = A := by
    rw [List.drop_zero, List.take_of_length_le (by omega)]
    unfold splice
    rw [List.take_zero, List.nil_append, List.drop_of_length_le (by simp; omega), List.append_nil]
  obtain ⟨W1, hW1⟩ : ∃ W1, W0.setRow j (Lib.byteCells A).toArray = W1 := ⟨_, rfl⟩
  have hcp : (Builtin.copy_ #[131, 131] 3 #[.slice (some ⟨j, 0, none⟩) n n, .slice (ad r) n n]).run Tryz.prog W0 = .ok (goInt n) W1 := by
    have := copy_to (j := j) (Z := List.replicate n 0) (A := A) (a := some ⟨j, 0, none⟩) (dl := n) (dc := n) (off := 0) (so := 0) (n := n) (r := r) hP.nil (fun _ => rfl) (Nat.le_refl _) (by simp) (by omega) 3 W0 hr0 (fun k hk => (hP0.row k hk).2)
    rw [hfull, hA, Nat.zero_add, cut_all, hW1] at this
    exact this
  have hbj : b ≠ j := by omega
  have hP1 : W1.heap[b]? = some (.cells #[.slice (ad r) A.length A.length, .int .i64 g.p, .int .i64 e, .int .i64 g.l] 133 (0, 0)) := by rw [← hW1]; exact (setRow_other _ _ _ _ hbj).trans hP0.box
  have hr1 : W1.heap[j]? = some (.cells (Lib.byteCells A).toArray 5 (0, 0)) := by rw [← hW1]; exact setRow_heap _ _ _ _ _ _ hr0
  have hz1 : W1.heap.size = j + 1 := by rw [← hW1, ← hz0]; simp [World.setRow]
  have hB1 : Below w.heap.size w W1 := by rw [← hW1]; exact hB0.trans ⟨rfl, rfl, rfl, by simp [World.setRow], fun k hk => setRow_other _ _ _ _ (by omega)⟩
  obtain ⟨⟨d0, d1, d2, d3⟩, -⟩ := box4 hP1
  have HC : Hid (W1.cell? ⟨b, 1, none⟩ = some (.int .i64 g.p) ∧ W1.cell? ⟨b, 2, none⟩ = some (.int .i64 e) ∧ W1.cell? ⟨b, 3, none⟩ = some (.int .i64 g.l)) := ⟨d1, d2, d3⟩
  have HF : Hid (PB (W1.alloc (.cells #[.slice (some ⟨j, 0, none⟩) n n, .int .i64 g.p, .int .i64 e, .int .i64 g.l] 133)).drew (j + 1) (some j) g n ∧ Below w.heap.size w (W1.alloc (.cells #[.slice (some ⟨j, 0, none⟩) n n, .int .i64 g.p, .int .i64 e, .int .i64 g.l] 133)).drew) := by
    have q1 := World.alloc_heap_new W1 (.cells #[.slice (some ⟨j, 0, none⟩) n n, .int .i64 g.p, .int .i64 e, .int .i64 g.l] 133)
    rw [hz1] at q1
    have q2 : PB (W1.alloc (.cells #[.slice (some ⟨j, 0, none⟩) n n, .int .i64 g.p, .int .i64 e, .int .i64 g.l] 133)) (j + 1) (some j) g n := by
      refine ⟨⟨A, e, ⟨by rw [hA]; exact q1, fun i hi => ?_, fun h0 => by cases h0⟩, hg, hA⟩, h.cap, h.lm, h.ok⟩
      cases hi
      exact ⟨by omega, (Below.heap_alloc _ _ _ (by rw [hz1]; omega)).trans hr1⟩
    refine ⟨q2.below ⟨rfl, rfl, rfl, Nat.le_refl _, fun _ _ => rfl⟩, ?_⟩
    have q3 := hB1.alloc hB1.size (.cells #[.slice (some ⟨j, 0, none⟩) n n, .int .i64 g.p, .int .i64 e, .int .i64 g.l] 133)
    exact ⟨q3.os, q3.tape, q3.output, q3.size, q3.block⟩
  have HZ : Hid (W1.heap.size = j + 1) := hz1
  have HCa : Hid ((W1.alloc (.cells #[.slice (some ⟨j, 0, none⟩) n n, .int .i64 g.p, .int .i64 e, .int .i64 g.l] 133)).drew.cell? ⟨b, 1, none⟩ = some (.int .i64 g.p) ∧ (W1.alloc (.cells #[.slice (some ⟨j, 0, none⟩) n n, .int .i64 g.p, .int .i64 e, .int .i64 g.l] 133)).drew.cell? ⟨b, 2, none⟩ = some (.int .i64 e) ∧ (W1.alloc (.cells #[.slice (some ⟨j, 0, none⟩) n n, .int .i64 g.p, .int .i64 e, .int .i64 g.l] 133)).drew.cell? ⟨b, 3, none⟩ = some (.int .i64 g.l)) := (box4 ((Below.heap_alloc W1 _ b (by rw [hz1]; omega)).trans hP1)).1.2
  rw [hj] at hB0 hB1 HF ⊢
  clear h hP hg hP0 hP1 hr0 hr1 hB0 hB1 hfull hW0 hW1 hj hz0 hz1 d0 d1 d2 d3 hA hbj
  go_enter Tryz.func126, Tryz.ntmps126
  go_wp2_with (at_builtin; refine Lib.wpList_copy_run _ rfl (.tmp 12) (.tmp 16) 131 131 rfl _ _ rfl rfl hcp ?_)
  go_region_held3 (fun w' => w'.cell? ⟨b, 1, none⟩ = some (.int .i64 g.p) ∧ w'.cell? ⟨b, 2, none⟩ = some (.int .i64 e) ∧ w'.cell? ⟨b, 3, none⟩ = some (.int .i64 g.l)) (first | exact HC.out | exact HCa.out) (fail)
  go_wp2
  go_ret
  exact ⟨by rw [HZ.out]; rfl, HF.out⟩

set_option maxRecDepth 100000 in
set_option maxHeartbeats 1000000 in
theorem rclone_any {b : Nat} {g : Gp} (w : World) (h : RB w b g) :
    Calls Tryz.prog 74 #[.pointer (some ⟨b, 0, none⟩)] w fun x w' => x = .returned (.pointer (some ⟨w.heap.size, 0, none⟩)) ∧ RB w' w.heap.size g ∧ Below w.heap.size w w' := by
  obtain ⟨⟨c0, c1, c2⟩, f0, f1, hb⟩ := h.cells
  have HC : Hid (w.cell? ⟨b, 0, none⟩ = some (.string g.s) ∧ w.cell? ⟨b, 1, none⟩ = some (.int .i64 g.p) ∧ w.cell? ⟨b, 2, none⟩ = some (.int .i64 g.l)) := ⟨c0, c1, c2⟩
  have HF : Hid (RB (w.alloc (.cells #[.string g.s, .int .i64 g.p, .int .i64 g.l] 167)).drew w.heap.size g ∧ Below w.heap.size w (w.alloc (.cells #[.string g.s, .int .i64 g.p, .int .i64 g.l] 167)).drew) := by
    have q3 := (Below.refl w.heap.size w).alloc (Nat.le_refl _) (.cells #[.string g.s, .int .i64 g.p, .int .i64 g.l] 167)
    exact ⟨rb_new w g, ⟨q3.os, q3.tape, q3.output, q3.size, q3.block⟩⟩
  have HCa : Hid ((w.alloc (.cells #[.string g.s, .int .i64 g.p, .int .i64 g.l] 167)).drew.cell? ⟨b, 0, none⟩ = some (.string g.s) ∧ (w.alloc (.cells #[.string g.s, .int .i64 g.p, .int .i64 g.l] 167)).drew.cell? ⟨b, 1, none⟩ = some (.int .i64 g.p) ∧ (w.alloc (.cells #[.string g.s, .int .i64 g.p, .int .i64 g.l] 167)).drew.cell? ⟨b, 2, none⟩ = some (.int .i64 g.l)) := by
    have hr : RB (w.alloc (.cells #[.string g.s, .int .i64 g.p, .int .i64 g.l] 167)).drew b g := (Below.heap_alloc w _ b hb).trans h
    exact hr.cells.1
  clear h f0 f1 c0 c1 c2
  go_enter Tryz.func74, Tryz.ntmps74
  go_wp2
  go_region_held3 (fun w' => w'.cell? ⟨b, 0, none⟩ = some (.string g.s) ∧ w'.cell? ⟨b, 1, none⟩ = some (.int .i64 g.p) ∧ w'.cell? ⟨b, 2, none⟩ = some (.int .i64 g.l)) (first | exact HC.out | exact HCa.out) (fail)
  go_wp2
  go_ret
  exact ⟨rfl, HF.out⟩
end Go.Proofs.YtkmihnjmchfopaaGreatDoor.Gap
namespace Go.Proofs.YtkmihnjmchfopaaGreatDoor.Sto
open Go.RowKit Go.Shelf Bod Wid

/-- a store, its text, its backend, its numbers; nothing but B and what is new was turned since w -/
structure Sx (B : Nat → Prop) (w : World) (b : Nat) (s : ByteArray) (bk : Int) (k : Sk) (x : Option Tx) (K : Kp) (W : World) : Prop where
  st : Pst W b x k K
  bk : (Tx.or x).bk = bk
  text : K.text = s
  tn : Tn B w W
  lo : ∀ j, K.blk j → B j ∨ w.heap.size ≤ j
  b0 : B b ∨ w.heap.size ≤ b
def Sp (B : Nat → Prop) (w : World) (b : Nat) (s : ByteArray) (bk : Int) (k : Sk) (W : World) : Prop := ∃ x K, Sx B w b s bk k x K W
/-- the two tables are none of B -/
structure Eb (B : Nat → Prop) (w : World) : Prop where
  ev : Ev w
  n0 : ¬ B 1
  n1 : ¬ B 2
section
variable {B : Nat → Prop} {w W W' : World} {b : Nat} {s : ByteArray} {bk : Int} {k : Sk}
theorem Eb.at (h : Eb B w) (ht : Tn B w W) : Ev W := ev_turn h.ev ht h.n0 h.n1
theorem Tn.low (h : Tn B w W) (hb : Below W.heap.size W W') : Tn B w W' := h.trans (.of_below hb)
theorem Sx.below {x : Option Tx} {K : Kp} (h : Sx B w b s bk k x K W) (hb : Below W.heap.size W W') : Sx B w b s bk k x K W' := ⟨h.st.below hb, h.bk, h.text, h.tn.low hb, h.lo, h.b0⟩
theorem Sp.below (h : Sp B w b s bk k W) (hb : Below W.heap.size W W') : Sp B w b s bk k W' := by obtain ⟨x, K, h⟩ := h; exact ⟨x, K, h.below hb⟩
theorem Sp.tn (h : Sp B w b s bk k W) : Tn B w W := by obtain ⟨x, K, h⟩ := h; exact h.tn
theorem Sp.bk12 (h : Sp B w b s bk k W) : bk = 1 ∨ bk = 2 := by
  obtain ⟨x, K, h⟩ := h
  rw [← h.bk]; cases Tx.or x <;> simp [Tx.bk]
theorem Sp.lim (h : Sp B w b s bk k W) : ∃ l : Nat, k.limit = l ∧ k.limit.toNat = l ∧ s.size ≤ l ∧ l ≤ 1073741824 := by
  obtain ⟨x, K, h⟩ := h
  have := h.st.lim
  obtain ⟨h1, h2⟩ := h.st.hold.size
  rw [h.text] at h1
  exact ⟨K.lim, this, by omega, h1, h2⟩
theorem sp_back (h : Sp B w b s bk k W) : Calls Tryz.prog 56 #[.pointer (some ⟨b, 0, none⟩)] W fun e W' => e = .returned (.int .i64 bk) ∧ W' = W := by
  obtain ⟨x, K, h⟩ := h
  have := Backend_any h.st.spt
  rw [h.bk] at this
  exact this
theorem sp_len (h : Sp B w b s bk k W) : Calls Tryz.prog 67 #[.pointer (some ⟨b, 0, none⟩)] W fun e W' => e = .returned (.int .i64 s.size) ∧ Below W.heap.size W W' := by
  obtain ⟨x, K, h⟩ := h
  exact (slen_any h.st.spt h.st.hold).mono fun e W' ⟨q1, q2⟩ => ⟨by rw [q1, h.text], q2⟩
theorem sp_rep (h : Sp B w b s bk k W) (hE : Eb B w) (hk : k.fit) (hn : k.few) (a c : Int) (put : ByteArray) (ha : -9223372036854775808 ≤ a ∧ a ≤ 9223372036854775807) (hc : c ≤ 9223372036854775807) (hp : put.size ≤ 9223372036854775807) (T : ByteArray × ByteArray × Int) (hT : txR s k.limit.toNat a c put = T) (N : Int × Sk) (hN : smA bk k T.2.2 (c + put.size) T.1.size = N) :
    Calls Tryz.prog 78 #[.pointer (some ⟨b, 0, none⟩), .int .i64 a, .int .i64 c, .string put] W fun e W' => ∃ o r, e = .returned (.tuple #[.string o, .int .i64 r]) ∧ (o = T.2.1 ∧ r = T.2.2) ∧ Sp B w b T.1 N.1 N.2 W' ∧ Fty W W' := by
  obtain ⟨x, K, h⟩ := h
  have hl : K.lim = k.limit.toNat := by have := h.st.lim; omega
  have hB : ∀ j, j = b ∨ K.blk j → B j ∨ w.heap.size ≤ j := fun j e => e.elim (fun e => by rw [e]; exact h.b0) (h.lo j)
  have hB2 : ∀ j, j = b ∨ K.blk j → j ≠ 1 ∧ j ≠ 2 := fun j e => by
    have l0 := hE.ev.l0
    have l1 := hE.ev.l1
    rcases hB j e with q | q
    · exact ⟨fun e => hE.n0 (by rw [← e]; exact q), fun e => hE.n1 (by rw [← e]; exact q)⟩
    · omega
  have nw : ∀ {K' : Kp}, (∀ j, K'.blk j → K.blk j ∨ W.heap.size ≤ j) → ∀ j, K'.blk j → B j ∨ w.heap.size ≤ j := fun hq j hj => (hq j hj).elim (h.lo j) (fun e => .inr (Nat.le_trans h.tn.size e))
  rw [← hT] at hN ⊢
  by_cases e0 : (txR s k.limit.toNat a c put).2.2 = 0
  · have hq : (txR K.text K.lim a c put).2.2 = 0 := by rw [h.text, hl]; exact e0
    refine (srep_ok h.st (hE.at h.tn) hB2 hk ⟨hn.1, hn.2.1, hn.2.2.1, hn.2.2.2.1⟩ a c put ha hc hp hq).mono ?_
    rintro e W' ⟨rfl, hr⟩
    rw [h.text, hl] at hr ⊢
    refine ⟨_, _, rfl, ⟨rfl, e0.symm⟩, ?_⟩
    have hN2 : smN bk k (c + put.size) (txR s k.limit.toNat a c put).1.size = N := by rw [← hN]; unfold smA; rw [if_pos e0]
    have hm : misK x (k.edit (c + put.size)) (txR s k.limit.toNat a c put).1.size = misM bk (k.edit (c + put.size)) (txR s k.limit.toNat a c put).1.size := by unfold misK misM; rw [h.bk]
    rw [hm] at hr
    unfold smN at hN2
    cases hc : misM bk (k.edit (c + put.size)) (txR s k.limit.toNat a c put).1.size with
    | true =>
      rw [hc, if_pos rfl] at hr hN2
      obtain ⟨y, K', e1, A⟩ := hr
      rw [← hN2]
      exact ⟨⟨some y, K', A.st, by rw [← h.bk]; exact e1, A.text, h.tn.trans (A.tn.mono hB), nw A.new, h.b0⟩, fty_of h.st A.tn⟩
    | false =>
      rw [hc, if_neg (by simp)] at hr hN2
      obtain ⟨K', A⟩ := hr
      rw [← hN2]
      exact ⟨⟨x, K', A.st, h.bk, A.text, h.tn.trans (A.tn.mono hB), nw A.new, h.b0⟩, fty_of h.st A.tn⟩
  · have hq : (txR K.text K.lim a c put).2.2 ≠ 0 := by rw [h.text, hl]; exact e0
    refine (srep_no h.st (hE.at h.tn) a c put ha hc hp hq).mono ?_
    rintro e W' ⟨rfl, K', q1, q2, q3, q4, q5⟩
    rw [h.text, hl] at q2 ⊢
    have hN2 : (bk, k) = N := by rw [← hN]; unfold smA; rw [if_neg e0]
    rw [← hN2]
    have A : Tn (fun j => j = b ∨ K.blk j) W W' := q4.mono (fun j e => .inr e)
    exact ⟨_, _, rfl, ⟨rfl, rfl⟩, ⟨x, K', q1, h.bk, q2, h.tn.trans (A.mono hB), nw q5, h.b0⟩, fty_of h.st A⟩
theorem sp_sw (h : Sp B w b s bk k W) (hE : Eb B w) (hn : k.few) (to : Int) (N : Int × Int × Sk) (hN : smS bk k to = N) :
    Calls Tryz.prog 27 #[.pointer (some ⟨b, 0, none⟩), .int .i64 to] W fun e W' => e = .returned (.int .i64 N.1) ∧ Sp B w b s N.2.1 N.2.2 W' ∧ Fty W W' := by
  obtain ⟨x, K, h⟩ := h
  have hB : ∀ j, j = b ∨ K.blk j → B j ∨ w.heap.size ≤ j := fun j e => e.elim (fun e => by rw [e]; exact h.b0) (h.lo j)
  rw [← hN]
  unfold smS
  by_cases c1 : to = 1 ∨ to = 2
  · rw [if_pos c1]
    by_cases c2 : to = bk
    · rw [if_pos c2]
      have := sw_same h.st
      rw [h.bk, ← c2] at this
      refine this.mono ?_
      rintro e W' ⟨rfl, rfl⟩
      exact ⟨rfl, ⟨x, K, h⟩, Fty.below (Below.refl _ _)⟩
    · rw [if_neg c2]
      have hb : bk = 1 ∨ bk = 2 := by rw [← h.bk]; cases Tx.or x <;> simp [Tx.bk]
      have ht : to = 3 - bk := by omega
      have := sw_other h.st (hE.at h.tn) ⟨hn.2.2.2.2.1, hn.2.2.2.2.2⟩
      rw [h.bk, ← ht] at this
      refine this.mono ?_
      rintro e W' ⟨rfl, y, K', q1, q2, q3, q4, q5, q6⟩
      have A : Tn (fun j => j = b ∨ K.blk j) W W' := .of_grown q5 (.inl rfl)
      exact ⟨rfl, ⟨some y, K', q1, by rw [ht, ← h.bk]; exact q2, q3.trans h.text, h.tn.trans (A.mono hB), fun j hj => .inr (Nat.le_trans h.tn.size (new_blk q6 hj)), h.b0⟩, fty_of h.st A⟩
  · rw [if_neg c1]
    refine (sw_bad W b to (fun e => c1 (.inl e)) (fun e => c1 (.inr e))).mono ?_
    rintro e W' ⟨rfl, rfl⟩
    exact ⟨rfl, ⟨x, K, h⟩, Fty.below (Below.refl _ _)⟩
end
end Go.Proofs.YtkmihnjmchfopaaGreatDoor.Sto
namespace Go.Proofs.YtkmihnjmchfopaaGreatDoor.Sto
open Go.RowKit Go.Shelf Bod Wid
open Gap (Gp RB)

/-- a text like x's, all new -/
def Cop (w : World) (x : Tx) (K : Kp) (e : Ending) (W' : World) : Prop := ∃ y K', e = .returned y.val ∧ Hold W' y K' ∧ y.bk = x.bk ∧ K'.text = K.text ∧ K'.lim = K.lim ∧ Below w.heap.size w W' ∧ ∀ j, K'.blk j → w.heap.size ≤ j
set_option maxRecDepth 100000 in
set_option maxHeartbeats 1000000 in
theorem copied_gap {w : World} {v : Value} {o : Option (Nat × Option Nat)} {g : Gp} {n : Nat} (h : Gap.Is w v o g n) : Calls Tryz.prog 72 #[.iface 76 v] w (Cop w (.gap v) (.gap o g n)) := by
  have C1 : Hid (Calls Tryz.prog 126 #[v] w fun e W' => ∃ u, e = .returned u ∧ Hid (∃ o', Gap.Is W' u o' g n ∧ Below w.heap.size w W' ∧ ∀ j, (Kp.gap o' g n).blk j → w.heap.size ≤ j)) := by
    cases o with
    | none =>
      obtain ⟨rfl, h2, h3⟩ := h
      refine (Gap.clone_none w).mono ?_
      rintro e W' ⟨rfl, rfl⟩
      exact ⟨_, rfl, none, ⟨rfl, h2, h3⟩, Below.refl _ _, fun j hj => by obtain ⟨b, r, e, _⟩ := hj; cases e⟩
    | some x =>
      obtain ⟨b, r⟩ := x
      obtain ⟨rfl, h2⟩ := h
      refine (Gap.clone_pb h2).mono ?_
      rintro e W' ⟨rfl, q1, q2⟩
      refine ⟨_, rfl, some (w.heap.size + 1, some w.heap.size), ⟨rfl, q1⟩, q2, fun j hj => ?_⟩
      obtain ⟨b', r', e, hj⟩ := hj
      cases e
      rcases hj with rfl | hj
      · omega
      · cases hj; omega
  have ha := fun W => as_gap1 W v
  clear h
  go_enter Tryz.func72, Tryz.ntmps72
  go_wp2_with (go_at_call 126; refine C1.out.mono ?_; clear C1; rintro e w1 ⟨u, rfl, HB⟩)
  go_ret
  obtain ⟨o', q1, q2, q3⟩ := HB.out
  exact ⟨.gap u, .gap o' g n, rfl, q1, rfl, rfl, rfl, q2, q3⟩
set_option maxRecDepth 100000 in
set_option maxHeartbeats 1000000 in
theorem copied_rope {w : World} {b : Nat} {v : Value} {t : Tr} {l : Nat} (h : Rq w b v t l) (hg : Good t) (hl : t.text.size ≤ l) (hl2 : l ≤ 1073741824) : Calls Tryz.prog 72 #[.iface 169 (.pointer (some ⟨b, 0, none⟩))] w (Cop w (.rope (.pointer (some ⟨b, 0, none⟩))) (.rope b v t l)) := by
  obtain ⟨c0, c1, _, hlt⟩ := qcells h.box
  have HF : Hid (∀ i, Cop w (.rope (.pointer (some ⟨b, 0, none⟩))) (.rope b v t l) (.returned (.iface 169 (.pointer (some ⟨w.heap.size, 0, none⟩)))) ((w.alloc (.cells #[v, .int .i64 (l : Int)] 171)).drewN i)) := fun i => by
    have hb0 := (Below.refl _ w).alloc (Nat.le_refl _) (.cells #[v, .int .i64 (l : Int)] 171)
    have hb : Below w.heap.size w ((w.alloc (.cells #[v, .int .i64 (l : Int)] 171)).drewN i) := ⟨hb0.os, hb0.tape, hb0.output, hb0.size, hb0.block⟩
    exact ⟨.rope (.pointer (some ⟨w.heap.size, 0, none⟩)), .rope w.heap.size v t l, rfl, ⟨rfl, ⟨World.alloc_heap_new w _, h.rp.below hb⟩, hg, hl, hl2⟩, rfl, rfl, rfl, hb, fun j hj => by have e : j = w.heap.size := hj; omega⟩
  have ha := fun W => as_rope1 W (.pointer (some ⟨b, 0, none⟩))
  have ha2 := fun W => as_rope W (.pointer (some ⟨b, 0, none⟩))
  obtain ⟨q, rfl⟩ : ∃ q, v = .pointer q := by
    rcases h.rp with ⟨e, _⟩ | ⟨b', _, e, _⟩
    · exact ⟨_, e⟩
    · exact ⟨_, e⟩
  clear h hg hl hl2
  go_enter Tryz.func72, Tryz.ntmps72
  go_wp2
  go_region
  go_wp2
  go_ret
  exact HF.out 1
theorem copied_any {w : World} {x : Tx} {K : Kp} (h : Hold w x K) : Calls Tryz.prog 72 #[x.val] w (Cop w x K) := by
  cases x <;> cases K <;> first | exact h.elim | skip
  · exact copied_gap h
  · obtain ⟨rfl, h1, h2, h3, h4⟩ := h
    exact copied_rope h1 h2 h3 h4
set_option maxRecDepth 100000 in
set_option maxHeartbeats 1000000 in
theorem sclone_any {w : World} {b : Nat} {x : Option Tx} {k : Sk} {K : Kp} (h : Pst w b x k K) : Calls Tryz.prog 24 #[.pointer (some ⟨b, 0, none⟩)] w fun e W' => e = .returned (.pointer (some ⟨w.heap.size, 0, none⟩)) ∧ ∃ y K', Pst W' w.heap.size (some y) k K' ∧ y.bk = (Tx.or x).bk ∧ K'.text = K.text ∧ Below w.heap.size w W' ∧ ∀ j, K'.blk j → w.heap.size ≤ j := by
  obtain ⟨c0, c1, c2, c3, c4, c5, c6, c7, hlt⟩ := scells h.box
  obtain ⟨W0, hW0⟩ : ∃ W0, w.alloc (.cells (scl (Tx.at x) k) 117) = W0 := ⟨_, rfl⟩
  have hb0 : Below w.heap.size w W0 := by rw [← hW0]; exact (Below.refl _ w).alloc (Nat.le_refl _) _
  have hr0 : W0.heap[w.heap.size]? = some (.cells (scl (Tx.at x) k) 117 (0, 0)) := by rw [← hW0]; exact World.alloc_heap_new w _
  have C1 : Hid (Calls Tryz.prog 73 #[.pointer (some ⟨b, 0, none⟩)] W0 fun e W' => e = .returned (Tx.or x).val ∧ W' = W0) := body_any (h.below hb0).spt
  have C2 : Hid (Calls Tryz.prog 72 #[(Tx.or x).val] W0 fun e W' => ∃ T q, e = .returned (.iface T q) ∧ Hid (∃ (y : Tx) (K' : Kp), y.val = .iface T q ∧ Hold W' y K' ∧ y.bk = (Tx.or x).bk ∧ K'.text = K.text ∧ K'.lim = K.lim ∧ Below W0.heap.size W0 W' ∧ ∀ j, K'.blk j → W0.heap.size ≤ j)) := by
    refine (copied_any (h.below hb0).hold).mono ?_
    rintro e W' ⟨y, K', q⟩
    obtain ⟨T, u, hu⟩ : ∃ T u, y.val = .iface T u := by cases y <;> exact ⟨_, _, rfl⟩
    exact ⟨T, u, by rw [q.1, hu], y, K', hu, q.2⟩
  have HL : Hid (k.limit = K.lim) := h.lim
  have HB0 : Hid (Below w.heap.size w W0 ∧ W0.heap[w.heap.size]? = some (.cells (scl (Tx.at x) k) 117 (0, 0))) := ⟨hb0, hr0⟩
  obtain ⟨V, hV⟩ : ∃ V, (Tx.or x).val = V := ⟨_, rfl⟩
  rw [hV] at C1 C2
  have HW : Hid (w.alloc (.cells (scl (Tx.at x) k) 117) = W0) := hW0
  have hlt0 : w.heap.size < W0.heap.size := (Array.getElem?_eq_some_iff.1 hr0).1
  unfold scl at hW0
  clear h hb0 hr0 hV
  have hu : Tx.at x = .nilIface ∨ ∃ T q, Tx.at x = .iface T q := by
    cases x with
    | none => exact .inl rfl
    | some y => cases y <;> exact .inr ⟨_, _, rfl⟩
  have HE2 : Hid (∀ w2 T q, w2.heap[w.heap.size]? = some (.cells (scl (Tx.at x) k) 117 (0, 0)) → Hid (∃ (y : Tx) (K' : Kp), y.val = .iface T q ∧ Hold w2 y K' ∧ y.bk = (Tx.or x).bk ∧ K'.text = K.text ∧ K'.lim = K.lim ∧ Below W0.heap.size W0 w2 ∧ ∀ j, K'.blk j → W0.heap.size ≤ j) → ∃ y K', Pst (w2.setCell ⟨w.heap.size, 0, none⟩ (.iface T q)) w.heap.size (some y) k K' ∧ y.bk = (Tx.or x).bk ∧ K'.text = K.text ∧ Below w.heap.size w (w2.setCell ⟨w.heap.size, 0, none⟩ (.iface T q)) ∧ ∀ j, K'.blk j → w.heap.size ≤ j) := fun w2 T q HR ⟨y, K', q0, q1, q2, q3, q4, q5, q6⟩ => by
    have hg := gcell w2 w.heap.size 0 (.iface T q)
    have hbx := set1 (i := 0) (.iface T q) HR
    rw [scl_set, ← q0] at hbx
    have hB2 : Below w.heap.size w w2 := Below.on HB0.out.1 q5
    exact ⟨y, K', ⟨by rw [← q0]; exact hbx, q1.turn HR hg, by rw [HL.out, q4]⟩, q2, q3, hB2.setCell (p := ⟨w.heap.size, 0, none⟩) (Nat.le_refl _) _, fun j hj => Nat.le_trans HB0.out.1.size (q6 j hj)⟩
  have HQ : Hid (∀ w2, Below W0.heap.size W0 w2 → w2.heap[w.heap.size]? = some (.cells (scl (Tx.at x) k) 117 (0, 0))) := fun w2 h2 => (h2.block _ hlt0).trans HB0.out.2
  clear HB0 HW HL
  rcases hu with hu | ⟨T0, q0, hu⟩
  · rw [hu] at c0 hW0
    go_enter Tryz.func24, Tryz.ntmps24
    go_wp2_with (first | (go_at_call 73; refine C1.out.mono ?_; clear C1; rintro e w1 ⟨rfl, rfl⟩) | (go_at_call 72; refine C2.out.mono ?_; clear C2; rintro e w2 ⟨T, q, rfl, HB⟩; have HR : Hid (w2.heap[w.heap.size]? = some (.cells (scl (Tx.at x) k) 117 (0, 0))) := HQ.out _ (by obtain ⟨_, _, _, _, _, _, _, h5, _⟩ := HB.out; exact h5); have f0 := sfroz (i := 0) HR.out; obtain ⟨z0, _⟩ := scells HR.out; have hl2 : w.heap.size < w2.heap.size := (Array.getElem?_eq_some_iff.1 HR.out).1))
    go_ret
    exact ⟨rfl, HE2.out _ _ _ HR.out HB⟩
  · rw [hu] at c0 hW0
    go_enter Tryz.func24, Tryz.ntmps24
    go_wp2_with (first | (go_at_call 73; refine C1.out.mono ?_; clear C1; rintro e w1 ⟨rfl, rfl⟩) | (go_at_call 72; refine C2.out.mono ?_; clear C2; rintro e w2 ⟨T, q, rfl, HB⟩; have HR : Hid (w2.heap[w.heap.size]? = some (.cells (scl (Tx.at x) k) 117 (0, 0))) := HQ.out _ (by obtain ⟨_, _, _, _, _, _, _, h5, _⟩ := HB.out; exact h5); have f0 := sfroz (i := 0) HR.out; obtain ⟨z0, _⟩ := scells HR.out; have hl2 : w.heap.size < w2.heap.size := (Array.getElem?_eq_some_iff.1 HR.out).1))
    go_ret
    exact ⟨rfl, HE2.out _ _ _ HR.out HB⟩
/-- the cells of the document's store, in one -/
def R8 (W : World) (b p : Nat) (k : Rk) : Prop := W.cell? ⟨b, 0, none⟩ = some (.pointer (some ⟨p, 0, none⟩)) ∧ W.cell? ⟨b, 1, none⟩ = some (.int .i64 k.kind) ∧ W.cell? ⟨b, 2, none⟩ = some (.int .i64 k.now) ∧ W.cell? ⟨b, 3, none⟩ = some (.int .i64 k.lo) ∧ W.cell? ⟨b, 4, none⟩ = some (.int .i64 k.hi) ∧ W.cell? ⟨b, 5, none⟩ = some (.int .i64 k.mv) ∧ W.cell? ⟨b, 6, none⟩ = some (.int .i64 k.fo) ∧ W.cell? ⟨b, 7, none⟩ = some (.int .i64 k.ed)
set_option maxRecDepth 100000 in
set_option maxHeartbeats 4000000 in
theorem rclone9_any {w : World} {b p : Nat} {g : Gp} {k : Rk} (h : Rf w b p g k) : Calls Tryz.prog 25 #[.pointer (some ⟨b, 0, none⟩)] w fun e W' => ∃ b' p', e = .returned (.pointer (some ⟨b', 0, none⟩)) ∧ Rf W' b' p' g k ∧ Below w.heap.size w W' ∧ w.heap.size ≤ b' ∧ w.heap.size ≤ p' := by
  have HC : Hid (∀ W, Below w.heap.size w W → R8 W b p k) := fun W hW => (rcells (h.below hW).box).1
  have HB0 : Hid (Below w.heap.size w w) := Below.refl _ w
  have HD : Hid (∀ W, Below w.heap.size w W → Below w.heap.size w W.drew) := fun W hW => hW.drew
  have HA : Hid (∀ W o, Below w.heap.size w W → Below w.heap.size w (W.alloc o)) := fun W o hW => hW.alloc hW.size o
  have C1 : Hid (∀ W, Below w.heap.size w W → Calls Tryz.prog 74 #[.pointer (some ⟨p, 0, none⟩)] W fun e W' => ∃ p', e = .returned (.pointer (some ⟨p', 0, none⟩)) ∧ Hid (RB W' p' g ∧ Below w.heap.size w W' ∧ w.heap.size ≤ p')) := fun W hW => (Gap.rclone_any W (h.below hW).buf).mono fun e W' ⟨q1, q2, q3⟩ => ⟨_, q1, q2, Below.on hW q3, hW.size⟩
  have HF : Hid (∀ W p', Hid (RB W p' g ∧ Below w.heap.size w W ∧ w.heap.size ≤ p') → Rf (W.alloc (.cells #[.pointer (some ⟨p', 0, none⟩), .int .i64 k.kind, .int .i64 k.now, .int .i64 k.lo, .int .i64 k.hi, .int .i64 k.mv, .int .i64 k.fo, .int .i64 k.ed] 122)) W.heap.size p' g k ∧ Below w.heap.size w (W.alloc (.cells #[.pointer (some ⟨p', 0, none⟩), .int .i64 k.kind, .int .i64 k.now, .int .i64 k.lo, .int .i64 k.hi, .int .i64 k.mv, .int .i64 k.fo, .int .i64 k.ed] 122)) ∧ w.heap.size ≤ W.heap.size ∧ w.heap.size ≤ p') := fun W p' ⟨q1, q2, q3⟩ =>
    have hb := (Below.refl _ W).alloc (Nat.le_refl _) (.cells #[.pointer (some ⟨p', 0, none⟩), .int .i64 k.kind, .int .i64 k.now, .int .i64 k.lo, .int .i64 k.hi, .int .i64 k.mv, .int .i64 k.fo, .int .i64 k.ed] 122)
    ⟨⟨World.alloc_heap_new W _, (hb.block _ (Array.getElem?_eq_some_iff.1 q1).1).trans q1, h.ok⟩, Below.on q2 hb, q2.size, q3⟩
  obtain ⟨c0, c1, c2, c3, c4, c5, c6, c7⟩ := HC.out _ HB0.out
  clear h
  go_enter Tryz.func25, Tryz.ntmps25
  go_wp2
  go_region_held3 (fun w' => w'.cell? ⟨b, 0, none⟩ = some (.pointer (some ⟨p, 0, none⟩)) ∧ w'.cell? ⟨b, 1, none⟩ = some (.int .i64 k.kind) ∧ w'.cell? ⟨b, 2, none⟩ = some (.int .i64 k.now) ∧ w'.cell? ⟨b, 3, none⟩ = some (.int .i64 k.lo) ∧ w'.cell? ⟨b, 4, none⟩ = some (.int .i64 k.hi) ∧ w'.cell? ⟨b, 5, none⟩ = some (.int .i64 k.mv) ∧ w'.cell? ⟨b, 6, none⟩ = some (.int .i64 k.fo) ∧ w'.cell? ⟨b, 7, none⟩ = some (.int .i64 k.ed)) (first | exact HC.out _ HB0.out | exact HC.out _ (HD.out _ HB0.out) | exact HC.out _ HP.out.2.1 | exact HC.out _ (HA.out _ _ HP.out.2.1)) (first | (go_at_call 74; refine (C1.out _ (HD.out _ HB0.out)).mono ?_; clear C1; rintro e w2 ⟨p', rfl, HP⟩))
  go_wp2
  go_ret
  exact ⟨_, p', rfl, HF.out _ _ HP⟩
end Go.Proofs.YtkmihnjmchfopaaGreatDoor.Sto
namespace Go.Proofs.YtkmihnjmchfopaaGreatDoor.Sto.Two
open Go.RowKit Go.Shelf Bod Wid Sto
open Gap (Gp RB gRep gReset eBA gSlice gMea)
variable {B : Nat → Prop}

theorem obk_drop (l : List Oc) (i : Nat) : obk (l.drop i) ≤ obk l := by
  induction l generalizing i with
  | nil => simp
  | cons x l ih =>
    cases i with
    | zero => exact Nat.le_refl _
    | succ i => simp only [List.drop_succ_cons, obk]; have := ih i; omega
/-- the script's cells, wherever only B was turned -/
def Scb (B : Nat → Prop) (w : World) (ad : Option Addr) (l : List Oc) : Prop :=
  ∀ i x, l[i]? = some x → ∃ gs os, ad = some ⟨gs, os, none⟩ ∧ ∀ X, Tn B w X → X.cell? ⟨gs, os + i * 4, none⟩ = some (.int .i64 x.kd) ∧ X.cell? ⟨gs, os + i * 4 + 1, none⟩ = some (.int .i64 x.a) ∧ X.cell? ⟨gs, os + i * 4 + 2, none⟩ = some (.int .i64 x.c) ∧ X.cell? ⟨gs, os + i * 4 + 3, none⟩ = some (.string x.p)
/-- the two stores, and what else stays since W0 -/
structure P2 (B : Nat → Prop) (w W0 : World) (b rb p : Nat) (s : ByteArray) (bk : Int) (k : Sk) (g : Gp) (rk : Rk) (W : World) : Prop where
  se : Sp B w b s bk k W
  rf : Rf W rb p g rk
  rb0 : B rb ∨ w.heap.size ≤ rb
  p0 : B p ∨ w.heap.size ≤ p
  fq : Fq W0 W
section
variable {w W0 W W' : World} {b rb p : Nat} {s s' : ByteArray} {bk bk' : Int} {k k' : Sk} {g g' : Gp} {rk rk' : Rk}
theorem P2.low (h : P2 B w W0 b rb p s bk k g rk W) (hb : Below W.heap.size W W') : P2 B w W0 b rb p s bk k g rk W' := ⟨h.se.below hb, h.rf.below hb, h.rb0, h.p0, h.fq.trans (.below hb)⟩
theorem P2.drew (h : P2 B w W0 b rb p s bk k g rk W) : P2 B w W0 b rb p s bk k g rk W.drew := h.low ⟨rfl, rfl, rfl, Nat.le_refl _, fun _ _ => rfl⟩
theorem P2.st (h : P2 B w W0 b rb p s bk k g rk W) (h1 : Sp B w b s' bk' k' W') (h2 : Fty W W') : P2 B w W0 b rb p s' bk' k' g rk W' :=
  ⟨h1, ⟨h2.keep _ _ _ _ h.rf.box (by decide) (by decide) (by decide) (by decide), h2.keep _ _ _ _ h.rf.buf (by decide) (by decide) (by decide) (by decide), h.rf.ok⟩, h.rb0, h.p0, h.fq.trans (.of_fty h2)⟩
theorem P2.ref (h : P2 B w W0 b rb p s bk k g rk W) (h1 : Rf W' rb p g' rk') (h2 : Tn (Rt rb p) W W') : P2 B w W0 b rb p s bk k g' rk' W' := by
  refine ⟨?_, h1, h.rb0, h.p0, h.fq.trans (.of_rt h.rf h2)⟩
  obtain ⟨x, K, hs⟩ := h.se
  have nb : b ≠ rb := ne_type hs.st.box h.rf.box (by decide)
  have np : b ≠ p := ne_type hs.st.box h.rf.buf (by decide)
  have kb : W'.heap[b]? = W.heap[b]? := h2.block b (Array.getElem?_eq_some_iff.1 hs.st.box).1 (fun e => e.elim nb np)
  refine ⟨x, K, ⟨kb.trans hs.st.box, hs.st.hold.keep h2 (fun j hj => ?_) (fun j cur T fz hj hc => ?_), hs.st.lim⟩, hs.bk, hs.text, hs.tn.trans (h2.mono (fun j e => ?_)), hs.lo, hs.b0⟩
  · obtain ⟨cur, T, e1, e2⟩ := hs.st.hold.blk_ty hj
    have n1 : j ≠ rb := ne_type e1 h.rf.box (by rcases e2 with rfl | rfl | rfl <;> decide)
    have n2 : j ≠ p := ne_type e1 h.rf.buf (by rcases e2 with rfl | rfl | rfl <;> decide)
    exact fun e => e.elim n1 n2
  · rcases hj with rfl | rfl
    · rw [h.rf.box] at hc; injection hc with hc; injection hc with _ t _; subst t; decide
    · have hb : W.heap[j]? = some (.cells _ 167 (0, 0)) := h.rf.buf
      rw [hb] at hc; injection hc with hc; injection hc with _ t _; subst t; decide
  · rcases e with rfl | rfl
    · exact h.rb0
    · exact h.p0
end
/-- the two calls of one kind, one behind the other -/
structure Sep (B : Nat → Prop) (w W0 : World) (b rb p : Nat) (s : ByteArray) (bk : Int) (k : Sk) (g : Gp) (rk : Rk) (s' : ByteArray) (bk' : Int) (k' : Sk) (g' : Gp) (rk' : Rk) (fp fr : FuncId) (ps : List Value) (rv : Value) : Prop where
  pg : ∀ W, P2 B w W0 b rb p s bk k g rk W → Calls Tryz.prog fp (.pointer (some ⟨b, 0, none⟩) :: ps).toArray W fun e W' => e = .returned rv ∧ P2 B w W0 b rb p s' bk' k' g rk W'
  rg : ∀ W, P2 B w W0 b rb p s' bk' k' g rk W → Calls Tryz.prog fr (.pointer (some ⟨rb, 0, none⟩) :: ps).toArray W fun e W' => e = .returned rv ∧ P2 B w W0 b rb p s' bk' k' g' rk' W'
section
variable {w W0 : World} {b rb p : Nat} {s : ByteArray} {bk : Int} {k : Sk} {g : Gp} {rk : Rk} {n z : Nat}
/-- an edit by Replace, on both sides -/
theorem both_rep (hL : Lk n z s bk k g rk) (hok : g.ok) (hn : n ≤ 16777216) (hE : Eb B w) (a c : Int) (put : ByteArray) (ha : -9223372036854775808 ≤ a ∧ a ≤ 9223372036854775807) (hc : c ≤ 9223372036854775807) (hp : put.size ≤ 1048576) :
    ∃ s' bk' k' g' rk' o r, Lk (n + 1) (z + put.size) s' bk' k' g' rk' ∧ g'.ok ∧
      (∀ W, P2 B w W0 b rb p s bk k g rk W → Calls Tryz.prog 78 #[.pointer (some ⟨b, 0, none⟩), .int .i64 a, .int .i64 c, .string put] W fun e W' => ∃ o' r', e = .returned (.tuple #[.string o', .int .i64 r']) ∧ (o' = o ∧ r' = r) ∧ P2 B w W0 b rb p s' bk' k' g rk W') ∧
      (∀ W, P2 B w W0 b rb p s' bk' k' g rk W → Calls Tryz.prog 117 #[.pointer (some ⟨rb, 0, none⟩), .int .i64 a, .int .i64 c, .string put] W fun e W' => ∃ o' r', e = .returned (.tuple #[.string o', .int .i64 r']) ∧ (o' = o ∧ r' = r) ∧ P2 B w W0 b rb p s' bk' k' g' rk' W') := by
  obtain ⟨h1, h2, h3, h4, h5, h6⟩ := hL
  obtain ⟨t1, t2, t3⟩ := gRep_tx g a c put
  obtain ⟨T, hT⟩ : ∃ T, txR s k.limit.toNat a c put = T := ⟨_, rfl⟩
  rw [h1, h2, hT] at t1 t3
  have hd : T.2.2 = 0 → 0 ≤ c + (put.size : Int) ∧ c + (put.size : Int) ≤ 4294967296 := fun e => by
    have := txR_zero (s := s) (l := k.limit.toNat) (a := a) (c := c) (put := put) (by rw [hT]; exact e)
    have := hok.2.1; have := hok.2.2
    rw [h1] at *
    omega
  have hs : T.1.size ≤ s.size + put.size := by
    rw [← hT]
    unfold txR
    split
    · simp
    · rename_i c1
      split
      · simp
      · simp only [size_app]
        rw [size_extract _ _ _ (by omega), size_extract _ _ _ (Nat.le_refl _)]
        omega
  obtain ⟨b1, b2⟩ := h4.edit (bk := bk) T.2.2 (c + put.size) T.1.size hd
  have hr := rk_after (k := k) h6 T.2.2 (c + put.size) T.1.size
  have hg := gRep_ok hok a c put
  have hr2 : (rk.after (gRep g a c put).2.2 (c + put.size) (gRep g a c put).1.s.size) = rkOf (smA bk k T.2.2 (c + put.size) T.1.size).1 (smA bk k T.2.2 (c + put.size) T.1.size).2 := by rw [h3, t1, t3]; exact hr
  have h6' : (smA bk k T.2.2 (c + put.size) T.1.size).1 = 1 ∨ (smA bk k T.2.2 (c + put.size) T.1.size).1 = 2 := by
    unfold smA smN
    split
    · split
      · simp only; omega
      · exact h6
    · exact h6
  refine ⟨T.1, _, _, (gRep g a c put).1, _, T.2.1, T.2.2, ⟨t1, by rw [t2, h2, b2], hr2, b1, by omega, h6'⟩, hg, fun W hW => ?_, fun W hW => ?_⟩
  · refine (sp_rep hW.se hE h4.fit (h4.few hn) a c put ha hc (by omega) T hT _ rfl).mono ?_
    rintro e W' ⟨o, r, q1, q2, q3, q4⟩
    exact ⟨o, r, q1, q2, hW.st q3 q4⟩
  · have f := h4.few hn
    refine (rrep9_any hW.rf (by rw [h3]; exact lo_hi k) a c put (by omega) ⟨by rw [h3]; exact f.1, by rw [h3]; have := h4.ed; show k.ed ≤ _; omega, by rw [h3]; exact f.2.2.1, by rw [h3]; exact f.2.2.2.1⟩).mono ?_
    rintro e W' ⟨q1, q2, q3⟩
    refine ⟨_, _, q1, ⟨by rw [t3], by rw [t3]⟩, hW.ref q2 q3⟩
theorem sep_rep (hL : Lk n z s bk k g rk) (hok : g.ok) (hn : n ≤ 16777216) (hE : Eb B w) (a c : Int) (put : ByteArray) (ha : -9223372036854775808 ≤ a ∧ a ≤ 9223372036854775807) (hc : c ≤ 9223372036854775807) (hp : put.size ≤ 1048576) :
    ∃ s' bk' k' g' rk' o r, Lk (n + 1) (z + put.size) s' bk' k' g' rk' ∧ g'.ok ∧ Sep B w W0 b rb p s bk k g rk s' bk' k' g' rk' 78 117 [.int .i64 a, .int .i64 c, .string put] (.tuple #[.string o, .int .i64 r]) := by
  obtain ⟨s', bk', k', g', rk', o, r, q1, q2, q3, q4⟩ := both_rep (W0 := W0) (b := b) (rb := rb) (p := p) hL hok hn hE a c put ha hc hp
  exact ⟨s', bk', k', g', rk', o, r, q1, q2, fun W hW => (q3 W hW).mono fun e W' ⟨o', r', e1, ⟨e2, e3⟩, e4⟩ => ⟨by rw [e1, e2, e3], e4⟩, fun W hW => (q4 W hW).mono fun e W' ⟨o', r', e1, ⟨e2, e3⟩, e4⟩ => ⟨by rw [e1, e2, e3], e4⟩⟩
theorem sep_ins (hL : Lk n z s bk k g rk) (hok : g.ok) (hn : n ≤ 16777216) (hE : Eb B w) (a : Int) (put : ByteArray) (ha : -9223372036854775808 ≤ a ∧ a ≤ 9223372036854775807) (hp : put.size ≤ 1048576) :
    ∃ s' bk' k' g' rk' r, Lk (n + 1) (z + put.size) s' bk' k' g' rk' ∧ g'.ok ∧ Sep B w W0 b rb p s bk k g rk s' bk' k' g' rk' 57 115 [.int .i64 a, .string put] (.int .i64 r) := by
  obtain ⟨s', bk', k', g', rk', o, r, q1, q2, q3, q4⟩ := both_rep (W0 := W0) (b := b) (rb := rb) (p := p) hL hok hn hE a 0 put ha (by omega) hp
  exact ⟨s', bk', k', g', rk', r, q1, q2, fun W hW => (sins_of (q3 W hW)).mono fun e W' ⟨o', r', e1, ⟨_, e3⟩, e4⟩ => ⟨by rw [e1, e3], e4⟩, fun W hW => (rins9_of (q4 W hW)).mono fun e W' ⟨o', r', e1, ⟨_, e3⟩, e4⟩ => ⟨by rw [e1, e3], e4⟩⟩
theorem sep_del (hL : Lk n z s bk k g rk) (hok : g.ok) (hn : n ≤ 16777216) (hE : Eb B w) (a c : Int) (ha : -9223372036854775808 ≤ a ∧ a ≤ 9223372036854775807) (hc : c ≤ 9223372036854775807) :
    ∃ s' bk' k' g' rk' o r, Lk (n + 1) z s' bk' k' g' rk' ∧ g'.ok ∧ Sep B w W0 b rb p s bk k g rk s' bk' k' g' rk' 59 116 [.int .i64 a, .int .i64 c] (.tuple #[.string o, .int .i64 r]) := by
  obtain ⟨s', bk', k', g', rk', o, r, q1, q2, q3, q4⟩ := both_rep (W0 := W0) (b := b) (rb := rb) (p := p) hL hok hn hE a c ⟨#[]⟩ ha hc (by decide)
  exact ⟨s', bk', k', g', rk', o, r, q1, q2, fun W hW => (sdel_of (q3 W hW)).mono fun e W' ⟨o', r', e1, ⟨e2, e3⟩, e4⟩ => ⟨by rw [e1, e2, e3], e4⟩, fun W hW => (rdel9_of (q4 W hW)).mono fun e W' ⟨o', r', e1, ⟨e2, e3⟩, e4⟩ => ⟨by rw [e1, e2, e3], e4⟩⟩
theorem sep_reset (hL : Lk n z s bk k g rk) (hok : g.ok) (hn : n ≤ 16777216) (hE : Eb B w) (put : ByteArray) (hp : put.size ≤ 1048576) :
    ∃ s' bk' k' g' rk' r, Lk (n + 1) (z + put.size) s' bk' k' g' rk' ∧ g'.ok ∧ Sep B w W0 b rb p s bk k g rk s' bk' k' g' rk' 34 118 [.string put] (.int .i64 r) := by
  obtain ⟨h1, h2, h3, h4, h5, h6⟩ := hL
  obtain ⟨u1, u2⟩ := reset_tx s k.limit.toNat put
  obtain ⟨T, hT⟩ : ∃ T, txR s k.limit.toNat 0 s.size put = T := ⟨_, rfl⟩
  rw [hT] at u1 u2
  have t1 : (gReset g put).1.s = T.1 ∧ (gReset g put).2 = T.2.2 ∧ (gReset g put).1.l = g.l := by
    rw [u1, u2]
    unfold gReset
    rw [h2]
    split
    · exact ⟨rfl, rfl, rfl⟩
    · exact ⟨h1, rfl, h2⟩
  obtain ⟨t1, t3, t2⟩ := t1
  have hok2 := hok.2
  rw [h1] at hok2
  have hd : T.2.2 = 0 → 0 ≤ (s.size : Int) + (put.size : Int) ∧ (s.size : Int) + (put.size : Int) ≤ 4294967296 := fun e => by omega
  have hs : T.1.size ≤ s.size + put.size := by rw [u2]; split <;> omega
  obtain ⟨b1, b2⟩ := h4.edit (bk := bk) T.2.2 (s.size + put.size) T.1.size hd
  have hr := rk_after (k := k) h6 T.2.2 (s.size + put.size) T.1.size
  have hg := gReset_ok hok put
  have hr2 : (rk.after (gReset g put).2 (g.s.size + put.size) (gReset g put).1.s.size) = rkOf (smA bk k T.2.2 (s.size + put.size) T.1.size).1 (smA bk k T.2.2 (s.size + put.size) T.1.size).2 := by rw [h3, t1, t3, h1]; exact hr
  have h6' : (smA bk k T.2.2 (s.size + put.size) T.1.size).1 = 1 ∨ (smA bk k T.2.2 (s.size + put.size) T.1.size).1 = 2 := by
    unfold smA smN
    split
    · split
      · simp only; omega
      · exact h6
    · exact h6
  refine ⟨T.1, _, _, (gReset g put).1, _, T.2.2, ⟨t1, by rw [t2, h2, b2], hr2, b1, by omega, h6'⟩, hg, fun W hW => ?_, fun W hW => ?_⟩
  · have hq : ∀ X, Below W.heap.size W X → P2 B w W0 b rb p s bk k g rk X := fun X hX => hW.low hX
    refine (sreset_of (n := s.size) (put := put) (R := fun o r W' => (o = T.2.1 ∧ r = T.2.2) ∧ P2 B w W0 b rb p T.1 (smA bk k T.2.2 (s.size + put.size) T.1.size).1 (smA bk k T.2.2 (s.size + put.size) T.1.size).2 g rk W') (sp_len hW.se) (fun X hX => ?_)).mono ?_
    · refine (sp_rep (hq X hX).se hE h4.fit (h4.few hn) 0 s.size put (by omega) (by omega) (by omega) T hT _ rfl).mono ?_
      rintro e W' ⟨o, r, q1, q2, q3, q4⟩
      exact ⟨o, r, q1, q2, (hq X hX).st q3 q4⟩
    · rintro e W' ⟨o, r, q1, ⟨_, q2⟩, q3⟩
      exact ⟨by rw [q1, q2], q3⟩
  · have f := h4.few hn
    refine (rreset9_any hW.rf (by rw [h3]; exact lo_hi k) put (by omega) ⟨by rw [h3]; exact f.1, by rw [h3]; have := h4.ed; show k.ed ≤ _; omega, by rw [h3]; exact f.2.2.1, by rw [h3]; exact f.2.2.2.1⟩).mono ?_
    rintro e W' ⟨q1, q2, q3⟩
    exact ⟨by rw [q1, t3], hW.ref q2 q3⟩
theorem sep_sw (hL : Lk n z s bk k g rk) (hok : g.ok) (hn : n ≤ 16777216) (hE : Eb B w) (to : Int) :
    ∃ bk' k' rk' r, Lk (n + 1) z s bk' k' g rk' ∧ g.ok ∧ Sep B w W0 b rb p s bk k g rk s bk' k' g rk' 27 119 [.int .i64 to] (.int .i64 r) := by
  obtain ⟨h1, h2, h3, h4, h5, h6⟩ := hL
  obtain ⟨b1, b2⟩ := h4.sw (bk := bk) to
  have hr := rk_sw bk k to
  rw [← h3] at hr
  have h6' : (smS bk k to).2.1 = 1 ∨ (smS bk k to).2.1 = 2 := by
    unfold smS
    split
    · split
      · exact h6
      · assumption
    · exact h6
  have f := h4.few hn
  refine ⟨(smS bk k to).2.1, (smS bk k to).2.2, (rk.sw to).2, (smS bk k to).1, ⟨h1, by rw [h2, b2], by rw [hr], b1, h5, h6'⟩, hok, fun W hW => ?_, fun W hW => ?_⟩
  · refine (sp_sw hW.se hE f to _ rfl).mono ?_
    rintro e W' ⟨q1, q2, q3⟩
    exact ⟨q1, hW.st q2 q3⟩
  · refine (rsw9_any hW.rf to ⟨by rw [h3]; exact f.2.2.2.2.1, by rw [h3]; exact f.2.2.2.2.2⟩).mono ?_
    rintro e W' ⟨q1, q2, q3⟩
    exact ⟨by rw [q1, hr], hW.ref q2 q3⟩
end
theorem p2_lo {w W0 : World} {b rb p : Nat} {s : ByteArray} {bk : Int} {k : Sk} {g : Gp} {rk : Rk} {n z : Nat} (hL : Lk n z s bk k g rk) : Lo b rb (P2 B w W0 b rb p s bk k g rk) (loK k) (hiK k) (kdK k) bk k.limit k.mv k.fo k.ed s.size s := by
  obtain ⟨h1, h2, h3, h4, h5, h6⟩ := hL
  subst h3
  have lw : ∀ {W W' : World}, P2 B w W0 b rb p s bk k g (rkOf bk k) W → Below W.heap.size W W' → P2 B w W0 b rb p s bk k g (rkOf bk k) W' := fun h hb => h.low hb
  refine ⟨?_, ?_, ?_, ?_, ?_, ?_, ?_, ?_, ?_, ?_, ?_, ?_, ?_, ?_⟩ <;> intro W hW
  · obtain ⟨x, K, hs⟩ := hW.se
    exact (thr_any hs.st.spt h4.fit).mono fun e W' ⟨q1, q2⟩ => ⟨q1, lw hW q2⟩
  · exact (rthr_any hW.rf).mono fun e W' ⟨q1, q2⟩ => ⟨q1, lw hW q2⟩
  · obtain ⟨x, K, hs⟩ := hW.se
    exact (kind_any hs.st.spt).mono fun e W' ⟨q1, q2⟩ => ⟨q1, lw hW q2⟩
  · exact (rkind_any hW.rf).mono fun e W' ⟨q1, q2⟩ => ⟨q1, by rw [q2]; exact hW⟩
  · exact (sp_back hW.se).mono fun e W' ⟨q1, q2⟩ => ⟨q1, by rw [q2]; exact hW⟩
  · exact (rback_any hW.rf).mono fun e W' ⟨q1, q2⟩ => ⟨q1, by rw [q2]; exact hW⟩
  · obtain ⟨x, K, hs⟩ := hW.se
    exact (limit_any hs.st.spt).mono fun e W' ⟨q1, q2⟩ => ⟨q1, lw hW q2⟩
  · obtain ⟨l, e1, e2, _, _⟩ := hW.se.lim
    have := rlim_any hW.rf
    rw [h2, e2, ← e1] at this
    exact this.mono fun e W' ⟨q1, q2⟩ => ⟨q1, by rw [q2]; exact hW⟩
  · obtain ⟨x, K, hs⟩ := hW.se
    exact (counts_any hs.st.spt).mono fun e W' ⟨q1, q2⟩ => ⟨q1, lw hW q2⟩
  · exact (rcnt_any hW.rf).mono fun e W' ⟨q1, q2⟩ => ⟨q1, lw hW q2⟩
  · exact (sp_len hW.se).mono fun e W' ⟨q1, q2⟩ => ⟨q1, lw hW q2⟩
  · have := rlen9_any hW.rf
    rw [h1] at this
    exact this.mono fun e W' ⟨q1, q2⟩ => ⟨q1, by rw [q2]; exact hW⟩
  · obtain ⟨x, K, hs⟩ := hW.se
    have := stext_any hs.st.spt hs.st.hold
    rw [hs.text] at this
    exact this.mono fun e W' ⟨q1, q2⟩ => ⟨q1, lw hW q2⟩
  · have := rtext9_any hW.rf
    rw [h1] at this
    exact this.mono fun e W' ⟨q1, q2⟩ => ⟨q1, by rw [q2]; exact hW⟩
theorem looks_p2 {w W0 W : World} {b rb p : Nat} {s : ByteArray} {bk : Int} {k : Sk} {g : Gp} {rk : Rk} {n z : Nat} (hL : Lk n z s bk k g rk) (h : P2 B w W0 b rb p s bk k g rk W) :
    Calls Tryz.prog 22 #[.pointer (some ⟨b, 0, none⟩), .pointer (some ⟨rb, 0, none⟩)] W fun e W' => e = .returned (.bool true) ∧ P2 B w W0 b rb p s bk k g rk W' := looks_of (p2_lo hL) W h
/-- the two stores, alike, behind n calls, with a text of at most z -/
def Pq (B : Nat → Prop) (w : World) (b rb p n z : Nat) (W : World) : Prop := ∃ s bk k g rk, Lk n z s bk k g rk ∧ g.ok ∧ P2 B w W b rb p s bk k g rk W
section
variable {w W : World} {b rb p n z : Nat}
theorem P2.again {W0 X : World} {s : ByteArray} {bk : Int} {k : Sk} {g : Gp} {rk : Rk} (h : P2 B w W0 b rb p s bk k g rk X) : P2 B w X b rb p s bk k g rk X := ⟨h.se, h.rf, h.rb0, h.p0, .refl X⟩
theorem Pq.tn (h : Pq B w b rb p n z W) : Tn B w W := by obtain ⟨s, bk, k, g, rk, _, _, h⟩ := h; exact h.se.tn
theorem Pq.up {z' : Nat} (h : Pq B w b rb p n z W) (hz : z ≤ z') : Pq B w b rb p n z' W := by
  obtain ⟨s, bk, k, g, rk, ⟨l1, l2, l3, l4, l5, l6⟩, ho, h⟩ := h
  exact ⟨s, bk, k, g, rk, ⟨l1, l2, l3, l4, by omega, l6⟩, ho, h⟩
theorem works_pq (h : Pq B w b rb p n z W) (hE : Eb B w) (hn : n ≤ 16777216) (x : Oc) (hx : x.fit) (hp : x.p.size ≤ 1048576) :
    Calls Tryz.prog 70 #[.pointer (some ⟨b, 0, none⟩), .pointer (some ⟨rb, 0, none⟩), opv x] W fun e W' => e = .returned (.bool true) ∧ Pq B w b rb p (n + 1) (z + x.p.size) W' := by
  obtain ⟨s, bk, k, g, rk, hL, ho, h⟩ := h
  obtain ⟨kd, a, c, put⟩ := x
  obtain ⟨x1, x2, x3⟩ := hx
  dsimp only at x1 x2 x3 hp
  obtain ⟨W0, hW0⟩ : ∃ W0, W.alloc (.cells #[.int .i64 kd, .int .i64 a, .int .i64 c, .string put] 59) = W0 := ⟨_, rfl⟩
  have hB : Below W.heap.size W W0 := by rw [← hW0]; exact (Below.refl _ W).alloc (Nat.le_refl _) _
  have hbx : W0.heap[W.heap.size]? = some (.cells #[.int .i64 kd, .int .i64 a, .int .i64 c, .string put] 59 (0, 0)) := by rw [← hW0]; exact World.alloc_heap_new W _
  have h0 : P2 B w W0 b rb p s bk k g rk W0 := (h.low hB).again
  have ob : ∀ {X : World} {s : ByteArray} {bk : Int} {k : Sk} {g : Gp} {rk : Rk}, P2 B w W0 b rb p s bk k g rk X → Obx X W.heap.size kd a c put := fun hX =>
    (box4 (hX.fq.keep _ _ _ _ hbx (by decide) (by decide) (by decide) (by decide) (by decide) (by decide))).1
  have dr : ∀ X, P2 B w W0 b rb p s bk k g rk X → P2 B w W0 b rb p s bk k g rk X.drew := fun X hX => hX.drew
  unfold opv
  dsimp only
  by_cases k1 : kd = 1
  · subst k1
    obtain ⟨s', bk', k', g', rk', r, q1, q2, q3⟩ := sep_ins (W0 := W0) (b := b) (rb := rb) (p := p) hL ho hn hE a put x2 hp
    exact (works_1 hW0 h0 dr (fun X hX => hX.elim ob (·.elim ob ob)) q3.pg q3.rg).mono fun e W' ⟨e1, e2⟩ => ⟨e1, s', bk', k', g', rk', q1, q2, e2.again⟩
  · by_cases k2 : kd = 2
    · subst k2
      obtain ⟨s', bk', k', g', rk', o, r, q1, q2, q3⟩ := sep_del (W0 := W0) (b := b) (rb := rb) (p := p) hL ho hn hE a c x2 x3.2
      exact (works_2 hW0 h0 dr (fun X hX => hX.elim ob (·.elim ob ob)) q3.pg q3.rg).mono fun e W' ⟨e1, e2⟩ => ⟨e1, Pq.up (z := z) ⟨s', bk', k', g', rk', q1, q2, e2.again⟩ (by omega)⟩
    · by_cases k3 : kd = 3
      · subst k3
        obtain ⟨s', bk', k', g', rk', o, r, q1, q2, q3⟩ := sep_rep (W0 := W0) (b := b) (rb := rb) (p := p) hL ho hn hE a c put x2 x3.2 hp
        exact (works_3 hW0 h0 dr (fun X hX => hX.elim ob (·.elim ob ob)) q3.pg q3.rg).mono fun e W' ⟨e1, e2⟩ => ⟨e1, s', bk', k', g', rk', q1, q2, e2.again⟩
      · by_cases k4 : kd = 4
        · subst k4
          obtain ⟨s', bk', k', g', rk', r, q1, q2, q3⟩ := sep_reset (W0 := W0) (b := b) (rb := rb) (p := p) hL ho hn hE put hp
          exact (works_4 hW0 h0 dr (fun X hX => hX.elim ob (·.elim ob ob)) q3.pg q3.rg).mono fun e W' ⟨e1, e2⟩ => ⟨e1, s', bk', k', g', rk', q1, q2, e2.again⟩
        · by_cases k5 : kd = 5
          · subst k5
            obtain ⟨bk', k', rk', r, q1, q2, q3⟩ := sep_sw (W0 := W0) (b := b) (rb := rb) (p := p) hL ho hn hE a
            exact (works_5 hW0 h0 dr (fun X hX => hX.elim ob (·.elim ob ob)) q3.pg q3.rg).mono fun e W' ⟨e1, e2⟩ => ⟨e1, Pq.up (z := z) ⟨s, bk', k', g, rk', q1, q2, e2.again⟩ (by omega)⟩
          · refine (works_0 (R0 := P2 B w W0 b rb p s bk k g rk) k1 k2 k3 k4 k5 hW0 h0 (ob h0)).mono fun e W' ⟨e1, e2⟩ => ⟨e1, Pq.up (z := z) ⟨s, bk, k, g, rk, ?_, ho, e2.again⟩ (by omega)⟩
            obtain ⟨l1, l2, l3, l4, l5, l6⟩ := hL
            exact ⟨l1, l2, l3, l4.up, l5, l6⟩
theorem looks_pq (h : Pq B w b rb p n z W) : Calls Tryz.prog 22 #[.pointer (some ⟨b, 0, none⟩), .pointer (some ⟨rb, 0, none⟩)] W fun e W' => e = .returned (.bool true) ∧ Pq B w b rb p n z W' := by
  obtain ⟨s, bk, k, g, rk, hL, ho, h⟩ := h
  exact (looks_p2 hL h).mono fun e W' ⟨q1, q2⟩ => ⟨q1, s, bk, k, g, rk, hL, ho, q2.again⟩
theorem asks_pq (h : Pq B w b rb p n z W) (hE : Eb B w) (hz : z ≤ 2097152) (x : Oc) (hx : x.fit) :
    Calls Tryz.prog 71 #[.pointer (some ⟨b, 0, none⟩), .pointer (some ⟨rb, 0, none⟩), opv x] W fun e W' => e = .returned (.bool true) ∧ Pq B w b rb p n z W' := by
  obtain ⟨s, bk, k, g, rk, hL, ho, h⟩ := h
  obtain ⟨kd, a, c, put⟩ := x
  obtain ⟨x1, x2, x3⟩ := hx
  dsimp only at x1 x2 x3
  obtain ⟨mn, hmn⟩ := next_ex s a
  obtain ⟨mp, hmp⟩ := prev_ex s a
  obtain ⟨ms, hms⟩ := snap_ex s a
  have hg : g.s = s := hL.1
  have hgz : g.s.size ≤ 2097152 := by rw [hg]; have := hL.2.2.2.2.1; omega
  have hp : ∀ X, Below W.heap.size W X → P2 B w W b rb p s bk k g rk X := fun X hX => h.low hX
  have pc : ∀ X, Below W.heap.size W X → Pcs X (.pointer (some ⟨b, 0, none⟩)) s s.size ∧ Ev X := fun X hX => by
    obtain ⟨y, K, hs⟩ := (hp X hX).se
    have := pcs_of hs.st.spt hs.st.hold
    rw [hs.text] at this
    exact ⟨this, hE.at hs.tn⟩
  have A : As W (.pointer (some ⟨b, 0, none⟩)) (.pointer (some ⟨rb, 0, none⟩)) a c (gSlice s a c).1 (gSlice s a c).2 (gMea s a c).1 (gMea s a c).2 (cbZ s a) mn mp ms := by
    refine ⟨?_, ?_, ?_, ?_, ?_, ?_, ?_, ?_, ?_, ?_, ?_, ?_⟩ <;> intro X hX
    · obtain ⟨y, K, hs⟩ := (hp X hX).se
      have := sslice_any hs.st.spt hs.st.hold a c
      rw [hs.text] at this
      exact this
    · have := rslice9_any (hp X hX).rf a c
      rw [hg] at this
      exact this
    · obtain ⟨y, K, hs⟩ := (hp X hX).se
      have := smeas_any hs.st.spt hs.st.hold (hE.at hs.tn) a c
      rw [hs.text] at this
      exact this
    · have := rmeas9_any (hp X hX).rf a c
      rw [hg] at this
      exact this
    · exact bound_of (pc X hX).1 (pc X hX).2 a x2.2
    · have := rbound9_any (hp X hX).rf hgz a
      rw [hg] at this
      exact this
    · exact (next_of (pc X hX).1 (pc X hX).2 a).mono fun e W' ⟨m, q1, q2, q3⟩ => ⟨by rw [q1, q2.uniq hmn], q3⟩
    · have := rnext9_any (hp X hX).rf hgz a
      rw [hg] at this
      exact this.mono fun e W' ⟨m, q1, q2, q3⟩ => ⟨by rw [q1, q2.uniq hmn], q3⟩
    · exact (prev_of (pc X hX).1 (pc X hX).2 a).mono fun e W' ⟨m, q1, q2, q3⟩ => ⟨by rw [q1, q2.uniq hmp], q3⟩
    · have := rprev9_any (hp X hX).rf hgz a
      rw [hg] at this
      exact this.mono fun e W' ⟨m, q1, q2, q3⟩ => ⟨by rw [q1, q2.uniq hmp], q3⟩
    · exact (snap_of (pc X hX).1 (pc X hX).2 a x2.2).mono fun e W' ⟨m, q1, q2, q3⟩ => ⟨by rw [q1, q2.uniq hms], q3⟩
    · have := rsnap9_any (hp X hX).rf hgz a
      rw [hg] at this
      exact this.mono fun e W' ⟨m, q1, q2, q3⟩ => ⟨by rw [q1, q2.uniq hms], q3⟩
  exact (asks_of A kd put).mono fun e W' ⟨q1, q2⟩ => ⟨q1, s, bk, k, g, rk, hL, ho, (hp W' q2).again⟩
end
set_option maxRecDepth 100000 in
set_option maxHeartbeats 4000000 in
theorem play_pq {w W : World} {b rb p n z : Nat} (h : Pq B w b rb p n z W) (hE : Eb B w) (l : List Oc) (hn : n + l.length ≤ 16777216) (hz : z + obk l ≤ 2097152) (hq : obk l ≤ 1048576) (hl : ∀ x ∈ l, x.fit) (ad : Option Addr) (N cap : Nat) (hN : l.length = N) (hr : Scb B w ad l) :
    Calls Tryz.prog 23 #[.pointer (some ⟨b, 0, none⟩), .pointer (some ⟨rb, 0, none⟩), .slice ad N cap] W fun e W' => e = .returned (.bool true) ∧ Pq B w b rb p (n + l.length) (z + obk l) W' := by
  have HP0 : Hid (Pq B w b rb p n z W) := h
  have HE : Hid (Eb B w) := hE
  have HN : Hid (l.length = N ∧ (∀ x ∈ l, x.fit) ∧ n + l.length ≤ 16777216 ∧ z + obk l ≤ 2097152 ∧ obk l ≤ 1048576) := ⟨hN, hl, hn, hz, hq⟩
  have HR : Hid (Scb B w ad l) := hr
  have hNb : N ≤ 1048576 := by have := obk_len l; omega
  rw [hN]
  obtain ⟨Z, hZ⟩ : ∃ Z, z + obk l = Z := ⟨_, rfl⟩
  have HZ : Hid (z + obk l = Z) := hZ
  rw [hZ]
  clear h hE hN hl hr hn hz hq hZ
  go_enter Tryz.func23, Tryz.ntmps23
  go_wp2
  go_loopw [7] (fun t wr => ∃ i : Nat, i ≤ N ∧ t = .int .i64 i ∧ ∃ z', Hid (z' + obk (l.drop i) ≤ Z ∧ Pq B w b rb p (n + i) z' wr)) (fun t _ => N - (intOf t).toNat)
  case atStart => exact ⟨0, Nat.zero_le _, rfl, z, Nat.le_of_eq HZ.out, HP0.out⟩
  case round =>
    obtain ⟨i, hi, rfl, z', HP⟩ := hrel
    clear HP0
    by_cases hlt : i < N
    · obtain ⟨x, hxk⟩ : ∃ x, l[i]? = some x := ⟨l[i]'(by rw [HN.out.1]; exact hlt), List.getElem?_eq_getElem _⟩
      have hxf := HN.out.2.1 x (List.mem_of_getElem? hxk)
      obtain ⟨gs, os, rfl, hcx⟩ := HR.out i x hxk
      have hob2 := obk_drop l i
      have hob := obk_at hxk
      have hb1 := HN.out
      have hb2 := HP.out.1
      have hb3 := HZ.out
      have HC : Hid (∀ X, Tn B w X → X.cell? ⟨gs, os + i * 4, none⟩ = some (.int .i64 x.kd) ∧ X.cell? ⟨gs, os + i * 4 + 1, none⟩ = some (.int .i64 x.a) ∧ X.cell? ⟨gs, os + i * 4 + 2, none⟩ = some (.int .i64 x.c) ∧ X.cell? ⟨gs, os + i * 4 + 3, none⟩ = some (.string x.p)) := hcx
      have CW : Hid (Calls Tryz.prog 70 #[.pointer (some ⟨b, 0, none⟩), .pointer (some ⟨rb, 0, none⟩), .agg #[.int .i64 x.kd, .int .i64 x.a, .int .i64 x.c, .string x.p]] wr fun e W' => e = .returned (.bool true) ∧ Hid (Pq B w b rb p (n + i + 1) (z' + x.p.size) W')) := works_pq HP.out.2 HE.out (by omega) x hxf (by omega)
      have CA : Hid (∀ X, Hid (Pq B w b rb p (n + i + 1) (z' + x.p.size) X) → Calls Tryz.prog 71 #[.pointer (some ⟨b, 0, none⟩), .pointer (some ⟨rb, 0, none⟩), .agg #[.int .i64 x.kd, .int .i64 x.a, .int .i64 x.c, .string x.p]] X fun e W' => e = .returned (.bool true) ∧ Hid (Pq B w b rb p (n + i + 1) (z' + x.p.size) W')) := fun X hX => asks_pq hX.out HE.out (by omega) x hxf
      have CK : Hid (∀ X, Hid (Pq B w b rb p (n + i + 1) (z' + x.p.size) X) → Calls Tryz.prog 22 #[.pointer (some ⟨b, 0, none⟩), .pointer (some ⟨rb, 0, none⟩)] X fun e W' => e = .returned (.bool true) ∧ Hid (Pq B w b rb p (n + i + 1) (z' + x.p.size) W')) := fun X hX => looks_pq hX.out
      have HF : Hid (∀ X, Pq B w b rb p (n + i + 1) (z' + x.p.size) X → z' + x.p.size + obk (l.drop (i + 1)) ≤ Z ∧ Pq B w b rb p (n + (i + 1)) (z' + x.p.size) X) := fun X hX => ⟨by omega, by rw [show n + (i + 1) = n + i + 1 by omega]; exact hX⟩
      obtain ⟨y0, y1, y2, y3⟩ := HC.out _ HP.out.2.tn
      clear hcx hxk hxf hob hob2 hb1 hb2 hb3
      go_wp2_with (first
        | (go_at_call 70; refine CW.out.mono ?_; clear CW HP y0 y1 y2 y3; rintro e w2 ⟨rfl, HP⟩; obtain ⟨y0, y1, y2, y3⟩ := HC.out _ HP.out.tn)
        | (go_at_call 71; refine (CA.out _ HP).mono ?_; clear CA HP y0 y1 y2 y3; rintro e w3 ⟨rfl, HP⟩)
        | (go_at_call 22; refine (CK.out _ HP).mono ?_; clear CK HP; rintro e w4 ⟨rfl, HP⟩))
      exact ⟨⟨i + 1, by omega, by go_num, z' + x.p.size, HF.out _ HP.out⟩, by simp [intOf]; omega⟩
    · have hiN : i = N := by omega
      subst hiN
      have HF : Hid (Pq B w b rb p (n + i) Z wr) := HP.out.2.up (by have := HP.out.1; omega)
      clear HP
      go_wp2
      go_ret
      exact ⟨rfl, HF.out⟩
end Go.Proofs.YtkmihnjmchfopaaGreatDoor.Sto.Two
namespace Go.Proofs.YtkmihnjmchfopaaGreatDoor.Sto
open Go.RowKit Go.Shelf Bod Wid
open Gap (Gp RB)

/-- a store, its text kept by K, and the document's own one, alike -/
def Pz (b rb p n z : Nat) (K : Kp) (X : World) : Prop := ∃ s bk k g rk x, Lk n z s bk k g rk ∧ g.ok ∧ Pst X b x k K ∧ (Tx.or x).bk = bk ∧ K.text = s ∧ Rf X rb p g rk
/-- the blocks of both -/
def ft (b rb p : Nat) (K : Kp) (j : Nat) : Prop := j = b ∨ j = rb ∨ j = p ∨ K.blk j
section
variable {b rb p n z : Nat} {K : Kp} {X W : World} {B : Nat → Prop}
theorem Pz.ty (h : Pz b rb p n z K X) {j : Nat} (hj : ft b rb p K j) : ∃ cur T, X.heap[j]? = some (.cells cur T (0, 0)) ∧ T ≠ 184 ∧ T ≠ 152 ∧ T ≠ 86 := by
  obtain ⟨s, bk, k, g, rk, x, _, _, h1, _, _, h2⟩ := h
  rcases hj with rfl | rfl | rfl | hj
  · exact ⟨_, _, h1.box, by decide⟩
  · exact ⟨_, _, h2.box, by decide⟩
  · exact ⟨_, _, h2.buf, by decide⟩
  · obtain ⟨cur, T, e1, e2⟩ := h1.hold.blk_ty hj
    exact ⟨cur, T, e1, by rcases e2 with rfl | rfl | rfl <;> decide⟩
theorem Pz.lt (h : Pz b rb p n z K X) {j : Nat} (hj : ft b rb p K j) : j < X.heap.size := by
  obtain ⟨_, _, e, _⟩ := h.ty hj
  exact (Array.getElem?_eq_some_iff.1 e).1
theorem Pz.below (h : Pz b rb p n z K X) (hb : Below X.heap.size X W) : Pz b rb p n z K W := by
  obtain ⟨s, bk, k, g, rk, x, h1, h2, h3, h4, h5, h6⟩ := h
  exact ⟨s, bk, k, g, rk, x, h1, h2, h3.below hb, h4, h5, h6.below hb⟩
theorem Pz.start (h : Pz b rb p n z K X) : Two.Pq (ft b rb p K) X b rb p n z X := by
  obtain ⟨s, bk, k, g, rk, x, h1, h2, h3, h4, h5, h6⟩ := h
  exact ⟨s, bk, k, g, rk, h1, h2, ⟨x, K, h3, h4, h5, .of_below (Below.refl _ X), fun j hj => .inl (.inr (.inr (.inr hj))), .inl (.inl rfl)⟩, h6, .inl (.inr (.inl rfl)), .inl (.inr (.inr (.inl rfl))), .refl X⟩
theorem Pz.of (h : Two.Pq B X b rb p n z W) : ∃ K', Pz b rb p n z K' W ∧ Tn B X W ∧ ∀ j, ft b rb p K' j → B j ∨ X.heap.size ≤ j := by
  obtain ⟨s, bk, k, g, rk, h1, h2, ⟨x, K, h3⟩, h4, h5, h6, _⟩ := h
  refine ⟨K, ⟨s, bk, k, g, rk, x, h1, h2, h3.st, h3.bk, h3.text, h4⟩, h3.tn, fun j hj => ?_⟩
  rcases hj with rfl | rfl | rfl | hj
  · exact h3.b0
  · exact h5
  · exact h6
  · exact h3.lo j hj
theorem Pz.keep (h : Pz b rb p n z K X) (ht : Tn B X W) (h1 : ∀ j, ft b rb p K j → ¬ B j) (h2 : ∀ j cur T fz, B j → X.heap[j]? = some (.cells cur T fz) → T ≠ 184 ∧ T ≠ 152 ∧ T ≠ 86) : Pz b rb p n z K W := by
  have kp : ∀ j, ft b rb p K j → W.heap[j]? = X.heap[j]? := fun j hj => ht.block j (h.lt hj) (h1 j hj)
  obtain ⟨s, bk, k, g, rk, x, q1, q2, q3, q4, q5, q6⟩ := h
  exact ⟨s, bk, k, g, rk, x, q1, q2, ⟨(kp b (.inl rfl)).trans q3.box, q3.hold.keep ht (fun j hj => h1 j (.inr (.inr (.inr hj)))) h2, q3.lim⟩, q4, q5, ⟨(kp rb (.inr (.inl rfl))).trans q6.box, (kp p (.inr (.inr (.inl rfl)))).trans q6.buf, q6.ok⟩⟩
end
/-- two pairs, apart, both new since w -/
def Dd (w : World) (b rb p n z b2 rb2 p2 n2 z2 : Nat) (W : World) : Prop := ∃ K K2, Pz b rb p n z K W ∧ Pz b2 rb2 p2 n2 z2 K2 W ∧ Below w.heap.size w W ∧ (∀ j, ft b rb p K j → w.heap.size ≤ j) ∧ (∀ j, ft b2 rb2 p2 K2 j → w.heap.size ≤ j) ∧ ∀ j, ft b rb p K j → ¬ ft b2 rb2 p2 K2 j
section
variable {w W : World} {b rb p n z b2 rb2 p2 n2 z2 : Nat}
theorem Dd.symm (h : Dd w b rb p n z b2 rb2 p2 n2 z2 W) : Dd w b2 rb2 p2 n2 z2 b rb p n z W := by
  obtain ⟨K, K2, h1, h2, h3, h4, h5, h6⟩ := h
  exact ⟨K2, K, h2, h1, h3, h5, h4, fun j a b => h6 j b a⟩
theorem Dd.bel (h : Dd w b rb p n z b2 rb2 p2 n2 z2 W) : Below w.heap.size w W := by
  obtain ⟨K, K2, h1, h2, h3, h4, h5, h6⟩ := h
  exact h3
/-- how the first pair of two works -/
theorem Dd.go {X : World} (h : Dd w b rb p n z b2 rb2 p2 n2 z2 X) (hE : Ev w) : ∃ B, Two.Pq B X b rb p n z X ∧ Eb B X ∧ (∀ Y, Tn B X Y → Below w.heap.size w Y) ∧ ∀ n' z' W, Two.Pq B X b rb p n' z' W → Dd w b rb p n' z' b2 rb2 p2 n2 z2 W := by
  obtain ⟨K, K2, h1, h2, h3, h4, h5, h6⟩ := h
  have hb : ∀ Y, Tn (ft b rb p K) X Y → Below w.heap.size w Y := fun Y hY => tn_bel h3 hY h4
  refine ⟨ft b rb p K, h1.start, ⟨hE.below h3, fun e => ?_, fun e => ?_⟩, hb, fun n' z' W hW => ?_⟩
  · have := h4 _ e; have := hE.l0; omega
  · have := h4 _ e; have := hE.l1; omega
  · obtain ⟨K', q1, q2, q3⟩ := Pz.of hW
    have hz := h3.size
    refine ⟨K', K2, q1, h2.keep q2 (fun j hj e => h6 j e hj) (fun j cur T fz hj hc => ?_), hb W q2, fun j hj => (q3 j hj).elim (h4 j) (fun e => by omega), h5, fun j hj e => ?_⟩
    · obtain ⟨cur', T', e1, e2⟩ := h1.ty hj
      rw [e1] at hc; injection hc with hc; injection hc with _ t _; subst t; exact e2
    · have := h2.lt e
      exact (q3 j hj).elim (fun q => h6 j q e) (fun q => by omega)
theorem looks_dd (h : Dd w b rb p n z b2 rb2 p2 n2 z2 W) (hE : Ev w) : Calls Tryz.prog 22 #[.pointer (some ⟨b, 0, none⟩), .pointer (some ⟨rb, 0, none⟩)] W fun e W' => e = .returned (.bool true) ∧ Dd w b rb p n z b2 rb2 p2 n2 z2 W' := by
  obtain ⟨B, q1, q2, q3, q4⟩ := h.go hE
  exact (Two.looks_pq q1).mono fun e W' ⟨e1, e2⟩ => ⟨e1, q4 _ _ _ e2⟩
theorem play_dd (h : Dd w b rb p n z b2 rb2 p2 n2 z2 W) (hE : Ev w) (l : List Oc) (hn : n + l.length ≤ 16777216) (hz : z + obk l ≤ 2097152) (hq : obk l ≤ 1048576) (hl : ∀ x ∈ l, x.fit) (v : Value) (hr : RdC w v l) :
    Calls Tryz.prog 23 #[.pointer (some ⟨b, 0, none⟩), .pointer (some ⟨rb, 0, none⟩), v] W fun e W' => e = .returned (.bool true) ∧ Dd w b rb p (n + l.length) (z + obk l) b2 rb2 p2 n2 z2 W' := by
  obtain ⟨B, q1, q2, q3, q4⟩ := h.go hE
  obtain ⟨ad, cap, rfl, hr⟩ := hr
  refine (Two.play_pq q1 q2 l hn hz hq hl ad l.length cap rfl (fun i x hx => ?_)).mono fun e W' ⟨e1, e2⟩ => ⟨e1, q4 _ _ _ e2⟩
  obtain ⟨gs, os, e, hgs, hc⟩ := hr (fun e => by rw [e] at hx; simp at hx)
  refine ⟨gs, os, e, fun Y hY => ?_⟩
  have hb := q3 Y hY
  obtain ⟨c0, c1, c2, c3⟩ := hc i x hx
  have kp : ∀ j v, w.cell? ⟨gs, j, none⟩ = some v → Y.cell? ⟨gs, j, none⟩ = some v := fun j v h => (hb.cell (p := ⟨gs, j, none⟩) (by simp; omega)).trans h
  exact ⟨kp _ _ c0, kp _ _ c1, kp _ _ c2, kp _ _ c3⟩
/-- behind the store's Clone, ahead of the document's -/
def Md2 (w : World) (b rb p n z b2 : Nat) (W : World) : Prop := ∃ s bk k g rk x K y K2 M, Lk n z s bk k g rk ∧ g.ok ∧ Pst W b x k K ∧ (Tx.or x).bk = bk ∧ K.text = s ∧ Rf W rb p g rk ∧ Pst W b2 (some y) k K2 ∧ y.bk = bk ∧ K2.text = s ∧ Below w.heap.size w W ∧ (∀ j, ft b rb p K j → w.heap.size ≤ j ∧ j < M) ∧ (∀ j, j = b2 ∨ K2.blk j → M ≤ j) ∧ w.heap.size ≤ M ∧ M ≤ W.heap.size
theorem clone_pq {X : World} (hX : Below w.heap.size w X) (h : Pq X b rb p n z W) : Calls Tryz.prog 24 #[.pointer (some ⟨b, 0, none⟩)] W fun e W' => ∃ b2, e = .returned (.pointer (some ⟨b2, 0, none⟩)) ∧ Md2 w b rb p n z b2 W' := by
  obtain ⟨s, bk, k, g, rk, h1, h2, ⟨x, K, h3⟩, h4, h5, h6, _⟩ := h
  have hB := Below.on hX h3.bel
  refine (sclone_any h3.st).mono ?_
  rintro e W' ⟨rfl, y, K2, q1, q2, q3, q4, q5⟩
  have hz : Pz b rb p n z K W := ⟨s, bk, k, g, rk, x, h1, h2, h3.st, h3.bk, h3.text, h4⟩
  refine ⟨_, rfl, s, bk, k, g, rk, x, K, y, K2, W.heap.size, h1, h2, h3.st.below q4, h3.bk, h3.text, h4.below q4, q1, q2.trans h3.bk, q3.trans h3.text, Below.on hB q4, fun j hj => ⟨?_, hz.lt hj⟩, fun j hj => ?_, hB.size, q4.size⟩
  · have := hX.size
    rcases hj with rfl | rfl | rfl | hj
    · have := h3.b0; omega
    · omega
    · omega
    · have := h3.lo j hj; omega
  · rcases hj with rfl | hj
    · exact Nat.le_refl _
    · exact q5 j hj
theorem clone_dd {b2 : Nat} (h : Md2 w b rb p n z b2 W) : Calls Tryz.prog 25 #[.pointer (some ⟨rb, 0, none⟩)] W fun e W' => ∃ rb2 p2, e = .returned (.pointer (some ⟨rb2, 0, none⟩)) ∧ Dd w b rb p n z b2 rb2 p2 n z W' := by
  obtain ⟨s, bk, k, g, rk, x, K, y, K2, M, h1, h2, h3, h4, h5, h6, h7, h8, h9, h10, h11, h12, h13, h14⟩ := h
  refine (rclone9_any h6).mono ?_
  rintro e W' ⟨rb2, p2, rfl, q1, q2, q3, q4⟩
  refine ⟨rb2, p2, rfl, K, K2, ⟨s, bk, k, g, rk, x, h1, h2, h3.below q2, h4, h5, h6.below q2⟩, ⟨s, bk, k, g, rk, some y, h1, h2, h7.below q2, h8, h9, q1⟩, Below.on h10 q2, fun j hj => (h11 j hj).1, ?_, ?_⟩
  · intro j hj
    rcases hj with rfl | rfl | rfl | hj
    · have := h12 _ (.inl rfl); omega
    · omega
    · omega
    · have := h12 j (.inr hj); omega
  · intro j hj e
    have := (h11 j hj).2
    rcases e with rfl | rfl | rfl | e
    · have := h12 _ (.inl rfl); omega
    · omega
    · omega
    · have := h12 j (.inr e); omega
end
end Go.Proofs.YtkmihnjmchfopaaGreatDoor.Sto
