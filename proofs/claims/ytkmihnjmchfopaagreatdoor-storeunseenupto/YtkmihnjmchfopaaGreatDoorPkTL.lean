/-
  Two stores apart, and the walk of StoreUnseen. Conditions: those of each theorem.
-/
import Derived.Test.YtkmihnjmchfopaaGreatDoorTDn
import Derived.Test.YtkmihnjmchfopaaGreatDoorPkTM
import Derived.ChangeKeysEq
import Derived.Test.YtkmihnjmchfopaaGreatDoorTDnB
import Derived.Test.YtkmihnjmchfopaaGreatDoorTDnC
import Derived.Deep.RegionHeld3
import Derived.Lib.QuietBelow
import Derived.BigQuiet
namespace Go.Proofs.YtkmihnjmchfopaaGreatDoor.Sto
open Go.RowKit Go.Shelf Bod Wid
open Gap (Gp)

section
variable {B : Nat → Prop} {X W W' : World} {b : Nat} {s : ByteArray} {bk : Int} {k : Sk}
theorem Sp.setbox {i j : Nat} {cur : Array Value} {T : TypeId} {u : Value} (h : Sp B X b s bk k W) (hi : X.heap.size ≤ i) (hc : W.heap[i]? = some (.cells cur T (0, 0))) (hT : T ≠ 117 ∧ T ≠ 133 ∧ T ≠ 5 ∧ T ≠ 171 ∧ T ≠ 184 ∧ T ≠ 152 ∧ T ≠ 86) : Sp B X b s bk k (W.setCell ⟨i, j, none⟩ u) := by
  obtain ⟨x, K, h⟩ := h
  obtain ⟨t1, t2, t3, t4, t5, t6, t7⟩ := hT
  have ht : Tn (fun q => q = i) W (W.setCell ⟨i, j, none⟩ u) := .of_grown (gcell W i j u) rfl
  have nb : b ≠ i := ne_type h.st.box hc (fun e => t1 e.symm)
  refine ⟨x, K, ⟨(ht.block b (Array.getElem?_eq_some_iff.1 h.st.box).1 nb).trans h.st.box, h.st.hold.keep ht (fun q hq e => ?_) (fun q cur' T' fz e hq => ?_), h.st.lim⟩, h.bk, h.text, h.tn.trans (ht.mono (fun q e => .inr (by omega))), h.lo, h.b0⟩
  · obtain ⟨cur', T', e1, e2⟩ := h.st.hold.blk_ty hq
    refine ne_type e1 hc ?_ e
    rcases e2 with rfl | rfl | rfl
    · exact fun e => t2 e.symm
    · exact fun e => t3 e.symm
    · exact fun e => t4 e.symm
  · subst e
    rw [hc] at hq; injection hq with hq; injection hq with _ t _; subst t
    exact ⟨t5, t6, t7⟩
theorem Bx3.below {i : Nat} {kd a c : Int} {put : ByteArray} {d : Array Value} (h : Bx3 i kd a c put d W) (hb : Below W.heap.size W W') : Bx3 i kd a c put d W' :=
  ⟨(hb.block _ (Array.getElem?_eq_some_iff.1 h.ob).1).trans h.ob, (hb.block _ (Array.getElem?_eq_some_iff.1 h.an).1).trans h.an, (hb.block _ (Array.getElem?_eq_some_iff.1 h.td).1).trans h.td⟩
theorem Bx3.fty {i : Nat} {kd a c : Int} {put : ByteArray} {d : Array Value} (h : Bx3 i kd a c put d W) (hb : Fty W W') : Bx3 i kd a c put d W' :=
  ⟨hb.keep _ _ _ _ h.ob (by decide) (by decide) (by decide) (by decide), hb.keep _ _ _ _ h.an (by decide) (by decide) (by decide) (by decide), hb.keep _ _ _ _ h.td (by decide) (by decide) (by decide) (by decide)⟩
theorem Bx3.set {i j : Nat} {kd a c : Int} {put : ByteArray} {d : Array Value} {u : Value} (h : Bx3 i kd a c put d W) : Bx3 i kd a c put (d.setIfInBounds j u) (W.setCell ⟨i + 2, j, none⟩ u) := by
  have hg := gcell W (i + 2) j u
  exact ⟨(hg.block i (Array.getElem?_eq_some_iff.1 h.ob).1 (fun e => by cases e)).trans h.ob, (hg.block (i + 1) (Array.getElem?_eq_some_iff.1 h.an).1 (fun e => by cases e)).trans h.an, set1 (i := j) u h.td⟩
/-- what done asks of a store behind its call -/
theorem dn_of {P : World → Prop} {kd a c : Int} {put : ByteArray} (hE : Eb B X) (ha : a ≤ 9223372036854775807) {mn mp ms : Nat} (hn : IsNext s a mn) (hp : IsPrev s a mp) (hs : IsSnap s a ms)
    (hP : ∀ W, P W → ∃ bk k, Sp B X b s bk k W) (hB : ∀ W W', P W → Below W.heap.size W W' → P W') (hS : ∀ W i j cur u, P W → X.heap.size ≤ i → W.heap[i]? = some (.cells cur 65 (0, 0)) → P (W.setCell ⟨i, j, none⟩ u)) :
    Dn X.heap.size kd a c put (.pointer (some ⟨b, 0, none⟩)) (fun d W => P W ∧ Bx3 X.heap.size kd a c put d W) (fun W => P W ∧ ∃ cur, W.heap[X.heap.size + 1]? = some (.cells cur 65 (0, 0))) s s.size mn mp ms (cbZ s a) := by
  have pc : ∀ W, P W → Pcs W (.pointer (some ⟨b, 0, none⟩)) s s.size ∧ Ev W := fun W hW => by
    obtain ⟨bk, k, y, K, h⟩ := hP W hW
    have := pcs_of h.st.spt h.st.hold
    rw [h.text] at this
    exact ⟨this, hE.at h.tn⟩
  have bl : ∀ {d : Array Value} {W W' : World}, P W ∧ Bx3 X.heap.size kd a c put d W → Below W.heap.size W W' → P W' ∧ Bx3 X.heap.size kd a c put d W' := fun h hb => ⟨hB _ _ h.1 hb, h.2.below hb⟩
  refine ⟨fun d W h => ⟨h.1, _, h.2.an⟩, fun W j u h => ?_, fun d W h => h.2, fun d W j u h => ⟨hS _ _ _ _ _ h.1 (by omega) h.2.td, h.2.set⟩, fun d W h => bl h ⟨rfl, rfl, rfl, Nat.le_refl _, fun _ _ => rfl⟩, ?_, ?_, ?_, ?_, ?_, ?_⟩
  · obtain ⟨h1, cur, h2⟩ := h
    exact ⟨hS _ _ _ _ _ h1 (by omega) h2, _, set1 (i := j) u h2⟩
  · intro d W h
    obtain ⟨bk, k, y, K, q⟩ := hP W h.1
    have := stext_any q.st.spt q.st.hold
    rw [q.text] at this
    exact this.mono fun e W' ⟨q1, q2⟩ => ⟨q1, bl h q2⟩
  · intro d W h
    obtain ⟨bk, k, q⟩ := hP W h.1
    exact (sp_len q).mono fun e W' ⟨q1, q2⟩ => ⟨q1, bl h q2⟩
  · exact fun d W h => (next_of (pc W h.1).1 (pc W h.1).2 a).mono fun e W' ⟨m, q1, q2, q3⟩ => ⟨by rw [q1, q2.uniq hn], bl h q3⟩
  · exact fun d W h => (prev_of (pc W h.1).1 (pc W h.1).2 a).mono fun e W' ⟨m, q1, q2, q3⟩ => ⟨by rw [q1, q2.uniq hp], bl h q3⟩
  · exact fun d W h => (snap_of (pc W h.1).1 (pc W h.1).2 a ha).mono fun e W' ⟨m, q1, q2, q3⟩ => ⟨by rw [q1, q2.uniq hs], bl h q3⟩
  · exact fun d W h => (bound_of (pc W h.1).1 (pc W h.1).2 a ha).mono fun e W' ⟨q1, q2⟩ => ⟨q1, bl h q2⟩
end
/-- how far a store's text has come on its way to the other backend -/
def far (bk : Int) (k : Sk) (z : Nat) : Int := max 0 (min (hiK k - loK k) (if bk = 1 then (z : Int) - loK k else hiK k - (z : Int)))
/-- the bound of the counts, with what is saved up -/
structure Pot (bk : Int) (k : Sk) (z : Nat) : Prop where
  le : k.mv * (hiK k - loK k) + far bk k z ≤ k.ed + (hiK k - loK k) * (1 + k.fo)
  no : kdK k ≠ 3 → k.mv = 0
theorem Pot.moves {bk : Int} {k : Sk} {z : Nat} (h : Pot bk k z) : k.mv ≤ 1 + k.fo + k.ed / (hiK k - loK k) := by
  have hD : 0 < hiK k - loK k := by have := lo_hi k; omega
  have h0 : 0 ≤ far bk k z := by unfold far; omega
  have h1 := h.le
  generalize hiK k - loK k = D at hD h1 ⊢
  have h2 : (k.mv - (1 + k.fo)) * D ≤ k.ed := by
    have e : (k.mv - (1 + k.fo)) * D = k.mv * D - D * (1 + k.fo) := by rw [Int.sub_mul, Int.mul_comm (1 + k.fo) D]
    omega
  have h3 := (Int.le_ediv_iff_mul_le hD).2 h2
  omega
theorem far_new (bk : Int) (k : Sk) (z : Nat) (h1 : k.mv = 0) (h2 : k.fo = 0) (h3 : k.ed = 0) : Pot bk k z := by
  have hD := lo_hi k
  refine ⟨?_, fun _ => h1⟩
  rw [h1, h2, h3]
  unfold far
  generalize hiK k = H at *
  generalize loK k = L at *
  omega
theorem Pot.force {bk : Int} {k : Sk} {z : Nat} (h : Pot bk k z) (bk' : Int) : Pot bk' k.forced z := by
  have hD := lo_hi k
  refine ⟨?_, h.no⟩
  have h0 : 0 ≤ far bk k z := by unfold far; omega
  have h1 := h.le
  have e1 : hiK k.forced = hiK k := rfl
  have e2 : loK k.forced = loK k := rfl
  have e3 : k.forced.mv = k.mv := rfl
  have e4 : k.forced.ed = k.ed := rfl
  have e5 : k.forced.fo = k.fo + 1 := rfl
  have h2 : far bk' k.forced z ≤ hiK k - loK k := by unfold far; rw [e1, e2]; omega
  rw [e1, e2, e3, e4, e5]
  have e6 : (hiK k - loK k) * (1 + (k.fo + 1)) = (hiK k - loK k) * (1 + k.fo) + (hiK k - loK k) := by rw [← Int.add_assoc, Int.mul_add (hiK k - loK k) (1 + k.fo) 1, Int.mul_one]
  rw [e6]
  omega
theorem Pot.edit {bk : Int} {k : Sk} {z z' : Nat} {n : Int} (h : Pot bk k z) (hb : bk = 1 ∨ bk = 2) (h1 : (z' : Int) ≤ z + n) (h2 : (z : Int) ≤ z' + n) : Pot (smN bk k n z').1 (smN bk k n z').2 z' := by
  have hD := lo_hi k
  have hq := h.le
  unfold smN
  cases hm : misM bk (k.edit n) z' with
  | false =>
    rw [if_neg (by simp)]
    refine ⟨?_, h.no⟩
    have e1 : hiK (k.edit n) = hiK k := rfl
    have e2 : loK (k.edit n) = loK k := rfl
    have e3 : (k.edit n).mv = k.mv := rfl
    have e4 : (k.edit n).ed = k.ed + n := rfl
    have e5 : (k.edit n).fo = k.fo := rfl
    have hf : far bk (k.edit n) z' ≤ far bk k z + n := by
      unfold far
      rw [e1, e2]
      rcases hb with rfl | rfl
      · rw [if_pos rfl, if_pos rfl]; omega
      · rw [if_neg (by omega), if_neg (by omega)]; omega
    show (k.edit n).mv * (hiK (k.edit n) - loK (k.edit n)) + far bk (k.edit n) z' ≤ (k.edit n).ed + (hiK (k.edit n) - loK (k.edit n)) * (1 + (k.edit n).fo)
    rw [e1, e2, e3, e4, e5]
    omega
  | true =>
    rw [if_pos rfl]
    have e1 : hiK (k.edit n).went = hiK k := rfl
    have e2 : loK (k.edit n).went = loK k := rfl
    have e3 : (k.edit n).went.mv = k.mv + 1 := rfl
    have e4 : (k.edit n).went.ed = k.ed + n := rfl
    have e5 : (k.edit n).went.fo = k.fo := rfl
    have e6 : kdK (k.edit n).went = kdK k := rfl
    have e7 : hiK (k.edit n) = hiK k := rfl
    have e8 : loK (k.edit n) = loK k := rfl
    unfold misM at hm
    rw [e7, e8] at hm
    have hk3 : kdK k = 3 := by
      have := (Bool.and_eq_true_iff.1 hm).1
      exact of_decide_eq_true this
    have hm2 := (Bool.and_eq_true_iff.1 hm).2
    refine ⟨?_, fun e => absurd hk3 e⟩
    show (k.edit n).went.mv * (hiK (k.edit n).went - loK (k.edit n).went) + far (3 - bk) (k.edit n).went z' ≤ (k.edit n).went.ed + (hiK (k.edit n).went - loK (k.edit n).went) * (1 + (k.edit n).went.fo)
    unfold far at hq ⊢
    rw [e1, e2, e3, e4, e5, Int.add_mul, Int.one_mul]
    rcases hb with rfl | rfl
    · rw [if_pos rfl] at hm2 hq
      have := of_decide_eq_true hm2
      rw [if_neg (by omega)]
      omega
    · rw [if_neg (by omega)] at hm2 hq
      have := of_decide_eq_true hm2
      rw [if_pos (by omega)]
      omega
end Go.Proofs.YtkmihnjmchfopaaGreatDoor.Sto
namespace Go.Proofs.YtkmihnjmchfopaaGreatDoor.Sto
open Go.RowKit Go.Shelf Bod Wid
set_option maxRecDepth 100000 in
theorem a4_eq (n0 n1 n2 n3 : Int) (W : World) : (Op.equalIn 9999 61 (.agg #[.int .i64 n0, .int .i64 n1, .int .i64 n2, .int .i64 n3]) (.agg #[.int .i64 n0, .int .i64 n1, .int .i64 n2, .int .i64 n3])).run Tryz.prog W = .ok true W := by
  obtain ⟨i, hi⟩ : ∃ i, Tryz.prog.info? 3 = some i := Option.isSome_iff_exists.1 (by kernel_rfl)
  have hu : Tryz.prog.underlying 61 = some (.array 4 3) := by kernel_rfl
  have hc : Tryz.prog.cellsOf 3 = 1 := by kernel_rfl
  refine (run_equalIn_array W 9998 _ _ hu hi).trans ?_
  rw [hc, show List.range 4 = [0, 1, 2, 3] from rfl]
  simp [Op.eqItems, go_sem]
set_option maxRecDepth 100000 in
set_option maxHeartbeats 1000000 in
theorem td_neq (s t : ByteArray) (e n0 n1 n2 n3 : Int) (b : Bool) (m : Sum) (W : World) : (binOp .neq 65 (.agg (tdv s t e n0 n1 n2 n3 b m)) (.agg (tdv s t e n0 n1 n2 n3 b m))).run Tryz.prog W = .ok (.bool false) W := by
  unfold tdv
  simp [go_sem, a4_eq]
theorem cn_field (a b c : Int) (W : World) : (Instr.field 68 (.agg #[.int .i64 a, .int .i64 b, .int .i64 c]) 2).run Tryz.prog W = .ok (.int .i64 c) W := by kernel_rfl
end Go.Proofs.YtkmihnjmchfopaaGreatDoor.Sto
namespace Go.Proofs.YtkmihnjmchfopaaGreatDoor.Sto
open Go.RowKit Go.Shelf Bod Wid

/-- the two boxes of what is handed in -/
structure Bm (w : World) (m o : Mk) (W : World) : Prop where
  b0 : W.heap[w.heap.size]? = some (.cells (mkv m) 44 (0, 0))
  b1 : W.heap[w.heap.size + 1]? = some (.cells (mkv o) 44 (0, 0))
  bel : Below w.heap.size w W
theorem Bm.below {w W X : World} {m o : Mk} (h : Bm w m o W) (hb : Below W.heap.size W X) : Bm w m o X := ⟨(hb.block _ (Array.getElem?_eq_some_iff.1 h.b0).1).trans h.b0, (hb.block _ (Array.getElem?_eq_some_iff.1 h.b1).1).trans h.b1, Below.on h.bel hb⟩
theorem bm_new (w : World) (m o : Mk) : Bm w m o ((w.alloc (.cells (mkv m) 44)).alloc (.cells (mkv o) 44)) := by
  have a1 := (Below.refl _ w).alloc (Nat.le_refl _) (.cells (mkv m) 44)
  have a2 := (Below.refl _ (w.alloc (.cells (mkv m) 44))).alloc (Nat.le_refl _) (.cells (mkv o) 44)
  refine ⟨(a2.block _ (by simp)).trans (World.alloc_heap_new w _), ?_, Below.on a1 a2⟩
  have := World.alloc_heap_new (w.alloc (.cells (mkv m) 44)) (.cells (mkv o) 44)
  simpa using this
theorem Bm.cells {w W : World} {m o : Mk} (h : Bm w m o W) : (W.cell? ⟨w.heap.size, 0, none⟩ = some (.int .i64 m.kd) ∧ W.cell? ⟨w.heap.size, 1, none⟩ = some (.int .i64 m.lo) ∧ W.cell? ⟨w.heap.size, 2, none⟩ = some (.int .i64 m.hi) ∧ W.cell? ⟨w.heap.size, 3, none⟩ = some (.int .i64 m.lm) ∧ W.cell? ⟨w.heap.size, 4, none⟩ = some (.string m.s)) ∧ (W.cell? ⟨w.heap.size + 1, 0, none⟩ = some (.int .i64 o.kd) ∧ W.cell? ⟨w.heap.size + 1, 1, none⟩ = some (.int .i64 o.lo) ∧ W.cell? ⟨w.heap.size + 1, 2, none⟩ = some (.int .i64 o.hi) ∧ W.cell? ⟨w.heap.size + 1, 3, none⟩ = some (.int .i64 o.lm) ∧ W.cell? ⟨w.heap.size + 1, 4, none⟩ = some (.string o.s)) := ⟨box5 h.b0, box5 h.b1⟩
end Go.Proofs.YtkmihnjmchfopaaGreatDoor.Sto
namespace Go.Proofs.YtkmihnjmchfopaaGreatDoor.Sto
open Go.RowKit Go.Shelf Bod Wid
open Gap (Gp gSlice gMea)

/-- a store at X, with its numbers -/
structure Sn (B : Nat → Prop) (X : World) (b : Nat) (s : ByteArray) (bk : Int) (k : Sk) (l n : Nat) (W : World) : Prop where
  sp : Sp B X b s bk k W
  lm : k.limit.toNat = l
  bd : Bd n k
  po : Pot bk k s.size
theorem boxes3 (X : World) (k a c : Int) (put : ByteArray) : Bx3 X.heap.size k a c put (tdv ⟨#[]⟩ ⟨#[]⟩ 0 0 0 0 0 false sm0) (((X.alloc (.cells #[.int .i64 k, .int .i64 a, .int .i64 c, .string put] 59)).alloc (.cells (tdv ⟨#[]⟩ ⟨#[]⟩ 0 0 0 0 0 false sm0) 65)).alloc (.cells (tdv ⟨#[]⟩ ⟨#[]⟩ 0 0 0 0 0 false sm0) 65)) ∧ Below X.heap.size X (((X.alloc (.cells #[.int .i64 k, .int .i64 a, .int .i64 c, .string put] 59)).alloc (.cells (tdv ⟨#[]⟩ ⟨#[]⟩ 0 0 0 0 0 false sm0) 65)).alloc (.cells (tdv ⟨#[]⟩ ⟨#[]⟩ 0 0 0 0 0 false sm0) 65)) := by
  obtain ⟨X1, h1⟩ : ∃ X1, X.alloc (.cells #[.int .i64 k, .int .i64 a, .int .i64 c, .string put] 59) = X1 := ⟨_, rfl⟩
  rw [h1]
  obtain ⟨X2, h2⟩ : ∃ X2, X1.alloc (.cells (tdv ⟨#[]⟩ ⟨#[]⟩ 0 0 0 0 0 false sm0) 65) = X2 := ⟨_, rfl⟩
  rw [h2]
  have b1 : Below X.heap.size X X1 := by rw [← h1]; exact (Below.refl _ X).alloc (Nat.le_refl _) _
  have b2 : Below X1.heap.size X1 X2 := by rw [← h2]; exact (Below.refl _ X1).alloc (Nat.le_refl _) _
  have b3 := (Below.refl _ X2).alloc (Nat.le_refl _) (.cells (tdv ⟨#[]⟩ ⟨#[]⟩ 0 0 0 0 0 false sm0) 65)
  have z1 : X1.heap.size = X.heap.size + 1 := by rw [← h1]; simp
  have z2 : X2.heap.size = X.heap.size + 2 := by rw [← h2]; simp [z1]
  have o1 : X1.heap[X.heap.size]? = some (.cells #[.int .i64 k, .int .i64 a, .int .i64 c, .string put] 59 (0, 0)) := by rw [← h1]; exact World.alloc_heap_new X _
  have o2 : X2.heap[X.heap.size + 1]? = some (.cells (tdv ⟨#[]⟩ ⟨#[]⟩ 0 0 0 0 0 false sm0) 65 (0, 0)) := by rw [← h2, ← z1]; exact World.alloc_heap_new X1 _
  have o3 := World.alloc_heap_new X2 (.cells (tdv ⟨#[]⟩ ⟨#[]⟩ 0 0 0 0 0 false sm0) 65)
  rw [z2] at o3
  exact ⟨⟨(b3.block _ (by omega)).trans ((b2.block _ (by omega)).trans o1), (b3.block _ (by omega)).trans o2, o3⟩, Below.on (Below.on b1 b2) b3⟩
/-- an edit by Replace: what comes of the text and the numbers -/
theorem sn_rep {B : Nat → Prop} {X W : World} {b : Nat} {s : ByteArray} {bk : Int} {k : Sk} {l n : Nat} (h : Sn B X b s bk k l n W) (hE : Eb B X) (hn : n ≤ 16777216) (a c : Int) (put : ByteArray) (ha : -9223372036854775808 ≤ a ∧ a ≤ 9223372036854775807) (hc : c ≤ 9223372036854775807) (hp : put.size ≤ 1048576) (T : ByteArray × ByteArray × Int) (hT : txR s l a c put = T) :
    Calls Tryz.prog 78 #[.pointer (some ⟨b, 0, none⟩), .int .i64 a, .int .i64 c, .string put] W fun e W' => ∃ o r, e = .returned (.tuple #[.string o, .int .i64 r]) ∧ (o = T.2.1 ∧ r = T.2.2) ∧ (∃ bk' k', Sn B X b T.1 bk' k' l (n + 1) W' ∧ k'.ed = k.ed + (if T.2.2 = 0 then c + put.size else 0)) ∧ Fty W W' := by
  have hb := h.sp.bk12
  obtain ⟨q, e1, e2, e3, e4⟩ := h.sp.lim
  have hd : T.2.2 = 0 → 0 ≤ c + (put.size : Int) ∧ c + (put.size : Int) ≤ 4294967296 ∧ (T.1.size : Int) = s.size - c + put.size ∧ 0 ≤ c ∧ c ≤ s.size := fun e => by
    have hq := txR_zero (s := s) (l := l) (a := a) (c := c) (put := put) (by rw [hT]; exact e)
    have h1 : T.1.size = s.size - c.toNat + put.size := by
      rw [← hT] at e ⊢
      unfold txR at e ⊢
      by_cases c1 : a < 0 ∨ c < 0 ∨ (s.size : Int) < a ∨ (s.size : Int) - a < c
      · rw [if_pos c1] at e; cases e
      · rw [if_neg c1] at e ⊢
        by_cases c2 : (l : Int) < (s.size : Int) - c + put.size
        · rw [if_pos c2] at e; cases e
        · rw [if_neg c2]
          simp only [size_app]
          rw [size_extract _ _ _ (by omega), size_extract _ _ _ (Nat.le_refl _)]
          omega
    have := h.lm
    omega
  obtain ⟨b1, b2⟩ := h.bd.edit (bk := bk) T.2.2 (c + put.size) T.1.size (fun e => ⟨(hd e).1, (hd e).2.1⟩)
  have hpo : Pot (smA bk k T.2.2 (c + put.size) T.1.size).1 (smA bk k T.2.2 (c + put.size) T.1.size).2 T.1.size := by
    unfold smA
    by_cases c0 : T.2.2 = 0
    · rw [if_pos c0]
      have := hd c0
      exact h.po.edit hb (by omega) (by omega)
    · rw [if_neg c0]
      have : T.1 = s := by rw [← hT] at c0 ⊢; exact txR_err c0
      rw [this]
      exact h.po
  have hed : (smA bk k T.2.2 (c + put.size) T.1.size).2.ed = k.ed + (if T.2.2 = 0 then c + put.size else 0) := by
    unfold smA smN
    by_cases c0 : T.2.2 = 0
    · rw [if_pos c0, if_pos c0]; split <;> rfl
    · rw [if_neg c0, if_neg c0]; simp
  refine (sp_rep h.sp hE h.bd.fit (h.bd.few hn) a c put ha hc (by omega) T (by rw [h.lm]; exact hT) _ rfl).mono ?_
  rintro e W' ⟨o, r, q1, q2, q3, q4⟩
  exact ⟨o, r, q1, q2, ⟨_, _, ⟨q3, by rw [b2]; exact h.lm, b1, hpo⟩, hed⟩, q4⟩
/-- a store behind a call: its numbers, whatever they are -/
def Sm (B : Nat → Prop) (X : World) (b : Nat) (s : ByteArray) (l n : Nat) (E : Int) (W : World) : Prop := ∃ bk k, Sn B X b s bk k l n W ∧ k.ed = E
section
variable {B : Nat → Prop} {X W W' : World} {b : Nat} {s : ByteArray} {l n : Nat} {E : Int}
theorem Sm.below (h : Sm B X b s l n E W) (hb : Below W.heap.size W W') : Sm B X b s l n E W' := by
  obtain ⟨bk, k, h, e⟩ := h
  exact ⟨bk, k, ⟨h.sp.below hb, h.lm, h.bd, h.po⟩, e⟩
theorem Sm.setbox {i j : Nat} {cur : Array Value} {u : Value} (h : Sm B X b s l n E W) (hi : X.heap.size ≤ i) (hc : W.heap[i]? = some (.cells cur 65 (0, 0))) : Sm B X b s l n E (W.setCell ⟨i, j, none⟩ u) := by
  obtain ⟨bk, k, h, e⟩ := h
  exact ⟨bk, k, ⟨h.sp.setbox hi hc (by decide), h.lm, h.bd, h.po⟩, e⟩
theorem sm_dn (hE : Eb B X) {kd a c : Int} {put : ByteArray} (ha : a ≤ 9223372036854775807) {mn mp ms : Nat} (hn : IsNext s a mn) (hp : IsPrev s a mp) (hs : IsSnap s a ms) :
    Dn X.heap.size kd a c put (.pointer (some ⟨b, 0, none⟩)) (fun d W => Sm B X b s l n E W ∧ Bx3 X.heap.size kd a c put d W) (fun W => Sm B X b s l n E W ∧ ∃ cur, W.heap[X.heap.size + 1]? = some (.cells cur 65 (0, 0))) s s.size mn mp ms (cbZ s a) :=
  dn_of hE ha hn hp hs (fun _ ⟨bk, k, h, _⟩ => ⟨bk, k, h.sp⟩) (fun _ _ h hb => h.below hb) (fun _ _ _ _ _ h hi hc => h.setbox hi hc)
end
theorem txR_size (s : ByteArray) (l : Nat) (a c : Int) (put : ByteArray) : (txR s l a c put).1.size ≤ s.size + put.size := by
  unfold txR
  split
  · simp
  · rename_i c1
    split
    · simp
    · simp only [size_app]
      rw [size_extract _ _ _ (by omega), size_extract _ _ _ (Nat.le_refl _)]
      omega
theorem done_any (s : ByteArray) (l : Nat) (x : Oc) (hx : x.fit) (hp : x.p.size ≤ 1048576) (hs : s.size ≤ 1073741824) : ∃ V s' d, (∃ s0 t e n0 n1 n2 n3 bb mm, V = tdv s0 t e n0 n1 n2 n3 bb mm) ∧ s'.size ≤ s.size + x.p.size ∧ ∀ B X b bk k n, Sn B X b s bk k l n X → Eb B X → n ≤ 16777216 →
    Calls Tryz.prog 28 #[.pointer (some ⟨b, 0, none⟩), opv x] X fun e W' => e = .returned (.agg V) ∧ Sm B X b s' l (n + 1) (k.ed + d) W' := by
  obtain ⟨kd, a, c, put⟩ := x
  obtain ⟨x1, x2, x3⟩ := hx
  dsimp only at x1 x2 x3 hp ⊢
  unfold opv
  dsimp only
  by_cases k1 : kd = 1
  · subst k1
    obtain ⟨T, hT⟩ : ∃ T, txR s l a 0 put = T := ⟨_, rfl⟩
    have hz := txR_size s l a (0) put
    rw [hT] at hz
    obtain ⟨mn, hmn⟩ := next_ex T.1 a
    obtain ⟨mp, hmp⟩ := prev_ex T.1 a
    obtain ⟨ms, hms⟩ := snap_ex T.1 a
    refine ⟨tdv ⟨#[]⟩ T.1 T.2.2 T.1.size mn mp ms (cbZ T.1 a) sm0, T.1, if T.2.2 = 0 then 0 + ((put).size : Int) else 0, ⟨_, _, _, _, _, _, _, _, _, rfl⟩, hz, fun B X b bk k n hn hE hN => ?_⟩
    obtain ⟨hb3, hbl⟩ := boxes3 X 1 a c put
    have h0 : ∀ W, Below X.heap.size X W → Sn B X b s bk k l n W := fun W hW => ⟨hn.sp.below hW, hn.lm, hn.bd, hn.po⟩
    have cr : ∀ W, Below X.heap.size X W → Calls Tryz.prog 78 #[.pointer (some ⟨b, 0, none⟩), .int .i64 a, .int .i64 (0), .string put] W fun e W' => ∃ o r, e = .returned (.tuple #[.string o, .int .i64 r]) ∧ ((o = T.2.1 ∧ r = T.2.2) ∧ Sm B X b T.1 l (n + 1) (k.ed + (if T.2.2 = 0 then 0 + ((put).size : Int) else 0)) W' ∧ Fty W W') := fun W hW =>
      (sn_rep (h0 W hW) hE hN _ _ _ (by omega) (by omega) (by first | exact hp | decide) T hT).mono fun e W' ⟨o, r, q1, q2, ⟨bk', k', q3, q4⟩, q5⟩ => ⟨o, r, q1, q2, ⟨bk', k', q3, q4⟩, q5⟩
    refine (done_1 (sm_dn (c := c) (put := put) (l := l) (n := n + 1) (E := k.ed + (if T.2.2 = 0 then 0 + ((put).size : Int) else 0)) hE x2.2 hmn hmp hms) rfl rfl hb3 ?_).mono fun e W' ⟨q1, q2⟩ => ⟨q1, q2.1⟩
    exact (sins_of (cr _ hbl)).mono fun e W' ⟨o, r, q1, ⟨_, q2⟩, q3, q4⟩ => ⟨by rw [q1, q2], q3, hb3.fty q4⟩
  by_cases k2 : kd = 2
  · subst k2
    obtain ⟨T, hT⟩ : ∃ T, txR s l a c ⟨#[]⟩ = T := ⟨_, rfl⟩
    have hz := txR_size s l a (c) ⟨#[]⟩
    rw [hT] at hz
    obtain ⟨mn, hmn⟩ := next_ex T.1 a
    obtain ⟨mp, hmp⟩ := prev_ex T.1 a
    obtain ⟨ms, hms⟩ := snap_ex T.1 a
    refine ⟨tdv T.2.1 T.1 T.2.2 T.1.size mn mp ms (cbZ T.1 a) sm0, T.1, if T.2.2 = 0 then c + ((⟨#[]⟩ : ByteArray).size : Int) else 0, ⟨_, _, _, _, _, _, _, _, _, rfl⟩, Nat.le_trans hz (by show s.size + 0 ≤ _; omega), fun B X b bk k n hn hE hN => ?_⟩
    obtain ⟨hb3, hbl⟩ := boxes3 X 2 a c put
    have h0 : ∀ W, Below X.heap.size X W → Sn B X b s bk k l n W := fun W hW => ⟨hn.sp.below hW, hn.lm, hn.bd, hn.po⟩
    have cr : ∀ W, Below X.heap.size X W → Calls Tryz.prog 78 #[.pointer (some ⟨b, 0, none⟩), .int .i64 a, .int .i64 (c), .string ⟨#[]⟩] W fun e W' => ∃ o r, e = .returned (.tuple #[.string o, .int .i64 r]) ∧ ((o = T.2.1 ∧ r = T.2.2) ∧ Sm B X b T.1 l (n + 1) (k.ed + (if T.2.2 = 0 then c + ((⟨#[]⟩ : ByteArray).size : Int) else 0)) W' ∧ Fty W W') := fun W hW =>
      (sn_rep (h0 W hW) hE hN _ _ _ (by omega) (by omega) (by first | exact hp | decide) T hT).mono fun e W' ⟨o, r, q1, q2, ⟨bk', k', q3, q4⟩, q5⟩ => ⟨o, r, q1, q2, ⟨bk', k', q3, q4⟩, q5⟩
    refine (done_2 (sm_dn (c := c) (put := put) (l := l) (n := n + 1) (E := k.ed + (if T.2.2 = 0 then c + ((⟨#[]⟩ : ByteArray).size : Int) else 0)) hE x2.2 hmn hmp hms) rfl rfl hb3 ?_).mono fun e W' ⟨q1, q2⟩ => ⟨q1, q2.1⟩
    exact (sdel_of (cr _ hbl)).mono fun e W' ⟨o, r, q1, ⟨q0, q2⟩, q3, q4⟩ => ⟨by rw [q1, q2, q0], q3, hb3.fty q4⟩
  by_cases k3 : kd = 3
  · subst k3
    obtain ⟨T, hT⟩ : ∃ T, txR s l a c put = T := ⟨_, rfl⟩
    have hz := txR_size s l a (c) put
    rw [hT] at hz
    obtain ⟨mn, hmn⟩ := next_ex T.1 a
    obtain ⟨mp, hmp⟩ := prev_ex T.1 a
    obtain ⟨ms, hms⟩ := snap_ex T.1 a
    refine ⟨tdv T.2.1 T.1 T.2.2 T.1.size mn mp ms (cbZ T.1 a) sm0, T.1, if T.2.2 = 0 then c + ((put).size : Int) else 0, ⟨_, _, _, _, _, _, _, _, _, rfl⟩, hz, fun B X b bk k n hn hE hN => ?_⟩
    obtain ⟨hb3, hbl⟩ := boxes3 X 3 a c put
    have h0 : ∀ W, Below X.heap.size X W → Sn B X b s bk k l n W := fun W hW => ⟨hn.sp.below hW, hn.lm, hn.bd, hn.po⟩
    have cr : ∀ W, Below X.heap.size X W → Calls Tryz.prog 78 #[.pointer (some ⟨b, 0, none⟩), .int .i64 a, .int .i64 (c), .string put] W fun e W' => ∃ o r, e = .returned (.tuple #[.string o, .int .i64 r]) ∧ ((o = T.2.1 ∧ r = T.2.2) ∧ Sm B X b T.1 l (n + 1) (k.ed + (if T.2.2 = 0 then c + ((put).size : Int) else 0)) W' ∧ Fty W W') := fun W hW =>
      (sn_rep (h0 W hW) hE hN _ _ _ (by omega) (by omega) (by first | exact hp | decide) T hT).mono fun e W' ⟨o, r, q1, q2, ⟨bk', k', q3, q4⟩, q5⟩ => ⟨o, r, q1, q2, ⟨bk', k', q3, q4⟩, q5⟩
    refine (done_3 (sm_dn (c := c) (put := put) (l := l) (n := n + 1) (E := k.ed + (if T.2.2 = 0 then c + ((put).size : Int) else 0)) hE x2.2 hmn hmp hms) rfl rfl hb3 ?_).mono fun e W' ⟨q1, q2⟩ => ⟨q1, q2.1⟩
    exact (cr _ hbl).mono fun e W' ⟨o, r, q1, ⟨q0, q2⟩, q3, q4⟩ => ⟨by rw [q1, q2, q0], q3, hb3.fty q4⟩
  by_cases k4 : kd = 4
  · subst k4
    obtain ⟨T, hT⟩ : ∃ T, txR s l 0 (s.size : Int) put = T := ⟨_, rfl⟩
    have hz := txR_size s l 0 ((s.size : Int)) put
    rw [hT] at hz
    obtain ⟨mn, hmn⟩ := next_ex T.1 a
    obtain ⟨mp, hmp⟩ := prev_ex T.1 a
    obtain ⟨ms, hms⟩ := snap_ex T.1 a
    refine ⟨tdv ⟨#[]⟩ T.1 T.2.2 T.1.size mn mp ms (cbZ T.1 a) sm0, T.1, if T.2.2 = 0 then (s.size : Int) + ((put).size : Int) else 0, ⟨_, _, _, _, _, _, _, _, _, rfl⟩, hz, fun B X b bk k n hn hE hN => ?_⟩
    obtain ⟨hb3, hbl⟩ := boxes3 X 4 a c put
    have h0 : ∀ W, Below X.heap.size X W → Sn B X b s bk k l n W := fun W hW => ⟨hn.sp.below hW, hn.lm, hn.bd, hn.po⟩
    have cr : ∀ W, Below X.heap.size X W → Calls Tryz.prog 78 #[.pointer (some ⟨b, 0, none⟩), .int .i64 0, .int .i64 ((s.size : Int)), .string put] W fun e W' => ∃ o r, e = .returned (.tuple #[.string o, .int .i64 r]) ∧ ((o = T.2.1 ∧ r = T.2.2) ∧ Sm B X b T.1 l (n + 1) (k.ed + (if T.2.2 = 0 then (s.size : Int) + ((put).size : Int) else 0)) W' ∧ Fty W W') := fun W hW =>
      (sn_rep (h0 W hW) hE hN _ _ _ (by omega) (by omega) (by first | exact hp | decide) T hT).mono fun e W' ⟨o, r, q1, q2, ⟨bk', k', q3, q4⟩, q5⟩ => ⟨o, r, q1, q2, ⟨bk', k', q3, q4⟩, q5⟩
    refine (done_4 (sm_dn (c := c) (put := put) (l := l) (n := n + 1) (E := k.ed + (if T.2.2 = 0 then (s.size : Int) + ((put).size : Int) else 0)) hE x2.2 hmn hmp hms) rfl rfl hb3 ?_).mono fun e W' ⟨q1, q2⟩ => ⟨q1, q2.1⟩
    exact (sreset_of (n := s.size) (put := put) (R := fun o r W' => (o = T.2.1 ∧ r = T.2.2) ∧ Sm B X b T.1 l (n + 1) (k.ed + (if T.2.2 = 0 then (s.size : Int) + (put.size : Int) else 0)) W' ∧ Bx3 X.heap.size 4 a c put (tdv ⟨#[]⟩ ⟨#[]⟩ 0 0 0 0 0 false sm0) W') (sp_len (h0 _ hbl).sp) (fun Y hY => (cr Y (Below.on hbl hY)).mono fun e W' ⟨o, r, q1, q2, q3, q4⟩ => ⟨o, r, q1, q2, q3, (hb3.below hY).fty q4⟩)).mono fun e W' ⟨o, r, q1, ⟨_, q2⟩, q3, q4⟩ => ⟨by rw [q1, q2], q3, q4⟩
  obtain ⟨mn, hmn⟩ := next_ex s a
  obtain ⟨mp, hmp⟩ := prev_ex s a
  obtain ⟨ms, hms⟩ := snap_ex s a
  have stay : ∀ B X b bk k n, Sn B X b s bk k l n X → ∀ W, Below X.heap.size X W → Sm B X b s l (n + 1) (k.ed + 0) W := fun B X b bk k n hn W hW => ⟨bk, k, ⟨hn.sp.below hW, hn.lm, hn.bd.up, hn.po⟩, by omega⟩
  by_cases k6 : kd = 6
  · subst k6
    refine ⟨tdv (gSlice s a c).1 s (gSlice s a c).2 s.size mn mp ms (cbZ s a) sm0, s, 0, ⟨_, _, _, _, _, _, _, _, _, rfl⟩, by omega, fun B X b bk k n hn hE hN => ?_⟩
    obtain ⟨hb3, hbl⟩ := boxes3 X 6 a c put
    refine (done_6 (sm_dn (c := c) (put := put) (l := l) (n := n + 1) (E := k.ed + 0) hE x2.2 hmn hmp hms) rfl rfl hb3 (o := (gSlice s a c).1) (r := (gSlice s a c).2) ?_).mono fun e W' ⟨q1, q2⟩ => ⟨q1, q2.1⟩
    obtain ⟨y, K, q⟩ := hn.sp.below hbl
    have := sslice_any q.st.spt q.st.hold a c
    rw [q.text] at this
    exact this.mono fun e W' ⟨q1, q2⟩ => ⟨q1, stay B X b bk k n hn _ (Below.on hbl q2), hb3.below q2⟩
  by_cases k7 : kd = 7
  · subst k7
    refine ⟨tdv ⟨#[]⟩ s (gMea s a c).2 s.size mn mp ms (cbZ s a) (gMea s a c).1, s, 0, ⟨_, _, _, _, _, _, _, _, _, rfl⟩, by omega, fun B X b bk k n hn hE hN => ?_⟩
    obtain ⟨hb3, hbl⟩ := boxes3 X 7 a c put
    refine (done_7 (sm_dn (c := c) (put := put) (l := l) (n := n + 1) (E := k.ed + 0) hE x2.2 hmn hmp hms) rfl rfl hb3 (m := (gMea s a c).1) (r := (gMea s a c).2) ?_).mono fun e W' ⟨q1, q2⟩ => ⟨q1, q2.1⟩
    obtain ⟨y, K, q⟩ := hn.sp.below hbl
    have := smeas_any q.st.spt q.st.hold (hE.at q.tn) a c
    rw [q.text] at this
    exact this.mono fun e W' ⟨q1, q2⟩ => ⟨q1, stay B X b bk k n hn _ (Below.on hbl q2), hb3.below q2⟩
  refine ⟨tdv ⟨#[]⟩ s 0 s.size mn mp ms (cbZ s a) sm0, s, 0, ⟨_, _, _, _, _, _, _, _, _, rfl⟩, by omega, fun B X b bk k n hn hE hN => ?_⟩
  obtain ⟨hb3, hbl⟩ := boxes3 X kd a c put
  exact (done_0 (sm_dn (c := c) (put := put) (l := l) (n := n + 1) (E := k.ed + 0) hE x2.2 hmn hmp hms) rfl rfl ⟨stay B X b bk k n hn _ hbl, hb3⟩ k1 k2 k3 k4 k6 k7).mono fun e W' ⟨q1, q2⟩ => ⟨q1, q2.1⟩
end Go.Proofs.YtkmihnjmchfopaaGreatDoor.Sto
namespace Go.Proofs.YtkmihnjmchfopaaGreatDoor.Sto
open Go.RowKit Go.Shelf Bod Wid
open Gap (Gp lim)

/-- a store whose text is kept by K -/
def Oz (b : Nat) (s : ByteArray) (l n : Nat) (E : Int) (K : Kp) (W : World) : Prop := ∃ x bk k, Pst W b x k K ∧ (Tx.or x).bk = bk ∧ K.text = s ∧ k.limit.toNat = l ∧ Bd n k ∧ Pot bk k s.size ∧ k.ed = E
def fs (b : Nat) (K : Kp) (j : Nat) : Prop := j = b ∨ K.blk j
/-- boxes of calls stay -/
def Kop (X W : World) : Prop := ∀ (j : Nat) (cur : Array Value), X.heap[j]? = some (.cells cur 59 (0, 0)) → W.heap[j]? = some (.cells cur 59 (0, 0))
theorem Kop.below {X W : World} (h : Below X.heap.size X W) : Kop X W := fun j _ hj => (h.block j (Array.getElem?_eq_some_iff.1 hj).1).trans hj
theorem Kop.trans {X W Y : World} (h : Kop X W) (g : Kop W Y) : Kop X Y := fun j cur hj => g j cur (h j cur hj)
section
variable {b : Nat} {s : ByteArray} {l n : Nat} {E : Int} {K : Kp} {X W : World} {B : Nat → Prop}
theorem Oz.ty (h : Oz b s l n E K X) {j : Nat} (hj : fs b K j) : ∃ cur T, X.heap[j]? = some (.cells cur T (0, 0)) ∧ T ≠ 184 ∧ T ≠ 152 ∧ T ≠ 86 ∧ T ≠ 59 := by
  obtain ⟨x, bk, k, h1, _⟩ := h
  rcases hj with rfl | hj
  · exact ⟨_, _, h1.box, by decide⟩
  · obtain ⟨cur, T, e1, e2⟩ := h1.hold.blk_ty hj
    exact ⟨cur, T, e1, by rcases e2 with rfl | rfl | rfl <;> decide⟩
theorem Oz.lt (h : Oz b s l n E K X) {j : Nat} (hj : fs b K j) : j < X.heap.size := by
  obtain ⟨_, _, e, _⟩ := h.ty hj
  exact (Array.getElem?_eq_some_iff.1 e).1
theorem Oz.below (h : Oz b s l n E K X) (hb : Below X.heap.size X W) : Oz b s l n E K W := by
  obtain ⟨x, bk, k, h1, h2⟩ := h
  exact ⟨x, bk, k, h1.below hb, h2⟩
theorem Oz.start (h : Oz b s l n E K X) : ∃ bk k, Sn (fs b K) X b s bk k l n X ∧ k.ed = E := by
  obtain ⟨x, bk, k, h1, h2, h3, h4, h5, h6, h7⟩ := h
  exact ⟨bk, k, ⟨⟨x, K, h1, h2, h3, .of_below (Below.refl _ X), fun j hj => .inl (.inr hj), .inl (.inl rfl)⟩, h4, h5, h6⟩, h7⟩
theorem Oz.of (h : Sm B X b s l n E W) : ∃ K', Oz b s l n E K' W ∧ Tn B X W ∧ ∀ j, fs b K' j → B j ∨ X.heap.size ≤ j := by
  obtain ⟨bk, k, ⟨⟨x, K, h1⟩, h2, h3, h4⟩, h5⟩ := h
  exact ⟨K, ⟨x, bk, k, h1.st, h1.bk, h1.text, h2, h3, h4, h5⟩, h1.tn, fun j hj => hj.elim (fun e => by rw [e]; exact h1.b0) (h1.lo j)⟩
theorem Oz.keep (h : Oz b s l n E K X) (ht : Tn B X W) (h1 : ∀ j, fs b K j → ¬ B j) (h2 : ∀ j cur T fz, B j → X.heap[j]? = some (.cells cur T fz) → T ≠ 184 ∧ T ≠ 152 ∧ T ≠ 86) : Oz b s l n E K W := by
  have kp : ∀ j, fs b K j → W.heap[j]? = X.heap[j]? := fun j hj => ht.block j (h.lt hj) (h1 j hj)
  obtain ⟨x, bk, k, q1, q2⟩ := h
  exact ⟨x, bk, k, ⟨(kp b (.inl rfl)).trans q1.box, q1.hold.keep ht (fun j hj => h1 j (.inr hj)) h2, q1.lim⟩, q2⟩
end
/-- two stores, apart, both new since w -/
def Tw (w : World) (l a : Nat) (s : ByteArray) (n : Nat) (E : Int) (b : Nat) (s2 : ByteArray) (n2 : Nat) (E2 : Int) (W : World) : Prop := ∃ K K2, Oz a s l n E K W ∧ Oz b s2 l n2 E2 K2 W ∧ Below w.heap.size w W ∧ (∀ j, fs a K j → w.heap.size ≤ j) ∧ (∀ j, fs b K2 j → w.heap.size ≤ j) ∧ ∀ j, fs a K j → ¬ fs b K2 j
section
variable {w W X : World} {l a : Nat} {s : ByteArray} {n : Nat} {E : Int} {b : Nat} {s2 : ByteArray} {n2 : Nat} {E2 : Int}
theorem Tw.symm (h : Tw w l a s n E b s2 n2 E2 W) : Tw w l b s2 n2 E2 a s n E W := by
  obtain ⟨K, K2, h1, h2, h3, h4, h5, h6⟩ := h
  exact ⟨K2, K, h2, h1, h3, h5, h4, fun j a b => h6 j b a⟩
theorem Tw.bel (h : Tw w l a s n E b s2 n2 E2 W) : Below w.heap.size w W := by
  obtain ⟨K, K2, h1, h2, h3, h4, h5, h6⟩ := h
  exact h3
theorem Tw.below (h : Tw w l a s n E b s2 n2 E2 X) (hb : Below X.heap.size X W) : Tw w l a s n E b s2 n2 E2 W := by
  obtain ⟨K, K2, h1, h2, h3, h4, h5, h6⟩ := h
  exact ⟨K, K2, h1.below hb, h2.below hb, Below.on h3 hb, h4, h5, h6⟩
theorem Tw.go (h : Tw w l a s n E b s2 n2 E2 X) (hE : Ev w) : ∃ B bk k, Sn B X a s bk k l n X ∧ k.ed = E ∧ Eb B X ∧ ∀ s' n' E' W, Sm B X a s' l n' E' W → Tw w l a s' n' E' b s2 n2 E2 W ∧ Kop X W := by
  obtain ⟨K, K2, h1, h2, h3, h4, h5, h6⟩ := h
  obtain ⟨bk, k, q1, q2⟩ := h1.start
  refine ⟨fs a K, bk, k, q1, q2, ⟨hE.below h3, fun e => ?_, fun e => ?_⟩, fun s' n' E' W hW => ?_⟩
  · have := h4 _ e; have := hE.l0; omega
  · have := h4 _ e; have := hE.l1; omega
  · obtain ⟨K', q1, q2, q3⟩ := Oz.of hW
    have hz := h3.size
    refine ⟨⟨K', K2, q1, h2.keep q2 (fun j hj e => h6 j e hj) (fun j cur T fz hj hc => ?_), tn_bel h3 q2 h4, fun j hj => (q3 j hj).elim (h4 j) (fun e => by omega), h5, fun j hj e => ?_⟩, fun j cur hj => (q2.block j (Array.getElem?_eq_some_iff.1 hj).1 (fun e => ?_)).trans hj⟩
    · obtain ⟨cur', T', e1, e2, e3, e4, _⟩ := h1.ty hj
      rw [e1] at hc; injection hc with hc; injection hc with _ t _; subst t; exact ⟨e2, e3, e4⟩
    · have := h2.lt e
      exact (q3 j hj).elim (fun q => h6 j q e) (fun q => by omega)
    · obtain ⟨cur', T', e1, _, _, _, e5⟩ := h1.ty e
      rw [e1] at hj; injection hj with hj; injection hj with _ t _; exact e5 t
/-- both behind one call of done -/
theorem done_tw (s : ByteArray) (l : Nat) (x : Oc) (hx : x.fit) (hp : x.p.size ≤ 1048576) (hs : s.size ≤ 1073741824) : ∃ V s' d, (∃ s0 t e n0 n1 n2 n3 bb mm, V = tdv s0 t e n0 n1 n2 n3 bb mm) ∧ s'.size ≤ s.size + x.p.size ∧ ∀ w a n E b s2 n2 E2 X, Ev w → n ≤ 16777216 → Tw w l a s n E b s2 n2 E2 X →
    Calls Tryz.prog 28 #[.pointer (some ⟨a, 0, none⟩), opv x] X fun e W' => e = .returned (.agg V) ∧ Tw w l a s' (n + 1) (E + d) b s2 n2 E2 W' ∧ Kop X W' := by
  obtain ⟨V, s', d, h0, h1, h2⟩ := done_any s l x hx hp hs
  refine ⟨V, s', d, h0, h1, fun w a n E b s2 n2 E2 X hE hn h => ?_⟩
  obtain ⟨B, bk, k, q1, q2, q3, q4⟩ := h.go hE
  refine (h2 B X a bk k n q1 q3 hn).mono fun e W' ⟨e1, e2⟩ => ⟨e1, ?_⟩
  rw [q2] at e2
  exact q4 _ _ _ _ e2
/-- Switch, of the first -/
theorem sw_tw (h : Tw w l a s n E b s2 n2 E2 X) (hE : Ev w) (hn : n ≤ 16777216) (to : Int) : Calls Tryz.prog 27 #[.pointer (some ⟨a, 0, none⟩), .int .i64 to] X fun e W' => e = .returned (.int .i64 (if to = 1 ∨ to = 2 then 0 else 13)) ∧ Tw w l a s (n + 1) E b s2 n2 E2 W' ∧ Kop X W' := by
  obtain ⟨B, bk, k, q1, q2, q3, q4⟩ := h.go hE
  obtain ⟨b1, b2⟩ := q1.bd.sw (bk := bk) to
  have e0 : (smS bk k to).1 = if to = 1 ∨ to = 2 then 0 else 13 := by
    unfold smS
    split
    · split <;> rfl
    · rfl
  have e1 : (smS bk k to).2.2.ed = k.ed := by
    unfold smS
    split
    · split <;> rfl
    · rfl
  have e2 : Pot (smS bk k to).2.1 (smS bk k to).2.2 s.size := by
    unfold smS
    split
    · split
      · exact q1.po
      · exact q1.po.force _
    · exact q1.po
  refine (sp_sw q1.sp q3 (q1.bd.few hn) to _ rfl).mono ?_
  rintro e W' ⟨p1, p2, p3⟩
  refine ⟨by rw [p1, e0], q4 _ _ _ _ ⟨_, _, ⟨p2, by rw [b2]; exact q1.lm, b1, e2⟩, by rw [e1, q2]⟩⟩
/-- what the law's bound asks of a store -/
theorem ask_tw (h : Tw w l a s n E b s2 n2 E2 X) (hn : n ≤ 16777216) : ∃ mv fo lo hi kd : Int, (0 ≤ lo ∧ lo < hi ∧ hi ≤ 9223372036854775807) ∧ (0 ≤ mv ∧ mv ≤ 16777216) ∧ (0 ≤ fo ∧ fo ≤ 16777216) ∧ (0 ≤ E ∧ E ≤ 4611686018427387904) ∧ mv ≤ 1 + fo + E / (hi - lo) ∧ (0 < mv → kd = 3) ∧
    (∀ Y, Below X.heap.size X Y → Calls Tryz.prog 29 #[.pointer (some ⟨a, 0, none⟩)] Y fun e W' => e = .returned (.agg #[.int .i64 mv, .int .i64 fo, .int .i64 E]) ∧ Below Y.heap.size Y W') ∧
    (∀ Y, Below X.heap.size X Y → Calls Tryz.prog 30 #[.pointer (some ⟨a, 0, none⟩)] Y fun e W' => e = .returned (.tuple #[.int .i64 lo, .int .i64 hi]) ∧ Below Y.heap.size Y W') ∧
    (∀ Y, Below X.heap.size X Y → Calls Tryz.prog 31 #[.pointer (some ⟨a, 0, none⟩)] Y fun e W' => e = .returned (.int .i64 kd) ∧ Below Y.heap.size Y W') := by
  obtain ⟨K, K2, ⟨x, bk, k, h1, h2, h3, h4, h5, h6, rfl⟩, _⟩ := h
  have f := h5.few hn
  have hq := lo_hi k
  have hq2 : 0 ≤ loK k := by unfold loK; omega
  have hq3 : hiK k ≤ 9223372036854775807 := by have := h5.fit.1; unfold hiK loK; omega
  refine ⟨k.mv, k.fo, loK k, hiK k, kdK k, ⟨hq2, hq, hq3⟩, ⟨h5.mv0, by have := h5.mv; omega⟩, ⟨h5.fo0, by have := h5.fo; omega⟩, ⟨f.1, f.2.1⟩, h6.moves, fun e => ?_, fun Y hY => ?_, fun Y hY => ?_, fun Y hY => ?_⟩
  · by_cases c : kdK k = 3
    · exact c
    · have := h6.no c; omega
  · exact counts_any (h1.below hY).spt
  · exact thr_any (h1.below hY).spt h5.fit
  · exact kind_any (h1.below hY).spt
end
end Go.Proofs.YtkmihnjmchfopaaGreatDoor.Sto
namespace Go.Proofs.YtkmihnjmchfopaaGreatDoor.Sto
open Go.RowKit Go.Shelf Bod Wid
open Gap (Gp lim)
open Two (obk_drop)

theorem Oz.new {w W : World} {s : ByteArray} {k : Sk} {bk : Int} {b : Nat} (h : Fresh w s k bk b W) (h0 : k.mv = 0 ∧ k.fo = 0 ∧ k.ed = 0) (hf : k.fit) : ∃ K, Oz b s k.limit.toNat 0 0 K W ∧ Below w.heap.size w W ∧ ∀ j, fs b K j → w.heap.size ≤ j := by
  obtain ⟨y, K, h1, h2, h3, h4, h5, h6, h7⟩ := h
  refine ⟨K, ⟨some y, bk, k, h1, h2, h3, rfl, ⟨hf, by omega, by omega, by omega, by omega, by omega, by omega⟩, far_new _ _ _ h0.1 h0.2.1 h0.2.2, h0.2.2⟩, h5, fun j hj => hj.elim (fun e => by rw [e]; exact h7) (fun e => new_blk h6 e)⟩
theorem Oz.up {b : Nat} {s : ByteArray} {l n : Nat} {E : Int} {K : Kp} {W : World} (h : Oz b s l n E K W) : Oz b s l (n + 1) E K W := by
  obtain ⟨x, bk, k, h1, h2, h3, h4, h5, h6⟩ := h
  exact ⟨x, bk, k, h1, h2, h3, h4, h5.up, h6⟩
theorem Tw.up {w W : World} {l a : Nat} {s : ByteArray} {n : Nat} {E : Int} {b : Nat} {s2 : ByteArray} {n2 : Nat} {E2 : Int} (h : Tw w l a s n E b s2 n2 E2 W) : Tw w l a s (n + 1) E b s2 n2 E2 W := by
  obtain ⟨K, K2, h1, h2⟩ := h
  exact ⟨K, K2, h1.up, h2⟩
/-- both stores behind i calls: the same text, the same bytes edited -/
def Ts (w : World) (l a b i z : Nat) (W : World) : Prop := ∃ s E, Tw w l a s i E b s i E W ∧ s.size ≤ z
theorem Ts.bel {w W : World} {l a b i z : Nat} (h : Ts w l a b i z W) : Below w.heap.size w W := by obtain ⟨s, E, h, _⟩ := h; exact h.bel
theorem Ts.below {w W X : World} {l a b i z : Nat} (h : Ts w l a b i z X) (hb : Below X.heap.size X W) : Ts w l a b i z W := by obtain ⟨s, E, h, q⟩ := h; exact ⟨s, E, h.below hb, q⟩
theorem ts_same {w W : World} {l a b i z : Nat} (h : Ts w l a b i z W) : Calls Tryz.prog 32 #[.iface 46 (.pointer (some ⟨a, 0, none⟩)), .iface 46 (.pointer (some ⟨b, 0, none⟩))] W fun e W' => e = .returned (.bool true) ∧ Below w.heap.size w W' := by
  obtain ⟨s, E, ⟨K, K2, ⟨x, bk, k, h1, _, h2, _⟩, ⟨x', bk', k', h3, _, h4, _⟩, h5, _⟩, _⟩ := h
  have t1 := tl_store h1.spt h1.hold
  have t2 := tl_store h3.spt h3.hold
  rw [h2] at t1
  rw [h4] at t2
  refine (same_any (.inr t1) (.inr t2)).mono fun e W' ⟨q1, q2⟩ => ⟨by rw [q1]; simp, Below.on h5 q2⟩
/-- two stores and the box of a call -/
def Gb (w : World) (l a : Nat) (s : ByteArray) (n : Nat) (E : Int) (b : Nat) (s2 : ByteArray) (n2 : Nat) (E2 : Int) (jo : Nat) (x : Oc) (W : World) : Prop := Tw w l a s n E b s2 n2 E2 W ∧ W.heap[jo]? = some (.cells #[.int .i64 x.kd, .int .i64 x.a, .int .i64 x.c, .string x.p] 59 (0, 0))
theorem Gb.low {w W X : World} {l a : Nat} {s : ByteArray} {n : Nat} {E : Int} {b : Nat} {s2 : ByteArray} {n2 : Nat} {E2 : Int} {jo : Nat} {x : Oc} (h : Gb w l a s n E b s2 n2 E2 jo x X) (hb : Below X.heap.size X W) : Gb w l a s n E b s2 n2 E2 jo x W := ⟨h.1.below hb, Kop.below hb _ _ h.2⟩
theorem Gb.box {w W : World} {l a : Nat} {s : ByteArray} {n : Nat} {E : Int} {b : Nat} {s2 : ByteArray} {n2 : Nat} {E2 : Int} {jo : Nat} {x : Oc} (h : Gb w l a s n E b s2 n2 E2 jo x W) : (W.cell? ⟨jo, 0, none⟩ = some (.int .i64 x.kd) ∧ W.cell? ⟨jo, 1, none⟩ = some (.int .i64 x.a) ∧ W.cell? ⟨jo, 2, none⟩ = some (.int .i64 x.c) ∧ W.cell? ⟨jo, 3, none⟩ = some (.string x.p)) ∧ jo < W.heap.size := ⟨(box4 h.2).1, (Array.getElem?_eq_some_iff.1 h.2).1⟩
theorem drew_low (X : World) : Below X.heap.size X X.drew := ⟨rfl, rfl, rfl, Nat.le_refl _, fun _ _ => rfl⟩
set_option maxRecDepth 100000 in
set_option maxHeartbeats 4000000 in
theorem unseen_walk (m o : Mk) (l : List Oc) (ad : Option Addr) (N cap : Nat) (hN : l.length = N) (hm : m.fit) (ho : o.fit) (hl : ∀ x ∈ l, x.fit) (hz : m.s.size + obk l ≤ 1048576) (w : World) (hE : Ev w)
    (hr : ∀ i x, l[i]? = some x → ∃ gs os, ad = some ⟨gs, os, none⟩ ∧ ∀ X, Below w.heap.size w X → X.cell? ⟨gs, os + i * 4, none⟩ = some (.int .i64 x.kd) ∧ X.cell? ⟨gs, os + i * 4 + 1, none⟩ = some (.int .i64 x.a) ∧ X.cell? ⟨gs, os + i * 4 + 2, none⟩ = some (.int .i64 x.c) ∧ X.cell? ⟨gs, os + i * 4 + 3, none⟩ = some (.string x.p)) (hs : m.s.size ≤ lim m.lm) :
    Calls Tryz.prog 7 #[.agg (mkv m), .agg (mkv o), .slice ad N cap] w fun e W' => e = .returned (.bool true) ∧ Below w.heap.size w W' := by
  obtain ⟨W0, hW0⟩ : ∃ W0, (w.alloc (.cells (mkv m) 44)).alloc (.cells (mkv o) 44) = W0 := ⟨_, rfl⟩
  have hm0 : Bm w m o W0 := by rw [← hW0]; exact bm_new w m o
  have HC : Hid (∀ W, Bm w m o W → (W.cell? ⟨w.heap.size, 0, none⟩ = some (.int .i64 m.kd) ∧ W.cell? ⟨w.heap.size, 1, none⟩ = some (.int .i64 m.lo) ∧ W.cell? ⟨w.heap.size, 2, none⟩ = some (.int .i64 m.hi) ∧ W.cell? ⟨w.heap.size, 3, none⟩ = some (.int .i64 m.lm) ∧ W.cell? ⟨w.heap.size, 4, none⟩ = some (.string m.s)) ∧ (W.cell? ⟨w.heap.size + 1, 0, none⟩ = some (.int .i64 o.kd) ∧ W.cell? ⟨w.heap.size + 1, 1, none⟩ = some (.int .i64 o.lo) ∧ W.cell? ⟨w.heap.size + 1, 2, none⟩ = some (.int .i64 o.hi) ∧ W.cell? ⟨w.heap.size + 1, 3, none⟩ = some (.int .i64 o.lm) ∧ W.cell? ⟨w.heap.size + 1, 4, none⟩ = some (.string o.s))) := fun W h => h.cells
  have CF : Hid (Calls Tryz.prog 20 #[] W0 fun e W' => e = .returned (.bool true) ∧ Hid (Bm w m o W')) := (fixed_any W0 (hE.below hm0.bel)).mono fun e W' ⟨q1, q2⟩ => ⟨q1, hm0.below q2⟩
  have CA : Hid (∀ W, Hid (Bm w m o W) → Calls Tryz.prog 26 #[.int .i64 m.kd, .int .i64 m.lo, .int .i64 m.hi, .int .i64 m.lm, .string m.s] W fun e W' => ∃ a, e = .returned (.tuple #[.pointer (some ⟨a, 0, none⟩), .int .i64 0]) ∧ Hid (Bm w m o W' ∧ ∃ K, Oz a m.s (lim m.lm) 0 0 K W' ∧ ∀ j, fs a K j → w.heap.size ≤ j)) := fun W hW => by
    refine (snew_ok W m.kd m.lo m.hi m.lm m.s hs ⟨hm.2.2.1.2, hm.2.2.1.1, hm.2.1.2, hm.2.1.1⟩ (hE.below hW.out.bel)).mono ?_
    rintro e W' ⟨a, q1, q2⟩
    obtain ⟨K, q3, q4, q5⟩ := Oz.new q2 ⟨rfl, rfl, rfl⟩ ⟨hm.2.2.1.2, hm.2.2.1.1, hm.2.1.2, hm.2.1.1⟩
    have hz := hW.out.bel.size
    exact ⟨a, q1, hW.out.below q4, K, q3, fun j hj => Nat.le_trans hz (q5 j hj)⟩
  have CB : Hid (∀ W a, Hid (Bm w m o W ∧ ∃ K, Oz a m.s (lim m.lm) 0 0 K W ∧ ∀ j, fs a K j → w.heap.size ≤ j) → Calls Tryz.prog 26 #[.int .i64 o.kd, .int .i64 o.lo, .int .i64 o.hi, .int .i64 m.lm, .string m.s] W fun e W' => ∃ b, e = .returned (.tuple #[.pointer (some ⟨b, 0, none⟩), .int .i64 0]) ∧ Hid (Ts w (lim m.lm) a b 0 m.s.size W')) := fun W a ⟨hW, K, k1, k2⟩ => by
    refine (snew_ok W o.kd o.lo o.hi m.lm m.s hs ⟨ho.2.2.1.2, ho.2.2.1.1, ho.2.1.2, ho.2.1.1⟩ (hE.below hW.bel)).mono ?_
    rintro e W' ⟨b, q1, q2⟩
    obtain ⟨K2, q3, q4, q5⟩ := Oz.new q2 ⟨rfl, rfl, rfl⟩ ⟨ho.2.2.1.2, ho.2.2.1.1, ho.2.1.2, ho.2.1.1⟩
    have hz := hW.bel.size
    exact ⟨b, q1, m.s, 0, ⟨K, K2, k1.below q4, q3, Below.on hW.bel q4, k2, fun j hj => Nat.le_trans hz (q5 j hj), fun j h1 h2 => by have := k1.lt h1; have := q5 j h2; omega⟩, Nat.le_refl _⟩
  obtain ⟨L, hL⟩ : ∃ L, lim m.lm = L := ⟨_, rfl⟩
  rw [hL] at CA CB
  have HE : Hid (Ev w) := hE
  have HM : Hid (Tryz.prog.follows .mixedOrders = true) := by show _ = _; kernel_rfl
  have HN : Hid (l.length = N ∧ (∀ x ∈ l, x.fit) ∧ m.s.size + obk l ≤ 1048576) := ⟨hN, hl, hz⟩
  have hNb : N ≤ 1048576 := by have := obk_len l; omega
  have HR : Hid (∀ i x, l[i]? = some x → ∃ gs os, ad = some ⟨gs, os, none⟩ ∧ ∀ X, Below w.heap.size w X → X.cell? ⟨gs, os + i * 4, none⟩ = some (.int .i64 x.kd) ∧ X.cell? ⟨gs, os + i * 4 + 1, none⟩ = some (.int .i64 x.a) ∧ X.cell? ⟨gs, os + i * 4 + 2, none⟩ = some (.int .i64 x.c) ∧ X.cell? ⟨gs, os + i * 4 + 3, none⟩ = some (.string x.p)) := hr
  obtain ⟨⟨c0, c1, c2, c3, c4⟩, d0, d1, d2, d3, d4⟩ := HC.out _ hm0
  unfold mkv at hW0 ⊢
  clear hm0 hE hm ho hs hl hz hr hN hL
  go_enter Tryz.func7, Tryz.ntmps7
  go_wp2_with (first
    | (go_at_call 20; refine CF.out.mono ?_; clear CF c0 c1 c2 c3 c4 d0 d1 d2 d3 d4 hW0; rintro e w1 ⟨rfl, HB⟩; obtain ⟨⟨c0, c1, c2, c3, c4⟩, d0, d1, d2, d3, d4⟩ := HC.out _ HB.out)
    | (go_at_call 26; refine (CA.out _ HB).mono ?_; clear CA HB c0 c1 c2 c3 c4 d0 d1 d2 d3 d4; rintro e w2 ⟨a, rfl, HA⟩; obtain ⟨⟨c0, c1, c2, c3, c4⟩, d0, d1, d2, d3, d4⟩ := HC.out _ HA.out.1)
    | (go_at_call 26; refine (CB.out _ _ HA).mono ?_; clear CB HA c0 c1 c2 c3 c4 d0 d1 d2 d3 d4 HC; rintro e w3 ⟨b, rfl, HT⟩))
  go_loopw [11] (fun t wr => ∃ i : Nat, i ≤ N ∧ t = .int .i64 i ∧ ∃ z, Hid (z + obk (l.drop i) ≤ m.s.size + obk l ∧ Ts w L a b i z wr)) (fun t _ => N - (intOf t).toNat)
  case atStart => exact ⟨0, Nat.zero_le _, rfl, m.s.size, Nat.le_refl _, HT.out⟩
  case round =>
    obtain ⟨i, hi, rfl, z, HP⟩ := hrel
    clear HT
    by_cases hlt : i < N
    · obtain ⟨x, hxk⟩ : ∃ x, l[i]? = some x := ⟨l[i]'(by rw [HN.out.1]; exact hlt), List.getElem?_eq_getElem _⟩
      have hxf := HN.out.2.1 x (List.mem_of_getElem? hxk)
      obtain ⟨gs, os, rfl, hcx⟩ := HR.out i x hxk
      have hob := obk_at hxk
      have hb1 := HN.out.2.2
      obtain ⟨hb2, s, E, hT, hsz⟩ := HP.out
      obtain ⟨y0, y1, y2, y3⟩ := hcx _ hT.bel
      obtain ⟨jo, hjo⟩ : ∃ jo, wr.heap.size = jo := ⟨_, rfl⟩
      obtain ⟨WO, hWO⟩ : ∃ WO, wr.alloc (.cells #[.int .i64 x.kd, .int .i64 x.a, .int .i64 x.c, .string x.p] 59) = WO := ⟨_, rfl⟩
      have hbO : Below wr.heap.size wr WO := by rw [← hWO]; exact (Below.refl _ wr).alloc (Nat.le_refl _) _
      have hg : Gb w L a s i E b s i E jo x WO := ⟨hT.below hbO, by rw [← hWO, ← hjo]; exact World.alloc_heap_new wr _⟩
      have HG : Hid (Gb w L a s i E b s i E jo x WO) := hg
      obtain ⟨⟨z0, z1, z2, z3⟩, hlo⟩ := hg.box
      have hdr := obk_drop l (i + 1)
      by_cases k5 : x.kd = 5
      · have HF : Hid (∀ X, Hid (Gb w L a s (i + 1) E b s (i + 1) E jo x X) → ∃ z', Hid (z' + obk (l.drop (i + 1)) ≤ m.s.size + obk l ∧ Ts w L a b (i + 1) z' X)) := fun X hX => ⟨z, by omega, s, E, hX.out.1, hsz⟩
        have CW : Hid (Calls Tryz.prog 27 #[.pointer (some ⟨b, 0, none⟩), .int .i64 x.a] WO fun e W' => e = .returned (.int .i64 (if x.a = 1 ∨ x.a = 2 then 0 else 13)) ∧ Hid (Gb w L a s (i + 1) E b s (i + 1) E jo x W')) := (sw_tw hg.1.symm HE.out (by omega) x.a).mono fun e W' ⟨q1, q2, q3⟩ => ⟨q1, q2.symm.up, q3 _ _ hg.2⟩
        rw [k5] at z0 y0
        have HZ : Hid (∀ X, Hid (Gb w L a s (i + 1) E b s (i + 1) E jo x X) → X.cell? ⟨jo, 1, none⟩ = some (.int .i64 x.a) ∧ jo < X.heap.size) := fun X hX => ⟨hX.out.box.1.2.1, hX.out.box.2⟩
        rw [k5] at hWO
        clear hcx hxk hxf hob hb1 hb2 hT hsz hbO hg HG hdr HP HN HR HE
        subst hjo
        by_cases ka : x.a = 1 ∨ x.a = 2
        · rw [if_pos ka] at CW
          go_wp2_with (go_at_call 27; refine CW.out.mono ?_; clear CW z0 z1 z2 z3 y0 y1 y2 y3 hlo hWO; rintro e w4 ⟨rfl, HG⟩; obtain ⟨z1, hlo⟩ := HZ.out _ HG)
          obtain ⟨z', hz'⟩ := HF.out _ HG
          exact ⟨⟨i + 1, by omega, by go_num, z', hz'⟩, by simp [intOf]; omega⟩
        · rw [if_neg ka] at CW
          have ka1 : (x.a == 1) = false := by simp; omega
          have ka2 : (x.a == 2) = false := by simp; omega
          go_wp2_with (go_at_call 27; refine CW.out.mono ?_; clear CW z0 z1 z2 z3 y0 y1 y2 y3 hlo hWO; rintro e w4 ⟨rfl, HG⟩; obtain ⟨z1, hlo⟩ := HZ.out _ HG)
          obtain ⟨z', hz'⟩ := HF.out _ HG
          exact ⟨⟨i + 1, by omega, by go_num, z', hz'⟩, by simp [intOf]; omega⟩
      · have k5' : (x.kd == 5) = false := by simp [k5]
        obtain ⟨V, s', d, ⟨s0, t0, e0, m0, m1, m2, m3, bb, mm, hV⟩, hs', hD⟩ := done_tw s L x hxf (by omega) (by omega)
        have DA : Hid (∀ X, Gb w L a s i E b s i E jo x X → Calls Tryz.prog 28 #[.pointer (some ⟨a, 0, none⟩), .agg #[.int .i64 x.kd, .int .i64 x.a, .int .i64 x.c, .string x.p]] X fun e W' => e = .returned (.agg V) ∧ Hid (Gb w L a s' (i + 1) (E + d) b s i E jo x W')) := fun X hX => (hD w a i E b s i E X HE.out (by omega) hX.1).mono fun e W' ⟨q1, q2, q3⟩ => ⟨q1, q2, q3 _ _ hX.2⟩
        have DB : Hid (∀ X, Hid (Gb w L a s' (i + 1) (E + d) b s i E jo x X) → Calls Tryz.prog 28 #[.pointer (some ⟨b, 0, none⟩), .agg #[.int .i64 x.kd, .int .i64 x.a, .int .i64 x.c, .string x.p]] X fun e W' => e = .returned (.agg V) ∧ Hid (Gb w L a s' (i + 1) (E + d) b s' (i + 1) (E + d) jo x W')) := fun X hX => (hD w b i E a s' (i + 1) (E + d) X HE.out (by omega) hX.out.1.symm).mono fun e W' ⟨q1, q2, q3⟩ => ⟨q1, q2.symm, q3 _ _ hX.out.2⟩
        have AK : Hid (∀ X, Hid (Gb w L a s' (i + 1) (E + d) b s' (i + 1) (E + d) jo x X) → (∃ mv fo lo hi kd : Int, ((0 ≤ lo ∧ lo < hi ∧ hi ≤ 9223372036854775807) ∧ (0 ≤ mv ∧ mv ≤ 16777216) ∧ (0 ≤ fo ∧ fo ≤ 16777216) ∧ (0 ≤ E + d ∧ E + d ≤ 4611686018427387904) ∧ mv ≤ 1 + fo + (E + d) / (hi - lo) ∧ (0 < mv → kd = 3)) ∧ Hid ((∀ Y, Below X.heap.size X Y → Calls Tryz.prog 29 #[.pointer (some ⟨a, 0, none⟩)] Y fun e W' => e = .returned (.agg #[.int .i64 mv, .int .i64 fo, .int .i64 (E + d)]) ∧ Below Y.heap.size Y W') ∧ (∀ Y, Below X.heap.size X Y → Calls Tryz.prog 30 #[.pointer (some ⟨a, 0, none⟩)] Y fun e W' => e = .returned (.tuple #[.int .i64 lo, .int .i64 hi]) ∧ Below Y.heap.size Y W') ∧ (∀ Y, Below X.heap.size X Y → Calls Tryz.prog 31 #[.pointer (some ⟨a, 0, none⟩)] Y fun e W' => e = .returned (.int .i64 kd) ∧ Below Y.heap.size Y W'))) ∧
            (∃ mv fo lo hi kd : Int, ((0 ≤ lo ∧ lo < hi ∧ hi ≤ 9223372036854775807) ∧ (0 ≤ mv ∧ mv ≤ 16777216) ∧ (0 ≤ fo ∧ fo ≤ 16777216) ∧ (0 ≤ E + d ∧ E + d ≤ 4611686018427387904) ∧ mv ≤ 1 + fo + (E + d) / (hi - lo) ∧ (0 < mv → kd = 3)) ∧ Hid ((∀ Y, Below X.heap.size X Y → Calls Tryz.prog 29 #[.pointer (some ⟨b, 0, none⟩)] Y fun e W' => e = .returned (.agg #[.int .i64 mv, .int .i64 fo, .int .i64 (E + d)]) ∧ Below Y.heap.size Y W') ∧ (∀ Y, Below X.heap.size X Y → Calls Tryz.prog 30 #[.pointer (some ⟨b, 0, none⟩)] Y fun e W' => e = .returned (.tuple #[.int .i64 lo, .int .i64 hi]) ∧ Below Y.heap.size Y W') ∧ (∀ Y, Below X.heap.size X Y → Calls Tryz.prog 31 #[.pointer (some ⟨b, 0, none⟩)] Y fun e W' => e = .returned (.int .i64 kd) ∧ Below Y.heap.size Y W')))) := fun X hX => by
          obtain ⟨mv, fo, lo, hi, kd, f1, f2, f3, f4, f5, f6, f7⟩ := ask_tw hX.out.1 (by omega)
          obtain ⟨mv2, fo2, lo2, hi2, kd2, g1, g2, g3, g4, g5, g6, g7⟩ := ask_tw hX.out.1.symm (by omega)
          exact ⟨⟨mv, fo, lo, hi, kd, ⟨f1, f2, f3, f4, f5, f6⟩, f7⟩, ⟨mv2, fo2, lo2, hi2, kd2, ⟨g1, g2, g3, g4, g5, g6⟩, g7⟩⟩
        have HF : Hid (∀ X Y, Hid (Gb w L a s' (i + 1) (E + d) b s' (i + 1) (E + d) jo x X) → Below X.heap.size X Y → ∃ z', Hid (z' + obk (l.drop (i + 1)) ≤ m.s.size + obk l ∧ Ts w L a b (i + 1) z' Y)) := fun X Y hX hb => ⟨z + x.p.size, by omega, s', E + d, hX.out.1.below hb, by omega⟩
        have hneq : ∀ W, (binOp .neq 65 (.agg V) (.agg V)).run Tryz.prog W = .ok (.bool false) W := fun W => by rw [hV]; exact td_neq _ _ _ _ _ _ _ _ _ W
        have hfl := cn_field
        have HS : Hid (∀ X, Gb w L a s i E b s i E jo x X → X.cell? ⟨jo, 0, none⟩ = some (.int .i64 x.kd) ∧ X.cell? ⟨jo, 1, none⟩ = some (.int .i64 x.a) ∧ X.cell? ⟨jo, 2, none⟩ = some (.int .i64 x.c) ∧ X.cell? ⟨jo, 3, none⟩ = some (.string x.p)) := fun X hX => hX.box.1
        have HS1 : Hid (∀ X, Hid (Gb w L a s' (i + 1) (E + d) b s i E jo x X) → X.cell? ⟨jo, 0, none⟩ = some (.int .i64 x.kd) ∧ X.cell? ⟨jo, 1, none⟩ = some (.int .i64 x.a) ∧ X.cell? ⟨jo, 2, none⟩ = some (.int .i64 x.c) ∧ X.cell? ⟨jo, 3, none⟩ = some (.string x.p)) := fun X hX => hX.out.box.1
        have HS2 : Hid (∀ X Y, Hid (Gb w L a s' (i + 1) (E + d) b s' (i + 1) (E + d) jo x X) → Below X.heap.size X Y → Y.cell? ⟨jo, 0, none⟩ = some (.int .i64 x.kd) ∧ Y.cell? ⟨jo, 1, none⟩ = some (.int .i64 x.a) ∧ Y.cell? ⟨jo, 2, none⟩ = some (.int .i64 x.c) ∧ Y.cell? ⟨jo, 3, none⟩ = some (.string x.p)) := fun X Y hX hb => (hX.out.low hb).box.1
        clear hcx hxk hxf hob hb1 hb2 hT hsz hbO hg hdr HP HN HR HE hs' hD hV
        subst hjo
        go_wp2
        go_region_held3 (fun w' => w'.cell? ⟨wr.heap.size, 0, none⟩ = some (.int .i64 x.kd) ∧ w'.cell? ⟨wr.heap.size, 1, none⟩ = some (.int .i64 x.a) ∧ w'.cell? ⟨wr.heap.size, 2, none⟩ = some (.int .i64 x.c) ∧ w'.cell? ⟨wr.heap.size, 3, none⟩ = some (.string x.p)) (first | exact HS.out _ HG.out | exact HS.out _ (HG.out.low (drew_low _)) | exact HS1.out _ HG1 | exact HS2.out _ _ HG2 (Below.refl _ _) | exact HS2.out _ _ HG2 HB3.out | exact HS2.out _ _ HG2 HB4.out) (first
          | (go_at_call 28; refine (DA.out _ (HG.out.low (drew_low _))).mono ?_; clear DA HG z0 z1 z2 z3 y0 y1 y2 y3 hlo hWO; rintro e w1 ⟨rfl, HG1⟩)
          | (go_at_call 28; refine (DB.out _ HG1).mono ?_; clear DB HG1; rintro e w2 ⟨rfl, HG2⟩; obtain ⟨⟨mv, fo, lo, hi, kd, fA, CA⟩, ⟨mv2, fo2, lo2, hi2, kd2, fB, CB⟩⟩ := AK.out _ HG2; clear AK)
          | (go_at_call 29; refine (CA.out.1 _ (Below.refl _ _)).mono ?_; rintro e w3 ⟨rfl, hq⟩; have HB3 : Hid (Below w2.heap.size w2 w3) := hq; clear hq)
          | (go_at_call 29; refine (CB.out.1 _ HB3.out).mono ?_; rintro e w4 ⟨rfl, hq⟩; have HB4 : Hid (Below w2.heap.size w2 w4) := Below.on HB3.out hq; clear hq HB3))
        go_wp2
        go_loopw [116] (fun t wq => ∃ j : Nat, j ≤ 2 ∧ t = .int .i64 j ∧ Hid (Below w2.heap.size w2 wq ∧ wq.heap[w4.heap.size]? = some (.cells #[.pointer (some ⟨a, 0, none⟩), .pointer (some ⟨b, 0, none⟩)] 46 (0, 0)))) (fun t _ => 2 - (intOf t).toNat)
        case atStart => exact ⟨0, by omega, rfl, HB4.out.alloc HB4.out.size _, World.alloc_heap_new w4 _⟩
        case round =>
          obtain ⟨j, hj, rfl, HQ⟩ := hrel
          by_cases hj2 : j < 2
          · have hlq : w4.heap.size < wr.heap.size := (Array.getElem?_eq_some_iff.1 HQ.out.2).1
            by_cases hj1 : j = 0
            · have hj0 : j = 0 := by omega
              subst hj0
              obtain ⟨⟨g1, g2, g3⟩, ⟨g4, g5⟩, ⟨g6, g7⟩, ⟨g8, g9⟩, g10, g11⟩ := fA
              have r0 : wr.cell? ⟨w4.heap.size, 0, none⟩ = some (.pointer (some ⟨a, 0, none⟩)) := by unfold World.cell?; rw [HQ.out.2]; rfl
              have C1 : Hid (Calls Tryz.prog 29 #[.pointer (some ⟨a, 0, none⟩)] wr fun e W' => e = .returned (.agg #[.int .i64 mv, .int .i64 fo, .int .i64 (E + d)]) ∧ Hid (Below wr.heap.size wr W')) := CA.out.1 wr HQ.out.1
              have C2 : Hid (∀ Y, Hid (Below wr.heap.size wr Y) → Calls Tryz.prog 30 #[.pointer (some ⟨a, 0, none⟩)] (Y.alloc (.cells #[.int .i64 mv, .int .i64 fo, .int .i64 (E + d)] 68)) fun e W' => e = .returned (.tuple #[.int .i64 lo, .int .i64 hi]) ∧ Hid (Below wr.heap.size wr W' ∧ W'.heap[Y.heap.size]? = some (.cells #[.int .i64 mv, .int .i64 fo, .int .i64 (E + d)] 68 (0, 0)))) := fun Y hY => by
                have ha := (Below.refl _ Y).alloc (Nat.le_refl _) (.cells #[.int .i64 mv, .int .i64 fo, .int .i64 (E + d)] 68)
                have hn := World.alloc_heap_new Y (.cells #[.int .i64 mv, .int .i64 fo, .int .i64 (E + d)] 68)
                exact (CA.out.2.1 _ (Below.on HQ.out.1 (Below.on hY.out ha))).mono fun e W' ⟨q1, q2⟩ => ⟨q1, Below.on (Below.on hY.out ha) q2, (q2.block _ (Array.getElem?_eq_some_iff.1 hn).1).trans hn⟩
              have C3 : Hid (∀ Y, Below wr.heap.size wr Y → ∀ dd os, Calls Tryz.prog 31 #[.pointer (some ⟨a, 0, none⟩)] (Go.Sort.grow (redrawn Y dd) os) fun e w'' => e = .returned (.int .i64 kd) ∧ ∃ p : Regrown, w'' = Go.Sort.grow (redrawn Y p.d) p.os) := fun Y hY dd os => Calls.regrown_of (CA.out.2.2 _ (Below.on (Below.on HQ.out.1 hY) (below_regrown Y dd os)))
              have HE8 : Hid (∀ Y, Below wr.heap.size wr Y → ∀ dd os, Hid (Below w2.heap.size w2 (Go.Sort.grow (redrawn Y dd) os) ∧ (Go.Sort.grow (redrawn Y dd) os).heap[w4.heap.size]? = some (.cells #[.pointer (some ⟨a, 0, none⟩), .pointer (some ⟨b, 0, none⟩)] 46 (0, 0)))) := fun Y hY dd os => ⟨Below.on HQ.out.1 (Below.on hY (below_regrown Y dd os)), ((Below.on hY (below_regrown Y dd os)).block _ hlq).trans HQ.out.2⟩
              obtain ⟨Q, hQ⟩ : ∃ Q, (E + d).tdiv (hi - lo) = Q := ⟨_, rfl⟩
              have hQ2 : (E + d) / (hi - lo) = Q := by rw [← hQ]; exact (Int.tdiv_eq_ediv_of_nonneg g8).symm
              have hQ0 : 0 ≤ Q := by rw [← hQ2]; exact Int.ediv_nonneg g8 (by omega)
              have hQ1 : Q ≤ E + d := by rw [← hQ2]; exact Int.ediv_le_self _ g8
              rw [hQ2] at g10
              have n1 : decide (lo < 0) = false := decide_eq_false (by omega)
              have n2 : decide (hi ≤ lo) = false := decide_eq_false (by omega)
              have n3 : decide (1 + fo + Q < mv) = false := decide_eq_false (by omega)
              have n4 : IntKind.i64.wrap (hi - lo) = hi - lo := by rw [IntKind.wrap_i64]; omega
              have n5 : IntKind.i64.wrap (1 + fo) = 1 + fo := by rw [IntKind.wrap_i64]; omega
              have n6 : IntKind.i64.wrap Q = Q := by rw [IntKind.wrap_i64]; omega
              have n7 : IntKind.i64.wrap (1 + fo + Q) = 1 + fo + Q := by rw [IntKind.wrap_i64]; omega
              have n8 : (hi - lo == 0) = false := by simp; omega
              have n9 : ¬ (hi - lo = 0) := by omega
              clear HQ fB CA CB HB4 HG2 HS HS1 HS2 HF hQ2 hneq
              go_wp2_with (first
                | (go_at_call 29; refine C1.out.mono ?_; clear C1; rintro e w5 ⟨rfl, HB5⟩)
                | (go_at_call 30; refine (C2.out _ HB5).mono ?_; clear C2 HB5; rintro e w6 ⟨rfl, HB6⟩; obtain ⟨⟨v0, v1, v2⟩, -⟩ := box3 HB6.out.2))
              have HE7 := HE8.out _ HB6.out.1
              have q3 := C3.out _ HB6.out.1
              have x0 := fun dd os => cell_regrown v0 dd os
              have x1 := fun dd os => cell_regrown v1 dd os
              have x2 := fun dd os => cell_regrown v2 dd os
              by_cases kz : 0 < mv
              · have kk := g11 kz
                subst kk
                have n10 : decide (0 < mv) = true := decide_eq_true kz
                refine wp_region_quiet_below HM.out (by kernel_rfl) ?_
                repeat (go_big_quiet_step (fail))
                go_big_quiet_step (exact q3 _ _)
                repeat (go_big_quiet_step (fail))
                refine wpQuiet_nil ?_
                intro _ hw'
                obtain ⟨⟨dq, osq⟩, hw''⟩ := hw'
                subst hw''
                dsimp only
                have HB7 := HE7 dq osq
                go_wp2
                exact ⟨⟨0 + 1, by omega, by go_num, HB7⟩, by simp [intOf]⟩
              · have n10 : decide (0 < mv) = false := decide_eq_false kz
                refine wp_region_quiet_below HM.out (by kernel_rfl) ?_
                repeat (go_big_quiet_step (fail))
                refine wpQuiet_nil ?_
                intro _ hw'
                obtain ⟨⟨dq, osq⟩, hw''⟩ := hw'
                subst hw''
                dsimp only
                have HB7 := HE7 dq osq
                go_wp2
                exact ⟨⟨0 + 1, by omega, by go_num, HB7⟩, by simp [intOf]⟩
            · have hj0 : j = 1 := by omega
              subst hj0
              obtain ⟨⟨g1, g2, g3⟩, ⟨g4, g5⟩, ⟨g6, g7⟩, ⟨g8, g9⟩, g10, g11⟩ := fB
              have r0 : wr.cell? ⟨w4.heap.size, 1, none⟩ = some (.pointer (some ⟨b, 0, none⟩)) := by unfold World.cell?; rw [HQ.out.2]; rfl
              have C1 : Hid (Calls Tryz.prog 29 #[.pointer (some ⟨b, 0, none⟩)] wr fun e W' => e = .returned (.agg #[.int .i64 mv2, .int .i64 fo2, .int .i64 (E + d)]) ∧ Hid (Below wr.heap.size wr W')) := CB.out.1 wr HQ.out.1
              have C2 : Hid (∀ Y, Hid (Below wr.heap.size wr Y) → Calls Tryz.prog 30 #[.pointer (some ⟨b, 0, none⟩)] (Y.alloc (.cells #[.int .i64 mv2, .int .i64 fo2, .int .i64 (E + d)] 68)) fun e W' => e = .returned (.tuple #[.int .i64 lo2, .int .i64 hi2]) ∧ Hid (Below wr.heap.size wr W' ∧ W'.heap[Y.heap.size]? = some (.cells #[.int .i64 mv2, .int .i64 fo2, .int .i64 (E + d)] 68 (0, 0)))) := fun Y hY => by
                have ha := (Below.refl _ Y).alloc (Nat.le_refl _) (.cells #[.int .i64 mv2, .int .i64 fo2, .int .i64 (E + d)] 68)
                have hn := World.alloc_heap_new Y (.cells #[.int .i64 mv2, .int .i64 fo2, .int .i64 (E + d)] 68)
                exact (CB.out.2.1 _ (Below.on HQ.out.1 (Below.on hY.out ha))).mono fun e W' ⟨q1, q2⟩ => ⟨q1, Below.on (Below.on hY.out ha) q2, (q2.block _ (Array.getElem?_eq_some_iff.1 hn).1).trans hn⟩
              have C3 : Hid (∀ Y, Below wr.heap.size wr Y → ∀ dd os, Calls Tryz.prog 31 #[.pointer (some ⟨b, 0, none⟩)] (Go.Sort.grow (redrawn Y dd) os) fun e w'' => e = .returned (.int .i64 kd2) ∧ ∃ p : Regrown, w'' = Go.Sort.grow (redrawn Y p.d) p.os) := fun Y hY dd os => Calls.regrown_of (CB.out.2.2 _ (Below.on (Below.on HQ.out.1 hY) (below_regrown Y dd os)))
              have HE8 : Hid (∀ Y, Below wr.heap.size wr Y → ∀ dd os, Hid (Below w2.heap.size w2 (Go.Sort.grow (redrawn Y dd) os) ∧ (Go.Sort.grow (redrawn Y dd) os).heap[w4.heap.size]? = some (.cells #[.pointer (some ⟨a, 0, none⟩), .pointer (some ⟨b, 0, none⟩)] 46 (0, 0)))) := fun Y hY dd os => ⟨Below.on HQ.out.1 (Below.on hY (below_regrown Y dd os)), ((Below.on hY (below_regrown Y dd os)).block _ hlq).trans HQ.out.2⟩
              obtain ⟨Q, hQ⟩ : ∃ Q, (E + d).tdiv (hi2 - lo2) = Q := ⟨_, rfl⟩
              have hQ2 : (E + d) / (hi2 - lo2) = Q := by rw [← hQ]; exact (Int.tdiv_eq_ediv_of_nonneg g8).symm
              have hQ0 : 0 ≤ Q := by rw [← hQ2]; exact Int.ediv_nonneg g8 (by omega)
              have hQ1 : Q ≤ E + d := by rw [← hQ2]; exact Int.ediv_le_self _ g8
              rw [hQ2] at g10
              have n1 : decide (lo2 < 0) = false := decide_eq_false (by omega)
              have n2 : decide (hi2 ≤ lo2) = false := decide_eq_false (by omega)
              have n3 : decide (1 + fo2 + Q < mv2) = false := decide_eq_false (by omega)
              have n4 : IntKind.i64.wrap (hi2 - lo2) = hi2 - lo2 := by rw [IntKind.wrap_i64]; omega
              have n5 : IntKind.i64.wrap (1 + fo2) = 1 + fo2 := by rw [IntKind.wrap_i64]; omega
              have n6 : IntKind.i64.wrap Q = Q := by rw [IntKind.wrap_i64]; omega
              have n7 : IntKind.i64.wrap (1 + fo2 + Q) = 1 + fo2 + Q := by rw [IntKind.wrap_i64]; omega
              have n8 : (hi2 - lo2 == 0) = false := by simp; omega
              have n9 : ¬ (hi2 - lo2 = 0) := by omega
              clear HQ fA CA CB HB4 HG2 HS HS1 HS2 HF hQ2 hneq
              go_wp2_with (first
                | (go_at_call 29; refine C1.out.mono ?_; clear C1; rintro e w5 ⟨rfl, HB5⟩)
                | (go_at_call 30; refine (C2.out _ HB5).mono ?_; clear C2 HB5; rintro e w6 ⟨rfl, HB6⟩; obtain ⟨⟨v0, v1, v2⟩, -⟩ := box3 HB6.out.2))
              have HE7 := HE8.out _ HB6.out.1
              have q3 := C3.out _ HB6.out.1
              have x0 := fun dd os => cell_regrown v0 dd os
              have x1 := fun dd os => cell_regrown v1 dd os
              have x2 := fun dd os => cell_regrown v2 dd os
              by_cases kz : 0 < mv2
              · have kk := g11 kz
                subst kk
                have n10 : decide (0 < mv2) = true := decide_eq_true kz
                refine wp_region_quiet_below HM.out (by kernel_rfl) ?_
                repeat (go_big_quiet_step (fail))
                go_big_quiet_step (exact q3 _ _)
                repeat (go_big_quiet_step (fail))
                refine wpQuiet_nil ?_
                intro _ hw'
                obtain ⟨⟨dq, osq⟩, hw''⟩ := hw'
                subst hw''
                dsimp only
                have HB7 := HE7 dq osq
                go_wp2
                exact ⟨⟨1 + 1, by omega, by go_num, HB7⟩, by simp [intOf]⟩
              · have n10 : decide (0 < mv2) = false := decide_eq_false kz
                refine wp_region_quiet_below HM.out (by kernel_rfl) ?_
                repeat (go_big_quiet_step (fail))
                refine wpQuiet_nil ?_
                intro _ hw'
                obtain ⟨⟨dq, osq⟩, hw''⟩ := hw'
                subst hw''
                dsimp only
                have HB7 := HE7 dq osq
                go_wp2
                exact ⟨⟨1 + 1, by omega, by go_num, HB7⟩, by simp [intOf]⟩
          · obtain ⟨z', hz'⟩ := HF.out _ _ HG2 HQ.out.1
            go_wp2
            exact ⟨⟨i + 1, by omega, by go_num, z', hz'⟩, by simp [intOf]; omega⟩
    · have CS : Hid (Calls Tryz.prog 32 #[.iface 46 (.pointer (some ⟨a, 0, none⟩)), .iface 46 (.pointer (some ⟨b, 0, none⟩))] wr fun e W' => e = .returned (.bool true) ∧ Hid (Below w.heap.size w W')) := ts_same HP.out.2
      clear HP HN HR
      go_wp2_with (go_at_call 32; refine CS.out.mono ?_; clear CS; rintro e w4 ⟨rfl, HB⟩)
      go_ret
      exact ⟨rfl, HB.out⟩
end Go.Proofs.YtkmihnjmchfopaaGreatDoor.Sto
