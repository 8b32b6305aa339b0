/-
  Package lines' iterator behind Lines once more, for rounds that write lists of spans themselves; Replace of what keeps a text. Conditions: those of each theorem.
-/
import Derived.Test.YtcjmfoadimpffaaGreatDoorPkDK
import Derived.Test.YtcjmfoadimpffaaGreatDoorDIt
import Derived.Test.YtcjmfoadimpffaaGreatDoorPkTC
namespace Go.Proofs.YtcjmfoadimpffaaGreatDoor.Sto
open Go.RowKit Go.Shelf Bod Wid
open Gap (Gp Is PB gRep)

/-- the block of the row that the box gb names -/
def rowB (gb : Nat) (W : World) : Option Nat := match W.cell? ⟨gb, 0, none⟩ with
  | some v => v.ownBlock
  | none => none
/-- what a round keeps that writes the box gb, its row and the box nb: all other cells; its row is the same or a new one -/
structure KpG (gb nb : Nat) (W W' : World) : Prop where
  size : W.heap.size ≤ W'.heap.size
  kept : ∀ (k : Nat) (o : Obj), W.heap[k]? = some o → o.isCells = true → k ≠ gb → k ≠ nb → rowB gb W ≠ some k → W'.heap[k]? = some o
  row : rowB gb W' = rowB gb W ∨ ∀ g, rowB gb W' = some g → W.heap.size ≤ g
theorem KpG.refl (gb nb : Nat) (W : World) : KpG gb nb W W := ⟨Nat.le_refl _, fun _ _ h _ _ _ _ => h, .inl rfl⟩
theorem KpG.trans {gb nb : Nat} {X Y Z : World} (h : KpG gb nb X Y) (k : KpG gb nb Y Z) : KpG gb nb X Z := by
  refine ⟨Nat.le_trans h.size k.size, fun i o hi hc h1 h2 h3 => k.kept i o (h.kept i o hi hc h1 h2 h3) hc h1 h2 (fun e => ?_), ?_⟩
  · rcases h.row with q | q
    · exact h3 (by rw [← q]; exact e)
    · have := q i e
      have := (Array.getElem?_eq_some_iff.1 hi).1
      omega
  · rcases k.row with q | q
    · rcases h.row with r | r
      · exact .inl (q.trans r)
      · exact .inr fun g e => r g (by rw [← q]; exact e)
    · exact .inr fun g e => Nat.le_trans h.size (q g e)
theorem rowB_eq {gb : Nat} {W W' : World} (h : W'.heap[gb]? = W.heap[gb]?) : rowB gb W' = rowB gb W := by
  unfold rowB World.cell?
  simp only [h]
theorem KpG.of_below {gb nb : Nat} {W W' : World} (hg : gb < W.heap.size) (h : Below W.heap.size W W') : KpG gb nb W W' :=
  ⟨h.size, fun k _ hk _ _ _ _ => (h.block k (Array.getElem?_eq_some_iff.1 hk).1).trans hk, .inl (rowB_eq (h.block gb hg))⟩
theorem KpG.putObj {gb nb : Nat} (W : World) (l : Nat) (o o' : Obj) (hg : gb ≠ l) (hl : W.heap[l]? = some o) (ho : o.isCells = false) : KpG gb nb W (W.putObj l o') :=
  ⟨by simp, fun k c hk hc _ _ _ => (World.putObj_heap_other (fun e => by subst e; rw [hl] at hk; cases hk; rw [ho] at hc; cases hc)).trans hk, .inl (rowB_eq (World.putObj_heap_other hg))⟩
set_option maxRecDepth 100000 in
set_option maxHeartbeats 2000000 in
theorem lines_seq2 (n : Nat) (hn : 1 ≤ n) (Bt B : Nat) (Kp : World → World → Prop) {t : Value} {s : ByteArray} (w : World) (hKt : ∀ {X Y Z : World}, Kp X Y → Kp Y Z → Kp X Z) (hKr : ∀ W, Kp W W) (hKs : ∀ {X Y : World}, Kp X Y → X.heap.size ≤ Y.heap.size) (hKb : ∀ W W', B ≤ W.heap.size → Below W.heap.size W W' → Kp W W') (hKc : ∀ (W w2 X : World) (g : Nat) (vs : Array Value), Below w.heap.size w W → W.heap.size = B → Below W.heap.size W w2 → B ≤ g → w2.heap[g]? = some (.cells vs 53 (0, 0)) → Kp w2 X → X.heap[g]? = some (.cells vs 53 (0, 0))) (hBt : w.cell? ⟨Bt, 0, none⟩ = some t) (h : Tl w t s) (ys : List (Nat × Nat)) (hy : Lns s 0 ys none) :
    SeqC Fence.wide n Tryz.prog 70 #[.pointer (some ⟨Bt, 0, none⟩)] encN Kp (fun xs => xs = num ys) (fun pre => pre <+: num ys) (fun pre x => pre ++ [x] <+: num ys) 0 B w := by
  intro l J Jx W hWB hW hJ _ hY h0
  have HKC : Hid (∀ (w2 X : World) (g : Nat) (vs : Array Value), Below W.heap.size W w2 → W.heap.size ≤ g → w2.heap[g]? = some (.cells vs 53 (0, 0)) → Kp w2 X → X.heap[g]? = some (.cells vs 53 (0, 0))) := fun w2 X g vs a1 a2 a3 a4 => hKc W w2 X g vs hW hWB a1 (by omega) a3 a4
  have hBt : W.cell? ⟨Bt, 0, none⟩ = some t := (KpT.of_below (M := fun _ _ => False) (W := w) hW).cell (fun _ _ h => h) hBt
  obtain ⟨t', h1, h2⟩ := (h.below hW).ex
  obtain ⟨T, u, rfl⟩ := h1.iface
  have hs := h.le
  have hyl : ys.length ≤ 1073741825 := by have := hy.len.1; omega
  have CL : Hid (Calls Tryz.prog 59 #[t] W fun e W' => e = .returned (.agg #[.iface T u, .int .i64 s.size]) ∧ Hid (Below W.heap.size W W')) := h2 W (Below.refl _ _)
  have CS : Hid (∀ X, Below W.heap.size W X → Calls Tryz.prog 71 #[.agg #[.iface T u, .int .i64 s.size]] X fun e W' => ∃ (g cap : Nat), e = .returned (.slice (some ⟨g, 0, none⟩) ys.length cap) ∧ Hid (W'.ownsRow W.heap.size 53 2 (.slice (some ⟨g, 0, none⟩) ys.length cap) ys.length (spl ys) ∧ Below W.heap.size W W')) := fun X hX => (spans_any' (h1.below hX) hs).mono fun e W' q => by
    obtain ⟨v, zs, rfl, q1, q2, q3⟩ := q
    cases q1.uniq hy
    obtain ⟨g, cap, rfl⟩ : ∃ g cap, v = .slice (some ⟨g, 0, none⟩) ys.length cap := by
      rcases q2.2 with ⟨_, e⟩ | ⟨g, cap, cur, e, _⟩
      · exact absurd (List.length_eq_zero_iff.1 e) hy.ne
      · exact ⟨g, cap, e⟩
    exact ⟨g, cap, rfl, row_lower q2 hX.size, Below.on hX q3⟩
  have HY : Hid (∀ pre x W1, J pre W1 → B + 0 ≤ W1.heap.size → pre ++ [x] <+: num ys → YieldAt Fence.wide (n - 1) Tryz.prog l (encN x) W1 fun e W' => KeepsFrom B W1 W' ∧ ((e = .returned (.bool true) ∧ J (pre ++ [x]) W' ∧ Kp W1 W') ∨ (e = .returned (.bool false) ∧ Jx (pre ++ [x]) W'))) := hY
  have HWB : Hid (W.heap.size = B) := hWB
  have HJ : Hid (Ab B B (B + 0) J ∧ J [] W) := ⟨hJ, h0⟩
  generalize s.size = m at CL CS hs
  clear hWB hY hJ h0 h h1 h2 hW
  refine callsIn_of_wp Tryz.func70 rfl trivial ?_ rfl
  simp only [Tryz.ntmps70, List.size_toArray, List.length_cons, List.length_nil, Nat.reduceAdd, Nat.reduceSub, Array.replicate_succ, Array.replicate_zero, List.push_toArray, List.append_toArray, List.nil_append, List.cons_append]
  gi_wp2_with (first
    | (refine ⟨trivial, ?_⟩; gi_at_call 59; refine (callsIn_wide.2 CL.out).mono ?_; clear CL; rintro e w1 ⟨rfl, H1⟩)
    | (refine ⟨trivial, ?_⟩; gi_at_call 71; refine (callsIn_wide.2 (CS.out _ H1.out)).mono ?_; clear CS; rintro e w2 ⟨g, cap, rfl, H2⟩))
  obtain ⟨cur, hg1, hg2, hg3⟩ : ∃ cur, W.heap.size ≤ g ∧ w2.heap[g]? = some (.cells cur 53 (0, 0)) ∧ cur.toList.take (ys.length * 2) = spl ys := by
    rcases H2.out.1.2 with ⟨e, _⟩ | ⟨g', cap', cur, e, k1, k2, _, _, _, k3⟩
    · cases e
    · cases e; exact ⟨cur, k1, k2, k3⟩
  have HC : Hid (∀ X (i : Nat) (x : Nat × Nat), Kp w2 X → ys[i]? = some x → X.cell? ⟨g, i * 2, none⟩ = some (.int .i64 (x.1 : Int)) ∧ X.cell? ⟨g, i * 2 + 1, none⟩ = some (.int .i64 (x.2 : Int))) := fun X i x hX hx => by
    have hl := (List.getElem?_eq_some_iff.1 hx).1
    obtain ⟨e1, e2⟩ := spl_get hx
    rw [← hg3, List.getElem?_take_of_lt (by omega)] at e1 e2
    have hgX := HKC.out w2 X g cur H2.out.2 hg1 hg2 hX
    exact ⟨by simpa [World.cell?, hgX] using e1, by simpa [World.cell?, hgX] using e2⟩
  have HJ2 : Hid (J [] w2) := HJ.out.1.grow HJ.out.2 (grown_of_below H2.out.2)
  have HZ : Hid (B ≤ w2.heap.size) := by show B ≤ w2.heap.size; have := H2.out.2.size; have := HWB.out; omega
  clear hg1 hg2 hg3 H1 H2
  gi_loopw [9] (fun t9 wr => ∃ i : Nat, t9 = .int .i64 i ∧ i ≤ ys.length ∧ Hid (J ((num ys).take i) wr ∧ Kp w2 wr)) (fun t9 _ => ys.length - (intOf t9).toNat)
  case atStart => exact ⟨0, rfl, Nat.zero_le _, HJ2.out, hKr _⟩
  case round =>
    obtain ⟨i, rfl, hi, HS⟩ := hrel
    by_cases hlt : i < ys.length
    · have hlt' : (i : Int) < (ys.length : Int) := by omega
      obtain ⟨⟨x, y⟩, hx⟩ : ∃ x, ys[i]? = some x := ⟨_, List.getElem?_eq_getElem hlt⟩
      obtain ⟨c0, c1⟩ := HC.out wr i _ HS.out.2 hx
      have ht : (num ys).take (i + 1) = (num ys).take i ++ [(i, x, y)] := by rw [List.take_add_one, num_get hx]; rfl
      have hnx : (num ys).take i ++ [(i, x, y)] <+: num ys := by rw [← ht]; exact List.take_prefix _ _
      have hsz := hKs HS.out.2
      obtain ⟨fn, tmps, assign, body, hyy, hR⟩ : YieldAt Fence.wide (n - 1) Tryz.prog l (encN (i, x, y)) (wr.alloc (.cells #[.int .i64 (x : Int), .int .i64 (y : Int)] 53)) fun e W' => (e = .returned (.bool true) ∧ J ((num ys).take (i + 1)) W' ∧ Kp (wr.alloc (.cells #[.int .i64 (x : Int), .int .i64 (y : Int)] 53)) W') ∨ (e = .returned (.bool false) ∧ Jx ((num ys).take (i + 1)) W') := by
        rw [ht]
        exact (HY.out ((num ys).take i) (i, x, y) _ (HJ.out.1.alloc _ HS.out.1) (by have := HZ.out; simp; omega) hnx).mono fun _ _ h => h.2
      dsimp only [encN] at hyy
      have HNX : Hid ((num ys).take (i + 1) <+: num ys) := List.take_prefix _ _
      clear ht hnx hx
      gi_wp2
      refine hR.mono ?_
      rintro e W3 (⟨rfl, hJ3, hk3⟩ | ⟨rfl, hJx3⟩)
      · have HK3 : Hid (J ((num ys).take (i + 1)) W3 ∧ Kp w2 W3) := ⟨hJ3, hKt HS.out.2 (hKt (hKb _ _ (by have := HZ.out; omega) ((Below.refl _ wr).alloc (Nat.le_refl _) _)) hk3)⟩
        clear hJ3 hk3
        gi_wp2
        go_roundw
        case rel => exact ⟨i + 1, by go_num, by omega, HK3.out⟩
        case measure => simp [intOf]; omega
      · have HJ3 : Hid (Jx ((num ys).take (i + 1)) W3) := hJx3
        clear hJx3
        gi_wp2
        refine bodyPost_ret (results_none rfl _ _ _) rfl ?_
        exact ⟨⟨_, rfl⟩, .inr ⟨_, HNX.out, HJ3.out⟩⟩
    · have hlt' : ¬ (i : Int) < (ys.length : Int) := by omega
      gi_wp2
      go_end0
      have hJe := HS.out.1
      rw [List.take_of_length_le (by rw [num_len]; omega)] at hJe
      exact ⟨⟨_, rfl⟩, .inl (by first | exact hJe | exact ⟨_, rfl, hJe⟩)⟩
/-- a text of which one more line is put ahead -/
def xn : ByteArray := ⟨#[120, 10]⟩
theorem xn_tx (s : ByteArray) (h : s.size + 2 ≤ 1073741824) : txR s 1073741824 0 0 xn = (xn ++ s, ⟨#[]⟩, 0) := by
  have hx : xn.size = 2 := rfl
  unfold txR
  rw [if_neg (by omega), if_neg (by rw [hx]; omega)]
  have e0 : s.extract 0 0 = ⟨#[]⟩ := by
    apply ByteArray.ext
    simp
  have e1 : s.extract 0 s.size = s := by simp
  have e2 : (⟨#[]⟩ : ByteArray) ++ xn = xn := by
    apply ByteArray.ext
    simp [ByteArray.data_append]
  simp only [Int.toNat_zero, Nat.zero_add]
  rw [e0, e1, e2]
/-- what keeps a text, after edits -/
def Kpx (w : World) (s : ByteArray) (t : Value) (W : World) : Prop :=
  (∃ b r n pl, t = .iface 84 (.pointer (some ⟨b, 0, none⟩)) ∧ PB W b r ⟨s, pl, 1073741824⟩ n ∧ Below w.heap.size w W) ∨
  ∃ b bk k, t = .iface 75 (.pointer (some ⟨b, 0, none⟩)) ∧ Se w b s bk k W
theorem Kpx.bel {w W : World} {s : ByteArray} {t : Value} (h : Kpx w s t W) : Below w.heap.size w W := by
  rcases h with ⟨b, r, n, pl, h1, h2, h3⟩ | ⟨b, bk, k, h1, h2⟩
  · exact h3
  · exact h2.bel
theorem Kpx.below {w W X : World} {s : ByteArray} {t : Value} (h : Kpx w s t W) (hb : Below W.heap.size W X) : Kpx w s t X := by
  rcases h with ⟨b, r, n, pl, h1, h2, h3⟩ | ⟨b, bk, k, h1, h2⟩
  · exact .inl ⟨b, r, n, pl, h1, h2.below hb, Below.on h3 hb⟩
  · exact .inr ⟨b, bk, k, h1, h2.below hb⟩
theorem Kpx.vt {w W : World} {s : ByteArray} {t : Value} (h : Kpx w s t W) (hE : Ev w) : Vt W t s := by
  have hE2 := hE.below h.bel
  rcases h with ⟨b, r, n, pl, rfl, h2, h3⟩ | ⟨b, bk, k, rfl, x, K, h2⟩
  · exact vt_gap (o := some (b, r)) (g := ⟨s, pl, 1073741824⟩) (n := n) ⟨rfl, h2⟩ hE2
  · have := vt_store h2.st.spt h2.st.hold hE2
    rw [h2.text] at this
    exact this
/-- a box of another kind is written -/
theorem Kpx.set {w W : World} {s : ByteArray} {t : Value} {j : Nat} {cur : Array Value} {fz : Nat × Nat} (h : Kpx w s t W) (hj : W.heap[j]? = some (.cells cur 67 fz)) (hw : w.heap.size ≤ j) (v : Value) : Kpx w s t (W.setCell ⟨j, 0, none⟩ v) := by
  have g := gcell W j 0 v
  have nt : ∀ {k : Nat} {c : Array Value} {T : TypeId} {z : Nat × Nat}, W.heap[k]? = some (.cells c T z) → T ≠ 67 → k ≠ j := fun hk hT e => by
    subst e
    rw [hk] at hj
    injection hj with hj
    injection hj with _ e _
    exact hT e
  have kp : ∀ {k : Nat} {c : Array Value} {T : TypeId} {z : Nat × Nat}, W.heap[k]? = some (.cells c T z) → T ≠ 67 → (W.setCell ⟨j, 0, none⟩ v).heap[k]? = some (.cells c T z) := fun hk hT => (g.block _ (Array.getElem?_eq_some_iff.1 hk).1 (fun e => nt hk hT (by injection e))).trans hk
  rcases h with ⟨b, r, n, pl, rfl, h2, h3⟩ | ⟨b, bk, k, rfl, x, K, h2⟩
  · refine .inl ⟨b, r, n, pl, rfl, ?_, h3.setCell (p := ⟨j, 0, none⟩) hw v⟩
    obtain ⟨A, e, hp, hq⟩ := h2.ex
    exact ⟨⟨A, e, ⟨kp hp.box (by decide), fun k hk => ⟨(hp.row k hk).1, kp (hp.row k hk).2 (by decide)⟩, hp.nil⟩, hq⟩, h2.cap, h2.lm, h2.ok⟩
  · refine .inr ⟨b, bk, k, rfl, x, K, ⟨kp h2.st.box (by decide), ?_, h2.st.lim⟩, h2.bk, h2.text, h2.bel.setCell (p := ⟨j, 0, none⟩) hw v, h2.lo, h2.b0⟩
    refine Hold.keep (B := fun k => k = j) h2.st.hold ⟨g.os, g.tape, g.output, g.size, fun k hk hn => g.block k hk (fun e => hn (by injection e))⟩ (fun k hk e => ?_) (fun k c T z e hk => ?_)
    · subst e
      obtain ⟨c, T, q1, q2⟩ := h2.st.hold.blk_ty hk
      refine nt q1 ?_ rfl
      rcases q2 with rfl | rfl | rfl <;> decide
    · subst e
      rw [hj] at hk
      injection hk with hk
      injection hk with _ e _
      subst e
      decide
/-- what keeps a text takes the line in; whatever is no store's and no buffer's stays -/
theorem Kpt.rep {w W0 : World} {s : ByteArray} {t : Value} (h : Kpt w s t W0) (hs : s.size + 2 ≤ 1073741824) (hE : Ev w) : ∃ T u f, t = .iface T u ∧ Mt T u "Replace" f ∧ ∀ W, Below W0.heap.size W0 W → Calls Tryz.prog f #[u, .int .i64 0, .int .i64 0, .string xn] W fun e W' => e = .returned (.tuple #[.string ⟨#[]⟩, .int .i64 0]) ∧ Kpx w (xn ++ s) t W' ∧ Fty W W' := by
  rcases h with ⟨b, r, n, rfl, h2, h3, h4, h5⟩ | ⟨b, kd, bk, rfl, h2⟩
  · refine ⟨_, _, 210, rfl, ⟨fun W => by kernel_rfl, enters_of Tryz.func210 (by kernel_rfl) rfl⟩, fun W hW => ?_⟩
    have hP := h2.below hW
    obtain ⟨e1, e2, e3⟩ := gRep_tx ⟨s, s.size, 1073741824⟩ 0 0 xn
    rw [xn_tx s hs] at e1 e3
    refine (Gap.rep_is (o := some (b, r)) (n := n) ⟨rfl, hP⟩ 0 0 (by omega) xn).mono ?_
    rintro e W' ⟨q1, o2, n2, q2, q3, ⟨r2, rfl, q4⟩, -⟩
    have hB : Below w.heap.size w W' := ⟨q3.1.trans (Below.on h3 hW).os, q3.2.1.trans (Below.on h3 hW).tape, q3.2.2.1.trans (Below.on h3 hW).output, Nat.le_trans (Below.on h3 hW).size q3.2.2.2.1, fun k hk => by
      rw [q3.2.2.2.2 k (Nat.lt_of_lt_of_le hk (Below.on h3 hW).size) (by omega) (fun e => by have := h5 k e; omega)]
      exact (Below.on h3 hW).block k hk⟩
    refine ⟨by rw [q1, e3], .inl ⟨b, r2, n2, (gRep ⟨s, s.size, 1073741824⟩ 0 0 xn).1.p, rfl, ?_, hB⟩, q3.2.2.2.1, fun j cur T fz hj t1 t2 t3 t4 => ?_, fun j o hj ho => ?_⟩
    · have q2' := q2.2
      obtain ⟨G, hG⟩ : ∃ G, (gRep ⟨s, s.size, 1073741824⟩ 0 0 xn).1 = G := ⟨_, rfl⟩
      rw [hG] at e1 e2 q2' ⊢
      obtain ⟨Gs, Gp, Gl⟩ := G
      have e1' : Gs = xn ++ s := e1
      have e2' : Gl = 1073741824 := e2
      subst e1' e2'
      exact q2'
    · obtain ⟨A, ee, hp, hq⟩ := hP.ex
      rw [q3.2.2.2.2 j (Array.getElem?_eq_some_iff.1 hj).1 (fun e => ?_) (fun e => ?_)]
      · exact hj
      · subst e; rw [hp.box] at hj; injection hj with hj; injection hj with _ e _; exact t2 e.symm
      · rw [(hp.row j e).2] at hj; injection hj with hj; injection hj with _ e _; exact t3 e.symm
    · obtain ⟨A, ee, hp, hq⟩ := hP.ex
      rw [q3.2.2.2.2 j (Array.getElem?_eq_some_iff.1 hj).1 (fun e => ?_) (fun e => ?_)]
      · exact hj
      · subst e; rw [hp.box] at hj; cases hj; cases ho
      · rw [(hp.row j e).2] at hj; cases hj; cases ho
  · refine ⟨_, _, 206, rfl, ⟨fun W => by kernel_rfl, enters_of Tryz.func206 (by kernel_rfl) rfl⟩, fun W hW => ?_⟩
    refine (se_rep (h2.below hW).se hE (by simp [nwK, Sk.fit]) (by simp [nwK, Sk.few]) 0 0 xn (by omega) (by omega) (by decide) _ (xn_tx s hs) _ rfl).mono ?_
    rintro e W' ⟨o, r, q1, ⟨q2, q3⟩, q4, q5⟩
    exact ⟨by rw [q1, q2, q3], .inr ⟨b, _, _, rfl, q4⟩, q5⟩
end Go.Proofs.YtcjmfoadimpffaaGreatDoor.Sto
