/-
  The document's own trimmed and Lay of layer 20. Conditions: those of each theorem.
-/
import Derived.Laws.AppendOwnNone
import Derived.Maps.OwnIn
import Derived.Test.YtfjoklbiocniiaaDoorURegInv
import Derived.Test.YtfjoklbiocniiaaDoorPkOC
import Derived.BigQuiet
import Derived.BigRegion
import Derived.Deep.CutRange
import Derived.Test.YtfjoklbiocniiaaDoorOSpl
import Derived.Test.YtfjoklbiocniiaaDoorOLw
import Derived.Test.YtfjoklbiocniiaaDoorOLyb
namespace Go.Proofs.YtfjoklbiocniiaaDoor
open Go.RowKit Go.Shelf Bod Wid
theorem run_append_nil {P : Program} {w : World} {c : Nat} (base : Nat) (t ty e : TypeId) (i : TypeInfo) (size : Nat) (ht : P.underlying t = some (.slice e)) (hi : P.info? e = some i)
    (v : Value) (n : Nat) (xs : List Value) (hown : w.ownsRow base e size v n xs) : (Builtin.append_ #[t, t] ty #[v, .slice none 0 c]).run P w = .ok v w := by
  rcases hown.2 with ⟨rfl, rfl⟩ | ⟨g, cap, cur, rfl, _, _, hnc, _⟩
  · simp [Builtin.append_, run_underlying ht, sizeOf, typeInfo, hi, Builtin.lenOf, Builtin.firstCells]
  · simp [Builtin.append_, run_underlying ht, sizeOf, typeInfo, hi, Builtin.lenOf, Builtin.firstCells, hnc, storeCells]
/-- append of any slice to a row of the call's own -/
theorem wpList_append_row {P : Program} {w : World} {ops : Array Oper} {rest : List Oper} {o : Oper} {a : Act} {Q : Exit → Act → World → Prop} (hgd : o.guard = none) (s x : Operand) (t : TypeId)
    (ho : o.op = .call { callee := .builtin .append, args := #[s, x], argTypes := #[t, t] })
    (base : Nat) (e : TypeId) (i : TypeInfo) (z : Value) (size bytes : Nat) (ht : P.underlying t = some (.slice e)) (hi : P.info? e = some i) (hz : i.zero = some z)
    (hsize : i.size = size) (hby : i.bytes = bytes) (hzs : z.cells.size = size) (hsz : 0 < size)
    (v : Value) (n : Nat) (xs : List Value) (hs : a.eval s = v) (hown : w.ownsRow base e size v n xs)
    (b : Option Addr) (m c : Nat) (news : List Value) (hx : a.eval x = .slice b m c) (hl : news.length = m * size) (hb : b = none → m = 0) (hnews : ∀ ad, b = some ad → ∀ j u, news[j]? = some u → w.cell? (ad.add j) = some u) (h1 : ∀ u ∈ news, u.oneCell' = true)
    (h63 : n + m ≤ maxLen) (hbytes : (n + m) * bytes ≤ 140737488355328) (hbase : base ≤ w.heap.size)
    (h : ∀ a' c' w', w'.ownsRow base e size (.slice a' (n + m) c') (n + m) (xs ++ news) → w.grownBy w' v.ownBlock → ((Value.slice a' (n + m) c').ownBlock = v.ownBlock ∨ (Value.slice a' (n + m) c').ownBlock = some w.heap.size) → wpList P ops Q rest (a.put o.dst (.slice a' (n + m) c')) w') :
    wpList P ops Q (o :: rest) a w := by
  refine wpList_plain hgd fun K hK => ?_
  cases b with
  | none =>
    obtain rfl := hb rfl
    have hn0 : news = [] := List.length_eq_zero_iff.1 (by omega)
    subst hn0
    have hr := run_append_nil (P := P) (c := c) base t o.type e i size ht hi v n xs hown
    obtain ⟨a', c', rfl⟩ := own_formO hown
    unfold Oper.wp execOp
    simp only [ho, resolve, invoke, builtin, Sem.run_bind, Sem.run_pure, Result.andThen_ok, List.map_toArray, List.map_cons, List.map_nil, hs, hx, hr]
    exact hK _ _ (h a' c' w (by simpa using hown) (World.grownBy.refl _ _) (.inl rfl))
  | some ad =>
    obtain ⟨v', w', hr, h2, h3, h4, h5⟩ := run_append_own_at (P := P) w base t o.type e i z size bytes ht hi hz hsize hby hzs hsz v n xs hown ad m c news hl (hnews ad rfl) h1 h63 hbytes hbase
    obtain ⟨a', c', rfl⟩ := own_formO h2
    unfold Oper.wp execOp
    simp only [ho, resolve, invoke, builtin, Sem.run_bind, Sem.run_pure, Result.andThen_ok, List.map_toArray, List.map_cons, List.map_nil, hs, hx, hr]
    exact hK _ _ (h a' c' w' h2 h3 h5)
def updY (y : Nat → Value) (i : Nat) (z : Value) : Nat → Value := fun k => if k = i then z else y k
def dset (d : Nat → Bool) (i : Nat) : Nat → Bool := fun k => if k = i then true else d k
theorem dset_of {v : List Bool} {i : Nat} (hi : i < v.length) : (fun k => (v.set i true).getD k false) = dset (fun k => v.getD k false) i := by
  funext k
  unfold dset
  simp only [List.getD_eq_getElem?_getD, List.getElem?_set]
  by_cases h : i = k
  · subst h; simp [hi]
  · rw [if_neg h, if_neg (fun e => h e.symm)]
theorem undone {v : List Bool} {i : Nat} (h : v.getD i true = false) : v.getD i false = false ∧ i < v.length := by
  rw [List.getD_eq_getElem?_getD] at h ⊢
  cases e : v[i]? with
  | none => rw [e] at h; cases h
  | some b => rw [e] at h; exact ⟨h, (List.getElem?_eq_some_iff.1 e).1⟩
/-- all but the row's own block is as it was -/
def Far (ov : Option Addr) (j oc : Nat) (X W : World) : Prop := W.os = X.os ∧ W.tape = X.tape ∧ W.output = X.output ∧ X.heap.size ≤ W.heap.size ∧ ∀ g, g < X.heap.size → (Value.slice ov j oc).ownBlock ≠ some g → W.heap[g]? = X.heap[g]?
theorem Far.of {ov : Option Addr} {j oc : Nat} {X W : World} (h : Below X.heap.size X W) : Far ov j oc X W := ⟨h.os, h.tape, h.output, h.size, fun g hg _ => h.block g hg⟩
theorem Far.grown {ov : Option Addr} {j oc : Nat} {X W W' : World} (h : Below X.heap.size X W) (hg : W.grownBy W' (Value.slice ov j oc).ownBlock) : Far ov j oc X W' :=
  ⟨hg.os.trans h.os, hg.tape.trans h.tape, hg.output.trans h.output, Nat.le_trans h.size hg.size, fun g hgx hne => (hg.block g (Nat.lt_of_lt_of_le hgx h.size) (fun e => hne e.symm)).trans (h.block g hgx)⟩
/-- the line's operations. X: the world ahead; B: the least block of the call's own rows; t: the row that is appended -/
structure K7 (val : Nat → Value) (X : World) (B : Nat) (ov : Option Addr) (j oc : Nat) (t : Value) (vs : List Value) (Fin : Value → World → Prop) (d : Nat → Bool) (y : Nat → Value) (W : World) : Prop where
  o11 : d 11 = true → d 10 = true
  o13 : d 13 = true → ∀ i, i < 13 → d i = true
  p : ∀ i, i < 13 → i ≠ 10 → i ≠ 11 → d i = true → y i = val i
  a : d 11 = false → Below X.heap.size X W
  b : d 13 = false → Far ov j oc X W
  s : d 10 = true → d 11 = false → ∃ g, X.heap.size ≤ g ∧ y 10 = .slice (some ⟨g, 0, none⟩) 1 1 ∧ W.heap[g]? = some (.cells #[t] 40 (0, 0))
  u : d 11 = true → d 13 = false → W.ownsRow B 40 1 (y 11) (j + 1) (vs ++ [t])
  f : d 13 = true → Fin (y 11) W
section
variable {val : Nat → Value} {X : World} {B : Nat} {ov : Option Addr} {j oc : Nat} {t : Value} {vs : List Value} {Fin : Value → World → Prop} {d : Nat → Bool} {y : Nat → Value} {W : World}
theorem K7.n13 (h : K7 val X B ov j oc t vs Fin d y W) {i : Nat} (hi : i < 13) (hn : d i = false) : d 13 = false := by
  cases e : d 13 with
  | false => rfl
  | true => rw [h.o13 e i hi] at hn; cases hn
theorem K7.read (h : K7 val X B ov j oc t vs Fin d y W) {W' : World} (hb : Below W.heap.size W W') {i : Nat} (hi : i < 13) (h10 : i ≠ 10) (h11 : i ≠ 11) (hn : d i = false) : K7 val X B ov j oc t vs Fin (dset d i) (updY y i (val i)) W' := by
  have n13 := h.n13 hi hn
  have hF := h.b n13
  have hx : X.heap.size ≤ W.heap.size := hF.2.2.2.1
  have hd : ∀ k, k ≠ i → dset d i k = d k := fun k hk => by unfold dset; rw [if_neg hk]
  have hy : ∀ k, k ≠ i → updY y i (val i) k = y k := fun k hk => by unfold updY; rw [if_neg hk]
  have a10 := hd 10 (by omega); have a11 := hd 11 (by omega); have a13 := hd 13 (by omega)
  have y10 := hy 10 (by omega); have y11 := hy 11 (by omega)
  refine ⟨?_, ?_, ?_, ?_, ?_, ?_, ?_, ?_⟩
  · rw [a11, a10]; exact h.o11
  · rw [a13, n13]; intro h; cases h
  · intro k hk k10 k11 hdk
    by_cases e : k = i
    · subst e; unfold updY; rw [if_pos rfl]
    · rw [hy k e]; exact h.p k hk k10 k11 (by rw [← hd k e]; exact hdk)
  · rw [a11]; intro e; exact (h.a e).trans (hb.mono hx)
  · intro _; exact ⟨hb.os.trans hF.1, hb.tape.trans hF.2.1, hb.output.trans hF.2.2.1, Nat.le_trans hx hb.size, fun g hg hne => (hb.block g (by omega)).trans (hF.2.2.2.2 g hg hne)⟩
  · rw [a10, a11, y10]
    intro e1 e2
    obtain ⟨g, g1, g2, g3⟩ := h.s e1 e2
    exact ⟨g, g1, g2, (hb.block g (Array.getElem?_eq_some_iff.1 g3).1).trans g3⟩
  · rw [a11, a13, y11]; intro e1 e2; exact own_nextO (h.u e1 e2) hb
  · rw [a13, n13]; intro h; cases h
theorem K7.op10 (h : K7 val X B ov j oc t vs Fin d y W) (hn : d 10 = false) {W' : World} {g : Nat} (hb : Below W.heap.size W W') (hg : W.heap.size ≤ g) (hc : W'.heap[g]? = some (.cells #[t] 40 (0, 0))) : K7 val X B ov j oc t vs Fin (dset d 10) (updY y 10 (.slice (some ⟨g, 0, none⟩) 1 1)) W' := by
  have n13 := h.n13 (i := 10) (by omega) hn
  have n11 : d 11 = false := by
    cases e : d 11 with
    | false => rfl
    | true => rw [h.o11 e] at hn; cases hn
  have hA := h.a n11
  have hA2 : Below X.heap.size X W' := hA.trans (hb.mono hA.size)
  refine ⟨fun _ => rfl, ?_, ?_, fun _ => hA2, fun _ => Far.of hA2, ?_, ?_, ?_⟩
  · show d 13 = true → _; rw [n13]; intro h; cases h
  · intro k hk k10 k11 hdk
    show (if k = 10 then _ else y k) = _
    rw [if_neg k10]
    refine h.p k hk k10 k11 ?_
    have : (if k = 10 then true else d k) = true := hdk
    rw [if_neg k10] at this
    exact this
  · intro _ _; exact ⟨g, Nat.le_trans hA.size hg, rfl, hc⟩
  · show d 11 = true → _; rw [n11]; intro h; cases h
  · show d 13 = true → _; rw [n13]; intro h; cases h
theorem K7.op11 (h : K7 val X B ov j oc t vs Fin d y W) (hn : d 11 = false) (h10 : d 10 = true) {W' : World} {z : Value} (hg : W.grownBy W' (Value.slice ov j oc).ownBlock) (he : W'.ownsRow B 40 1 z (j + 1) (vs ++ [t])) : K7 val X B ov j oc t vs Fin (dset d 11) (updY y 11 z) W' := by
  have n13 := h.n13 (i := 11) (by omega) hn
  have hA := h.a hn
  refine ⟨fun _ => h10, ?_, ?_, ?_, fun _ => Far.grown hA hg, ?_, fun _ _ => he, ?_⟩
  · show d 13 = true → _; rw [n13]; intro h; cases h
  · intro k hk k10 k11 hdk
    show (if k = 11 then _ else y k) = _
    rw [if_neg k11]
    refine h.p k hk k10 k11 ?_
    have : (if k = 11 then true else d k) = true := hdk
    rw [if_neg k11] at this
    exact this
  · intro h; cases h
  · intro _ h; cases h
  · show d 13 = true → _; rw [n13]; intro h; cases h
theorem K7.op13 (h : K7 val X B ov j oc t vs Fin d y W) (hall : ∀ i, i < 13 → d i = true) {W' : World} (hf : Fin (y 11) W') : K7 val X B ov j oc t vs Fin (dset d 13) y W' := by
  have n10 := hall 10 (by omega)
  have n11 := hall 11 (by omega)
  refine ⟨fun _ => n10, ?_, ?_, ?_, ?_, ?_, ?_, fun _ => hf⟩
  · intro _ i hi; show (if i = 13 then true else d i) = true; rw [if_neg (by omega)]; exact hall i hi
  · intro k hk k10 k11 _; exact h.p k hk k10 k11 (hall k (by omega))
  · show d 11 = false → _; rw [n11]; intro h; cases h
  · intro h; cases h
  · intro _; show d 11 = false → _; rw [n11]; intro h; cases h
  · intro _ h; cases h
theorem K7.start (hd : ∀ k, d k = false) (hb : Below X.heap.size X W) : K7 val X B ov j oc t vs Fin d y W :=
  ⟨fun h => (by rw [hd] at h; cases h), fun h => (by rw [hd] at h; cases h), fun _ _ _ _ h => (by rw [hd] at h; cases h), fun _ => hb, fun _ => Far.of hb, fun h => (by rw [hd] at h; cases h), fun h => (by rw [hd] at h; cases h), fun h => (by rw [hd] at h; cases h)⟩
end
end Go.Proofs.YtfjoklbiocniiaaDoor
namespace Go.Proofs.YtfjoklbiocniiaaDoor
open Go.RowKit Go.Shelf Bod Wid
theorem rbk_any (w : World) : Calls Tryd.prog 42 #[] w fun e w' => e = .returned (.agg #[.string ⟨#[32]⟩, .int .i64 1]) ∧ Below w.heap.size w w' := by
  have hb : Below w.heap.size w (w.alloc (.cells #[.string ⟨#[32]⟩, .int .i64 1] 42)) := (Below.refl _ w).alloc (Nat.le_refl _) _
  go_enter Tryd.func42, Tryd.ntmps42
  go_wp2
  exact bodyPost_ret (v := .agg #[.string ⟨#[32]⟩, .int .i64 1]) (by simp [results, Tryd.results42, go_sem]) rfl ⟨rfl, hb⟩
set_option maxRecDepth 100000 in
set_option maxHeartbeats 2000000 in
theorem rtr_any {base n k : Nat} {va : Option Addr} {l : List Cel} (w : World) (h : w.ownsRow base 42 2 (.slice va n k) n (ccs l)) (hl : l.length = n) (hn : n ≤ 1073741824) :
    Calls Tryd.prog 23 #[.slice va n k] w fun e Y => e = .returned (.slice va (trmL l).length k) ∧ Below w.heap.size w Y := by
  have hce := cel_eq
  have HM : Hid (Tryd.prog.follows .mixedOrders = true) := by show _ = _; kernel_rfl
  have HOW : Hid (w.ownsRow base 42 2 (.slice va n k) n (ccs l) ∧ l.length = n) := ⟨h, hl⟩
  clear h hl
  go_enter Tryd.func23, Tryd.ntmps23
  go_wp2
  go_loopw [3] (fun t3 wr => ∃ j : Nat, j ≤ n ∧ t3 = .int .i64 j ∧ Hid (trmL l = trmL (l.take j) ∧ Below w.heap.size w wr)) (fun t3 _ => (intOf t3).toNat)
  case atStart => exact ⟨n, Nat.le_refl _, rfl, by rw [← HOW.out.2, List.take_length], Below.refl _ w⟩
  case round =>
    obtain ⟨jj, hj, rfl, HJ⟩ := hrel
    have HF0 : Hid (∀ dq osq, Below w.heap.size w (Go.Sort.grow (redrawn wr dq) osq)) := fun dq osq => HJ.out.2.trans ((below_regrown wr dq osq).mono HJ.out.2.size)
    by_cases hj00 : jj = 0
    · subst hj00
      have hlen : (trmL l).length = 0 := by rw [HJ.out.1]; simp [trmL]
      have HL : Hid ((trmL l).length = 0) := hlen
      have hk : (0 : Int) ≤ (k : Int) := by omega
      clear hce HJ hlen
      go_wp2_with (fail)
      refine wp_region_quiet_below HM.out (by kernel_rfl) ?_
      repeat (go_big_quiet_step (fail))
      refine wpQuiet_nil ?_
      intro _ hw'
      obtain ⟨⟨dq, osq⟩, hw''⟩ := hw'
      subst hw''
      have HF := HF0.out dq osq
      dsimp only
      generalize Go.Sort.grow (redrawn wr dq) osq = wz at HF ⊢
      replace HF : Hid _ := HF
      go_wp2
      go_ret
      exact ⟨by rw [HL.out]; rfl, HF.out⟩
    · obtain ⟨j, hjj⟩ : ∃ j, jj = j + 1 := ⟨jj - 1, by omega⟩
      obtain ⟨x, hx⟩ : ∃ x, l[j]? = some x := ⟨l[j]'(by have := HOW.out.2; omega), List.getElem?_eq_getElem _⟩
      obtain ⟨vg, vc, hva, -, -⟩ := HOW.out.1.form (by omega)
      have hva1 : va = some ⟨vg, 0, none⟩ := by injection hva
      subst hva1
      obtain ⟨y1, y2⟩ := own_cells (own_nextO HOW.out.1 HJ.out.2) hx (by omega) (o := none) rfl
      have hvk : n ≤ k := by
        rcases HOW.out.1.2 with ⟨e, -⟩ | ⟨g', cap', cur, e, -, -, h3, -⟩
        · cases e
        · injection e with _ _ e; omega
      have htk := trm_take hx
      rw [← hjj] at htk
      have hw1 : IntKind.i64.wrap ((jj : Int) - 1) = (j : Int) := by rw [IntKind.wrap_i64]; omega
      have hw2 : wrap64 ((jj : Int) - 1) = (j : Int) := by unfold wrap64; omega
      have hj0 : (0 : Int) < (jj : Int) := by omega
      have hj1 : (j : Int) < (n : Int) := by omega
      have hjn : j < n := by omega
      have hjd : decide (0 < jj) = true := by simp; omega
      have hj2 : (jj : Int) ≤ (k : Int) := by omega
      have HJJ : Hid (j + 1 ≤ n ∧ jj = j + 1) := ⟨by omega, hjj⟩
      have q1 := cell_rgT y1
      have q2 := cell_rgT y2
      have k1 := call_rgT (W := wr) fun X _ => rbk_any X
      clear hva hj hx hjj hj00 hvk y1 y2
      cases hb : blkC x with
      | true =>
        have hce1 := hce x.tx x.sp
        rw [show blkC ⟨x.tx, x.sp⟩ = true from hb] at hce1
        have HJ2 : Hid (trmL l = trmL (l.take j)) := by show _ = _; rw [HJ.out.1, htk, hb]; rfl
        clear hce htk HJ
        go_wp2_with (fail)
        refine wp_region_quiet_below HM.out (by kernel_rfl) ?_
        iterate 8 (go_big_quiet_step (fail))
        go_big_quiet_step (exact k1 _ _)
        repeat (go_big_quiet_step (fail))
        refine wpQuiet_nil ?_
        intro _ hw'
        obtain ⟨⟨dq, osq⟩, hw''⟩ := hw'
        subst hw''
        have HF := HF0.out dq osq
        dsimp only
        generalize Go.Sort.grow (redrawn wr dq) osq = wz at HF ⊢
        replace HF : Hid _ := HF
        go_wp2
        exact ⟨⟨j, by have := HJJ.out; omega, rfl, HJ2.out, HF.out⟩, by have := HJJ.out; simp [intOf]; omega⟩
      | false =>
        have hce1 := hce x.tx x.sp
        rw [show blkC ⟨x.tx, x.sp⟩ = false from hb] at hce1
        have HL : Hid ((trmL l).length = jj) := by show _ = _; rw [HJ.out.1, htk, hb]; simp; have := HOW.out.2; have := HJJ.out; omega
        clear hce htk HJ
        go_wp2_with (fail)
        refine wp_region_quiet_below HM.out (by kernel_rfl) ?_
        iterate 8 (go_big_quiet_step (fail))
        go_big_quiet_step (exact k1 _ _)
        repeat (go_big_quiet_step (fail))
        refine wpQuiet_nil ?_
        intro _ hw'
        obtain ⟨⟨dq, osq⟩, hw''⟩ := hw'
        subst hw''
        have HF := HF0.out dq osq
        dsimp only
        generalize Go.Sort.grow (redrawn wr dq) osq = wz at HF ⊢
        replace HF : Hid _ := HF
        go_wp2
        go_ret
        exact ⟨by rw [HL.out]; rfl, HF.out⟩
end Go.Proofs.YtfjoklbiocniiaaDoor
namespace Go.Proofs.YtfjoklbiocniiaaDoor
open Go.RowKit Go.Shelf Bod Wid
theorem ccs_len2 (l : List Cel) : (ccs l).length = l.length * 2 := by
  induction l with
  | nil => rfl
  | cons c l ih => rw [ccs, List.flatMap_cons, List.length_append, List.length_cons]; show 2 + (ccs l).length = (l.length + 1) * 2; omega
theorem ccs_get2 : ∀ {l : List Cel} {j : Nat} {c : Cel}, l[j]? = some c → (ccs l)[j * 2]? = some (.string c.tx) ∧ (ccs l)[j * 2 + 1]? = some (.int .i64 c.sp)
  | [], _, _, h => by simp at h
  | q :: l, 0, c, h => by have : q = c := by simpa using h
                          subst this; simp [ccs]
  | q :: l, j + 1, c, h => by
    have := ccs_get2 (l := l) (j := j) (c := c) (by simpa using h)
    have e : ccs (q :: l) = .string q.tx :: .int .i64 q.sp :: ccs l := by simp [ccs]
    rw [e, show (j + 1) * 2 = j * 2 + 1 + 1 by omega]
    simpa using this
/-- a row of the call's own reads as its cells -/
theorem rdce_of {W : World} {base n : Nat} {v : Value} {l : List Cel} (h : W.ownsRow base 42 2 v n (ccs l)) (hn : l.length = n) : RdCe W v l := by
  subst hn
  obtain ⟨a, k, rfl⟩ := own_formO h
  refine ⟨a, k, rfl, fun h0 => ?_⟩
  have hpos : 0 < l.length := List.length_pos_iff.2 h0
  rcases h.2 with ⟨-, e⟩ | ⟨g, cap, cur, e, -, hb, hq, -⟩
  · omega
  · have e0 := e
    injection e with e1 e2 e3
    subst e1 e3
    refine ⟨hq, g, 0, rfl, (Array.getElem?_eq_some_iff.1 hb).1, fun j x hj => ?_⟩
    have hlt := (List.getElem?_eq_some_iff.1 hj).1
    obtain ⟨c0, c1⟩ := ccs_get2 hj
    rw [Nat.zero_add]
    exact ⟨(h.cellAt (j * 2) (by omega)).trans c0, (h.cellAt (j * 2 + 1) (by omega)).trans c1⟩
theorem rdrw_of {W : World} {B j : Nat} {v : Value} {vs : List Value} {R : List (List Cel)} (h : W.ownsRow B 40 1 v j vs) (hr : ∀ (i : Nat) rv l, vs[i]? = some rv → R[i]? = some l → RdCe W rv l) (hn : R.length = j) : RdRw W v R := by
  subst hn
  obtain ⟨a, k, rfl⟩ := own_formO h
  refine ⟨a, k, rfl, fun h0 => ?_⟩
  have hpos : 0 < R.length := List.length_pos_iff.2 h0
  rcases h.2 with ⟨-, e⟩ | ⟨g, cap, cur, e, -, hb, hq, -⟩
  · omega
  · have e0 := e
    injection e with e1 e2 e3
    subst e1 e3
    refine ⟨hq, g, 0, rfl, (Array.getElem?_eq_some_iff.1 hb).1, fun i l hi => ?_⟩
    have hlt := (List.getElem?_eq_some_iff.1 hi).1
    have hvl : vs.length = R.length := by have := h.1; omega
    obtain ⟨rv, hrv⟩ : ∃ rv, vs[i]? = some rv := ⟨vs[i]'(by omega), List.getElem?_eq_getElem _⟩
    refine ⟨rv, ?_, hr i rv l hrv hi⟩
    rw [Nat.zero_add]
    exact (h.cellAt i (by omega)).trans hrv
/-- the pen's rows, trimmed: what stands in the frame for them -/
def tvF (v : Value) (l : List Cel) : Value := match v with
  | .slice a _ k => .slice a (trmL l).length k
  | v => v
def tvL : List Value → List (List Cel) → List Value
  | v :: vs, l :: R => tvF v l :: tvL vs R
  | _, _ => []
theorem tvL_len : ∀ {vs : List Value} {R : List (List Cel)}, vs.length = R.length → (tvL vs R).length = R.length
  | [], [], _ => rfl
  | v :: vs, l :: R, h => by simp only [tvL, List.length_cons]; rw [tvL_len (by simpa using h)]
  | [], l :: R, h => by simp at h
  | v :: vs, [], h => by simp at h
theorem tvL_get : ∀ {vs : List Value} {R : List (List Cel)} {i : Nat} {v : Value} {l : List Cel}, vs[i]? = some v → R[i]? = some l → (tvL vs R)[i]? = some (tvF v l)
  | [], _, _, _, _, h, _ => by simp at h
  | _ :: _, [], _, _, _, _, h => by simp at h
  | u :: vs, m :: R, 0, v, l, h1, h2 => by
    obtain rfl : u = v := by simpa using h1
    obtain rfl : m = l := by simpa using h2
    rfl
  | u :: vs, m :: R, i + 1, v, l, h1, h2 => by
    have := tvL_get (vs := vs) (R := R) (i := i) (v := v) (l := l) (by simpa using h1) (by simpa using h2)
    simpa [tvL] using this
/-- what the pen's rows are, read once -/
theorem pen_rows {B pb : Nat} {w0 : World} {W : Nat} {st : Lst} {X : World} (h : Ps B pb w0 W st X) : ∃ gr kr vs, X.heap[pb]? = some (.cells #[.int .i64 (W : Int), .slice (some ⟨gr, 0, none⟩) st.all.length kr, .int .i64 (st.rows.length : Int), .int .i64 (st.col : Int)] 51 (0, 0)) ∧ X.ownsRow B 40 1 (.slice (some ⟨gr, 0, none⟩) st.all.length kr) st.all.length vs ∧ vs.length = st.all.length ∧ ∀ (i : Nat) v l, vs[i]? = some v → st.all[i]? = some l → X.ownsRow B 42 2 v l.length (ccs l) := by
  obtain ⟨-, -, -, rv, vs, hb, hown, hrw, -⟩ := h
  have hl : st.all.length = st.rows.length + 1 := by simp [Lst.all]
  have hown' := hown
  rw [hl] at hown'
  obtain ⟨gr, kr, rfl⟩ := ownsRow_succ hown'
  rw [← hl] at hown' hb
  exact ⟨gr, kr, vs, by rw [hl] at hb ⊢; exact hb, hown', by have := hown'.1; omega, hrw⟩
theorem cu_next {W : Nat} {st : Lst} {s : ByteArray} {cur : Int} {i : Nat} {c : Clu} (h : (cl s)[i]? = some c) : (curL W st s cur ((cl s).take (i + 1))).2 = if (c.to : Int) ≤ cur then pnF W st s (i + 1) else (curL W st s cur ((cl s).take i)).2 := by
  rw [List.take_add_one, h]
  show (curL W st s cur (_ ++ [c])).2 = _
  rw [curL_snoc]
  unfold curF
  simp only [curL_st]
  by_cases hc : (c.to : Int) ≤ cur
  · rw [if_pos hc, if_pos hc]
    unfold pnF
    rw [layL_take h]
  · rw [if_neg hc, if_neg hc]
/-- the first loop: the frame's cursor -/
structure L1d (w1 w3 : World) (FB lg : Nat) (W : Nat) (p : Nat × Nat) (Y : World) : Prop where
  bel : Below w1.heap.size w1 Y
  box : Y.heap[FB]? = some (.cells #[.int .i64 (W : Int), .slice none 0 0, .int .i64 (p.1 : Int), .int .i64 (p.2 : Int)] 30 (0, 0))
  lst : Y.heap[lg]? = w3.heap[lg]?
theorem L1d.set {w1 w3 Y : World} {FB lg W : Nat} {p q : Nat × Nat} (h : L1d w1 w3 FB lg W p Y) (hF : w1.heap.size ≤ FB) (hl : lg ≠ FB) (hlt : lg < Y.heap.size) : L1d w1 w3 FB lg W q ((Y.setCell ⟨FB, 2, none⟩ (.int .i64 (q.1 : Int))).setCell ⟨FB, 3, none⟩ (.int .i64 (q.2 : Int))) := by
  have g := (gcell Y FB 2 (.int .i64 (q.1 : Int))).trans (gcell _ FB 3 (.int .i64 (q.2 : Int)))
  have h1 := set1 (i := 3) (.int .i64 (q.2 : Int)) (set1 (i := 2) (.int .i64 (q.1 : Int)) h.box)
  exact ⟨(h.bel.setCell (p := ⟨FB, 2, none⟩) hF _).setCell (p := ⟨FB, 3, none⟩) hF _, by simpa using h1, (g.block lg hlt (fun e => hl (Option.some.inj e))).trans h.lst⟩
/-- the second loop: the frame's rows -/
structure L2d (w1 : World) (FB : Nat) (W : Nat) (c : Nat × Nat) (tv : List Value) (i : Nat) (ov : Value) (Y : World) : Prop where
  bel : Below w1.heap.size w1 Y
  box : Y.heap[FB]? = some (.cells #[.int .i64 (W : Int), ov, .int .i64 (c.1 : Int), .int .i64 (c.2 : Int)] 30 (0, 0))
  own : Y.ownsRow w1.heap.size 40 1 ov i (tv.take i)
set_option maxRecDepth 100000 in
set_option maxHeartbeats 4000000 in
theorem rlay_any (hM : Tryd.prog.follows .mixedOrders = true) (p s : ByteArray) (cur W0 : Int) (hp : p.size ≤ 67108864) (hs : s.size ≤ 67108864) (w : World) (Wn : Nat) (hWn : (Wn : Int) = couW W0) :
    Calls Tryd.prog 8 #[.string p, .string s, .int .i64 cur, .int .i64 W0] w fun e Y => ∃ ov, e = .returned (.agg #[.int .i64 (Wn : Int), ov, .int .i64 ((curL Wn (layL Wn lst0 (cus p (cl p))) s cur (cl s)).2.1 : Int), .int .i64 ((curL Wn (layL Wn lst0 (cus p (cl p))) s cur (cl s)).2.2 : Int)]) ∧ Hid (RdRw Y ov ((layPT Wn p s).all.map trmL) ∧ Below w.heap.size w Y) := by
  have HM : Hid (Tryd.prog.follows .mixedOrders = true) := hM
  have hb0 : Below w.heap.size w (w.alloc (.cells #[.int .i64 0, .slice none 0 0, .int .i64 0, .int .i64 0] 30)) := (Below.refl _ w).alloc (Nat.le_refl _) _
  have CD := rlaid_any p s W0 hp hs (w.alloc (.cells #[.int .i64 0, .slice none 0 0, .int .i64 0, .int .i64 0] 30)) Wn hWn
  obtain ⟨N, hN⟩ : ∃ N, (cl s).length = N := ⟨_, rfl⟩
  have hNs := cl_len s
  rw [hN] at hNs
  have CL : Hid (∀ X, Calls Tryd.prog 22 #[.string s] X fun e Y => ∃ a cap lg, e = .returned (.slice a N cap) ∧ Hid (X.heap.size ≤ lg ∧ (∀ (k : Nat) c, (cl s)[k]? = some c → a = some ⟨lg, 0, none⟩ ∧ lg < Y.heap.size) ∧ (∀ Z : World, Z.heap[lg]? = Y.heap[lg]? → ∀ (k : Nat) c, (cl s)[k]? = some c → Z.cell? ⟨lg, k * 4, none⟩ = some (.int .i64 c.fr) ∧ Z.cell? ⟨lg, k * 4 + 1, none⟩ = some (.int .i64 c.to) ∧ Z.cell? ⟨lg, k * 4 + 2, none⟩ = some (.int .i64 c.k) ∧ Z.cell? ⟨lg, k * 4 + 3, none⟩ = some (.int .i64 c.n)) ∧ Below X.heap.size X Y)) := fun X => (rlist_any s (by omega) X).mono fun e Y ⟨v, he, hrow, hb⟩ => by
    obtain ⟨a, cap, rfl⟩ := own_formO hrow
    rw [hN] at he
    by_cases hne : cl s = []
    · exact ⟨a, cap, X.heap.size, he, Nat.le_refl _, fun k c hc => by rw [hne] at hc; simp at hc, fun Z _ k c hc => by rw [hne] at hc; simp at hc, hb⟩
    · obtain ⟨a', cap', e1, hr4⟩ := Rd4.of_row hrow
      obtain ⟨g, hg, hgl, hcell⟩ := hr4 hne
      obtain ⟨e1, -, -⟩ := Value.slice.inj e1
      subst e1
      subst hg
      refine ⟨_, cap, g, he, (own_blkO hrow (g := g) rfl).2.1, fun k c hc => ⟨rfl, hgl⟩, fun Z hZ k c hc => ?_, hb⟩
      obtain ⟨z0, z1, z2, z3⟩ := hcell k c hc
      exact ⟨(World.cell?_of_block (a := ⟨g, k * 4, none⟩) hZ).trans z0, (World.cell?_of_block (a := ⟨g, k * 4 + 1, none⟩) hZ).trans z1, (World.cell?_of_block (a := ⟨g, k * 4 + 2, none⟩) hZ).trans z2, (World.cell?_of_block (a := ⟨g, k * 4 + 3, none⟩) hZ).trans z3⟩
  have HB0 : Hid (Below w.heap.size w (w.alloc (.cells #[.int .i64 0, .slice none 0 0, .int .i64 0, .int .i64 0] 30)) ∧ (w.alloc (.cells #[.int .i64 0, .slice none 0 0, .int .i64 0, .int .i64 0] 30)).heap[w.heap.size]? = some (.cells #[.int .i64 0, .slice none 0 0, .int .i64 0, .int .i64 0] 30 (0, 0)) ∧ (w.alloc (.cells #[.int .i64 0, .slice none 0 0, .int .i64 0, .int .i64 0] 30)).heap.size = w.heap.size + 1) := ⟨hb0, World.alloc_heap_new _ _, by simp⟩
  have hall : (layPT Wn p s).all.length ≤ 536870912 := by
    rw [Lst.all_len]
    have := layPT_rows Wn p s
    show (layPT Wn p s).rows.length + 1 ≤ _
    omega
  have hcuN : (curL Wn (layL Wn lst0 (cus p (cl p))) s cur ((cl s).take N)).2 = (curL Wn (layL Wn lst0 (cus p (cl p))) s cur (cl s)).2 := by rw [← hN, List.take_length]
  have hwid : 1 ≤ Wn ∧ Wn ≤ 65535 := by have := couW_in W0; omega
  have hnar : Nar Wn (layPT Wn p s) := layL_nar hwid.1 (cus_n (s := s) (l := cl s) (fun _ h => h)) (layL_ok hwid.1 (cus_n (s := p) (l := cl p) (fun _ h => h)) (lst0_ok hwid.1)) (layL_nar hwid.1 (cus_n (s := p) (l := cl p) (fun _ h => h)) (lst0_ok hwid.1) (lst0_nar Wn))
  have HRL0 : Hid (∀ l ∈ (layPT Wn p s).all, l.length ≤ 65535) := fun l hl => Nat.le_trans (hnar l hl) hwid.2
  have HNN : Hid ((cl s).length = N ∧ N ≤ 67108864 ∧ (layPT Wn p s).all.length ≤ 536870912 ∧ (curL Wn (layL Wn lst0 (cus p (cl p))) s cur ((cl s).take N)).2 = (curL Wn (layL Wn lst0 (cus p (cl p))) s cur (cl s)).2) := ⟨hN, by omega, hall, hcuN⟩
  clear hM hb0 hN hNs hp hs hWn hall hcuN hwid hnar
  go_enter Tryd.func8, Tryd.ntmps8
  go_wp2_with (go_at_call 21; refine CD.mono ?_; clear CD; rintro e w1 ⟨pb, pv, rfl, HL⟩)
  have hq := HL.out.out
  obtain ⟨gp, kp, rfl⟩ := ownsRow_succ hq
  have hrp := RdPl.of_row hq (by rw [plL_len])
  obtain ⟨gr, kr, vs, hbox, hrows, hvl, heach⟩ := pen_rows HL.out.pen
  rw [HNN.out.1] at hq hrp
  have hpl : ∀ i, i ≤ N → w1.cell? ⟨gp, i * 2, none⟩ = some (.int .i64 ((pnF Wn (layL Wn lst0 (cus p (cl p))) s i).1 : Int)) ∧ w1.cell? ⟨gp, i * 2 + 1, none⟩ = some (.int .i64 ((pnF Wn (layL Wn lst0 (cus p (cl p))) s i).2 : Int)) := fun i hi => by
    obtain ⟨a', c', e1, h2⟩ := hrp
    obtain ⟨g, e2, c0, c1⟩ := h2 i _ (plL_get (by rw [HNN.out.1]; exact hi))
    injection e1 with e1
    rw [e2] at e1
    injection e1 with e1
    injection e1 with e1
    subst e1
    exact ⟨c0, c1⟩
  have HRB : Hid (Below w.heap.size w w1 ∧ w1.heap[w.heap.size]? = some (.cells #[.int .i64 0, .slice none 0 0, .int .i64 0, .int .i64 0] 30 (0, 0))) := ⟨HB0.out.1.trans (HL.out.pen.bel.mono (by have := HB0.out.2.2; omega)), (Pn.kt HL.out.pen).keep _ _ _ _ HB0.out.2.1 (by decide) (by decide) (by decide)⟩
  have HPL : Hid (∀ i, i ≤ N → w1.cell? ⟨gp, i * 2, none⟩ = some (.int .i64 ((pnF Wn (layL Wn lst0 (cus p (cl p))) s i).1 : Int)) ∧ w1.cell? ⟨gp, i * 2 + 1, none⟩ = some (.int .i64 ((pnF Wn (layL Wn lst0 (cus p (cl p))) s i).2 : Int))) := hpl
  have HPB : Hid (w1.heap[pb]? = some (.cells #[.int .i64 (Wn : Int), .slice (some ⟨gr, 0, none⟩) (layPT Wn p s).all.length kr, .int .i64 ((layPT Wn p s).rows.length : Int), .int .i64 ((layPT Wn p s).col : Int)] 51 (0, 0)) ∧ w1.ownsRow w.heap.size 40 1 (.slice (some ⟨gr, 0, none⟩) (layPT Wn p s).all.length kr) (layPT Wn p s).all.length vs ∧ vs.length = (layPT Wn p s).all.length ∧ ∀ (i : Nat) v l, vs[i]? = some v → (layPT Wn p s).all[i]? = some l → w1.ownsRow w.heap.size 42 2 v l.length (ccs l)) := ⟨hbox, own_lower hrows (by have := HB0.out.2.2; omega), hvl, fun i v l h1 h2 => own_lower (heach i v l h1 h2) (by have := HB0.out.2.2; omega)⟩
  obtain ⟨⟨x0, x1, x2, x3⟩, -⟩ := box4 hbox
  obtain ⟨y0, y1⟩ := hpl 0 (Nat.zero_le _)
  simp only [Nat.zero_mul, Nat.zero_add] at y0 y1
  rw [HNN.out.1]
  clear hq hrp hrows heach hpl hbox x1 x2 x3 HL HB0 hvl
  have hN0 : (0 : Int) < ((N + 1 : Nat) : Int) := by omega
  have hN0' : 0 < N + 1 := by omega
  have hz1 : (w1.alloc (.cells #[.int .i64 0, .slice none 0 0, .int .i64 0, .int .i64 0] 30)).cell? ⟨gp, 0, none⟩ = some (.int .i64 ((pnF Wn (layL Wn lst0 (cus p (cl p))) s 0).1 : Int)) := by
    have := World.block_lt_of_cell? w1 _ y0
    exact ((Below.refl w1.heap.size w1).alloc (Nat.le_refl _) _).cell (p := ⟨gp, 0, none⟩) this |>.trans y0
  have hz2 : (w1.alloc (.cells #[.int .i64 0, .slice none 0 0, .int .i64 0, .int .i64 0] 30)).cell? ⟨gp, 1, none⟩ = some (.int .i64 ((pnF Wn (layL Wn lst0 (cus p (cl p))) s 0).2 : Int)) := by
    have := World.block_lt_of_cell? w1 _ y1
    exact ((Below.refl w1.heap.size w1).alloc (Nat.le_refl _) _).cell (p := ⟨gp, 1, none⟩) this |>.trans y1
  have hz3 : (w1.alloc (.cells #[.int .i64 0, .slice none 0 0, .int .i64 0, .int .i64 0] 30)).cell? ⟨pb, 0, none⟩ = some (.int .i64 (Wn : Int)) := by
    have := World.block_lt_of_cell? w1 _ x0
    exact ((Below.refl w1.heap.size w1).alloc (Nat.le_refl _) _).cell (p := ⟨pb, 0, none⟩) this |>.trans x0
  go_region
  have HW2 : Hid (Below w1.heap.size w1 (w1.alloc (.cells #[.int .i64 (Wn : Int), .slice none 0 0, .int .i64 ((pnF Wn (layL Wn lst0 (cus p (cl p))) s 0).1 : Int), .int .i64 ((pnF Wn (layL Wn lst0 (cus p (cl p))) s 0).2 : Int)] 30)).drew ∧ (w1.alloc (.cells #[.int .i64 (Wn : Int), .slice none 0 0, .int .i64 ((pnF Wn (layL Wn lst0 (cus p (cl p))) s 0).1 : Int), .int .i64 ((pnF Wn (layL Wn lst0 (cus p (cl p))) s 0).2 : Int)] 30)).drew.heap[w1.heap.size]? = some (.cells #[.int .i64 (Wn : Int), .slice none 0 0, .int .i64 ((pnF Wn (layL Wn lst0 (cus p (cl p))) s 0).1 : Int), .int .i64 ((pnF Wn (layL Wn lst0 (cus p (cl p))) s 0).2 : Int)] 30 (0, 0))) := ⟨((Below.refl _ w1).alloc (Nat.le_refl _) _).drew, World.alloc_heap_new _ _⟩
  clear hz1 hz2 hz3 x0 y0 y1 hN0 hN0'
  generalize (w1.alloc (.cells #[.int .i64 (Wn : Int), .slice none 0 0, .int .i64 ((pnF Wn (layL Wn lst0 (cus p (cl p))) s 0).1 : Int), .int .i64 ((pnF Wn (layL Wn lst0 (cus p (cl p))) s 0).2 : Int)] 30)).drew = w2 at HW2 ⊢
  obtain ⟨FB, hFB⟩ : ∃ FB, w1.heap.size = FB := ⟨_, rfl⟩
  have HFB : Hid (w1.heap.size = FB) := hFB
  rw [hFB] at HW2 ⊢
  clear hFB
  go_wp2_with (go_at_call 22; refine (CL.out _).mono ?_; clear CL; rintro e w3 ⟨ag, cap, lg, rfl, HL⟩)
  have H0 : Hid (L1d w1 w3 FB lg Wn (curL Wn (layL Wn lst0 (cus p (cl p))) s cur ((cl s).take 0)).2 w3) := ⟨by rw [HFB.out]; exact HW2.out.1.trans (HL.out.2.2.2.mono (by have := HW2.out.1.size; have := HFB.out; omega)), (HL.out.2.2.2.block _ (Array.getElem?_eq_some_iff.1 HW2.out.2).1).trans HW2.out.2, rfl⟩
  have HLG : Hid (FB < lg ∧ w1.heap.size ≤ FB) := ⟨Nat.lt_of_lt_of_le (Array.getElem?_eq_some_iff.1 HW2.out.2).1 HL.out.1, by rw [HFB.out]; exact Nat.le_refl _⟩
  go_loopw [13] (fun t13 wr => ∃ i : Nat, i ≤ N ∧ t13 = .int .i64 i ∧ Hid (L1d w1 w3 FB lg Wn (curL Wn (layL Wn lst0 (cus p (cl p))) s cur ((cl s).take i)).2 wr)) (fun t13 _ => N - (intOf t13).toNat)
  case atStart => exact ⟨0, Nat.zero_le _, rfl, H0⟩
  case round =>
    obtain ⟨i, hi, rfl, HT⟩ := hrel
    clear H0
    by_cases hlt : i < N
    · obtain ⟨c, hc⟩ : ∃ c, (cl s)[i]? = some c := ⟨(cl s)[i]'(by rw [HNN.out.1]; exact hlt), List.getElem?_eq_getElem _⟩
      obtain ⟨rfl, hlgs⟩ := HL.out.2.1 i c hc
      obtain ⟨z0, z1, z2, z3⟩ := HL.out.2.2.1 wr HT.out.lst i c hc
      have hnx := cu_next (W := Wn) (st := layL Wn lst0 (cus p (cl p))) (cur := cur) hc
      have hlgw : lg < wr.heap.size := World.block_lt_of_cell? wr _ z0
      obtain ⟨i1, hi1⟩ : ∃ i1, i1 = i + 1 := ⟨_, rfl⟩
      have hwi : wrap64 ((i : Int) + 1) = ((i1 : Nat) : Int) := by rw [hi1]; exact w64s (by have := HNN.out; omega)
      have hib : (i1 : Int) < ((N + 1 : Nat) : Int) := by omega
      have hib' : i1 < N + 1 := by omega
      have p01 := HPL.out i1 (by omega)
      obtain ⟨p0, p1⟩ := p01
      have p0 := (HT.out.bel.cell (p := ⟨gp, i1 * 2, none⟩) (World.block_lt_of_cell? w1 _ p0)).trans p0
      have p1 := (HT.out.bel.cell (p := ⟨gp, i1 * 2 + 1, none⟩) (World.block_lt_of_cell? w1 _ p1)).trans p1
      rw [← hi1] at hnx
      have HI1 : Hid (i1 = i + 1 ∧ i < N) := ⟨hi1, hlt⟩
      clear z0 z2 z3 hc
      by_cases hcc : (c.to : Int) ≤ cur
      · rw [if_pos hcc] at hnx
        obtain ⟨⟨b0, b1, b2, b3⟩, f0, f1, f2, f3⟩ := box4 HT.out.box
        have HT2 : Hid (L1d w1 w3 FB lg Wn (curL Wn (layL Wn lst0 (cus p (cl p))) s cur ((cl s).take i1)).2 ((wr.setCell ⟨FB, 2, none⟩ (.int .i64 ((pnF Wn (layL Wn lst0 (cus p (cl p))) s i1).1 : Int))).setCell ⟨FB, 3, none⟩ (.int .i64 ((pnF Wn (layL Wn lst0 (cus p (cl p))) s i1).2 : Int)))) := by rw [hnx]; exact HT.out.set (q := pnF Wn (layL Wn lst0 (cus p (cl p))) s i1) HLG.out.2 (by have := HLG.out; omega) hlgw
        clear HT hnx b0 b1 f0 f1 hi1 hlgs hlgw
        go_wp2
        exact ⟨⟨i1, by have := HI1.out; omega, by first | rfl | rw [hwi], HT2⟩, by rw [hwi]; simp [intOf]; have := HI1.out; omega⟩
      · rw [if_neg hcc] at hnx
        have HT2 : Hid (L1d w1 w3 FB lg Wn (curL Wn (layL Wn lst0 (cus p (cl p))) s cur ((cl s).take i1)).2 wr) := by rw [hnx]; exact HT.out
        clear HT hnx p0 p1 hi1 hlgs hlgw
        go_wp2
        exact ⟨⟨i1, by have := HI1.out; omega, by first | rfl | rw [hwi], HT2⟩, by rw [hwi]; simp [intOf]; have := HI1.out; omega⟩
    · have e : i = N := by omega
      rw [e, HNN.out.2.2.2] at HT
      have HT2 : Hid (L1d w1 w3 FB lg Wn (curL Wn (layL Wn lst0 (cus p (cl p))) s cur (cl s)).2 wr) := HT
      clear HT e HPL
      have hM0 : (layPT Wn p s).all.length ≤ 536870912 := HNN.out.2.2.1
      obtain ⟨cu, hcu⟩ : ∃ cu, (curL Wn (layL Wn lst0 (cus p (cl p))) s cur (cl s)).2 = cu := ⟨_, rfl⟩
      rw [hcu] at HT2
      obtain ⟨R, hR⟩ : ∃ R, (layPT Wn p s).all = R := ⟨_, rfl⟩
      have HRR : Hid ((curL Wn (layL Wn lst0 (cus p (cl p))) s cur (cl s)).2 = cu ∧ (layPT Wn p s).all = R) := ⟨hcu, hR⟩
      rw [hR] at HPB hM0 HRL0
      clear hcu hR
      generalize (layPT Wn p s).rows.length = rr at HPB
      generalize (layPT Wn p s).col = cc at HPB
      have HRL : Hid (∀ l ∈ R, l.length ≤ 65535) := HRL0.out
      clear HRL0
      obtain ⟨M, hM⟩ : ∃ M, R.length = M := ⟨_, rfl⟩
      rw [hM] at HPB hM0
      have htl : (tvL vs R).length = M := by rw [tvL_len (by rw [hM]; exact HPB.out.2.2.1), hM]
      have HTV : Hid (R.length = M ∧ (tvL vs R).length = M) := ⟨hM, htl⟩
      clear hM htl HL HLG HW2
      have hpx : ∀ Y, Below w1.heap.size w1 Y → Y.cell? ⟨pb, 1, none⟩ = some (.slice (some ⟨gr, 0, none⟩) M kr) := fun Y hY => by
        obtain ⟨⟨x0, x1, x2, x3⟩, -⟩ := box4 HPB.out.1
        exact (hY.cell (p := ⟨pb, 1, none⟩) (World.block_lt_of_cell? w1 _ x1)).trans x1
      have HPX : Hid (∀ Y, Below w1.heap.size w1 Y → Y.cell? ⟨pb, 1, none⟩ = some (.slice (some ⟨gr, 0, none⟩) M kr)) := hpx
      have H20 : Hid (∃ ov, L2d w1 FB Wn cu (tvL vs R) 0 ov wr) := ⟨_, HT2.out.bel, HT2.out.box, World.ownsRow_nil _ _ _ _⟩
      clear HT2 hpx
      go_wp2
      go_loopw [14] (fun t14 wr => ∃ j : Nat, j ≤ M ∧ t14 = .int .i64 j ∧ Hid (∃ ov, L2d w1 FB Wn cu (tvL vs R) j ov wr)) (fun t14 _ => M - (intOf t14).toNat)
      case atStart => exact ⟨0, Nat.zero_le _, rfl, H20⟩
      case round =>
        obtain ⟨j, hj, rfl, HQ⟩ := hrel
        clear H20
        obtain ⟨ov, hov⟩ := HQ.out
        have hp1 := HPX.out wr hov.bel
        by_cases hlj : j < M
        · obtain ⟨hbel, hbx, hown⟩ := hov
          obtain ⟨oa, oc, rfl⟩ := own_formO hown
          obtain ⟨l, hl⟩ : ∃ l, R[j]? = some l := ⟨R[j]'(by rw [HTV.out.1]; exact hlj), List.getElem?_eq_getElem _⟩
          obtain ⟨v0, hv0⟩ : ∃ v, vs[j]? = some v := ⟨vs[j]'(by rw [HPB.out.2.2.1]; exact hlj), List.getElem?_eq_getElem _⟩
          have hr0 := HPB.out.2.2.2 j v0 l hv0 hl
          obtain ⟨va, k, rfl⟩ := own_formO hr0
          obtain ⟨n, hn0⟩ : ∃ n, l.length = n := ⟨_, rfl⟩
          obtain ⟨n1, hn1⟩ : ∃ n1, (trmL l).length = n1 := ⟨_, rfl⟩
          have htv : (tvL vs R)[j]? = some (.slice va n1 k) := by rw [tvL_get hv0 hl, ← hn1]; rfl
          rw [hn0] at hr0 hv0
          have hnb : n ≤ 1073741824 := by have := HRL.out l (List.mem_of_getElem? hl); omega
          obtain ⟨i1, hi1, hk0, hk1, hk2⟩ := info_parts infoLCE
          have HR : Hid (∀ W, Below w1.heap.size w1 W → Calls Tryd.prog 23 #[.slice va n k] W fun e Y => e = .returned (.slice va n1 k) ∧ Hid (Below W.heap.size W Y)) := fun W hW => by rw [← hn1]; exact rtr_any W (own_nextO hr0 hW) hn0 hnb
          have hcj : w1.cell? ⟨gr, j, none⟩ = some (.slice va n k) := (HPB.out.2.1.cellAt j (by omega)).trans hv0
          have hoc : ∀ g, (Value.slice oa j oc).ownBlock = some g → (∃ cur, wr.heap[g]? = some (.cells cur 40 (0, 0))) ∧ w1.heap.size ≤ g ∧ g < wr.heap.size := fun g e => own_blkO hown e
          have hlj' : (j : Int) < (M : Int) := by omega
          have hj2 : j + 1 ≤ maxLen := by unfold maxLen; omega
          have hj3 : (j + 1) * 24 ≤ 140737488355328 := by omega
          have HFC : Hid (∀ W, Far oa j oc wr W → W.heap[FB]? = some (.cells #[.int .i64 (Wn : Int), .slice oa j oc, .int .i64 (cu.1 : Int), .int .i64 (cu.2 : Int)] 30 (0, 0)) ∧ W.cell? ⟨gr, j, none⟩ = some (.slice va n k) ∧ Below w1.heap.size w1 W ∧ wr.heap.size ≤ W.heap.size) := fun W hW => by
            have kp : ∀ g, g < w1.heap.size → W.heap[g]? = w1.heap[g]? := fun g hg => (hW.2.2.2.2 g (Nat.lt_of_lt_of_le hg hbel.size) (fun e => by have := (hoc g e).2.1; omega)).trans (hbel.block g hg)
            refine ⟨(hW.2.2.2.2 FB (Array.getElem?_eq_some_iff.1 hbx).1 (fun e => ?_)).trans hbx, (World.cell?_of_block (a := ⟨gr, j, none⟩) (kp gr (World.block_lt_of_cell? w1 _ hcj))).trans hcj, ⟨hW.1.trans hbel.os, hW.2.1.trans hbel.tape, hW.2.2.1.trans hbel.output, Nat.le_trans hbel.size hW.2.2.2.1, kp⟩, hW.2.2.2.1⟩
            obtain ⟨⟨cur', hc'⟩, -⟩ := hoc FB e
            rw [hbx] at hc'
            cases hc'
          have HOV : Hid (wr.ownsRow w1.heap.size 40 1 (.slice oa j oc) j ((tvL vs R).take j) ∧ w1.heap.size ≤ wr.heap.size) := ⟨hown, hbel.size⟩
          have HTK : Hid ((tvL vs R).take (j + 1) = (tvL vs R).take j ++ [.slice va n1 k]) := by show _ = _; rw [List.take_add_one, htv]; rfl
          have HLJ : Hid (j < M) := hlj
          obtain ⟨val, HVAL⟩ : ∃ val : Nat → Value, Hid (val 0 = .pointer (some ⟨FB, 1, none⟩) ∧ val 1 = .slice oa j oc ∧ val 2 = .pointer (some ⟨pb, 0, none⟩) ∧ val 3 = .pointer (some ⟨pb, 0, none⟩) ∧ val 4 = .pointer (some ⟨pb, 1, none⟩) ∧ val 5 = .slice (some ⟨gr, 0, none⟩) M kr ∧ val 6 = .int .i64 j ∧ val 7 = .pointer (some ⟨gr, j, none⟩) ∧ val 8 = .slice va n k ∧ val 9 = .slice va n1 k ∧ val 12 = .pointer (some ⟨FB, 1, none⟩)) := ⟨fun i => if i = 0 then .pointer (some ⟨FB, 1, none⟩) else if i = 1 then .slice oa j oc else if i = 2 then .pointer (some ⟨pb, 0, none⟩) else if i = 3 then .pointer (some ⟨pb, 0, none⟩) else if i = 4 then .pointer (some ⟨pb, 1, none⟩) else if i = 5 then .slice (some ⟨gr, 0, none⟩) M kr else if i = 6 then .int .i64 j else if i = 7 then .pointer (some ⟨gr, j, none⟩) else if i = 8 then .slice va n k else if i = 9 then .slice va n1 k else .pointer (some ⟨FB, 1, none⟩), rfl, rfl, rfl, rfl, rfl, rfl, rfl, rfl, rfl, rfl, rfl⟩
          go_wp2_with (fail)
          clear hown hbx hbel hr0 hv0 hl htv hn0 hn1 hnb hcj HQ hp1 hlj
          refine region_inv HM.out (by kernel_rfl) (fun v a' w' => ∃ y : Nat → Value, a' = ⟨#[.string p, .string s, .int .i64 cur, .int .i64 W0, undef, undef, undef, undef, .pointer (some ⟨w.heap.size, 0, none⟩), .pointer (some ⟨pb, 0, none⟩), .slice (some ⟨gp, 0, none⟩) (N + 1) kp, .pointer (some ⟨FB, 0, none⟩), .slice ag N cap, .int .i64 i, .int .i64 j, .tuple #[.pointer (some ⟨pb, 0, none⟩), .slice (some ⟨gp, 0, none⟩) (N + 1) kp], .string p, .string s, .int .i64 W0, .tuple #[.pointer (some ⟨pb, 0, none⟩), .slice (some ⟨gp, 0, none⟩) (N + 1) kp], .pointer (some ⟨pb, 0, none⟩), .slice (some ⟨gp, 0, none⟩) (N + 1) kp, .pointer (some ⟨pb, 0, none⟩), .pointer (some ⟨pb, 0, none⟩), .pointer (some ⟨pb, 0, none⟩), .int .i64 Wn, .slice (some ⟨gp, 0, none⟩) (N + 1) kp, .pointer (some ⟨gp, 0, none⟩), .agg #[.int .i64 ((pnF Wn (layL Wn lst0 (cus p (cl p))) s 0).1 : Int), .int .i64 ((pnF Wn (layL Wn lst0 (cus p (cl p))) s 0).2 : Int)], .agg #[.int .i64 Wn, .slice none 0 0, .int .i64 ((pnF Wn (layL Wn lst0 (cus p (cl p))) s 0).1 : Int), .int .i64 ((pnF Wn (layL Wn lst0 (cus p (cl p))) s 0).2 : Int)], .string s, .slice ag N cap, .int .i64 i, .slice ag N cap, .int .i64 N, .bool false, u36, u37, u38, u39, u40, u41, u42, u43, u44, u45, u46, u47, u48, u49, u50, .int .i64 j, .pointer (some ⟨pb, 0, none⟩), .pointer (some ⟨pb, 0, none⟩), .pointer (some ⟨pb, 1, none⟩), .slice (some ⟨gr, 0, none⟩) M kr, .int .i64 M, .bool true, u58, u59, y 0, y 1, y 2, y 3, y 4, y 5, y 6, y 7, y 8, y 9, y 10, y 11, y 12, undef], []⟩ ∧ Hid (K7 val wr w1.heap.size oa j oc (.slice va n1 k) ((tvL vs R).take j) (fun z11 W => ∃ Y, Far oa j oc wr Y ∧ Y.ownsRow w1.heap.size 40 1 z11 (j + 1) ((tvL vs R).take j ++ [.slice va n1 k]) ∧ W = Y.setCell ⟨FB, 1, none⟩ z11) (fun k => v.getD k false) y w')) ?start ?step ?fin
          case start =>
            refine ⟨fun i => ([u60, u61, u62, u63, u64, u65, u66, u67, u68, u69, u70, u71, u72] : List Value).getD i undef, by simp, ?_⟩
            exact K7.start (fun k => by rw [List.getD_eq_getElem?_getD, List.getElem?_replicate]; split <;> rfl) ⟨rfl, rfl, rfl, Nat.le_refl _, fun _ _ => rfl⟩
          case step =>
            intro i' o' v a' w' ho hv hni hop hI
            obtain ⟨y, rfl, HI⟩ := hI
            obtain ⟨hn', hiv⟩ := undone hni
            have hv : v.length = 14 := hv
            have hn : (fun k => v.getD k false) i' = false := hn'
            rcases i' with _ | _ | _ | _ | _ | _ | _ | _ | _ | _ | _ | _ | _ | _ | i'
            · obtain rfl := Option.some.inj ho
              have n13 := HI.out.n13 (i := 0) (by omega) hn
              have HN := HI.out.read (Below.refl _ w') (i := 0) (by omega) (by omega) (by omega) hn
              rw [← dset_of hiv, HVAL.out.1] at HN
              replace HN : Hid _ := HN
              go_wp2
              exact ⟨updY y 0 (.pointer (some ⟨FB, 1, none⟩)), by simp [updY], HN⟩
            · obtain rfl := Option.some.inj ho
              have n13 := HI.out.n13 (i := 1) (by omega) hn
              have e0 := (HI.out.p 0 (by omega) (by omega) (by omega) (open_waits hop (by kernel_rfl))).trans HVAL.out.1
              obtain ⟨⟨c0, c1, c2, c3⟩, -⟩ := box4 (HFC.out _ (HI.out.b n13)).1
              clear c0 c2 c3
              have HN := HI.out.read (Below.refl _ w') (i := 1) (by omega) (by omega) (by omega) hn
              rw [← dset_of hiv, HVAL.out.2.1] at HN
              replace HN : Hid _ := HN
              simp only [e0]
              go_wp2
              exact ⟨updY y 1 (.slice oa j oc), by simp [updY, e0], HN⟩
            · obtain rfl := Option.some.inj ho
              have n13 := HI.out.n13 (i := 2) (by omega) hn
              have HN := HI.out.read (Below.refl _ w') (i := 2) (by omega) (by omega) (by omega) hn
              rw [← dset_of hiv, HVAL.out.2.2.1] at HN
              replace HN : Hid _ := HN
              go_wp2
              exact ⟨updY y 2 (.pointer (some ⟨pb, 0, none⟩)), by simp [updY], HN⟩
            · obtain rfl := Option.some.inj ho
              have n13 := HI.out.n13 (i := 3) (by omega) hn
              have e2 := (HI.out.p 2 (by omega) (by omega) (by omega) (open_waits hop (by kernel_rfl))).trans HVAL.out.2.2.1
              have HN := HI.out.read (Below.refl _ w') (i := 3) (by omega) (by omega) (by omega) hn
              rw [← dset_of hiv, HVAL.out.2.2.2.1] at HN
              replace HN : Hid _ := HN
              simp only [e2]
              go_wp2
              exact ⟨updY y 3 (.pointer (some ⟨pb, 0, none⟩)), by simp [updY, e2], HN⟩
            · obtain rfl := Option.some.inj ho
              have n13 := HI.out.n13 (i := 4) (by omega) hn
              have e3 := (HI.out.p 3 (by omega) (by omega) (by omega) (open_waits hop (by kernel_rfl))).trans HVAL.out.2.2.2.1
              have HN := HI.out.read (Below.refl _ w') (i := 4) (by omega) (by omega) (by omega) hn
              rw [← dset_of hiv, HVAL.out.2.2.2.2.1] at HN
              replace HN : Hid _ := HN
              simp only [e3]
              go_wp2
              exact ⟨updY y 4 (.pointer (some ⟨pb, 1, none⟩)), by simp [updY, e3], HN⟩
            · obtain rfl := Option.some.inj ho
              have n13 := HI.out.n13 (i := 5) (by omega) hn
              have e4 := (HI.out.p 4 (by omega) (by omega) (by omega) (open_waits hop (by kernel_rfl))).trans HVAL.out.2.2.2.2.1
              have c1 := HPX.out _ (HFC.out _ (HI.out.b n13)).2.2.1
              have HN := HI.out.read (Below.refl _ w') (i := 5) (by omega) (by omega) (by omega) hn
              rw [← dset_of hiv, HVAL.out.2.2.2.2.2.1] at HN
              replace HN : Hid _ := HN
              simp only [e4]
              go_wp2
              exact ⟨updY y 5 (.slice (some ⟨gr, 0, none⟩) M kr), by simp [updY, e4], HN⟩
            · obtain rfl := Option.some.inj ho
              have n13 := HI.out.n13 (i := 6) (by omega) hn
              have HN := HI.out.read (Below.refl _ w') (i := 6) (by omega) (by omega) (by omega) hn
              rw [← dset_of hiv, HVAL.out.2.2.2.2.2.2.1] at HN
              replace HN : Hid _ := HN
              go_wp2
              exact ⟨updY y 6 (.int .i64 j), by simp [updY], HN⟩
            · obtain rfl := Option.some.inj ho
              have n13 := HI.out.n13 (i := 7) (by omega) hn
              have e5 := (HI.out.p 5 (by omega) (by omega) (by omega) (open_waits hop (by kernel_rfl))).trans HVAL.out.2.2.2.2.2.1
              have e6 := (HI.out.p 6 (by omega) (by omega) (by omega) (open_waits hop (by kernel_rfl))).trans HVAL.out.2.2.2.2.2.2.1
              have HN := HI.out.read (Below.refl _ w') (i := 7) (by omega) (by omega) (by omega) hn
              rw [← dset_of hiv, HVAL.out.2.2.2.2.2.2.2.1] at HN
              replace HN : Hid _ := HN
              simp only [e5, e6]
              go_wp2
              exact ⟨updY y 7 (.pointer (some ⟨gr, j, none⟩)), by simp [updY, e5, e6], HN⟩
            · obtain rfl := Option.some.inj ho
              have n13 := HI.out.n13 (i := 8) (by omega) hn
              have e7 := (HI.out.p 7 (by omega) (by omega) (by omega) (open_waits hop (by kernel_rfl))).trans HVAL.out.2.2.2.2.2.2.2.1
              have c1 := (HFC.out _ (HI.out.b n13)).2.1
              have HN := HI.out.read (Below.refl _ w') (i := 8) (by omega) (by omega) (by omega) hn
              rw [← dset_of hiv, HVAL.out.2.2.2.2.2.2.2.2.1] at HN
              replace HN : Hid _ := HN
              simp only [e7]
              go_wp2
              exact ⟨updY y 8 (.slice va n k), by simp [updY, e7], HN⟩
            · obtain rfl := Option.some.inj ho
              have n13 := HI.out.n13 (i := 9) (by omega) hn
              have e8 := (HI.out.p 8 (by omega) (by omega) (by omega) (open_waits hop (by kernel_rfl))).trans HVAL.out.2.2.2.2.2.2.2.2.1
              have HC := HR.out w' (HFC.out _ (HI.out.b n13)).2.2.1
              simp only [e8]
              go_wp2_with (go_at_call 23; refine HC.mono ?_; clear HC; rintro e Z ⟨rfl, HZ⟩)
              have HN := HI.out.read HZ.out (i := 9) (by omega) (by omega) (by omega) hn
              rw [← dset_of hiv, HVAL.out.2.2.2.2.2.2.2.2.2.1] at HN
              exact ⟨updY y 9 (.slice va n1 k), by simp [updY, e8], HN⟩
            · obtain rfl := Option.some.inj ho
              have n13 := HI.out.n13 (i := 10) (by omega) hn
              have e9 := (HI.out.p 9 (by omega) (by omega) (by omega) (open_waits hop (by kernel_rfl))).trans HVAL.out.2.2.2.2.2.2.2.2.2.1
              have HN := HI.out.op10 hn (W' := w'.alloc (.cells #[.slice va n1 k] 40)) (g := w'.heap.size) ((Below.refl _ w').alloc (Nat.le_refl _) _) (Nat.le_refl _) (World.alloc_heap_new _ _)
              rw [← dset_of hiv] at HN
              replace HN : Hid _ := HN
              simp only [e9]
              go_wp2
              exact ⟨updY y 10 (.slice (some ⟨w'.heap.size, 0, none⟩) 1 1), by simp [updY, e9], HN⟩
            · obtain rfl := Option.some.inj ho
              have n13 := HI.out.n13 (i := 11) (by omega) hn
              have d10 : v.getD 10 false = true := open_waits hop (by kernel_rfl)
              have e1 := (HI.out.p 1 (by omega) (by omega) (by omega) (open_waits hop (by kernel_rfl))).trans HVAL.out.2.1
              obtain ⟨g9, -, e10, hb9⟩ := HI.out.s d10 hn
              have hA := HI.out.a hn
              have hws : w1.heap.size ≤ w'.heap.size := Nat.le_trans HOV.out.2 hA.size
              have HSTEP : Hid (∀ a1 c1 w2, w2.ownsRow w1.heap.size 40 1 (.slice a1 (j + 1) c1) (j + 1) ((tvL vs R).take j ++ [.slice va n1 k]) → w'.grownBy w2 (Value.slice oa j oc).ownBlock → K7 val wr w1.heap.size oa j oc (.slice va n1 k) ((tvL vs R).take j) (fun z11 W => ∃ Y, Far oa j oc wr Y ∧ Y.ownsRow w1.heap.size 40 1 z11 (j + 1) ((tvL vs R).take j ++ [.slice va n1 k]) ∧ W = Y.setCell ⟨FB, 1, none⟩ z11) (fun k => (v.set 11 true).getD k false) (updY y 11 (.slice a1 (j + 1) c1)) w2) := fun a1 c1 w2 h1 h2 => by
                have := HI.out.op11 hn d10 h2 h1
                rw [← dset_of hiv] at this
                exact this
              simp only [e1, e10]
              refine wpList_append_row rfl _ _ _ rfl w1.heap.size 40 i1 _ 1 24 Tryd.underlying26 hi1 hk0 hk1 hk2 rfl (by decide) (.slice oa j oc) j ((tvL vs R).take j) rfl (own_nextO HOV.out.1 hA) (some ⟨g9, 0, none⟩) 1 1 [.slice va n1 k] rfl rfl (fun e => by cases e) (fun ad e => by cases e; exact World.news_of_block hb9) (by intro u hu; rcases List.mem_singleton.1 hu with rfl; rfl) hj2 hj3 hws ?_
              intro a1 c1 w2 hown2 hg2 _
              have HN := HSTEP.out a1 c1 w2 hown2 hg2
              replace HN : Hid _ := HN
              go_wp2
              exact ⟨updY y 11 (.slice a1 (j + 1) c1), by simp [updY, e1, e10], HN⟩
            · obtain rfl := Option.some.inj ho
              have n13 := HI.out.n13 (i := 12) (by omega) hn
              have HN := HI.out.read (Below.refl _ w') (i := 12) (by omega) (by omega) (by omega) hn
              rw [← dset_of hiv, HVAL.out.2.2.2.2.2.2.2.2.2.2] at HN
              replace HN : Hid _ := HN
              go_wp2
              exact ⟨updY y 12 (.pointer (some ⟨FB, 1, none⟩)), by simp [updY], HN⟩
            · obtain rfl := Option.some.inj ho
              have hall : ∀ i, i < 13 → (fun k => v.getD k false) i = true := by
                intro i hi
                rcases i with _ | _ | _ | _ | _ | _ | _ | _ | _ | _ | _ | _ | _ | i
                · exact open_waits hop (by kernel_rfl)
                · exact open_waits hop (by kernel_rfl)
                · exact open_waits hop (by kernel_rfl)
                · exact open_waits hop (by kernel_rfl)
                · exact open_waits hop (by kernel_rfl)
                · exact open_waits hop (by kernel_rfl)
                · exact open_waits hop (by kernel_rfl)
                · exact open_waits hop (by kernel_rfl)
                · exact open_waits hop (by kernel_rfl)
                · exact open_waits hop (by kernel_rfl)
                · exact open_waits hop (by kernel_rfl)
                · exact open_waits hop (by kernel_rfl)
                · exact open_waits hop (by kernel_rfl)
                · omega
              have e12 := (HI.out.p 12 (by omega) (by omega) (by omega) (hall 12 (by omega))).trans HVAL.out.2.2.2.2.2.2.2.2.2.2
              have hu := HI.out.u (hall 11 (by omega)) hn
              obtain ⟨a11, c11, e11⟩ := own_formO hu
              have hB := HI.out.b hn
              obtain ⟨⟨c0, c1, c2, c3⟩, f0, f1, f2, f3⟩ := box4 (HFC.out _ hB).1
              have HN := HI.out.op13 hall (W' := w'.setCell ⟨FB, 1, none⟩ (.slice a11 (j + 1) c11)) ⟨w', hB, hu, by rw [e11]⟩
              rw [← dset_of hiv] at HN
              replace HN : Hid _ := HN
              clear hu c0 c2 c3 f0 f2 f3
              simp only [e12, e11]
              go_wp2
              exact ⟨y, by simp [e12, e11], HN⟩
            · exact absurd ho (by simp)
          case fin =>
            intro v a' w' hv hall hI
            obtain ⟨y, rfl, HI⟩ := hI
            have hv : v.length = 14 := hv
            obtain ⟨Y, hY, hu, hW⟩ := HI.out.f (of_all hall (by omega))
            obtain ⟨a11, c11, e11⟩ := own_formO hu
            obtain ⟨hfb, -, hbl, -⟩ := HFC.out _ hY
            have HH : Hid (∃ ov, L2d w1 FB Wn cu (tvL vs R) (j + 1) ov w') := by
              rw [e11] at hW hu
              refine ⟨.slice a11 (j + 1) c11, ?_, ?_, ?_⟩
              · rw [hW]; exact hbl.setCell (p := ⟨FB, 1, none⟩) (by rw [HFB.out]; exact Nat.le_refl _) _
              · rw [hW]; simpa using set1 (i := 1) (.slice a11 (j + 1) c11) hfb
              · rw [hW, HTK.out]; exact own_farO hu (gcell Y FB 1 _) (fun g e1 e2 => by cases e2; exact own_ty hu hfb (by decide) e1)
            clear HI hall hu hW hfb hbl
            go_wp2
            exact ⟨⟨j + 1, by have := HLJ.out; omega, by go_num, HH⟩, by have := HLJ.out; simp [intOf]; omega⟩
        · -- the end
          have e : j = M := by omega
          subst e
          have hrb := (hov.bel.block _ (Array.getElem?_eq_some_iff.1 HRB.out.2).1).trans HRB.out.2
          obtain ⟨⟨r0, r1, r2, r3⟩, g0, g1, g2, g3⟩ := box4 hrb
          obtain ⟨⟨b0, b1, b2, b3⟩, -⟩ := box4 hov.box
          have hg4 : wr.grownBy ((((wr.setCell ⟨w.heap.size, 0, none⟩ (.int .i64 (Wn : Int))).setCell ⟨w.heap.size, 1, none⟩ ov).setCell ⟨w.heap.size, 2, none⟩ (.int .i64 (cu.1 : Int))).setCell ⟨w.heap.size, 3, none⟩ (.int .i64 (cu.2 : Int))) (some w.heap.size) := (((gcell wr w.heap.size 0 _).trans (gcell _ w.heap.size 1 _)).trans (gcell _ w.heap.size 2 _)).trans (gcell _ w.heap.size 3 _)
          have hbl : Below w.heap.size w ((((wr.setCell ⟨w.heap.size, 0, none⟩ (.int .i64 (Wn : Int))).setCell ⟨w.heap.size, 1, none⟩ ov).setCell ⟨w.heap.size, 2, none⟩ (.int .i64 (cu.1 : Int))).setCell ⟨w.heap.size, 3, none⟩ (.int .i64 (cu.2 : Int))) := ((((HRB.out.1.trans (hov.bel.mono HRB.out.1.size)).setCell (by show w.heap.size ≤ w.heap.size; exact Nat.le_refl _) _).setCell (by show w.heap.size ≤ w.heap.size; exact Nat.le_refl _) _).setCell (by show w.heap.size ≤ w.heap.size; exact Nat.le_refl _) _).setCell (by show w.heap.size ≤ w.heap.size; exact Nat.le_refl _) _
          have h4 := set1 (i := 3) (.int .i64 (cu.2 : Int)) (set1 (i := 2) (.int .i64 (cu.1 : Int)) (set1 (i := 1) ov (set1 (i := 0) (.int .i64 (Wn : Int)) hrb)))
          have hown := hov.own
          rw [List.take_of_length_le (by rw [HTV.out.2]; exact Nat.le_refl _)] at hown
          have hrw : RdRw ((((wr.setCell ⟨w.heap.size, 0, none⟩ (.int .i64 (Wn : Int))).setCell ⟨w.heap.size, 1, none⟩ ov).setCell ⟨w.heap.size, 2, none⟩ (.int .i64 (cu.1 : Int))).setCell ⟨w.heap.size, 3, none⟩ (.int .i64 (cu.2 : Int))) ov (R.map trmL) := by
            refine rdrw_of (own_farO hown hg4 (fun g e1 e2 => by cases e2; exact own_ty hown hrb (by decide) e1)) (fun i rv l h1 h2 => ?_) (by rw [List.length_map]; exact HTV.out.1)
            rw [List.getElem?_map] at h2
            obtain ⟨l0, hl0, rfl⟩ : ∃ l0, R[i]? = some l0 ∧ trmL l0 = l := by
              cases e : R[i]? with
              | none => rw [e] at h2; cases h2
              | some l0 => rw [e] at h2; exact ⟨l0, rfl, Option.some.inj h2⟩
            have hiM := (List.getElem?_eq_some_iff.1 hl0).1
            obtain ⟨v0, hv0⟩ : ∃ v, vs[i]? = some v := ⟨vs[i]'(by rw [HPB.out.2.2.1]; rw [HTV.out.1] at hiM; exact hiM), List.getElem?_eq_getElem _⟩
            have hr0 := own_nextO (HPB.out.2.2.2 i v0 l0 hv0 hl0) hov.bel
            have hr1 := own_farO hr0 hg4 (fun g e1 e2 => by cases e2; exact own_ty hr0 hrb (by decide) e1)
            obtain ⟨va, k, rfl⟩ := own_formO hr0
            rw [tvL_get hv0 hl0] at h1
            obtain rfl := Option.some.inj h1
            obtain ⟨n', hn', ht'⟩ := trm_pre l0
            have hlen : (trmL l0).length = n' := by rw [ht', List.length_take]; omega
            show RdCe _ (.slice va (trmL l0).length k) (trmL l0)
            refine rdce_of (base := w.heap.size) (n := (trmL l0).length) ?_ rfl
            rw [hlen, ht']
            exact own_cut hr1 hn' rfl
          have HZ : Hid (RdRw ((((wr.setCell ⟨w.heap.size, 0, none⟩ (.int .i64 (Wn : Int))).setCell ⟨w.heap.size, 1, none⟩ ov).setCell ⟨w.heap.size, 2, none⟩ (.int .i64 (cu.1 : Int))).setCell ⟨w.heap.size, 3, none⟩ (.int .i64 (cu.2 : Int))) ov (R.map trmL) ∧ Below w.heap.size w ((((wr.setCell ⟨w.heap.size, 0, none⟩ (.int .i64 (Wn : Int))).setCell ⟨w.heap.size, 1, none⟩ ov).setCell ⟨w.heap.size, 2, none⟩ (.int .i64 (cu.1 : Int))).setCell ⟨w.heap.size, 3, none⟩ (.int .i64 (cu.2 : Int))) ∧ ((((wr.setCell ⟨w.heap.size, 0, none⟩ (.int .i64 (Wn : Int))).setCell ⟨w.heap.size, 1, none⟩ ov).setCell ⟨w.heap.size, 2, none⟩ (.int .i64 (cu.1 : Int))).setCell ⟨w.heap.size, 3, none⟩ (.int .i64 (cu.2 : Int))).heap[w.heap.size]? = some (.cells #[.int .i64 (Wn : Int), ov, .int .i64 (cu.1 : Int), .int .i64 (cu.2 : Int)] 30 (0, 0))) := ⟨hrw, hbl, by simpa using h4⟩
          have hoa : ∃ a k, ov = .slice a j k := own_formO hown
          obtain ⟨a5, k5, rfl⟩ := hoa
          clear hrw hbl h4 hown hg4 hrb hov HQ HPB HRL HTV
          go_wp2
          obtain ⟨⟨c0, c1, c2, c3⟩, -⟩ := box4 HZ.out.2.2
          have HZ2 := HZ.out
          exact bodyPost_ret (v := .agg #[.int .i64 (Wn : Int), .slice a5 j k5, .int .i64 (cu.1 : Int), .int .i64 (cu.2 : Int)]) (by simp [results, Tryd.results8, go_sem, c0, c1, c2, c3]) rfl ⟨_, by rw [HRR.out.1], by rw [HRR.out.2]; exact ⟨HZ2.1, HZ2.2.1⟩⟩
end Go.Proofs.YtfjoklbiocniiaaDoor
