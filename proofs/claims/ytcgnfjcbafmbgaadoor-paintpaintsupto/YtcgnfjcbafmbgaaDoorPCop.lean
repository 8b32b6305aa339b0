/-
  The statements' own copied of layer 21: a frame in new memory. Conditions: a frame that fits the machine.
-/
import Derived.Laws.AppendOwnNone
import Derived.Maps.OwnIn
import Derived.Test.YtcgnfjcbafmbgaaDoorURegInv
import Derived.Test.YtcgnfjcbafmbgaaDoorPNxt
namespace Go.Proofs.YtcgnfjcbafmbgaaDoor
open Go.RowKit Go.Shelf Bod Wid
def ccL (l : List Cel) : List Value := l.flatMap fun c => [.string c.tx, .int .i64 c.sp]
theorem ccL_len (l : List Cel) : (ccL l).length = l.length * 2 := by
  induction l with
  | nil => rfl
  | cons c l ih => rw [ccL, List.flatMap_cons, List.length_append, List.length_cons]; show 2 + (ccL l).length = (l.length + 1) * 2; omega
theorem ccL_get : ∀ {l : List Cel} {j : Nat} {c : Cel}, l[j]? = some c → (ccL l)[j * 2]? = some (.string c.tx) ∧ (ccL l)[j * 2 + 1]? = some (.int .i64 c.sp)
  | [], _, _, h => by simp at h
  | q :: l, 0, c, h => by have : q = c := by simpa using h
                          subst this; simp [ccL]
  | q :: l, j + 1, c, h => by
    have := ccL_get (l := l) (j := j) (c := c) (by simpa using h)
    have e : ccL (q :: l) = .string q.tx :: .int .i64 q.sp :: ccL l := by simp [ccL]
    rw [e, show (j + 1) * 2 = j * 2 + 1 + 1 by omega]
    simpa using this
/-- a row of the call's own reads as its cells -/
theorem own_rd {W : World} {base n : Nat} {v : Value} {l : List Cel} (h : W.ownsRow base 40 2 v n (ccL l)) (hn : l.length = n) : RdCe W v l := by
  subst hn
  rcases Nat.eq_zero_or_pos l.length with h0 | h0
  · have : l = [] := List.length_eq_zero_iff.1 h0
    subst this
    rcases h.2 with ⟨e, -⟩ | ⟨g, cap, cur, e, -⟩
    · exact ⟨_, _, e, fun h => absurd rfl h⟩
    · exact ⟨_, _, e, fun h => absurd rfl h⟩
  · obtain ⟨g, q, e, hq, hg⟩ : ∃ g q, v = .slice (some ⟨g, 0, none⟩) l.length q ∧ l.length ≤ q ∧ g < W.heap.size := by
      rcases h.2 with ⟨-, e⟩ | ⟨g, cap, cur, e, -, hb, hq, -⟩
      · omega
      · exact ⟨g, cap, e, hq, (Array.getElem?_eq_some_iff.1 hb).1⟩
    refine ⟨_, _, e, fun _ => ⟨hq, g, 0, rfl, hg, fun j x hj => ?_⟩⟩
    have hlt := (List.getElem?_eq_some_iff.1 hj).1
    subst e
    obtain ⟨c0, c1⟩ := ccL_get hj
    rw [Nat.zero_add]
    exact ⟨(h.cellAt (j * 2) (by omega)).trans c0, (h.cellAt (j * 2 + 1) (by omega)).trans c1⟩
theorem ccL_one {l : List Cel} : ∀ u ∈ ccL l, u.oneCell' = true := fun u hu => by
  obtain ⟨c, -, hc⟩ := List.mem_flatMap.1 hu
  rcases List.mem_cons.1 hc with rfl | hc
  · rfl
  · rcases List.mem_cons.1 hc with rfl | hc
    · rfl
    · cases hc
theorem add_at (g o j : Nat) : (⟨g, o, none⟩ : Addr).add j = ⟨g, o + j, none⟩ := by unfold Addr.add; split <;> simp_all
/-- the cells of a row that is read, one behind the other -/
theorem rd_news {W : World} {g o n k : Nat} {l : List Cel} (h : RdCe W (.slice (some ⟨g, o, none⟩) n k) l) : ∀ j u, (ccL l)[j]? = some u → W.cell? ((⟨g, o, none⟩ : Addr).add j) = some u := fun j u hu => by
  have hlt := (List.getElem?_eq_some_iff.1 hu).1
  rw [ccL_len] at hlt
  obtain ⟨a', k', e, h⟩ := h
  injection e with e1 e2 e3
  obtain ⟨-, g', o', e, -, hc⟩ := h (by rintro rfl; simp at hlt)
  rw [← e1] at e
  injection e with e
  injection e with e4 e5
  subst e4 e5
  obtain ⟨c, hcl⟩ : ∃ c, l[j / 2]? = some c := ⟨l[j / 2]'(by omega), List.getElem?_eq_getElem _⟩
  obtain ⟨c0, c1⟩ := hc (j / 2) c hcl
  obtain ⟨q0, q1⟩ := ccL_get hcl
  rw [add_at]
  rcases (show j = j / 2 * 2 ∨ j = j / 2 * 2 + 1 by omega) with hj | hj
  · rw [hj] at hu ⊢
    rw [q0] at hu
    cases hu
    exact c0
  · rw [hj] at hu ⊢
    rw [q1] at hu
    cases hu
    rw [← Nat.add_assoc]
    exact c1
theorem run_append_nil {P : Program} {w : World} {c : Nat} (base : Nat) (t ty e : TypeId) (i : TypeInfo) (size : Nat) (ht : P.underlying t = some (.slice e)) (hi : P.info? e = some i)
    (v : Value) (n : Nat) (xs : List Value) (hown : w.ownsRow base e size v n xs) : (Builtin.append_ #[t, t] ty #[v, .slice none 0 c]).run P w = .ok v w := by
  rcases hown.2 with ⟨rfl, rfl⟩ | ⟨g, cap, cur, rfl, _, _, hnc, _⟩
  · simp [Builtin.append_, run_underlying ht, sizeOf, typeInfo, hi, Builtin.lenOf, Builtin.firstCells]
  · simp [Builtin.append_, run_underlying ht, sizeOf, typeInfo, hi, Builtin.lenOf, Builtin.firstCells, hnc, storeCells]
theorem own_form {W : World} {base c n : Nat} {e : TypeId} {v : Value} {xs : List Value} (h : W.ownsRow base e c v n xs) : ∃ a k, v = .slice a n k := by
  rcases h.2 with ⟨h0, h1⟩ | ⟨g, cap, cur, hv, _⟩
  · exact ⟨_, _, by rw [h0, h1]⟩
  · exact ⟨_, _, hv⟩
/-- append of any slice to a row of the call's own -/
theorem wpList_append_row {P : Program} {w : World} {ops : Array Oper} {rest : List Oper} {o : Oper} {a : Act} {Q : Exit → Act → World → Prop} (hgd : o.guard = none) (s x : Operand) (t : TypeId)
    (ho : o.op = .call { callee := .builtin .append, args := #[s, x], argTypes := #[t, t] })
    (base : Nat) (e : TypeId) (i : TypeInfo) (z : Value) (size bytes : Nat) (ht : P.underlying t = some (.slice e)) (hi : P.info? e = some i) (hz : i.zero = some z)
    (hsize : i.size = size) (hby : i.bytes = bytes) (hzs : z.cells.size = size) (hsz : 0 < size)
    (v : Value) (n : Nat) (xs : List Value) (hs : a.eval s = v) (hown : w.ownsRow base e size v n xs)
    (b : Option Addr) (m c : Nat) (news : List Value) (hx : a.eval x = .slice b m c) (hl : news.length = m * size) (hb : b = none → m = 0) (hnews : ∀ ad, b = some ad → ∀ j u, news[j]? = some u → w.cell? (ad.add j) = some u) (h1 : ∀ u ∈ news, u.oneCell' = true)
    (h63 : n + m ≤ maxLen) (hbytes : (n + m) * bytes ≤ 140737488355328) (hbase : base ≤ w.heap.size)
    (h : ∀ a' c' w', w'.ownsRow base e size (.slice a' (n + m) c') (n + m) (xs ++ news) → w.grownBy w' v.ownBlock → ((Value.slice a' (n + m) c').ownBlock = v.ownBlock ∨ (Value.slice a' (n + m) c').ownBlock = some w.heap.size) → wpList P ops Q rest (a.put o.dst (.slice a' (n + m) c')) w') :
    wpList P ops Q (o :: rest) a w := by
  refine wpList_plain hgd fun K hK => ?_
  cases b with
  | none =>
    obtain rfl := hb rfl
    have hn0 : news = [] := List.length_eq_zero_iff.1 (by omega)
    subst hn0
    have hr := run_append_nil (P := P) (c := c) base t o.type e i size ht hi v n xs hown
    obtain ⟨a', c', rfl⟩ := own_form hown
    unfold Oper.wp execOp
    simp only [ho, resolve, invoke, builtin, Sem.run_bind, Sem.run_pure, Result.andThen_ok, List.map_toArray, List.map_cons, List.map_nil, hs, hx, hr]
    exact hK _ _ (h a' c' w (by simpa using hown) (World.grownBy.refl _ _) (.inl rfl))
  | some ad =>
    obtain ⟨v', w', hr, h2, h3, h4, h5⟩ := run_append_own_at (P := P) w base t o.type e i z size bytes ht hi hz hsize hby hzs hsz v n xs hown ad m c news hl (hnews ad rfl) h1 h63 hbytes hbase
    obtain ⟨a', c', rfl⟩ := own_form h2
    unfold Oper.wp execOp
    simp only [ho, resolve, invoke, builtin, Sem.run_bind, Sem.run_pure, Result.andThen_ok, List.map_toArray, List.map_cons, List.map_nil, hs, hx, hr]
    exact hK _ _ (h a' c' w' h2 h3 h5)
theorem infoCel : (Tryd.prog.info? 40).map (fun i => (i.zero, i.size, i.bytes)) = some (some (.agg #[.string ⟨#[]⟩, .int .i64 0]), 2, 24) := by kernel_rfl
theorem infoRow : (Tryd.prog.info? 29).map (fun i => (i.zero, i.size, i.bytes)) = some (some (.slice none 0 0), 1, 24) := by kernel_rfl
theorem own_next {W W' : World} {base c n : Nat} {e : TypeId} {v : Value} {xs : List Value} (h : W.ownsRow base e c v n xs) (hb : Below W.heap.size W W') : W'.ownsRow base e c v n xs :=
  ⟨h.1, h.2.imp id fun ⟨g, cap, cur, h1, h2, h3, h4⟩ => ⟨g, cap, cur, h1, h2, (hb.block g (Array.getElem?_eq_some_iff.1 h3).1).trans h3, h4⟩⟩
theorem own_far {W W' : World} {base c n : Nat} {e : TypeId} {v : Value} {xs : List Value} {row : Option Nat} (h : W.ownsRow base e c v n xs) (hg : W.grownBy W' row) (hne : ∀ g, v.ownBlock = some g → row ≠ some g) : W'.ownsRow base e c v n xs :=
  ⟨h.1, h.2.imp id fun ⟨g, cap, cur, h1, h2, h3, h4⟩ => ⟨g, cap, cur, h1, h2, (hg.block g (Array.getElem?_eq_some_iff.1 h3).1 (fun e => hne g (by rw [h1]; rfl) e.symm)).trans h3, h4⟩⟩
theorem own_blk {W : World} {base c n g : Nat} {e : TypeId} {v : Value} {xs : List Value} (h : W.ownsRow base e c v n xs) (hg : v.ownBlock = some g) : (∃ cur, W.heap[g]? = some (.cells cur e (0, 0))) ∧ base ≤ g ∧ g < W.heap.size := by
  rcases h.2 with ⟨h0, _⟩ | ⟨g', cap', cur, hv, hb, hgb, _⟩
  · rw [h0] at hg; cases hg
  · rw [hv] at hg; cases hg; exact ⟨⟨_, hgb⟩, hb, (Array.getElem?_eq_some_iff.1 hgb).1⟩
/-- the copy under way: its row of rows v, each row in a block of its own -/
structure Cpy (w : World) (R : List (List Cel)) (j : Nat) (v : Value) (W : World) : Prop where
  bel : Below w.heap.size w W
  own : ∃ vs : List Value, W.ownsRow (w.heap.size + 3) 29 1 v j vs ∧ ∀ (i : Nat) rv l, vs[i]? = some rv → R[i]? = some l → W.ownsRow (w.heap.size + 3) 40 2 rv l.length (ccL l)
def updY (y : Nat → Value) (i : Nat) (z : Value) : Nat → Value := fun k => if k = i then z else y k
def dset (d : Nat → Bool) (i : Nat) : Nat → Bool := fun k => if k = i then true else d k
/-- all but the row's own block is as it was -/
def Far (ov : Option Addr) (j oc : Nat) (X W : World) : Prop := W.os = X.os ∧ W.tape = X.tape ∧ W.output = X.output ∧ X.heap.size ≤ W.heap.size ∧ ∀ g, g < X.heap.size → (Value.slice ov j oc).ownBlock ≠ some g → W.heap[g]? = X.heap[g]?
theorem Far.of {ov : Option Addr} {j oc : Nat} {X W : World} (h : Below X.heap.size X W) : Far ov j oc X W := ⟨h.os, h.tape, h.output, h.size, fun g hg _ => h.block g hg⟩
theorem Far.grown {ov : Option Addr} {j oc : Nat} {X W W' : World} (h : Below X.heap.size X W) (hg : W.grownBy W' (Value.slice ov j oc).ownBlock) : Far ov j oc X W' :=
  ⟨hg.os.trans h.os, hg.tape.trans h.tape, hg.output.trans h.output, Nat.le_trans h.size hg.size, fun g hgx hne => (hg.block g (Nat.lt_of_lt_of_le hgx h.size) (fun e => hne e.symm)).trans (h.block g hgx)⟩
/-- the line's operations: which have run, what they yield, what the world then holds. X: the world ahead; B: the least block of the call's own rows -/
structure K6 (val : Nat → Value) (X : World) (B : Nat) (ov : Option Addr) (j oc q : Nat) (l : List Cel) (vs : List Value) (Fin : Value → Value → World → Prop) (d : Nat → Bool) (y : Nat → Value) (W : World) : Prop where
  o9 : d 9 = true → d 8 = true
  o10 : d 10 = true → d 9 = true
  o12 : d 12 = true → ∀ i, i < 12 → d i = true
  p : ∀ i, i = 0 ∨ i = 1 ∨ i = 3 ∨ i = 4 ∨ i = 5 ∨ i = 6 ∨ i = 7 ∨ i = 11 → d i = true → y i = val i
  a : d 10 = false → Below X.heap.size X W
  b : d 12 = false → Far ov j oc X W
  e : d 2 = true → d 8 = false → W.ownsRow B 40 2 (y 2) 0 [] ∧ ∀ g, (y 2).ownBlock = some g → X.heap.size ≤ g
  r : d 8 = true → d 12 = false → W.ownsRow B 40 2 (y 8) q (ccL l) ∧ ∀ g, (y 8).ownBlock = some g → X.heap.size ≤ g
  s : d 9 = true → d 10 = false → ∃ g, X.heap.size ≤ g ∧ y 9 = .slice (some ⟨g, 0, none⟩) 1 1 ∧ W.heap[g]? = some (.cells #[y 8] 29 (0, 0))
  u : d 10 = true → d 12 = false → W.ownsRow B 29 1 (y 10) (j + 1) (vs ++ [y 8])
  f : d 12 = true → Fin (y 8) (y 10) W
section
variable {val : Nat → Value} {X : World} {B : Nat} {ov : Option Addr} {j oc q : Nat} {l : List Cel} {vs : List Value} {Fin : Value → Value → World → Prop} {d : Nat → Bool} {y : Nat → Value} {W : World}
theorem K6.n12 (h : K6 val X B ov j oc q l vs Fin d y W) {i : Nat} (hi : i < 12) (hn : d i = false) : d 12 = false := by
  cases e : d 12 with
  | false => rfl
  | true => rw [h.o12 e i hi] at hn; cases hn
theorem K6.read (h : K6 val X B ov j oc q l vs Fin d y W) {i : Nat} (hi : i = 0 ∨ i = 1 ∨ i = 3 ∨ i = 4 ∨ i = 5 ∨ i = 6 ∨ i = 7 ∨ i = 11) (hn : d i = false) : K6 val X B ov j oc q l vs Fin (dset d i) (updY y i (val i)) W := by
  have hi12 : i < 12 := by omega
  have n12 := h.n12 hi12 hn
  have hd : ∀ k, k ≠ i → dset d i k = d k := fun k hk => by unfold dset; rw [if_neg hk]
  have hy : ∀ k, k ≠ i → updY y i (val i) k = y k := fun k hk => by unfold updY; rw [if_neg hk]
  have a2 := hd 2 (by omega); have a8 := hd 8 (by omega); have a9 := hd 9 (by omega); have a10 := hd 10 (by omega); have a12 := hd 12 (by omega)
  have y2 := hy 2 (by omega); have y8 := hy 8 (by omega); have y9 := hy 9 (by omega); have y10 := hy 10 (by omega)
  refine ⟨?_, ?_, ?_, ?_, ?_, ?_, ?_, ?_, ?_, ?_, ?_⟩
  · rw [a9, a8]; exact h.o9
  · rw [a10, a9]; exact h.o10
  · rw [a12, n12]; intro h; cases h
  · intro k hk hdk
    by_cases e : k = i
    · subst e; unfold updY; rw [if_pos rfl]
    · rw [hy k e]; exact h.p k hk (by rw [← hd k e]; exact hdk)
  · rw [a10]; exact h.a
  · rw [a12]; exact h.b
  · rw [a2, a8, y2]; exact h.e
  · rw [a8, a12, y8]; exact h.r
  · rw [a9, a10, y9, y8]; exact h.s
  · rw [a10, a12, y10, y8]; exact h.u
  · rw [a12, n12]; intro h; cases h
theorem K6.op2 (h : K6 val X B ov j oc q l vs Fin d y W) (hn : d 2 = false) {W' : World} {z : Value} (hb : Below W.heap.size W W') (he : W'.ownsRow B 40 2 z 0 []) (hz : ∀ g, z.ownBlock = some g → W.heap.size ≤ g) : K6 val X B ov j oc q l vs Fin (dset d 2) (updY y 2 z) W' := by
  have n12 := h.n12 (i := 2) (by omega) hn
  have hF := h.b n12
  have hx : X.heap.size ≤ W.heap.size := hF.2.2.2.1
  refine ⟨h.o9, h.o10, ?_, ?_, ?_, ?_, ?_, ?_, ?_, ?_, ?_⟩
  · show d 12 = true → _; rw [n12]; intro h; cases h
  · intro k hk hdk
    have e : k ≠ 2 := by omega
    show (if k = 2 then z else y k) = _
    rw [if_neg e]
    refine h.p k hk ?_
    have : (if k = 2 then true else d k) = true := hdk
    rw [if_neg e] at this
    exact this
  · intro h10; exact (h.a h10).trans (hb.mono hx)
  · intro _; exact ⟨hb.os.trans hF.1, hb.tape.trans hF.2.1, hb.output.trans hF.2.2.1, Nat.le_trans hx hb.size, fun g hg hne => (hb.block g (by omega)).trans (hF.2.2.2.2 g hg hne)⟩
  · intro _ _; exact ⟨he, fun g hg => Nat.le_trans hx (hz g hg)⟩
  · intro h8 h12; exact ⟨own_next (h.r h8 h12).1 hb, (h.r h8 h12).2⟩
  · intro h9 h10
    obtain ⟨g, g1, g2, g3⟩ := h.s h9 h10
    exact ⟨g, g1, g2, (hb.block g (Array.getElem?_eq_some_iff.1 g3).1).trans g3⟩
  · intro h10 h12; exact own_next (h.u h10 h12) hb
  · show d 12 = true → _; rw [n12]; intro h; cases h
theorem K6.op8 (h : K6 val X B ov j oc q l vs Fin d y W) (hn : d 8 = false) (h2 : d 2 = true) {W' : World} {z : Value} (hg : W.grownBy W' (y 2).ownBlock) (he : W'.ownsRow B 40 2 z q (ccL l)) (hz : z.ownBlock = (y 2).ownBlock ∨ z.ownBlock = some W.heap.size) : K6 val X B ov j oc q l vs Fin (dset d 8) (updY y 8 z) W' := by
  have n12 := h.n12 (i := 8) (by omega) hn
  have n9 : d 9 = false := by
    cases e : d 9 with
    | false => rfl
    | true => rw [h.o9 e] at hn; cases hn
  have n10 : d 10 = false := by
    cases e : d 10 with
    | false => rfl
    | true => rw [h.o10 e] at n9; cases n9
  have hA := h.a n10
  obtain ⟨e1, e2⟩ := h.e h2 hn
  have hA2 : Below X.heap.size X W' := hA.grown hg hA.size (fun k e => e2 k e)
  refine ⟨fun _ => rfl, ?_, ?_, ?_, fun _ => hA2, fun _ => Far.of hA2, ?_, ?_, ?_, ?_, ?_⟩
  · show d 10 = true → _; rw [n10]; intro h; cases h
  · show d 12 = true → _; rw [n12]; intro h; cases h
  · intro k hk hdk
    have e : k ≠ 8 := by omega
    show (if k = 8 then z else y k) = _
    rw [if_neg e]
    refine h.p k hk ?_
    have : (if k = 8 then true else d k) = true := hdk
    rw [if_neg e] at this
    exact this
  · intro _ h; cases h
  · intro _ _
    refine ⟨he, fun g hg' => ?_⟩
    have hg' : z.ownBlock = some g := hg'
    rcases hz with hz | hz
    · exact e2 g (hz.symm.trans hg')
    · rw [hz] at hg'; cases hg'; exact hA.size
  · show d 9 = true → _; rw [n9]; intro h; cases h
  · show d 10 = true → _; rw [n10]; intro h; cases h
  · show d 12 = true → _; rw [n12]; intro h; cases h
theorem K6.op9 (h : K6 val X B ov j oc q l vs Fin d y W) (hn : d 9 = false) (h8 : d 8 = true) {W' : World} {g : Nat} (hb : Below W.heap.size W W') (hg : W.heap.size ≤ g) (hc : W'.heap[g]? = some (.cells #[y 8] 29 (0, 0))) : K6 val X B ov j oc q l vs Fin (dset d 9) (updY y 9 (.slice (some ⟨g, 0, none⟩) 1 1)) W' := by
  have n12 := h.n12 (i := 9) (by omega) hn
  have n10 : d 10 = false := by
    cases e : d 10 with
    | false => rfl
    | true => rw [h.o10 e] at hn; cases hn
  have hA := h.a n10
  have hA2 : Below X.heap.size X W' := hA.trans (hb.mono hA.size)
  refine ⟨fun _ => h8, fun _ => rfl, ?_, ?_, fun _ => hA2, fun _ => Far.of hA2, ?_, ?_, ?_, ?_, ?_⟩
  · show d 12 = true → _; rw [n12]; intro h; cases h
  · intro k hk hdk
    have e : k ≠ 9 := by omega
    show (if k = 9 then _ else y k) = _
    rw [if_neg e]
    refine h.p k hk ?_
    have : (if k = 9 then true else d k) = true := hdk
    rw [if_neg e] at this
    exact this
  · intro _ h; have h : d 8 = false := h; rw [h8] at h; cases h
  · intro h8 h12; exact ⟨own_next (h.r h8 h12).1 hb, (h.r h8 h12).2⟩
  · intro _ _; exact ⟨g, Nat.le_trans hA.size hg, rfl, hc⟩
  · show d 10 = true → _; rw [n10]; intro h; cases h
  · show d 12 = true → _; rw [n12]; intro h; cases h
theorem K6.op10 (h : K6 val X B ov j oc q l vs Fin d y W) (hn : d 10 = false) (h9 : d 9 = true) (hov : ∀ g, (Value.slice ov j oc).ownBlock = some g → g < X.heap.size) {W' : World} {z : Value} (hg : W.grownBy W' (Value.slice ov j oc).ownBlock) (he : W'.ownsRow B 29 1 z (j + 1) (vs ++ [y 8])) : K6 val X B ov j oc q l vs Fin (dset d 10) (updY y 10 z) W' := by
  have n12 := h.n12 (i := 10) (by omega) hn
  have h8 := h.o9 h9
  have hA := h.a hn
  refine ⟨fun _ => h8, fun _ => h9, ?_, ?_, ?_, fun _ => Far.grown hA hg, ?_, ?_, ?_, fun _ _ => he, ?_⟩
  · show d 12 = true → _; rw [n12]; intro h; cases h
  · intro k hk hdk
    have e : k ≠ 10 := by omega
    show (if k = 10 then _ else y k) = _
    rw [if_neg e]
    refine h.p k hk ?_
    have : (if k = 10 then true else d k) = true := hdk
    rw [if_neg e] at this
    exact this
  · intro h; cases h
  · intro _ h; have h : d 8 = false := h; rw [h8] at h; cases h
  · intro h8 h12
    obtain ⟨r1, r2⟩ := h.r h8 h12
    exact ⟨own_far r1 hg (fun g e1 e2 => by have := r2 g e1; have := hov g e2; omega), r2⟩
  · intro _ h; cases h
  · show d 12 = true → _; rw [n12]; intro h; cases h
theorem K6.op12 (h : K6 val X B ov j oc q l vs Fin d y W) (hall : ∀ i, i < 12 → d i = true) {W' : World} (hf : Fin (y 8) (y 10) W') : K6 val X B ov j oc q l vs Fin (dset d 12) y W' := by
  have n8 := hall 8 (by omega)
  have n10 := hall 10 (by omega)
  refine ⟨fun _ => n8, fun _ => hall 9 (by omega), ?_, ?_, ?_, ?_, ?_, ?_, ?_, ?_, fun _ => hf⟩
  · intro _ i hi; show (if i = 12 then true else d i) = true; rw [if_neg (by omega)]; exact hall i hi
  · intro k hk _; exact h.p k hk (hall k (by omega))
  · show d 10 = false → _; rw [n10]; intro h; cases h
  · intro h; cases h
  · intro _; show d 8 = false → _; rw [n8]; intro h; cases h
  · intro _ h; cases h
  · intro _; show d 10 = false → _; rw [n10]; intro h; cases h
  · intro _ h; cases h
end
theorem rdrw_own {W : World} {B j : Nat} {v : Value} {vs : List Value} {R : List (List Cel)} (h : W.ownsRow B 29 1 v j vs) (hr : ∀ (i : Nat) rv l, vs[i]? = some rv → R[i]? = some l → W.ownsRow B 40 2 rv l.length (ccL l)) (hn : R.length = j) : RdRw W v R := by
  subst hn
  obtain ⟨a, k, rfl⟩ := own_form h
  refine ⟨a, k, rfl, fun h0 => ?_⟩
  have hpos : 0 < R.length := List.length_pos_iff.2 h0
  rcases h.2 with ⟨-, e⟩ | ⟨g, cap, cur, e, -, hb, hq, -⟩
  · omega
  · have e0 := e
    injection e with e1 e2 e3
    subst e1 e3
    refine ⟨hq, g, 0, rfl, (Array.getElem?_eq_some_iff.1 hb).1, fun i l hi => ?_⟩
    have hlt := (List.getElem?_eq_some_iff.1 hi).1
    have hvl : vs.length = R.length := by have := h.1; omega
    obtain ⟨rv, hrv⟩ : ∃ rv, vs[i]? = some rv := ⟨vs[i]'(by omega), List.getElem?_eq_getElem _⟩
    refine ⟨rv, ?_, own_rd (hr i rv l hrv hi) rfl⟩
    rw [Nat.zero_add]
    exact (h.cellAt i (by omega)).trans hrv
theorem push3q (a : Array Obj) (o0 o1 o2 : Obj) : (((a.push o0).push o1).push o2)[a.size]? = some o0 ∧ (((a.push o0).push o1).push o2)[a.size + 1]? = some o1 ∧ (((a.push o0).push o1).push o2)[a.size + 1 + 1]? = some o2 := by
  have hs : ((a.push o0).push o1).size = a.size + 1 + 1 := by simp only [Array.size_push]
  have hs1 : (a.push o0).size = a.size + 1 := by simp only [Array.size_push]
  refine ⟨?_, ?_, ?_⟩
  · rw [Array.getElem?_push, if_neg (by omega), Array.getElem?_push, if_neg (by omega), Array.getElem?_push, if_pos rfl]
  · rw [Array.getElem?_push, if_neg (by omega), Array.getElem?_push, if_pos (by omega)]
  · rw [Array.getElem?_push, if_pos (by omega)]
theorem K6.start {val : Nat → Value} {X : World} {B : Nat} {ov : Option Addr} {j oc q : Nat} {l : List Cel} {vs : List Value} {Fin : Value → Value → World → Prop} {d : Nat → Bool} {y : Nat → Value} {W : World} (hd : ∀ k, d k = false) (hb : Below X.heap.size X W) : K6 val X B ov j oc q l vs Fin d y W :=
  ⟨fun h => (by rw [hd] at h; cases h), fun h => (by rw [hd] at h; cases h), fun h => (by rw [hd] at h; cases h), fun _ _ h => (by rw [hd] at h; cases h), fun _ => hb, fun _ => Far.of hb, fun h => (by rw [hd] at h; cases h), fun h => (by rw [hd] at h; cases h), fun h => (by rw [hd] at h; cases h), fun h => (by rw [hd] at h; cases h), fun h => (by rw [hd] at h; cases h)⟩
theorem dset_of {v : List Bool} {i : Nat} (hi : i < v.length) : (fun k => (v.set i true).getD k false) = dset (fun k => v.getD k false) i := by
  funext k
  unfold dset
  simp only [List.getD_eq_getElem?_getD, List.getElem?_set]
  by_cases h : i = k
  · subst h; simp [hi]
  · rw [if_neg h, if_neg (fun e => h e.symm)]
theorem undone {v : List Bool} {i : Nat} (h : v.getD i true = false) : v.getD i false = false ∧ i < v.length := by
  rw [List.getD_eq_getElem?_getD] at h ⊢
  cases e : v[i]? with
  | none => rw [e] at h; cases h
  | some b => rw [e] at h; exact ⟨h, (List.getElem?_eq_some_iff.1 e).1⟩
set_option maxRecDepth 100000 in
set_option maxHeartbeats 4000000 in
theorem copied_any (hM : Tryd.prog.follows .mixedOrders = true) (v : Value) (f : Fm) (hf : Fs f) (w : World) (h : RdFm w v f) :
    Calls Tryd.prog 14 #[v] w fun e w' => (∃ v', e = .returned v' ∧ RdFm w' v' f) ∧ Below w.heap.size w w' := by
  obtain ⟨rv, rfl, h⟩ := h
  obtain ⟨a, k, rfl, hc⟩ := h.get
  obtain ⟨fw, R, fr, fc⟩ := f
  simp only at h hc hf ⊢
  obtain ⟨n, hn⟩ : ∃ n, R.length = n := ⟨_, rfl⟩
  have HM : Hid (Tryd.prog.follows .mixedOrders = true) := hM
  rw [hn]
  go_enter Tryd.func14, Tryd.ntmps14
  go_wp2
  go_loopw [4] (fun t wr => ∃ j : Nat, j ≤ n ∧ t = .int .i64 j ∧ Hid (∃ v, wr.heap[w.heap.size]? = some (.cells #[.int .i64 fw, .slice a n k, .int .i64 fr, .int .i64 fc] 26 (0, 0)) ∧ wr.heap[w.heap.size + 1]? = some (.cells #[.int .i64 0, .slice none 0 0, .int .i64 0, .int .i64 0] 26 (0, 0)) ∧ wr.heap[w.heap.size + 1 + 1]? = some (.cells #[.int .i64 fw, v, .int .i64 fr, .int .i64 fc] 26 (0, 0)) ∧ Cpy w R j v wr)) (fun t _ => n - (intOf t).toNat)
  case atStart =>
    obtain ⟨q0, q1, q2⟩ := push3q w.heap (.cells #[.int .i64 fw, .slice a n k, .int .i64 fr, .int .i64 fc] 26) (.cells #[.int .i64 0, .slice none 0 0, .int .i64 0, .int .i64 0] 26) (.cells #[.int .i64 fw, .slice none 0 0, .int .i64 fr, .int .i64 fc] 26)
    exact ⟨0, Nat.zero_le _, rfl, .slice none 0 0, q0, q1, q2, ⟨(((Below.refl _ w).alloc (Nat.le_refl _) _).alloc (by simp) _).alloc (by simp; omega) _, [], World.ownsRow_nil _ _ _ _, fun i rv l h => by simp at h⟩⟩
  case round =>
    obtain ⟨j, hj, rfl, HB⟩ := hrel
    obtain ⟨v, hf0, hzb, hg0, hcp⟩ := HB.out
    by_cases hlt : j < n
    · obtain ⟨l, hl⟩ : ∃ l, R[j]? = some l := ⟨R[j]'(by rw [hn]; exact hlt), List.getElem?_eq_getElem _⟩
      obtain ⟨g, o, b, m, rfl, hgl, y0, hrd⟩ := hc j l hl
      have hlt' : (j : Int) < (n : Int) := by omega
      obtain ⟨⟨x0, x1, x2, x3⟩, -⟩ := box4 hf0
      obtain ⟨⟨z0, z1, z2, z3⟩, -⟩ := box4 hg0
      replace y0 := (hcp.bel.cell (p := ⟨g, o + j, none⟩) hgl).trans y0
      have HLT : Hid (j < n ∧ n ≤ 2147483648) := ⟨hlt, by rw [← hn]; exact hf.1⟩
      obtain ⟨q, hq⟩ : ∃ q, l.length = q := ⟨_, rfl⟩
      rw [hq] at y0
      obtain ⟨hbel, vs, hown, hrows⟩ := hcp
      obtain ⟨ov, oc, rfl⟩ := own_form hown
      obtain ⟨i0, hi0, hz0, hz1, hz2⟩ := info_parts infoCel
      obtain ⟨i1, hi1, hk0, hk1, hk2⟩ := info_parts infoRow
      have hsz : w.heap.size + 3 ≤ wr.heap.size := (Array.getElem?_eq_some_iff.1 hg0).1
      have hb0 : b = none → q = 0 := fun e => by
        obtain ⟨a', k', e2, hh⟩ := hrd
        injection e2 with e3 e4 e5
        rcases Nat.eq_zero_or_pos q with h0 | h0
        · exact h0
        · obtain ⟨-, g', o', e6, -⟩ := hh (by rintro rfl; simp at hq; omega)
          rw [← e3, e] at e6
          cases e6
      have hnews : ∀ W, Below wr.heap.size wr W → ∀ ad, b = some ad → ∀ j u, (ccL l)[j]? = some u → W.cell? (ad.add j) = some u := fun W hW ad e => by
        subst e
        have hr := (hrd.below (Nat.le_refl _) hbel).below (Nat.le_refl _) hW
        rw [hq] at hr
        rcases Nat.eq_zero_or_pos q with h0 | h0
        · intro j' u hu
          have := (List.getElem?_eq_some_iff.1 hu).1
          rw [ccL_len, hq, h0] at this
          omega
        · obtain ⟨a', k', e2, hh⟩ := id hr
          injection e2 with e3 e4 e5
          obtain ⟨-, g', o', e6, -⟩ := hh (by rintro rfl; simp at hq; omega)
          rw [← e3] at e6
          injection e6 with e6
          subst e6
          exact rd_news hr
      have hlen : (ccL l).length = q * 2 := by rw [ccL_len, hq]
      have hql := (hf.2 l (List.mem_of_getElem? hl)).1
      have hq2 : 0 + q ≤ maxLen := by unfold maxLen; omega
      have hq3 : (0 + q) * 24 ≤ 140737488355328 := by omega
      have hj2 : j + 1 ≤ maxLen := by have := HLT.out; unfold maxLen; omega
      have hj3 : (j + 1) * 24 ≤ 140737488355328 := by have := HLT.out; omega
      have hov : ∀ g, (Value.slice ov j oc).ownBlock = some g → g < wr.heap.size ∧ w.heap.size + 3 ≤ g := fun g e => ⟨(own_blk hown e).2.2, (own_blk hown e).2.1⟩
      have HFC : Hid (∀ W, Far ov j oc wr W → W.cell? ⟨w.heap.size, 1, none⟩ = some (.slice (some ⟨g, o, none⟩) n k) ∧ W.heap[w.heap.size + 1 + 1]? = some (.cells #[.int .i64 fw, .slice ov j oc, .int .i64 fr, .int .i64 fc] 26 (0, 0)) ∧ W.cell? ⟨g, o + j, none⟩ = some (.slice b q m) ∧ W.heap[w.heap.size]? = some (.cells #[.int .i64 fw, .slice (some ⟨g, o, none⟩) n k, .int .i64 fr, .int .i64 fc] 26 (0, 0)) ∧ W.heap[w.heap.size + 1]? = some (.cells #[.int .i64 0, .slice none 0 0, .int .i64 0, .int .i64 0] 26 (0, 0)) ∧ Below w.heap.size w W ∧ w.heap.size + 3 ≤ W.heap.size) := fun W hW => by
        have kp : ∀ g, g < w.heap.size + 3 → W.heap[g]? = wr.heap[g]? := fun g hg => hW.2.2.2.2 g (by omega) (fun e => by have := (hov g e).2; omega)
        have hb1 := (kp w.heap.size (by omega)).trans hf0
        refine ⟨by simp [World.cell?, hb1], (kp _ (by omega)).trans hg0, (World.cell?_of_block (kp g (by omega))).trans y0, hb1, (kp _ (by omega)).trans hzb, ⟨hW.1.trans hbel.os, hW.2.1.trans hbel.tape, hW.2.2.1.trans hbel.output, Nat.le_trans hbel.size hW.2.2.2.1, fun g hg => (kp g (by omega)).trans (hbel.block g hg)⟩, Nat.le_trans hsz hW.2.2.2.1⟩
      have HOV : Hid (wr.ownsRow (w.heap.size + 3) 29 1 (.slice ov j oc) j vs) := hown
      have HRW : Hid (∀ W, Far ov j oc wr W → ∀ (i : Nat) rv l, vs[i]? = some rv → R[i]? = some l → W.ownsRow (w.heap.size + 3) 40 2 rv l.length (ccL l)) := fun W hW i rv l h1 h2 => by
        have hr := hrows i rv l h1 h2
        refine ⟨hr.1, hr.2.imp id fun ⟨g, cap, cur, q1, q2, q3, q4⟩ => ⟨g, cap, cur, q1, q2, (hW.2.2.2.2 g (Array.getElem?_eq_some_iff.1 q3).1 (fun e => ?_)).trans q3, q4⟩⟩
        obtain ⟨cur', hc'⟩ := (own_blk hown e).1
        rw [q3] at hc'
        cases hc'
      obtain ⟨val, HVAL⟩ : ∃ val : Nat → Value, Hid (val 0 = .pointer (some ⟨w.heap.size + 1 + 1, 1, none⟩) ∧ val 1 = .slice ov j oc ∧ val 3 = .pointer (some ⟨w.heap.size, 1, none⟩) ∧ val 4 = .slice (some ⟨g, o, none⟩) n k ∧ val 5 = .int .i64 j ∧ val 6 = .pointer (some ⟨g, o + j, none⟩) ∧ val 7 = .slice b q m ∧ val 11 = .pointer (some ⟨w.heap.size + 1 + 1, 1, none⟩)) := ⟨fun i => if i = 0 then .pointer (some ⟨w.heap.size + 1 + 1, 1, none⟩) else if i = 1 then .slice ov j oc else if i = 3 then .pointer (some ⟨w.heap.size, 1, none⟩) else if i = 4 then .slice (some ⟨g, o, none⟩) n k else if i = 5 then .int .i64 j else if i = 6 then .pointer (some ⟨g, o + j, none⟩) else if i = 7 then .slice b q m else .pointer (some ⟨w.heap.size + 1 + 1, 1, none⟩), rfl, rfl, rfl, rfl, rfl, rfl, rfl, rfl⟩
      go_upto_region 6 with (fail)
      clear hc h x0 x2 x3 z0 z2 z3 hrd
      refine region_inv HM.out (by kernel_rfl) (fun v a' w' => ∃ y : Nat → Value, a' = ⟨#[.agg #[.int .i64 fw, .slice (some ⟨g, o, none⟩) n k, .int .i64 fr, .int .i64 fc], .pointer (some ⟨w.heap.size, 0, none⟩), .pointer (some ⟨w.heap.size + 1, 0, none⟩), .pointer (some ⟨w.heap.size + 1 + 1, 0, none⟩), .int .i64 j, .agg #[.int .i64 fw, .slice (some ⟨g, o, none⟩) n k, .int .i64 fr, .int .i64 fc], .pointer (some ⟨w.heap.size + 1 + 1, 1, none⟩), .int .i64 j, .pointer (some ⟨w.heap.size, 1, none⟩), .slice (some ⟨g, o, none⟩) n k, .int .i64 n, .bool true, u12, u13, y 0, y 1, y 2, y 3, y 4, y 5, y 6, y 7, y 8, y 9, y 10, y 11, undef], []⟩ ∧ Hid (K6 val wr (w.heap.size + 3) ov j oc q l vs (fun z8 z10 W => ∃ Y, Far ov j oc wr Y ∧ Y.ownsRow (w.heap.size + 3) 40 2 z8 q (ccL l) ∧ Y.ownsRow (w.heap.size + 3) 29 1 z10 (j + 1) (vs ++ [z8]) ∧ W = Y.setCell ⟨w.heap.size + 1 + 1, 1, none⟩ z10) (fun k => v.getD k false) y w')) ?start ?step ?fin
      case start =>
        refine ⟨fun i => ([u14, u15, u16, u17, u18, u19, u20, u21, u22, u23, u24, u25] : List Value).getD i undef, by simp, ?_⟩
        exact K6.start (l := l) (fun k => by rw [List.getD_eq_getElem?_getD, List.getElem?_replicate]; split <;> rfl) ⟨rfl, rfl, rfl, Nat.le_refl _, fun _ _ => rfl⟩
      case step =>
        intro i o' v a' w' ho hv hni hop hI
        obtain ⟨y, rfl, HI⟩ := hI
        obtain ⟨hn', hiv⟩ := undone hni
        have hv : v.length = 13 := hv
        have hn : (fun k => v.getD k false) i = false := hn'
        rcases i with _ | _ | _ | _ | _ | _ | _ | _ | _ | _ | _ | _ | _ | i
        · obtain rfl := Option.some.inj ho
          have n12 := HI.out.n12 (i := 0) (by omega) hn
          have HN := HI.out.read (i := 0) (by omega) hn
          rw [← dset_of hiv, HVAL.out.1] at HN
          replace HN : Hid _ := HN
          go_wp2
          exact ⟨updY y 0 (.pointer (some ⟨w.heap.size + 1 + 1, 1, none⟩)), by simp [updY], HN⟩
        · obtain rfl := Option.some.inj ho
          have n12 := HI.out.n12 (i := 1) (by omega) hn
          have e0 := (HI.out.p 0 (by omega) (open_waits hop (by kernel_rfl))).trans HVAL.out.1
          obtain ⟨⟨c0, c1, c2, c3⟩, -⟩ := box4 (HFC.out _ (HI.out.b n12)).2.1
          have HN := HI.out.read (i := 1) (by omega) hn
          rw [← dset_of hiv, HVAL.out.2.1] at HN
          replace HN : Hid _ := HN
          simp only [e0]
          go_wp2
          exact ⟨updY y 1 (.slice ov j oc), by simp [updY, e0], HN⟩
        · obtain rfl := Option.some.inj ho
          have n12 := HI.out.n12 (i := 2) (by omega) hn
          have hws := (HFC.out _ (HI.out.b n12)).2.2.2.2.2.2
          have HN := HI.out.op2 hn (W' := w'.alloc (.cells #[] 40)) (z := .slice (some ⟨w'.heap.size, 0, none⟩) 0 0) ((Below.refl _ w').alloc (Nat.le_refl _) _) (World.ownsRow_lit w' #[] 0 hws (Nat.zero_le _) rfl) (fun g e => by cases e; exact Nat.le_refl _)
          rw [← dset_of hiv] at HN
          replace HN : Hid _ := HN
          go_wp2
          exact ⟨updY y 2 (.slice (some ⟨w'.heap.size, 0, none⟩) 0 0), by simp [updY], HN⟩
        · obtain rfl := Option.some.inj ho
          have n12 := HI.out.n12 (i := 3) (by omega) hn
          have HN := HI.out.read (i := 3) (by omega) hn
          rw [← dset_of hiv, HVAL.out.2.2.1] at HN
          replace HN : Hid _ := HN
          go_wp2
          exact ⟨updY y 3 (.pointer (some ⟨w.heap.size, 1, none⟩)), by simp [updY], HN⟩
        · obtain rfl := Option.some.inj ho
          have n12 := HI.out.n12 (i := 4) (by omega) hn
          have e3 := (HI.out.p 3 (by omega) (open_waits hop (by kernel_rfl))).trans HVAL.out.2.2.1
          have c1 := (HFC.out _ (HI.out.b n12)).1
          have HN := HI.out.read (i := 4) (by omega) hn
          rw [← dset_of hiv, HVAL.out.2.2.2.1] at HN
          replace HN : Hid _ := HN
          simp only [e3]
          go_wp2
          exact ⟨updY y 4 (.slice (some ⟨g, o, none⟩) n k), by simp [updY, e3], HN⟩
        · obtain rfl := Option.some.inj ho
          have n12 := HI.out.n12 (i := 5) (by omega) hn
          have HN := HI.out.read (i := 5) (by omega) hn
          rw [← dset_of hiv, HVAL.out.2.2.2.2.1] at HN
          replace HN : Hid _ := HN
          go_wp2
          exact ⟨updY y 5 (.int .i64 j), by simp [updY], HN⟩
        · obtain rfl := Option.some.inj ho
          have n12 := HI.out.n12 (i := 6) (by omega) hn
          have e4 := (HI.out.p 4 (by omega) (open_waits hop (by kernel_rfl))).trans HVAL.out.2.2.2.1
          have e5 := (HI.out.p 5 (by omega) (open_waits hop (by kernel_rfl))).trans HVAL.out.2.2.2.2.1
          have HN := HI.out.read (i := 6) (by omega) hn
          rw [← dset_of hiv, HVAL.out.2.2.2.2.2.1] at HN
          replace HN : Hid _ := HN
          simp only [e4, e5]
          go_wp2
          exact ⟨updY y 6 (.pointer (some ⟨g, o + j, none⟩)), by simp [updY, e4, e5], HN⟩
        · obtain rfl := Option.some.inj ho
          have n12 := HI.out.n12 (i := 7) (by omega) hn
          have e6 := (HI.out.p 6 (by omega) (open_waits hop (by kernel_rfl))).trans HVAL.out.2.2.2.2.2.1
          have c1 := (HFC.out _ (HI.out.b n12)).2.2.1
          have HN := HI.out.read (i := 7) (by omega) hn
          rw [← dset_of hiv, HVAL.out.2.2.2.2.2.2.1] at HN
          replace HN : Hid _ := HN
          simp only [e6]
          go_wp2
          exact ⟨updY y 7 (.slice b q m), by simp [updY, e6], HN⟩
        · obtain rfl := Option.some.inj ho
          have n12 := HI.out.n12 (i := 8) (by omega) hn
          have d2 : v.getD 2 false = true := open_waits hop (by kernel_rfl)
          have e7 := (HI.out.p 7 (by omega) (open_waits hop (by kernel_rfl))).trans HVAL.out.2.2.2.2.2.2.1
          have n10 : (fun k => v.getD k false) 10 = false := by
            cases e : (fun k => v.getD k false) 10 with
            | false => rfl
            | true => have h8 := HI.out.o9 (HI.out.o10 e); have hn8 : v.getD 8 false = false := hn; have h8 : v.getD 8 false = true := h8; rw [hn8] at h8; cases h8
          have hA := HI.out.a n10
          have hE := HI.out.e d2 hn
          have hws := (HFC.out _ (HI.out.b n12)).2.2.2.2.2.2
          have HSTEP : Hid (∀ a1 c1 w2, w2.ownsRow (w.heap.size + 3) 40 2 (.slice a1 q c1) q (ccL l) → w'.grownBy w2 (y 2).ownBlock → ((Value.slice a1 q c1).ownBlock = (y 2).ownBlock ∨ (Value.slice a1 q c1).ownBlock = some w'.heap.size) → K6 val wr (w.heap.size + 3) ov j oc q l vs (fun z8 z10 W => ∃ Y, Far ov j oc wr Y ∧ Y.ownsRow (w.heap.size + 3) 40 2 z8 q (ccL l) ∧ Y.ownsRow (w.heap.size + 3) 29 1 z10 (j + 1) (vs ++ [z8]) ∧ W = Y.setCell ⟨w.heap.size + 1 + 1, 1, none⟩ z10) (fun k => (v.set 8 true).getD k false) (updY y 8 (.slice a1 q c1)) w2) := fun a1 c1 w2 h1 h2 h3 => by
            have := HI.out.op8 hn d2 h2 h1 h3
            rw [← dset_of hiv] at this
            exact this
          simp only [e7]
          refine wpList_append_row rfl _ _ _ rfl (w.heap.size + 3) 40 i0 _ 2 24 Tryd.underlying29 hi0 hz0 hz1 hz2 rfl (by decide) (y 2) 0 [] rfl hE.1 b q m (ccL l) rfl hlen hb0 (hnews w' hA) ccL_one hq2 hq3 hws ?_
          intro a1 c1 w2 hown2 hg2 hz2'
          rw [Nat.zero_add] at hown2 hz2'
          rw [Nat.zero_add]
          rw [List.nil_append] at hown2
          have HN := HSTEP.out a1 c1 w2 hown2 hg2 hz2'
          replace HN : Hid _ := HN
          go_wp2
          exact ⟨updY y 8 (.slice a1 q c1), by simp [updY, e7], HN⟩
        · obtain rfl := Option.some.inj ho
          have n12 := HI.out.n12 (i := 9) (by omega) hn
          have d8 : v.getD 8 false = true := open_waits hop (by kernel_rfl)
          obtain ⟨r1, -⟩ := HI.out.r d8 n12
          obtain ⟨a8, c8, e8⟩ := own_form r1
          have HN := HI.out.op9 hn d8 (W' := w'.alloc (.cells #[.slice a8 q c8] 29)) (g := w'.heap.size) ((Below.refl _ w').alloc (Nat.le_refl _) _) (Nat.le_refl _) (by rw [e8]; exact World.alloc_heap_new _ _)
          rw [← dset_of hiv] at HN
          replace HN : Hid _ := HN
          clear r1
          simp only [e8]
          go_wp2
          exact ⟨updY y 9 (.slice (some ⟨w'.heap.size, 0, none⟩) 1 1), by simp [updY, e8], HN⟩
        · obtain rfl := Option.some.inj ho
          have n12 := HI.out.n12 (i := 10) (by omega) hn
          have d9 : v.getD 9 false = true := open_waits hop (by kernel_rfl)
          have e1 := (HI.out.p 1 (by omega) (open_waits hop (by kernel_rfl))).trans HVAL.out.2.1
          obtain ⟨g9, -, e9, hb9⟩ := HI.out.s d9 hn
          obtain ⟨r1, -⟩ := HI.out.r (HI.out.o9 d9) n12
          obtain ⟨a8, c8, e8⟩ := own_form r1
          have hA := HI.out.a hn
          have hws := (HFC.out _ (HI.out.b n12)).2.2.2.2.2.2
          have HSTEP : Hid (∀ a1 c1 w2, w2.ownsRow (w.heap.size + 3) 29 1 (.slice a1 (j + 1) c1) (j + 1) (vs ++ [y 8]) → w'.grownBy w2 (Value.slice ov j oc).ownBlock → K6 val wr (w.heap.size + 3) ov j oc q l vs (fun z8 z10 W => ∃ Y, Far ov j oc wr Y ∧ Y.ownsRow (w.heap.size + 3) 40 2 z8 q (ccL l) ∧ Y.ownsRow (w.heap.size + 3) 29 1 z10 (j + 1) (vs ++ [z8]) ∧ W = Y.setCell ⟨w.heap.size + 1 + 1, 1, none⟩ z10) (fun k => (v.set 10 true).getD k false) (updY y 10 (.slice a1 (j + 1) c1)) w2) := fun a1 c1 w2 h1 h2 => by
            have := HI.out.op10 hn d9 (fun g e => (hov g e).1) h2 h1
            rw [← dset_of hiv] at this
            exact this
          simp only [e1, e9]
          refine wpList_append_row rfl _ _ _ rfl (w.heap.size + 3) 29 i1 _ 1 24 Tryd.underlying22 hi1 hk0 hk1 hk2 rfl (by decide) (.slice ov j oc) j vs rfl (own_next HOV.out hA) (some ⟨g9, 0, none⟩) 1 1 [y 8] rfl rfl (fun e => by cases e) (fun ad e => by cases e; exact World.news_of_block hb9) (by intro u hu; rcases List.mem_singleton.1 hu with rfl; rw [e8]; rfl) hj2 hj3 hws ?_
          intro a1 c1 w2 hown2 hg2 _
          have HN := HSTEP.out a1 c1 w2 hown2 hg2
          replace HN : Hid _ := HN
          go_wp2
          exact ⟨updY y 10 (.slice a1 (j + 1) c1), by simp [updY, e1, e9, e8], HN⟩
        · obtain rfl := Option.some.inj ho
          have n12 := HI.out.n12 (i := 11) (by omega) hn
          have HN := HI.out.read (i := 11) (by omega) hn
          rw [← dset_of hiv, HVAL.out.2.2.2.2.2.2.2] at HN
          replace HN : Hid _ := HN
          go_wp2
          exact ⟨updY y 11 (.pointer (some ⟨w.heap.size + 1 + 1, 1, none⟩)), by simp [updY], HN⟩
        · obtain rfl := Option.some.inj ho
          have hall : ∀ i, i < 12 → (fun k => v.getD k false) i = true := by
            intro i hi
            rcases i with _ | _ | _ | _ | _ | _ | _ | _ | _ | _ | _ | _ | i
            · exact open_waits hop (by kernel_rfl)
            · exact open_waits hop (by kernel_rfl)
            · exact open_waits hop (by kernel_rfl)
            · exact open_waits hop (by kernel_rfl)
            · exact open_waits hop (by kernel_rfl)
            · exact open_waits hop (by kernel_rfl)
            · exact open_waits hop (by kernel_rfl)
            · exact open_waits hop (by kernel_rfl)
            · exact open_waits hop (by kernel_rfl)
            · exact open_waits hop (by kernel_rfl)
            · exact open_waits hop (by kernel_rfl)
            · exact open_waits hop (by kernel_rfl)
            · omega
          have e11 := (HI.out.p 11 (by omega) (hall 11 (by omega))).trans HVAL.out.2.2.2.2.2.2.2
          have hu := HI.out.u (hall 10 (by omega)) hn
          obtain ⟨a10, c10, e10⟩ := own_form hu
          have hB := HI.out.b hn
          obtain ⟨⟨c0, c1, c2, c3⟩, f0, f1, f2, f3⟩ := box4 (HFC.out _ hB).2.1
          have HN := HI.out.op12 hall (W' := w'.setCell ⟨w.heap.size + 1 + 1, 1, none⟩ (.slice a10 (j + 1) c10)) ⟨w', hB, (HI.out.r (hall 8 (by omega)) hn).1, hu, by rw [e10]⟩
          rw [← dset_of hiv] at HN
          replace HN : Hid _ := HN
          clear hu c0 c2 c3 f0 f2 f3
          simp only [e11, e10]
          go_wp2
          exact ⟨y, by simp [e11, e10], HN⟩
        · exact absurd ho (by simp)
      case fin =>
        intro v a' w' hv hall hI
        obtain ⟨y, rfl, HI⟩ := hI
        have hv : v.length = 13 := hv
        obtain ⟨Y, hY, hr8, hu, hW⟩ := HI.out.f (of_all hall (by omega))
        obtain ⟨a10, c10, e10⟩ := own_form hu
        obtain ⟨-, hgb, -, hfb, hzb', hbl, hsz'⟩ := HFC.out _ hY
        have HH : Hid (∃ v, w'.heap[w.heap.size]? = some (.cells #[.int .i64 fw, .slice (some ⟨g, o, none⟩) n k, .int .i64 fr, .int .i64 fc] 26 (0, 0)) ∧ w'.heap[w.heap.size + 1]? = some (.cells #[.int .i64 0, .slice none 0 0, .int .i64 0, .int .i64 0] 26 (0, 0)) ∧ w'.heap[w.heap.size + 1 + 1]? = some (.cells #[.int .i64 fw, v, .int .i64 fr, .int .i64 fc] 26 (0, 0)) ∧ Cpy w R (j + 1) v w') := by
          refine ⟨.slice a10 (j + 1) c10, ?_, ?_, ?_, ⟨?_, vs ++ [y 8], ?_, ?_⟩⟩
          · rw [hW, e10]; exact ((gcell Y (w.heap.size + 1 + 1) 1 _).block _ (by omega) (fun e => by have := Option.some.inj e; omega)).trans hfb
          · rw [hW, e10]; exact ((gcell Y (w.heap.size + 1 + 1) 1 _).block _ (by omega) (fun e => by have := Option.some.inj e; omega)).trans hzb'
          · rw [hW, e10]; exact set1 (i := 1) (.slice a10 (j + 1) c10) hgb
          · rw [hW, e10]; exact hbl.setCell (by show w.heap.size ≤ w.heap.size + 1 + 1; omega) _
          · rw [hW]; rw [e10] at hu ⊢; exact own_far hu (gcell Y (w.heap.size + 1 + 1) 1 _) (fun g e1 e2 => by cases e2; have := (own_blk hu e1).2.1; omega)
          · intro i rv l' h1 h2
            have hfar : Y.grownBy w' (some (w.heap.size + 1 + 1)) := by rw [hW]; exact gcell Y (w.heap.size + 1 + 1) 1 _
            have hvl : vs.length = j := by have := hown.1; omega
            by_cases hi : i < j
            · rw [List.getElem?_append_left (by omega)] at h1
              have := HRW.out Y hY i rv l' h1 h2
              exact own_far this hfar (fun g e1 e2 => by cases e2; have := (own_blk this e1).2.1; omega)
            · have hij : i = j := by have := (List.getElem?_eq_some_iff.1 h1).1; simp at this; omega
              subst hij
              rw [List.getElem?_append_right (by omega), hvl, Nat.sub_self] at h1
              obtain rfl : y 8 = rv := by simpa using h1
              obtain rfl : l = l' := Option.some.inj (hl.symm.trans h2)
              rw [hq]
              exact own_far hr8 hfar (fun g e1 e2 => by cases e2; have := (own_blk hr8 e1).2.1; omega)
        clear HI hall hr8 hu hW hgb hfb hzb' hbl
        go_wp2
        exact ⟨⟨j + 1, by have := HLT.out; omega, by first | rw [w64t (by have := HLT.out; omega)] | (simp; done), HH⟩, by have := HLT.out; first | (rw [w64t (by omega)]; simp [intOf]; omega) | (simp [intOf]; omega)⟩
    · obtain rfl : j = n := by omega
      have hd : ¬ (j : Int) < (j : Int) := by omega
      obtain ⟨hbel, vs, hown, hrows⟩ := hcp
      obtain ⟨ov, oc, rfl⟩ := own_form hown
      obtain ⟨⟨x0, x1, x2, x3⟩, -⟩ := box4 hf0
      obtain ⟨⟨z0, z1, z2, z3⟩, -⟩ := box4 hg0
      obtain ⟨⟨y0, y1, y2, y3⟩, g0, g1, g2, g3⟩ := box4 hzb
      have hvl : vs.length = j := by have := hown.1; omega
      have h0 := set1 (i := 0) (.int .i64 fw) hzb
      have h1 := set1 (i := 1) (.slice ov j oc) h0
      have h2 := set1 (i := 2) (.int .i64 fr) h1
      have h3 := set1 (i := 3) (.int .i64 fc) h2
      have hG : wr.grownBy ((((wr.setCell ⟨w.heap.size + 1, 0, none⟩ (.int .i64 fw)).setCell ⟨w.heap.size + 1, 1, none⟩ (.slice ov j oc)).setCell ⟨w.heap.size + 1, 2, none⟩ (.int .i64 fr)).setCell ⟨w.heap.size + 1, 3, none⟩ (.int .i64 fc)) (some (w.heap.size + 1)) := (((gcell wr (w.heap.size + 1) 0 _).trans (gcell _ (w.heap.size + 1) 1 _)).trans (gcell _ (w.heap.size + 1) 2 _)).trans (gcell _ (w.heap.size + 1) 3 _)
      have hne : ∀ (c n : Nat) (e : TypeId) (v : Value) (xs : List Value), wr.ownsRow (w.heap.size + 3) e c v n xs → ((((wr.setCell ⟨w.heap.size + 1, 0, none⟩ (.int .i64 fw)).setCell ⟨w.heap.size + 1, 1, none⟩ (.slice ov j oc)).setCell ⟨w.heap.size + 1, 2, none⟩ (.int .i64 fr)).setCell ⟨w.heap.size + 1, 3, none⟩ (.int .i64 fc)).ownsRow (w.heap.size + 3) e c v n xs := fun _ _ _ _ _ ho => own_far ho hG (fun g e1 e2 => by have := (own_blk ho e1).2.1; have := Option.some.inj e2; omega)
      have hrw : RdRw ((((wr.setCell ⟨w.heap.size + 1, 0, none⟩ (.int .i64 fw)).setCell ⟨w.heap.size + 1, 1, none⟩ (.slice ov j oc)).setCell ⟨w.heap.size + 1, 2, none⟩ (.int .i64 fr)).setCell ⟨w.heap.size + 1, 3, none⟩ (.int .i64 fc)) (.slice ov j oc) R := rdrw_own (hne _ _ _ _ _ hown) (fun i rv l q1 q2 => hne _ _ _ _ _ (hrows i rv l q1 q2)) hn
      have hbl : Below w.heap.size w ((((wr.setCell ⟨w.heap.size + 1, 0, none⟩ (.int .i64 fw)).setCell ⟨w.heap.size + 1, 1, none⟩ (.slice ov j oc)).setCell ⟨w.heap.size + 1, 2, none⟩ (.int .i64 fr)).setCell ⟨w.heap.size + 1, 3, none⟩ (.int .i64 fc)) := (((hbel.setCell (by show w.heap.size ≤ w.heap.size + 1; omega) _).setCell (by show w.heap.size ≤ w.heap.size + 1; omega) _).setCell (by show w.heap.size ≤ w.heap.size + 1; omega) _).setCell (by show w.heap.size ≤ w.heap.size + 1; omega) _
      clear hc h hf hne hG h0 h1 h2
      have HZ : Hid (RdRw ((((wr.setCell ⟨w.heap.size + 1, 0, none⟩ (.int .i64 fw)).setCell ⟨w.heap.size + 1, 1, none⟩ (.slice ov j oc)).setCell ⟨w.heap.size + 1, 2, none⟩ (.int .i64 fr)).setCell ⟨w.heap.size + 1, 3, none⟩ (.int .i64 fc)) (.slice ov j oc) R ∧ Below w.heap.size w ((((wr.setCell ⟨w.heap.size + 1, 0, none⟩ (.int .i64 fw)).setCell ⟨w.heap.size + 1, 1, none⟩ (.slice ov j oc)).setCell ⟨w.heap.size + 1, 2, none⟩ (.int .i64 fr)).setCell ⟨w.heap.size + 1, 3, none⟩ (.int .i64 fc)) ∧ ((((wr.setCell ⟨w.heap.size + 1, 0, none⟩ (.int .i64 fw)).setCell ⟨w.heap.size + 1, 1, none⟩ (.slice ov j oc)).setCell ⟨w.heap.size + 1, 2, none⟩ (.int .i64 fr)).setCell ⟨w.heap.size + 1, 3, none⟩ (.int .i64 fc)).heap[w.heap.size + 1]? = some (.cells #[.int .i64 fw, .slice ov j oc, .int .i64 fr, .int .i64 fc] 26 (0, 0))) := ⟨hrw, hbl, by simpa using h3⟩
      clear hrw hbl h3 hrows hown
      go_wp2
      obtain ⟨⟨c0, c1, c2, c3⟩, -⟩ := box4 HZ.out.2.2
      exact bodyPost_ret (v := .agg #[.int .i64 fw, .slice ov j oc, .int .i64 fr, .int .i64 fc]) (by simp [results, Tryd.results14, go_sem, c0, c1, c2, c3]) rfl ⟨⟨_, rfl, _, rfl, HZ.out.1⟩, HZ.out.2.1⟩
end Go.Proofs.YtcgnfjcbafmbgaaDoor
