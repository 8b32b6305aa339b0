/-
  What package word's written answers for the upper and for the lower form: the text with each character as its form. Conditions: the two tables of unicode/utf8 lie as their text lays them; the text is so short that the answer can be made.
-/
import Derived.Test.YtiejollfeggeoaaDoorWBuild
import Derived.Test.YtiejollfeggeoaaDoorPkC
import Derived.Test.YtiejollfeggeoaaDoorWConB
import Derived.Test.YtiejollfeggeoaaDoorWConD
namespace Go.Proofs.YtiejollfeggeoaaDoor
open Go.RowKit Go.Shelf Bod Wid
attribute [local go_sem] Oper.semAt_some

theorem Wr.below {b hi n₀ : Nat} {w W W' : World} (h : Wr b hi W W') (hb : n₀ ≤ b) (hh : n₀ ≤ hi) (hn : n₀ ≤ w.heap.size) (k : Below n₀ w W) : Below n₀ w W' :=
  ⟨h.1.trans k.os, h.2.1.trans k.tape, h.2.2.1.trans k.output, Nat.le_trans k.size h.2.2.2.1, fun j hj => by
    have hjw : j < W.heap.size := by have := k.size; omega
    have e : W.heap[j]? = some W.heap[j] := Array.getElem?_eq_getElem hjw
    rw [h.2.2.2.2 j _ e (by omega) (fun h => by omega), ← e]
    exact k.block j hj⟩
theorem Wr.keeps {b hi B : Nat} {W W' : World} {vs : Array Value} {t : TypeId} {fz : Nat × Nat} (h : Wr b hi W W') (hb : W.heap[b]? = some (.cells vs t fz)) : KeepsFrom B W W' :=
  ⟨h.2.2.2.1, fun k o _ hk hc => h.2.2.2.2 k o hk (fun e => by subst e; rw [hb] at hk; cases hk; cases hc) (fun _ vs fz e => by subst e; cases hc)⟩
theorem wr_below {b hi : Nat} {W W' : World} (h : Below W.heap.size W W') : Wr b hi W W' := ⟨h.os, h.tape, h.output, h.size, fun k _ hk _ _ => (h.block k (Array.getElem?_eq_some_iff.1 hk).1).trans hk⟩
/-- what the rounds may write: the builder and rows of bytes behind it -/
def Mw (b Bs k : Nat) (o : Obj) : Prop := k = b ∨ (k ≠ Bs ∧ b + 1 ≤ k ∧ ∃ vs fz, o = .cells vs 5 fz)
theorem wr_mw {b Bs : Nat} {W W' : World} {vs : Array Value} (h : Wr b (b + 1) W W') (hB : W.heap[Bs]? = some (.cells vs 9 (0, 0))) (hne : Bs ≠ b) : KpT (Mw b Bs) W W' :=
  ⟨h.2.2.2.1, fun k o hk _ hm => h.2.2.2.2 k o hk (fun e => hm (.inl e)) (fun hh vs' fz e => by
    by_cases e2 : k = Bs
    · subst e2; rw [hB] at hk; subst e; cases hk
    · exact hm (.inr ⟨e2, hh, vs', fz, e⟩))⟩
theorem row_raise {W : World} {b n : Nat} {v : Value} {xs : List Value} (h : W.ownsRow b 5 1 v n xs) (hne : v.ownBlock ≠ some b) : W.ownsRow (b + 1) 5 1 v n xs :=
  ⟨h.1, h.2.imp id fun ⟨g, cap, cur, h1, h2, h3⟩ => ⟨g, cap, cur, h1, by have : g ≠ b := fun e => hne (by rw [h1, e]; rfl); omega, h3⟩⟩
theorem bld_abU {b B hi : Nat} {f : List Nat → List Value} (hb : b < B) : Ab B hi (hi + 0) (fun l W => ∃ p v, Bld b (b + 1) (f l) W p v) := fun l X Y row h hg hr => h.imp fun p h => h.imp fun v hv =>
  hv.kept hg (fun e => by have := (hr b e).1; omega) (fun g hg' e => by
    obtain ⟨_, (h3 | ⟨o, ho, hc⟩)⟩ := hr g e
    · omega
    · obtain ⟨vs, hvs⟩ := hv.block hg'
      rw [hvs] at ho; cases ho; cases hc)
theorem get_bang {s : ByteArray} {x : Nat} (h : x < s.size) : s.get! x = s[x]'h := by
  rw [ByteArray.getElem_eq_getElem_data]
  exact getElem!_pos s.data x h
theorem pc_four (f : Int → Int) (s : ByteArray) (i : Nat) : (pc (fun _ => f) s i).length ≤ 4 := by
  unfold pc
  split
  · simp
  · have := (Lib.runeCells_le (f (ch s i))).2
    rw [encR_len]
    simpa [Lib.runeCells] using this
theorem flat_four (f : Int → Int) (s : ByteArray) : ∀ l : List Nat, (l.flatMap (pc (fun _ => f) s)).length ≤ 4 * l.length
  | [] => by simp
  | i :: l => by
    have h1 := flat_four f s l
    have h2 := pc_four f s i
    rw [List.flatMap_cons, List.length_append, List.length_cons]
    omega
theorem pre_pc {f : Int → Int} {s : ByteArray} {pre : List Nat} (h : pre <+: offs s 0) : (pre.flatMap (pc (fun _ => f) s)).length ≤ 4 * s.size := by
  have h1 := flat_four f s pre
  have h2 := h.length_le
  have h3 := offs_len_le s
  omega
theorem fm_rng {f : Int → Int} {c : Int} (hf : f = upc ∨ f = lowc) (hc : -1 ≤ c ∧ c ≤ 1114111) : -2147483648 ≤ f c ∧ f c ≤ 2147483647 := by
  rcases hf with e | e <;> rw [e]
  · rcases up_cases c with h1 | h1
    · rw [h1.1]; omega
    · have := (pair h1).2.2.2.2.1; omega
  · rcases low_cases c with h1 | h1
    · rw [h1.1]; omega
    · have := (pair h1).2.2.2.1; omega

set_option maxRecDepth 100000 in
set_option maxHeartbeats 2000000 in
theorem written_up (n : Nat) (hn : 5 ≤ n) (s : ByteArray) (hs : s.size ≤ maxLen) (hm : s.size ≤ 4398046511104) (w : World) (hT : Lib.Utf8Tabs 1 2 w) (_hlo0 : 1 < w.heap.size) (hlo1 : 2 < w.heap.size) :
    CallsIn Fence.wide n Tryd.prog 81 #[.string s, .func (.func 82) #[] #[]] w fun e W' => e = .returned (.string (fm (fun _ => upc) s)) ∧ Below w.heap.size w W' := by
  have h1 : 1 ≤ n := by omega
  have h2 : 1 ≤ n - 1 - 1 := by omega
  have hbk : (((w.alloc (.cells #[.string s] 9)).alloc (.cells #[.func (.func 82) #[] #[]] 118)).alloc (.cells #[.pointer none, .slice none 0 0] 74)).heap[w.heap.size + 1 + 1]? = some (.cells #[.pointer none, .slice none 0 0] 74 (0, 0)) := (push3 w.heap _ _ _).2.2
  have cG := Tryd.Builder_Grow_fresh (w.heap.size + 1 + 1) (w.heap.size + 1 + 1) s.size _ (Nat.le_refl _) hbk (by simp) (by omega)
  have HG0 : Hid (∀ w1, Below (w.heap.size + 1 + 1) (((w.alloc (.cells #[.string s] 9)).alloc (.cells #[.func (.func 82) #[] #[]] 118)).alloc (.cells #[.pointer none, .slice none 0 0] 74)) w1 → w1.heap[w.heap.size]? = some (.cells #[.string s] 9 (0, 0)) ∧ w1.heap[w.heap.size + 1]? = some (.cells #[.func (.func 82) #[] #[]] 118 (0, 0)) ∧ Below w.heap.size w w1 ∧ w.heap.size + 3 ≤ w1.heap.size) := fun w1 hb => by
    obtain ⟨q0, q1, _⟩ := push3 w.heap (.cells #[.string s] 9) (.cells #[.func (.func 82) #[] #[]] 118) (.cells #[.pointer none, .slice none 0 0] 74)
    refine ⟨(hb.block _ (by omega)).trans q0, (hb.block _ (by omega)).trans q1, ((((Below.refl _ w).alloc (Nat.le_refl _) _).alloc (by simp) _).alloc (by simp; omega) _).trans (hb.mono (by omega)), by have := hb.size; simp at this; omega⟩
  refine callsIn_of_wp_marks Tryd.func81 rfl trivial ?_ rfl
  simp only [Tryd.ntmps81, List.size_toArray, List.length_cons, List.length_nil, Nat.reduceAdd, Nat.reduceSub, Array.replicate_succ, Array.replicate_zero, List.push_toArray, List.append_toArray, List.nil_append, List.cons_append]
  gi_wp2_with (first | (refine ⟨trivial, ?_⟩; gi_at_call 28; refine (callsIn_wide.2 cG).mono ?_; clear cG; rintro e w1 ⟨rfl, hbl, hb1⟩; have HBl : Hid (Lib.BuilderAt 74 5 (w.heap.size + 1 + 1) (w.heap.size + 1 + 1) (.pointer (some ⟨w.heap.size + 1 + 1, 0, none⟩)) [] w1) := hbl; clear hbl; obtain ⟨q0, q1, q2, q3⟩ := HG0.out w1 hb1; have cs1 : w1.cell? ⟨w.heap.size, 0, none⟩ = some (.string s) := (by simp [World.cell?, q0])) | (refine ⟨trivial, ?_⟩; gi_at_call 37; refine (uwalk_in (n - 1) _ _).mono ?_; rintro e w' ⟨rfl, rfl⟩))
  obtain ⟨W4, hW4⟩ : ∃ W4, w1.alloc (.cells #[.string s] 9) = W4 := ⟨_, rfl⟩
  rw [hW4]
  have p0 : W4.heap[w.heap.size]? = some (.cells #[.string s] 9 (0, 0)) := by rw [← hW4]; exact (Below.heap_alloc _ _ _ (by omega)).trans q0
  have p1 : W4.heap[w.heap.size + 1]? = some (.cells #[.func (.func 82) #[] #[]] 118 (0, 0)) := by rw [← hW4]; exact (Below.heap_alloc _ _ _ (by omega)).trans q1
  have p2 : W4.heap[w1.heap.size]? = some (.cells #[.string s] 9 (0, 0)) := by rw [← hW4]; exact World.alloc_heap_new w1 _
  have hB0 : Below w.heap.size w W4 := by rw [← hW4]; exact q2.alloc (by omega) _
  have hsz : W4.heap.size = w1.heap.size + 1 := by rw [← hW4]; simp
  obtain ⟨v0, hBld⟩ : ∃ v0, Bld (w.heap.size + 1 + 1) (w.heap.size + 1 + 1 + 1) (Lib.byteCells []) W4 (.pointer (some ⟨w.heap.size + 1 + 1, 0, none⟩)) v0 := by
    obtain ⟨_, v0, g1, g2, g3⟩ := HBl.out
    rw [← hW4]
    refine ⟨v0, (Below.heap_alloc _ _ _ (by omega)).trans g1, (row_raise g2 g3).alloc _, .inr rfl⟩
  have hB1s : w.heap.size + 3 ≤ w1.heap.size := q3
  clear hW4 HG0 hbk cs1 HBl
  refine range_own rfl h1 (gf := 64) (lb := #[.pointer (some ⟨w1.heap.size, 0, none⟩)]) rfl trivial (enters_of Tryd.func64 (by kernel_rfl) rfl)
    (unit_seq (n - 1) (by omega) w1.heap.size (W4.heap.size + 2) (Mw (w.heap.size + 1 + 1) w1.heap.size) s hs (fun o h => by rcases h with h | ⟨_, h, _⟩ <;> omega) (fun o h => by rcases h with h | ⟨_, h, _⟩ <;> omega) (fun o h => by rcases h with h | ⟨h, _⟩ <;> omega) (fun k vs fz h1 h => by rcases h with h | ⟨_, _, vs, fz, h⟩; omega; cases h)
      W4 (by simp [World.cell?, p2]) (tabs_below hT hB0))
    KpT.trans (fun W l o o' _ _ hl ho => KpT.putObj W l o o' hl ho) (fun _ => rfl)
    (fun pre W => (∃ p v, Bld (w.heap.size + 1 + 1) (w.heap.size + 1 + 1 + 1) (Lib.byteCells (pre.flatMap (pc (fun _ => upc) s))) W p v) ∧ (W.heap[w.heap.size]? = some (.cells #[.string s] 9 (0, 0)) ∧ W.heap[w.heap.size + 1]? = some (.cells #[.func (.func 82) #[] #[]] 118 (0, 0)) ∧ W.heap[w1.heap.size]? = some (.cells #[.string s] 9 (0, 0))) ∧ Below w.heap.size w W)
    (fun _ _ _ => False)
    (Ab.and (bld_abU (f := fun pre => Lib.byteCells (pre.flatMap (pc (fun _ => upc) s))) (by omega)) (Ab.and (Ab.and (ab_block (o := fun _ => _) (by omega)) (Ab.and (ab_block (o := fun _ => _) (by omega)) (ab_block (o := fun _ => _) (by omega)))) (ab_below (by omega) (Nat.le_refl _))))
    (fun _ _ _ _ _ hs _ _ => hs)
    ⟨⟨_, _, hBld⟩, ⟨p0, p1, p2⟩, hB0⟩
    (fun x a' W' => ∃ Bx, w.heap.size + 1 + 1 < Bx ∧ W'.heap[Bx]? = some (.cells #[.int .i32 (ch s x), .int .i64 (sz s x)] 59 (0, 0)) ∧
      a' = { tmps := #[.string s, .func (.func 82) #[] #[], .pointer (some ⟨w.heap.size, 0, none⟩), .pointer (some ⟨w.heap.size + 1, 0, none⟩), .string ⟨#[]⟩, .pointer (some ⟨w.heap.size + 1 + 1, 0, none⟩), .int .i64 x, .pointer (some ⟨Bx, 0, none⟩), .string s, .int .i64 s.size, .tuple #[], .string s, .func (.func 64) #[] #[.pointer (some ⟨w1.heap.size, 0, none⟩)], .int .i64 x, .agg #[.int .i32 (ch s x), .int .i64 (sz s x)], undef, undef, undef, undef, undef, undef, undef, undef, undef, undef, undef, undef, undef], defers := [] })
    (fun x a' _ X Y row h hg hr => h.imp fun Bx hx => ⟨hx.1, (hg.block Bx (Array.getElem?_eq_some_iff.1 hx.2.1).1 (fun e => by
      obtain ⟨_, (h3 | ⟨o, ho, hc⟩)⟩ := hr Bx e.symm
      · omega
      · rw [hx.2.1] at ho; cases ho; cases hc)).trans hx.2.1, hx.2.2⟩)
    ?assign ?body ?done ?stop
  case assign =>
    rintro l pre x W K ⟨⟨p, v, hv⟩, ⟨hq0, hq1, hq2⟩, hB⟩ hK
    have hsx := (Array.getElem?_eq_some_iff.1 hv.box).1
    gi_wp2
    exact hK _ _ (kf_below ((Below.refl _ W).alloc (Nat.le_refl _) _)) (KpT.of_below ((Below.refl _ W).alloc (Nat.le_refl _) _)) ⟨⟨p, v, hv.kept (World.grownBy_alloc W _ none) (by simp) (by simp)⟩, ⟨(Below.heap_alloc _ _ _ (Array.getElem?_eq_some_iff.1 hq0).1).trans hq0, (Below.heap_alloc _ _ _ (Array.getElem?_eq_some_iff.1 hq1).1).trans hq1, (Below.heap_alloc _ _ _ (Array.getElem?_eq_some_iff.1 hq2).1).trans hq2⟩, hB.alloc hB.size _⟩ ⟨W.heap.size, hsx, World.alloc_heap_new W _, rfl⟩
  case body =>
    rintro l pre x a' W _ _ _ hWs ⟨⟨p, v, hv⟩, ⟨hq0, hq1, hq2⟩, hB⟩ ⟨Bx, hBx, qx, rfl⟩ hnx
    obtain ⟨hxB, hxs⟩ := offs_all s s.size 0 (by omega) (B_zero s) x (hnx.subset (by simp))
    have hc0 : W.cell? ⟨w.heap.size, 0, none⟩ = some (.string s) := by simp [World.cell?, hq0]
    have hc1 : W.cell? ⟨w.heap.size + 1, 0, none⟩ = some (.func (.func 82) #[] #[]) := by simp [World.cell?, hq1]
    have dx : W.cell? ⟨Bx, 0, none⟩ = some (.int .i32 (ch s x)) := by simp [World.cell?, qx]
    have hlen := pre_pc (f := upc) ((List.prefix_append pre [x]).trans hnx)
    have hl4 : (Lib.byteCells (pre.flatMap (pc (fun _ => upc) s))).length + 4 ≤ 140737488355328 := by rw [Lib.byteCells_length]; omega
    have hcb := ch_bd s x
    have HV : Hid (Bld (w.heap.size + 1 + 1) (w.heap.size + 1 + 1 + 1) (Lib.byteCells (pre.flatMap (pc (fun _ => upc) s))) W p v) := hv
    have HQ : Hid (W.heap[w.heap.size]? = some (.cells #[.string s] 9 (0, 0)) ∧ W.heap[w.heap.size + 1]? = some (.cells #[.func (.func 82) #[] #[]] 118 (0, 0)) ∧ W.heap[w1.heap.size]? = some (.cells #[.string s] 9 (0, 0))) := ⟨hq0, hq1, hq2⟩
    have HB : Hid (Below w.heap.size w W) := hB
    have HWs : Hid (w.heap.size + 1 + 1 + 1 ≤ W.heap.size) := by show _ ≤ _; omega
    -- behind a write to the builder
    have FIN : Hid (∀ w2, Wr (w.heap.size + 1 + 1) (w.heap.size + 1 + 1 + 1) W w2 → (∃ p v, Bld (w.heap.size + 1 + 1) (w.heap.size + 1 + 1 + 1) (Lib.byteCells ((pre ++ [x]).flatMap (pc (fun _ => upc) s))) w2 p v) →
        KeepsFrom W4.heap.size W w2 ∧ KpT (Mw (w.heap.size + 1 + 1) w1.heap.size) W w2 ∧ (∃ p v, Bld (w.heap.size + 1 + 1) (w.heap.size + 1 + 1 + 1) (Lib.byteCells ((pre ++ [x]).flatMap (pc (fun _ => upc) s))) w2 p v) ∧ (w2.heap[w.heap.size]? = some (.cells #[.string s] 9 (0, 0)) ∧ w2.heap[w.heap.size + 1]? = some (.cells #[.func (.func 82) #[] #[]] 118 (0, 0)) ∧ w2.heap[w1.heap.size]? = some (.cells #[.string s] 9 (0, 0))) ∧ Below w.heap.size w w2) := fun w2 hW2 hb2 =>
      ⟨hW2.keeps hv.box, wr_mw hW2 hq2 (by omega), hb2, ⟨hW2.2.2.2.2 _ _ hq0 (by omega) (fun h => by omega), hW2.2.2.2.2 _ _ hq1 (by omega) (fun h => by omega), hW2.2.2.2.2 _ _ hq2 (by omega) (fun _ vs fz e => by cases e)⟩, hW2.below (by omega) (by omega) (Nat.le_refl _) hB⟩
    clear hv hq0 hq1 hq2 hB hWs qx
    by_cases hneg : ch s x < 0
    · have HP : Hid (pc (fun _ => upc) s x = [s[x]'hxs]) := by show _ = _; unfold pc; rw [if_pos hneg, get_bang hxs]
      have cB := wbyte_any ((s[x]'hxs).toNat : Int) HV.out (by omega) HWs.out (by omega)
      gi_wp2_with (refine ⟨trivial, ?_⟩; gi_at_call 91; refine (CallsIn.inRound l (callsIn_wide.2 cB)).mono ?_; clear cB; rintro e w2 ⟨rfl, hb2, HW2⟩)
      exact FIN.out _ HW2 (by rw [List.flatMap_append, byteCells_app]; simpa [Lib.byteCells, HP.out] using hb2)
    · have hnn : ¬ ch s x < 0 := hneg
      have HP : Hid (Lib.byteCells (pc (fun _ => upc) s x) = Lib.runeCells (upc (ch s x))) := by show _ = _; unfold pc; rw [if_neg hneg, Lib.byteCells_encodeRune]
      have cF := upof_any (ch s x) W
      have hfr := fm_rng (.inl rfl) hcb (c := ch s x) (f := upc)
      have CR : Hid (∀ w2, Below W.heap.size W w2 → Calls Tryd.prog 92 #[.pointer (some ⟨w.heap.size + 1 + 1, 0, none⟩), .int .i32 (upc (ch s x))] w2 fun e w' => (∃ u, e = .returned u) ∧ (∃ p' v', Bld (w.heap.size + 1 + 1) (w.heap.size + 1 + 1 + 1) (Lib.byteCells (pre.flatMap (pc (fun _ => upc) s)) ++ Lib.runeCells (upc (ch s x))) w' p' v') ∧ Wr (w.heap.size + 1 + 1) (w.heap.size + 1 + 1 + 1) w2 w') := fun w2 hb => wrune_any _ hfr (HV.out.kept (grown_of_below hb) (by simp) (by simp)) (by omega) (Nat.le_trans HWs.out hb.size) hl4
      generalize upc (ch s x) = fc at cF CR HP
      gi_wp2_with (first | (refine ⟨trivial, ?_⟩; gi_at_call 82; refine (CallsIn.inRound l (callsIn_wide.2 cF)).mono ?_; clear cF; rintro e w2 ⟨rfl, hb2⟩) | (refine ⟨trivial, ?_⟩; gi_at_call 92; refine (CallsIn.inRound l (callsIn_wide.2 (CR.out _ hb2))).mono ?_; clear CR; rintro e w3 ⟨⟨u, rfl⟩, hb3, HW3⟩))
      exact FIN.out _ ((wr_below hb2).trans HW3) (by rw [List.flatMap_append, byteCells_app, List.flatMap_singleton, HP.out]; exact hb3)
  case done =>
    rintro D ys W hD rfl ⟨⟨p, v, hv⟩, _, hB⟩ hK
    have hbl : Lib.IsBuilderF 74 5 w.heap.size (w.heap.size + 1 + 1) (Lib.byteCells ((offs s 0).flatMap (pc (fun _ => upc) s))) W := by
      have row := row_lower hv.row (show w.heap.size ≤ w.heap.size + 1 + 1 + 1 by omega)
      have hne : v.ownBlock ≠ some (w.heap.size + 1 + 1) := fun e => by have := hv.far e; omega
      have hbox := hv.box
      refine Lib.IsBuilderF.of ?_
      rcases hv.adr with rfl | rfl
      · exact .inl ⟨by omega, v, hbox, row, hne⟩
      · exact .inr ⟨by omega, v, hbox, row, hne⟩
    have cS := Tryd.Builder_String_any_k w.heap.size (w.heap.size + 1 + 1) ((offs s 0).flatMap (pc (fun _ => upc) s)) W hbl hB.size
    have HE : Hid ((⟨((offs s 0).flatMap (pc (fun _ => upc) s)).toArray⟩ : ByteArray) = fm (fun _ => upc) s) := by show _ = _; unfold fm fs; rw [← sg_all s s.size 0 (by omega)]
    gi_wp2_with (refine ⟨trivial, ?_⟩; gi_at_call 30; refine (callsIn_wide.2 cS).mono ?_; rintro e w2 ⟨rfl, _, hb2, hk2⟩)
    have hK1 := hk2 D _ hK (by intro e; cases e; omega) (by intro c fz e; cases e)
    refine ⟨by simp, .inl ⟨_, _, rfl, run_takeDeferred hK1, ?_⟩⟩
    exact ⟨_, results_tmp rfl _ _ _, by rw [← HE.out]; rfl, (hB.trans hb2).trans (belowK_b (w := w) (Nat.le_refl _) w2 D _ _ (by omega) hK1 rfl rfl)⟩
  case stop =>
    rintro D c pre W _ _ h _
    exact h.elim

set_option maxRecDepth 100000 in
set_option maxHeartbeats 2000000 in
theorem written_low (n : Nat) (hn : 5 ≤ n) (s : ByteArray) (hs : s.size ≤ maxLen) (hm : s.size ≤ 4398046511104) (w : World) (hT : Lib.Utf8Tabs 1 2 w) (_hlo0 : 1 < w.heap.size) (hlo1 : 2 < w.heap.size) :
    CallsIn Fence.wide n Tryd.prog 81 #[.string s, .func (.func 83) #[] #[]] w fun e W' => e = .returned (.string (fm (fun _ => lowc) s)) ∧ Below w.heap.size w W' := by
  have h1 : 1 ≤ n := by omega
  have h2 : 1 ≤ n - 1 - 1 := by omega
  have hbk : (((w.alloc (.cells #[.string s] 9)).alloc (.cells #[.func (.func 83) #[] #[]] 118)).alloc (.cells #[.pointer none, .slice none 0 0] 74)).heap[w.heap.size + 1 + 1]? = some (.cells #[.pointer none, .slice none 0 0] 74 (0, 0)) := (push3 w.heap _ _ _).2.2
  have cG := Tryd.Builder_Grow_fresh (w.heap.size + 1 + 1) (w.heap.size + 1 + 1) s.size _ (Nat.le_refl _) hbk (by simp) (by omega)
  have HG0 : Hid (∀ w1, Below (w.heap.size + 1 + 1) (((w.alloc (.cells #[.string s] 9)).alloc (.cells #[.func (.func 83) #[] #[]] 118)).alloc (.cells #[.pointer none, .slice none 0 0] 74)) w1 → w1.heap[w.heap.size]? = some (.cells #[.string s] 9 (0, 0)) ∧ w1.heap[w.heap.size + 1]? = some (.cells #[.func (.func 83) #[] #[]] 118 (0, 0)) ∧ Below w.heap.size w w1 ∧ w.heap.size + 3 ≤ w1.heap.size) := fun w1 hb => by
    obtain ⟨q0, q1, _⟩ := push3 w.heap (.cells #[.string s] 9) (.cells #[.func (.func 83) #[] #[]] 118) (.cells #[.pointer none, .slice none 0 0] 74)
    refine ⟨(hb.block _ (by omega)).trans q0, (hb.block _ (by omega)).trans q1, ((((Below.refl _ w).alloc (Nat.le_refl _) _).alloc (by simp) _).alloc (by simp; omega) _).trans (hb.mono (by omega)), by have := hb.size; simp at this; omega⟩
  refine callsIn_of_wp_marks Tryd.func81 rfl trivial ?_ rfl
  simp only [Tryd.ntmps81, List.size_toArray, List.length_cons, List.length_nil, Nat.reduceAdd, Nat.reduceSub, Array.replicate_succ, Array.replicate_zero, List.push_toArray, List.append_toArray, List.nil_append, List.cons_append]
  gi_wp2_with (first | (refine ⟨trivial, ?_⟩; gi_at_call 28; refine (callsIn_wide.2 cG).mono ?_; clear cG; rintro e w1 ⟨rfl, hbl, hb1⟩; have HBl : Hid (Lib.BuilderAt 74 5 (w.heap.size + 1 + 1) (w.heap.size + 1 + 1) (.pointer (some ⟨w.heap.size + 1 + 1, 0, none⟩)) [] w1) := hbl; clear hbl; obtain ⟨q0, q1, q2, q3⟩ := HG0.out w1 hb1; have cs1 : w1.cell? ⟨w.heap.size, 0, none⟩ = some (.string s) := (by simp [World.cell?, q0])) | (refine ⟨trivial, ?_⟩; gi_at_call 37; refine (uwalk_in (n - 1) _ _).mono ?_; rintro e w' ⟨rfl, rfl⟩))
  obtain ⟨W4, hW4⟩ : ∃ W4, w1.alloc (.cells #[.string s] 9) = W4 := ⟨_, rfl⟩
  rw [hW4]
  have p0 : W4.heap[w.heap.size]? = some (.cells #[.string s] 9 (0, 0)) := by rw [← hW4]; exact (Below.heap_alloc _ _ _ (by omega)).trans q0
  have p1 : W4.heap[w.heap.size + 1]? = some (.cells #[.func (.func 83) #[] #[]] 118 (0, 0)) := by rw [← hW4]; exact (Below.heap_alloc _ _ _ (by omega)).trans q1
  have p2 : W4.heap[w1.heap.size]? = some (.cells #[.string s] 9 (0, 0)) := by rw [← hW4]; exact World.alloc_heap_new w1 _
  have hB0 : Below w.heap.size w W4 := by rw [← hW4]; exact q2.alloc (by omega) _
  have hsz : W4.heap.size = w1.heap.size + 1 := by rw [← hW4]; simp
  obtain ⟨v0, hBld⟩ : ∃ v0, Bld (w.heap.size + 1 + 1) (w.heap.size + 1 + 1 + 1) (Lib.byteCells []) W4 (.pointer (some ⟨w.heap.size + 1 + 1, 0, none⟩)) v0 := by
    obtain ⟨_, v0, g1, g2, g3⟩ := HBl.out
    rw [← hW4]
    refine ⟨v0, (Below.heap_alloc _ _ _ (by omega)).trans g1, (row_raise g2 g3).alloc _, .inr rfl⟩
  have hB1s : w.heap.size + 3 ≤ w1.heap.size := q3
  clear hW4 HG0 hbk cs1 HBl
  refine range_own rfl h1 (gf := 64) (lb := #[.pointer (some ⟨w1.heap.size, 0, none⟩)]) rfl trivial (enters_of Tryd.func64 (by kernel_rfl) rfl)
    (unit_seq (n - 1) (by omega) w1.heap.size (W4.heap.size + 2) (Mw (w.heap.size + 1 + 1) w1.heap.size) s hs (fun o h => by rcases h with h | ⟨_, h, _⟩ <;> omega) (fun o h => by rcases h with h | ⟨_, h, _⟩ <;> omega) (fun o h => by rcases h with h | ⟨h, _⟩ <;> omega) (fun k vs fz h1 h => by rcases h with h | ⟨_, _, vs, fz, h⟩; omega; cases h)
      W4 (by simp [World.cell?, p2]) (tabs_below hT hB0))
    KpT.trans (fun W l o o' _ _ hl ho => KpT.putObj W l o o' hl ho) (fun _ => rfl)
    (fun pre W => (∃ p v, Bld (w.heap.size + 1 + 1) (w.heap.size + 1 + 1 + 1) (Lib.byteCells (pre.flatMap (pc (fun _ => lowc) s))) W p v) ∧ (W.heap[w.heap.size]? = some (.cells #[.string s] 9 (0, 0)) ∧ W.heap[w.heap.size + 1]? = some (.cells #[.func (.func 83) #[] #[]] 118 (0, 0)) ∧ W.heap[w1.heap.size]? = some (.cells #[.string s] 9 (0, 0))) ∧ Below w.heap.size w W)
    (fun _ _ _ => False)
    (Ab.and (bld_abU (f := fun pre => Lib.byteCells (pre.flatMap (pc (fun _ => lowc) s))) (by omega)) (Ab.and (Ab.and (ab_block (o := fun _ => _) (by omega)) (Ab.and (ab_block (o := fun _ => _) (by omega)) (ab_block (o := fun _ => _) (by omega)))) (ab_below (by omega) (Nat.le_refl _))))
    (fun _ _ _ _ _ hs _ _ => hs)
    ⟨⟨_, _, hBld⟩, ⟨p0, p1, p2⟩, hB0⟩
    (fun x a' W' => ∃ Bx, w.heap.size + 1 + 1 < Bx ∧ W'.heap[Bx]? = some (.cells #[.int .i32 (ch s x), .int .i64 (sz s x)] 59 (0, 0)) ∧
      a' = { tmps := #[.string s, .func (.func 83) #[] #[], .pointer (some ⟨w.heap.size, 0, none⟩), .pointer (some ⟨w.heap.size + 1, 0, none⟩), .string ⟨#[]⟩, .pointer (some ⟨w.heap.size + 1 + 1, 0, none⟩), .int .i64 x, .pointer (some ⟨Bx, 0, none⟩), .string s, .int .i64 s.size, .tuple #[], .string s, .func (.func 64) #[] #[.pointer (some ⟨w1.heap.size, 0, none⟩)], .int .i64 x, .agg #[.int .i32 (ch s x), .int .i64 (sz s x)], undef, undef, undef, undef, undef, undef, undef, undef, undef, undef, undef, undef, undef], defers := [] })
    (fun x a' _ X Y row h hg hr => h.imp fun Bx hx => ⟨hx.1, (hg.block Bx (Array.getElem?_eq_some_iff.1 hx.2.1).1 (fun e => by
      obtain ⟨_, (h3 | ⟨o, ho, hc⟩)⟩ := hr Bx e.symm
      · omega
      · rw [hx.2.1] at ho; cases ho; cases hc)).trans hx.2.1, hx.2.2⟩)
    ?assign ?body ?done ?stop
  case assign =>
    rintro l pre x W K ⟨⟨p, v, hv⟩, ⟨hq0, hq1, hq2⟩, hB⟩ hK
    have hsx := (Array.getElem?_eq_some_iff.1 hv.box).1
    gi_wp2
    exact hK _ _ (kf_below ((Below.refl _ W).alloc (Nat.le_refl _) _)) (KpT.of_below ((Below.refl _ W).alloc (Nat.le_refl _) _)) ⟨⟨p, v, hv.kept (World.grownBy_alloc W _ none) (by simp) (by simp)⟩, ⟨(Below.heap_alloc _ _ _ (Array.getElem?_eq_some_iff.1 hq0).1).trans hq0, (Below.heap_alloc _ _ _ (Array.getElem?_eq_some_iff.1 hq1).1).trans hq1, (Below.heap_alloc _ _ _ (Array.getElem?_eq_some_iff.1 hq2).1).trans hq2⟩, hB.alloc hB.size _⟩ ⟨W.heap.size, hsx, World.alloc_heap_new W _, rfl⟩
  case body =>
    rintro l pre x a' W _ _ _ hWs ⟨⟨p, v, hv⟩, ⟨hq0, hq1, hq2⟩, hB⟩ ⟨Bx, hBx, qx, rfl⟩ hnx
    obtain ⟨hxB, hxs⟩ := offs_all s s.size 0 (by omega) (B_zero s) x (hnx.subset (by simp))
    have hc0 : W.cell? ⟨w.heap.size, 0, none⟩ = some (.string s) := by simp [World.cell?, hq0]
    have hc1 : W.cell? ⟨w.heap.size + 1, 0, none⟩ = some (.func (.func 83) #[] #[]) := by simp [World.cell?, hq1]
    have dx : W.cell? ⟨Bx, 0, none⟩ = some (.int .i32 (ch s x)) := by simp [World.cell?, qx]
    have hlen := pre_pc (f := lowc) ((List.prefix_append pre [x]).trans hnx)
    have hl4 : (Lib.byteCells (pre.flatMap (pc (fun _ => lowc) s))).length + 4 ≤ 140737488355328 := by rw [Lib.byteCells_length]; omega
    have hcb := ch_bd s x
    have HV : Hid (Bld (w.heap.size + 1 + 1) (w.heap.size + 1 + 1 + 1) (Lib.byteCells (pre.flatMap (pc (fun _ => lowc) s))) W p v) := hv
    have HQ : Hid (W.heap[w.heap.size]? = some (.cells #[.string s] 9 (0, 0)) ∧ W.heap[w.heap.size + 1]? = some (.cells #[.func (.func 83) #[] #[]] 118 (0, 0)) ∧ W.heap[w1.heap.size]? = some (.cells #[.string s] 9 (0, 0))) := ⟨hq0, hq1, hq2⟩
    have HB : Hid (Below w.heap.size w W) := hB
    have HWs : Hid (w.heap.size + 1 + 1 + 1 ≤ W.heap.size) := by show _ ≤ _; omega
    -- behind a write to the builder
    have FIN : Hid (∀ w2, Wr (w.heap.size + 1 + 1) (w.heap.size + 1 + 1 + 1) W w2 → (∃ p v, Bld (w.heap.size + 1 + 1) (w.heap.size + 1 + 1 + 1) (Lib.byteCells ((pre ++ [x]).flatMap (pc (fun _ => lowc) s))) w2 p v) →
        KeepsFrom W4.heap.size W w2 ∧ KpT (Mw (w.heap.size + 1 + 1) w1.heap.size) W w2 ∧ (∃ p v, Bld (w.heap.size + 1 + 1) (w.heap.size + 1 + 1 + 1) (Lib.byteCells ((pre ++ [x]).flatMap (pc (fun _ => lowc) s))) w2 p v) ∧ (w2.heap[w.heap.size]? = some (.cells #[.string s] 9 (0, 0)) ∧ w2.heap[w.heap.size + 1]? = some (.cells #[.func (.func 83) #[] #[]] 118 (0, 0)) ∧ w2.heap[w1.heap.size]? = some (.cells #[.string s] 9 (0, 0))) ∧ Below w.heap.size w w2) := fun w2 hW2 hb2 =>
      ⟨hW2.keeps hv.box, wr_mw hW2 hq2 (by omega), hb2, ⟨hW2.2.2.2.2 _ _ hq0 (by omega) (fun h => by omega), hW2.2.2.2.2 _ _ hq1 (by omega) (fun h => by omega), hW2.2.2.2.2 _ _ hq2 (by omega) (fun _ vs fz e => by cases e)⟩, hW2.below (by omega) (by omega) (Nat.le_refl _) hB⟩
    clear hv hq0 hq1 hq2 hB hWs qx
    by_cases hneg : ch s x < 0
    · have HP : Hid (pc (fun _ => lowc) s x = [s[x]'hxs]) := by show _ = _; unfold pc; rw [if_pos hneg, get_bang hxs]
      have cB := wbyte_any ((s[x]'hxs).toNat : Int) HV.out (by omega) HWs.out (by omega)
      gi_wp2_with (refine ⟨trivial, ?_⟩; gi_at_call 91; refine (CallsIn.inRound l (callsIn_wide.2 cB)).mono ?_; clear cB; rintro e w2 ⟨rfl, hb2, HW2⟩)
      exact FIN.out _ HW2 (by rw [List.flatMap_append, byteCells_app]; simpa [Lib.byteCells, HP.out] using hb2)
    · have hnn : ¬ ch s x < 0 := hneg
      have HP : Hid (Lib.byteCells (pc (fun _ => lowc) s x) = Lib.runeCells (lowc (ch s x))) := by show _ = _; unfold pc; rw [if_neg hneg, Lib.byteCells_encodeRune]
      have cF := lowof_any (ch s x) W
      have hfr := fm_rng (.inr rfl) hcb (c := ch s x) (f := lowc)
      have CR : Hid (∀ w2, Below W.heap.size W w2 → Calls Tryd.prog 92 #[.pointer (some ⟨w.heap.size + 1 + 1, 0, none⟩), .int .i32 (lowc (ch s x))] w2 fun e w' => (∃ u, e = .returned u) ∧ (∃ p' v', Bld (w.heap.size + 1 + 1) (w.heap.size + 1 + 1 + 1) (Lib.byteCells (pre.flatMap (pc (fun _ => lowc) s)) ++ Lib.runeCells (lowc (ch s x))) w' p' v') ∧ Wr (w.heap.size + 1 + 1) (w.heap.size + 1 + 1 + 1) w2 w') := fun w2 hb => wrune_any _ hfr (HV.out.kept (grown_of_below hb) (by simp) (by simp)) (by omega) (Nat.le_trans HWs.out hb.size) hl4
      generalize lowc (ch s x) = fc at cF CR HP
      gi_wp2_with (first | (refine ⟨trivial, ?_⟩; gi_at_call 83; refine (CallsIn.inRound l (callsIn_wide.2 cF)).mono ?_; clear cF; rintro e w2 ⟨rfl, hb2⟩) | (refine ⟨trivial, ?_⟩; gi_at_call 92; refine (CallsIn.inRound l (callsIn_wide.2 (CR.out _ hb2))).mono ?_; clear CR; rintro e w3 ⟨⟨u, rfl⟩, hb3, HW3⟩))
      exact FIN.out _ ((wr_below hb2).trans HW3) (by rw [List.flatMap_append, byteCells_app, List.flatMap_singleton, HP.out]; exact hb3)
  case done =>
    rintro D ys W hD rfl ⟨⟨p, v, hv⟩, _, hB⟩ hK
    have hbl : Lib.IsBuilderF 74 5 w.heap.size (w.heap.size + 1 + 1) (Lib.byteCells ((offs s 0).flatMap (pc (fun _ => lowc) s))) W := by
      have row := row_lower hv.row (show w.heap.size ≤ w.heap.size + 1 + 1 + 1 by omega)
      have hne : v.ownBlock ≠ some (w.heap.size + 1 + 1) := fun e => by have := hv.far e; omega
      have hbox := hv.box
      refine Lib.IsBuilderF.of ?_
      rcases hv.adr with rfl | rfl
      · exact .inl ⟨by omega, v, hbox, row, hne⟩
      · exact .inr ⟨by omega, v, hbox, row, hne⟩
    have cS := Tryd.Builder_String_any_k w.heap.size (w.heap.size + 1 + 1) ((offs s 0).flatMap (pc (fun _ => lowc) s)) W hbl hB.size
    have HE : Hid ((⟨((offs s 0).flatMap (pc (fun _ => lowc) s)).toArray⟩ : ByteArray) = fm (fun _ => lowc) s) := by show _ = _; unfold fm fs; rw [← sg_all s s.size 0 (by omega)]
    gi_wp2_with (refine ⟨trivial, ?_⟩; gi_at_call 30; refine (callsIn_wide.2 cS).mono ?_; rintro e w2 ⟨rfl, _, hb2, hk2⟩)
    have hK1 := hk2 D _ hK (by intro e; cases e; omega) (by intro c fz e; cases e)
    refine ⟨by simp, .inl ⟨_, _, rfl, run_takeDeferred hK1, ?_⟩⟩
    exact ⟨_, results_tmp rfl _ _ _, by rw [← HE.out]; rfl, (hB.trans hb2).trans (belowK_b (w := w) (Nat.le_refl _) w2 D _ _ (by omega) hK1 rfl rfl)⟩
  case stop =>
    rintro D c pre W _ _ h _
    exact h.elim

set_option maxRecDepth 100000 in
set_option maxHeartbeats 1000000 in
theorem upper_any (s : ByteArray) (hs : s.size ≤ maxLen) (hm : s.size ≤ 4398046511104) (w : World) (hT : Lib.Utf8Tabs 1 2 w) (hlo0 : 1 < w.heap.size) (hlo1 : 2 < w.heap.size) :
    Calls Tryd.prog 55 #[.string s] w fun e W' => e = .returned (.string (fm (fun _ => upc) s)) ∧ Below w.heap.size w W' := by
  have cW := callsIn_wide.1 (written_up 5 (by omega) s hs hm w hT hlo0 hlo1)
  go_enter Tryd.func55, Tryd.ntmps55
  go_wp2_with (go_at_call 81; refine cW.mono ?_; clear cW; rintro e w1 ⟨rfl, hb1⟩)
  go_ret
  exact ⟨rfl, hb1⟩
set_option maxRecDepth 100000 in
set_option maxHeartbeats 1000000 in
theorem lower_any (s : ByteArray) (hs : s.size ≤ maxLen) (hm : s.size ≤ 4398046511104) (w : World) (hT : Lib.Utf8Tabs 1 2 w) (hlo0 : 1 < w.heap.size) (hlo1 : 2 < w.heap.size) :
    Calls Tryd.prog 56 #[.string s] w fun e W' => e = .returned (.string (fm (fun _ => lowc) s)) ∧ Below w.heap.size w W' := by
  have cW := callsIn_wide.1 (written_low 5 (by omega) s hs hm w hT hlo0 hlo1)
  go_enter Tryd.func56, Tryd.ntmps56
  go_wp2_with (go_at_call 81; refine cW.mono ?_; clear cW; rintro e w1 ⟨rfl, hb1⟩)
  go_ret
  exact ⟨rfl, hb1⟩
end Go.Proofs.YtiejollfeggeoaaDoor
