/-
  Package hist's push: a line becomes the newest entry. Conditions: those of each theorem.
-/
import Derived.Test.YtgakgebhhmkclabHBack
import Derived.Maps.AppendAt
import Derived.Lib.AppendZeros
import Derived.Deep.RegionLaw
namespace Go.Proofs.Ytgakgebhhmkclab
open Go.RowKit

theorem unLS : Try.prog.underlying 22 = some (.slice (Try.prog.elem 22)) := by kernel_rfl
theorem szLS (W : World) : (sizeOf (Try.prog.elem 22)).run Try.prog W = .ok 1 W := by kernel_rfl
/-- a history without drafts whose entries lie in the row v, since w -/
structure Pm (w : World) (F : Nat → Prop) (base pb : Nat) (v : Value) (b pl : Nat) (es : Tl) (W : World) : Prop where
  box : W.heap[pb]? = some (.cells #[.int .i64 (b : Int), v, .int .i64 (pl : Int), .slice none 0 0] 40 (0, 0))
  row : W.ownsRow base 9 1 v es.length (sv es)
  mv : Mv w F W (Fp pb v (.slice none 0 0))
theorem Pm.lt {w W : World} {F : Nat → Prop} {base pb b pl : Nat} {v : Value} {es : Tl} (k : Pm w F base pb v b pl es W) : pb < W.heap.size := (Array.getElem?_eq_some_iff.1 k.box).1
theorem Pm.ne {w W : World} {F : Nat → Prop} {base pb b pl : Nat} {v : Value} {es : Tl} (k : Pm w F base pb v b pl es W) {g : Nat} (hg : v.ownBlock = some g) : g ≠ pb ∧ g < W.heap.size := by
  obtain ⟨⟨c, hc⟩, h1, h2⟩ := row_blk k.row hg
  exact ⟨blk_ne hc k.box (by decide), h2⟩
theorem Pm.below {w W W' : World} {F : Nat → Prop} {base pb b pl : Nat} {v : Value} {es : Tl} (k : Pm w F base pb v b pl es W) (hb : Below W.heap.size W W') : Pm w F base pb v b pl es W' :=
  ⟨(hb.block _ k.lt).trans k.box, row_below k.row hb, k.mv.trans (Mv.below hb)⟩
theorem Pm.drew {w W : World} {F : Nat → Prop} {base pb b pl : Nat} {v : Value} {es : Tl} (k : Pm w F base pb v b pl es W) : Pm w F base pb v b pl es W.drew := ⟨k.box, k.row, k.mv.trans (Mv.below ⟨rfl, rfl, rfl, Nat.le_refl _, fun _ _ => rfl⟩)⟩
/-- the row turned, and the box told -/
theorem Pm.turned {w W W' : World} {F : Nat → Prop} {base pb b pl : Nat} {v v' : Value} {es es' : Tl} (k : Pm w F base pb v b pl es W) (hr : W'.ownsRow base 9 1 v' es'.length (sv es')) (hg : W.grownBy W' v.ownBlock) (hn : ∀ g, v'.ownBlock = some g → v.ownBlock = some g ∨ W.heap.size ≤ g) :
    W'.heap[pb]? = some (.cells #[.int .i64 (b : Int), v, .int .i64 (pl : Int), .slice none 0 0] 40 (0, 0)) ∧ Pm w F base pb v' b pl es' (W'.setCell ⟨pb, 1, none⟩ v') := by
  have hb : W'.heap[pb]? = some (.cells #[.int .i64 (b : Int), v, .int .i64 (pl : Int), .slice none 0 0] 40 (0, 0)) := (hg.block pb k.lt (fun e => (k.ne e.symm).1 rfl)).trans k.box
  have hne : ∀ g, v'.ownBlock = some g → g ≠ pb := fun g e => by
    obtain ⟨⟨c, hc⟩, h1, h2⟩ := row_blk hr e
    exact blk_ne hc hb (by decide)
  have m1 : Mv W (Fp pb v (.slice none 0 0)) W' (Fp pb v' (.slice none 0 0)) := Mv.grown hg (fun g e => .inr (.inl e)) (fun g e => by
    rcases e with e | e | e
    · exact .inl (.inl e)
    · rcases hn g e with e | e
      · exact .inl (.inr (.inl e))
      · exact .inr e
    · cases e)
  exact ⟨hb, set1 (i := 1) v' hb, row_of_heap hr (fun g e => (gcell W' pb 1 v').block g (row_blk hr e).2.2 (fun e2 => hne g e (Option.some.inj e2))), (k.mv.trans m1).trans (Mv.cell (.inl rfl) (fun _ e => .inl e))⟩
/-- one text appended: as an equation -/
theorem app_run {W : World} {base n : Nat} {v : Value} {l : Tl} {p : ByteArray} (hown : W.ownsRow base 9 1 v n (sv l)) (hn : n ≤ 1000) (hb : base ≤ W.heap.size) : ∃ v' W', (Builtin.append_ #[22, 22] 22 #[v, .slice (some ⟨W.heap.size, 0, none⟩) 1 1]).run Try.prog (W.alloc (.cells #[.string p] 9)) = .ok v' W' ∧ W'.ownsRow base 9 1 v' (l ++ [p]).length (sv (l ++ [p])) ∧ W.grownBy W' v.ownBlock ∧ ∀ g, v'.ownBlock = some g → v.ownBlock = some g ∨ W.heap.size ≤ g := by
  obtain ⟨i0, hi, hz0, hz1, hz2⟩ := info_parts infoS
  have hl : l.length = n := by have := hown.1; rw [sv_len] at this; omega
  have hA := World.grownBy_alloc W (.cells #[.string p] 9) v.ownBlock
  obtain ⟨v', w', h1, h2, h3, _, h4⟩ := run_append_own_at (P := Try.prog) (W.alloc (.cells #[.string p] 9)) base 22 22 9 i0 _ 1 16 Try.underlying22 hi hz0 hz1 hz2 rfl (by decide) v n (sv l) (hown.alloc _) ⟨W.heap.size, 0, none⟩ 1 1 [.string p] rfl (World.news_of_block (World.alloc_heap_new W _)) (by simp [Value.oneCell']) (by unfold maxLen; omega) (by omega) (by have := hA.size; omega)
  refine ⟨v', w', h1, ?_, grown2 hA h3, fun g e => ?_⟩
  · rw [sv_app, List.length_append, hl]; exact h2
  · rcases h4 with h | h
    · exact .inl (h ▸ e)
    · rw [h] at e; have := Option.some.inj e; exact .inr (by have := hA.size; omega)
/-- an append whose run is known, as one step of a region that draws its order -/
theorem step_app {ops : Array Oper} {o : Oper} {a : Act} {w : World} {K : Act → World → Prop} {Q : Exit → Act → World → Prop} {E : Prop} (hgd : o.guard = none) (s x : Operand) (t : TypeId)
    (ho : o.op = .call { callee := .builtin .append, args := #[s, x], argTypes := #[t, t] }) (vs vx : Value) (hs : a.eval s = vs) (hx : a.eval x = vx) (v' : Value) (w' : World)
    (hr : (Builtin.append_ #[t, t] o.type #[vs, vx]).run Try.prog w = .ok v' w') (hK : K (a.put o.dst v') w') : if Region.wanted o (yielded ops a.tmps) = true then Oper.wp Try.prog o a w K Q else E := by
  have hw : Region.wanted o (yielded ops a.tmps) = true := by simp [Region.wanted, hgd]
  rw [if_pos hw]
  exact Lib.wp_append_run w s x t t ho vs vx hs hx v' w' hr hK
theorem sclone_enters (args : Array Value) (w : World) : (callFunc 16 args).run Try.prog w = .ok (.enter 16 args) w := enters_of Try.func16 (by kernel_rfl) rfl args w
/-- a call of strings.Clone, as one step of a region that draws its order -/
theorem step_clone {ops : Array Oper} {o : Oper} {a : Act} {w : World} {K : Act → World → Prop} {Q : Exit → Act → World → Prop} {E : Prop} (hgd : o.guard = none) (x : Operand) (ty : TypeId)
    (ho : o.op = .call { callee := .value (.func 16), args := #[x], argTypes := #[ty] }) (s : ByteArray) (hx : a.eval x = .string s) (hs : s.size ≤ 281474976710656)
    (hK : ∀ w', Below w.heap.size w w' → K (a.put o.dst (.string s)) w') : if Region.wanted o (yielded ops a.tmps) = true then Oper.wp Try.prog o a w K Q else E := by
  have hw : Region.wanted o (yielded ops a.tmps) = true := by simp [Region.wanted, hgd]
  rw [if_pos hw]
  unfold Oper.wp
  have he : (execOp a.eval o).run Try.prog w = .ok (.enter 16 #[.string s]) w := by
    have hf : a.eval (.func 16) = .func (.func 16) #[] #[] := rfl
    unfold execOp
    simp [ho, resolve, invoke, hx, hf, Deferred.ofValue]
  rw [he]
  exact (sclone_any s hs w).mono (by rintro e w' ⟨rfl, hb⟩; exact hK w' hb)
set_option maxRecDepth 100000 in
set_option maxHeartbeats 2000000 in
theorem push_room {w : World} {base pb : Nat} {v : Value} {b pl : Nat} {es : Tl} {F : Nat → Prop} {w0 : World} (k : Pm w0 F base pb v b pl es w) (hlow : base ≤ pb) (hl : es.length < b) (hb3 : b ≤ 1000) {t : ByteArray} (ht : t.size ≤ 1099511627776) :
    Calls Try.prog 21 #[.pointer (some ⟨pb, 0, none⟩), .string t] w fun e w' => e = .returned (.tuple #[]) ∧ ∃ v', Pm w0 F base pb v' b (es ++ [t]).length (es ++ [t]) w' := by
  obtain ⟨⟨c0, c1, c2, c3⟩, f0, f1, f2, f3⟩ := box4 k.box
  obtain ⟨va, vc, hv, _⟩ := row_slice k.row
  subst hv
  obtain ⟨n, hn⟩ : ∃ n, es.length = n := ⟨_, rfl⟩
  have hn1 : ¬ (n : Int) = (b : Int) := by omega
  have hn2 : ((n : Int) == (b : Int)) = false := by simp; omega
  have HK : Hid (∀ m, Pm w0 F base pb (.slice va n vc) b pl es (w.drewN m).drew) := fun m => by rw [hn] at k; exact ⟨k.box, k.row, k.mv.trans (Mv.below ⟨rfl, rfl, rfl, Nat.le_refl _, fun _ _ => rfl⟩)⟩
  have CC : Hid (∀ W, Calls Try.prog 16 #[.string t] W fun e w' => e = .returned (.string t) ∧ Below W.heap.size W w') := fun W => sclone_any t (by omega) W
  have HA : Hid (∀ W, Pm w0 F base pb (.slice va n vc) b pl es W → ∃ a' c' W', (Builtin.append_ #[22, 22] 22 #[.slice va n vc, .slice (some ⟨W.heap.size, 0, none⟩) 1 1]).run Try.prog (W.alloc (.cells #[.string t] 9)) = .ok (.slice a' (n + 1) c') W' ∧ Hid (W'.heap[pb]? = some (.cells #[.int .i64 (b : Int), .slice va n vc, .int .i64 (pl : Int), .slice none 0 0] 40 (0, 0)) ∧ Pm w0 F base pb (.slice a' (n + 1) c') b pl (es ++ [t]) (W'.setCell ⟨pb, 1, none⟩ (.slice a' (n + 1) c')))) := fun W kW => by
    have hrow := kW.row
    rw [hn] at hrow
    obtain ⟨v', W', h1, h2, h3, h4⟩ := app_run (p := t) hrow (by omega) (by have := kW.lt; omega)
    obtain ⟨a', c', rfl, _⟩ := row_slice h2
    have hel : (es ++ [t]).length = n + 1 := by rw [List.length_append, hn]; rfl
    rw [hel] at h1 h2 h4
    exact ⟨a', c', W', h1, kW.turned (es' := es ++ [t]) (by rw [hel]; exact h2) h3 h4⟩
  have HE : Hid (∀ W a c, Pm w0 F base pb (.slice a (n + 1) c) b pl (es ++ [t]) W → W.heap[pb]? = some (.cells #[.int .i64 (b : Int), .slice a (n + 1) c, .int .i64 (pl : Int), .slice none 0 0] 40 (0, 0)) ∧ Pm w0 F base pb (.slice a (n + 1) c) b (es ++ [t]).length (es ++ [t]) (W.setCell ⟨pb, 2, none⟩ (.int .i64 ((n : Int) + 1)))) := fun W a c kW => by
    refine ⟨kW.box, ?_, row_of_heap kW.row (fun g hg => (gcell W pb 2 _).block g (kW.ne hg).2 (fun e => (kW.ne hg).1 (Option.some.inj e))), kW.mv.trans (Mv.cell (.inl rfl) (fun _ e => .inl e))⟩
    rw [List.length_append, hn]
    exact set1 (i := 2) _ kW.box
  have hpb := k.lt
  clear k
  rw [hn] at c1 hl
  go_enter Try.func21, Try.ntmps21
  go_wp2
  go_quiet (fail)
  go_wp2
  have HP0 : Hid _ := HK.out nq
  have HT48 : Hid (t.size ≤ 281474976710656) := by show _ ≤ _; omega
  clear HK
  go_region_law (first
    | (refine step_clone rfl (.tmp 42) 9 rfl t rfl HT48.out ?_; intro w1 hb1; have HP1 : Hid _ := HP0.out.below hb1; obtain ⟨⟨d0, d1, d2, d3⟩, -⟩ := box4 HP1.out.box; obtain ⟨a', c', W', hrun, HT⟩ := HA.out _ HP1.out; obtain ⟨⟨e0, e1, e2, e3⟩, y0, y1, y2, y3⟩ := box4 HT.out.1; have hl1 := HP1.out.lt; clear hb1 HA HP0)
    | (refine step_app rfl (.tmp 41) (.tmp 44) 22 rfl _ _ rfl rfl _ _ hrun ?_))
  all_goals go_wp2
  all_goals go_end0
  all_goals exact ⟨rfl, _, (HE.out _ _ _ HT.out.2).2⟩
end Go.Proofs.Ytgakgebhhmkclab
