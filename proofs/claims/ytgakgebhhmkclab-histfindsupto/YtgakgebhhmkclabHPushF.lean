/-
  Package hist's push where there are as many entries as the bound, and push of any history. Conditions: those of each theorem.
-/
import Derived.Test.YtgakgebhhmkclabHPush
namespace Go.Proofs.Ytgakgebhhmkclab
open Go.RowKit

/-- a copy whose run is known, as one step of a region that draws its order -/
theorem step_copy {ops : Array Oper} {o : Oper} {a : Act} {w : World} {K : Act → World → Prop} {Q : Exit → Act → World → Prop} {E : Prop} (hgd : o.guard = none) (s x : Operand) (t : TypeId)
    (ho : o.op = .call { callee := .builtin .copy, args := #[s, x], argTypes := #[t, t] }) (vs vx : Value) (hs : a.eval s = vs) (hx : a.eval x = vx) (v' : Value) (w' : World)
    (hr : (Builtin.copy_ #[t, t] o.type #[vs, vx]).run Try.prog w = .ok v' w') (hK : K (a.put o.dst v') w') : if Region.wanted o (yielded ops a.tmps) = true then Oper.wp Try.prog o a w K Q else E := by
  have hw : Region.wanted o (yielded ops a.tmps) = true := by simp [Region.wanted, hgd]
  rw [if_pos hw]
  unfold Oper.wp
  simp [execOp, ho, resolve, invoke, builtin, hs, hx, hr, Result.andThen]
  exact hK
/-- all but the first of a row moved down by one: as equations -/
theorem down_run {W : World} {base g m c : Nat} {x : ByteArray} {tl : Tl} (h : W.ownsRow base 9 1 (.slice (some ⟨g, 0, none⟩) (m + 1) c) (m + 1) (sv (x :: tl))) :
    ∃ q, (∀ W, (Instr.sliceAt 22 (.slice (some ⟨g, 0, none⟩) (m + 1) c) (some (.int .i64 1)) none none).run Try.prog W = .ok (.slice (some q) m (c - 1)) W) ∧
      ∃ W', (∀ ty, (Builtin.copy_ #[22, 22] ty #[.slice (some ⟨g, 0, none⟩) (m + 1) c, .slice (some q) m (c - 1)]).run Try.prog W = .ok (goInt m) W') ∧ W.grownBy W' (some g) ∧ W'.ownsRow base 9 1 (.slice (some ⟨g, 0, none⟩) m c) m (sv tl) ∧ m + 1 ≤ c := by
  have hl : tl.length = m := by have := h.1; rw [sv_len] at this; simp at this; omega
  rcases h.2 with ⟨e, _⟩ | ⟨g', cap, cur, e, hbg, hc, hle, hmx, hsz, htk⟩
  · cases e
  obtain ⟨e1, _, rfl⟩ := Value.slice.inj e
  cases e1
  refine ⟨if c = 1 then ⟨g, 0, none⟩ else ⟨g, 1, none⟩, fun W => ?_, W.setRow g (sv tl ++ cur.toList.drop m).toArray, fun ty => ?_, ?_, ?_, hle⟩
  · rw [run_sliceAt_slice _ _ _ _ _ _ unLS, run_slice_l _ _ _ _ _ unLS _ _ (by omega) (by omega), szLS]
    simp only [Result.andThen, sliced, Option.map_some]
    have e1 : (1 : Int).toNat = 1 := rfl
    rw [e1, Nat.add_sub_cancel]
    split
    · rfl
    · rw [Go.WideShapes.add_plain]
  · have hcs := cells_of hc htk
    have := run_copy_row (P := Try.prog) W 22 22 ty 9 g 0 (m + 1) c (if c = 1 then ⟨g, 0, none⟩ else ⟨g, 1, none⟩) m (c - 1) cur 9 (sv tl) Try.underlying22 (by kernel_rfl) hc (by rw [sv_len, hl]; exact (Nat.min_eq_left (by omega)).symm) (fun j v hj => ?_) (by rw [sv_len, hl]; omega) (fun u hu => by obtain ⟨y, _, rfl⟩ := List.mem_map.1 hu; rfl)
    · rw [this, sv_len, hl]
      simp
    · have hj2 : j < m := by have := (List.getElem?_eq_some_iff.1 hj).1; rw [sv_len] at this; omega
      rw [if_neg (by omega), Go.WideShapes.add_plain]
      have h3 := hcs (j + 1) v (by rw [show sv (x :: tl) = .string x :: sv tl from rfl]; simpa using hj)
      rw [show 1 + j = 0 + (j + 1) by omega]
      exact h3
  · exact ⟨rfl, rfl, rfl, by simp [World.setRow], fun k hk hne => setRow_other W g k _ (fun e => hne (by rw [e]))⟩
  · refine ⟨by rw [sv_len, hl]; omega, .inr ⟨g, c, (sv tl ++ cur.toList.drop m).toArray, rfl, hbg, setRow_heap W g _ _ _ _ hc, by omega, hmx, ?_, ?_⟩⟩
    · simp only [List.size_toArray, List.length_append, sv_len, List.length_drop, Array.length_toList, hl]; omega
    · rw [Nat.mul_one]
      show (sv tl ++ cur.toList.drop m).take m = sv tl
      rw [List.take_append_of_le_length (by rw [sv_len]; omega), List.take_of_length_le (by rw [sv_len]; omega)]
/-- the row moved down in place: the box as it was, and told -/
theorem Pm.down {w W W' : World} {F : Nat → Prop} {base pb b pl g m c : Nat} {es tl : Tl} (k : Pm w F base pb (.slice (some ⟨g, 0, none⟩) (m + 1) c) b pl es W) (hg : W.grownBy W' (some g)) (hr : W'.ownsRow base 9 1 (.slice (some ⟨g, 0, none⟩) m c) tl.length (sv tl)) :
    W'.heap[pb]? = some (.cells #[.int .i64 (b : Int), .slice (some ⟨g, 0, none⟩) (m + 1) c, .int .i64 (pl : Int), .slice none 0 0] 40 (0, 0)) ∧ ∀ n, Pm w F base pb (.slice (some ⟨g, 0, none⟩) m c) b pl tl ((W'.drewN n).setCell ⟨pb, 1, none⟩ (.slice (some ⟨g, 0, none⟩) m c)) := by
  have hd : ∀ n, W.grownBy (W'.drewN n) (some g) := fun n => ⟨hg.os, hg.tape, hg.output, hg.size, hg.block⟩
  have h1 := fun n => k.turned (W' := W'.drewN n) (v' := .slice (some ⟨g, 0, none⟩) m c) (es' := tl) hr (hd n) (fun _ e => .inl e)
  exact ⟨(h1 0).1, fun n => (h1 n).2⟩
set_option maxRecDepth 100000 in
set_option maxHeartbeats 4000000 in
theorem push_full {w : World} {base pb : Nat} {v : Value} {b pl m : Nat} {x : ByteArray} {tl : Tl} {F : Nat → Prop} {w0 : World} (k : Pm w0 F base pb v b pl (x :: tl) w) (hlow : base ≤ pb) (hl : tl.length = m) (hb : b = m + 1) (hb3 : b ≤ 1000) {t : ByteArray} (ht : t.size ≤ 1099511627776) :
    Calls Try.prog 21 #[.pointer (some ⟨pb, 0, none⟩), .string t] w fun e w' => e = .returned (.tuple #[]) ∧ ∃ v', Pm w0 F base pb v' b (tl ++ [t]).length (tl ++ [t]) w' := by
  obtain ⟨⟨c0, c1, c2, c3⟩, f0, f1, f2, f3⟩ := box4 k.box
  have hrow := k.row
  rw [List.length_cons, hl] at hrow
  obtain ⟨va, vc, hv, _⟩ := row_slice hrow
  subst hv
  obtain ⟨g, rfl, -⟩ := row_at (l := x :: tl) (k := 0) hrow rfl
  have HD : Hid (∀ n, ∃ q, (∀ W, (Instr.sliceAt 22 (.slice (some ⟨g, 0, none⟩) (m + 1) vc) (some (.int .i64 1)) none none).run Try.prog W = .ok (.slice (some q) m (vc - 1)) W) ∧ m + 1 ≤ vc ∧ ∃ W', (∀ ty, (Builtin.copy_ #[22, 22] ty #[.slice (some ⟨g, 0, none⟩) (m + 1) vc, .slice (some q) m (vc - 1)]).run Try.prog (w.drewN n).drew = .ok (goInt m) W') ∧ Hid (W'.heap[pb]? = some (.cells #[.int .i64 (b : Int), .slice (some ⟨g, 0, none⟩) (m + 1) vc, .int .i64 (pl : Int), .slice none 0 0] 40 (0, 0)) ∧ ∀ n, Pm w0 F base pb (.slice (some ⟨g, 0, none⟩) m vc) b pl tl ((W'.drewN n).setCell ⟨pb, 1, none⟩ (.slice (some ⟨g, 0, none⟩) m vc)))) := fun n => by
    have kd : Pm w0 F base pb (.slice (some ⟨g, 0, none⟩) (m + 1) vc) b pl (x :: tl) (w.drewN n).drew := ⟨k.box, k.row, k.mv.trans (Mv.below ⟨rfl, rfl, rfl, Nat.le_refl _, fun _ _ => rfl⟩)⟩
    have hr2 := kd.row
    rw [List.length_cons, hl] at hr2
    obtain ⟨q, h1, W', h2, h3, h4, h5⟩ := down_run hr2
    exact ⟨q, h1, h5, W', h2, kd.down h3 (by rw [hl]; exact h4)⟩
  have HA : Hid (∀ W, Pm w0 F base pb (.slice (some ⟨g, 0, none⟩) m vc) b pl tl W → ∃ a' c' W', (Builtin.append_ #[22, 22] 22 #[.slice (some ⟨g, 0, none⟩) m vc, .slice (some ⟨W.heap.size, 0, none⟩) 1 1]).run Try.prog (W.alloc (.cells #[.string t] 9)) = .ok (.slice a' (m + 1) c') W' ∧ Hid (W'.heap[pb]? = some (.cells #[.int .i64 (b : Int), .slice (some ⟨g, 0, none⟩) m vc, .int .i64 (pl : Int), .slice none 0 0] 40 (0, 0)) ∧ Pm w0 F base pb (.slice a' (m + 1) c') b pl (tl ++ [t]) (W'.setCell ⟨pb, 1, none⟩ (.slice a' (m + 1) c')))) := fun W kW => by
    have hrow := kW.row
    rw [hl] at hrow
    obtain ⟨v', W', h1, h2, h3, h4⟩ := app_run (p := t) hrow (by omega) (by have := kW.lt; omega)
    obtain ⟨a', c', rfl, _⟩ := row_slice h2
    have hel : (tl ++ [t]).length = m + 1 := by rw [List.length_append, hl]; rfl
    rw [hel] at h1 h2 h4
    exact ⟨a', c', W', h1, kW.turned (es' := tl ++ [t]) (by rw [hel]; exact h2) h3 h4⟩
  have HE : Hid (∀ W a c, Pm w0 F base pb (.slice a (m + 1) c) b pl (tl ++ [t]) W → Pm w0 F base pb (.slice a (m + 1) c) b (tl ++ [t]).length (tl ++ [t]) (W.setCell ⟨pb, 2, none⟩ (.int .i64 ((m : Int) + 1)))) := fun W a c kW => by
    refine ⟨?_, row_of_heap kW.row (fun g hg => (gcell W pb 2 _).block g (kW.ne hg).2 (fun e => (kW.ne hg).1 (Option.some.inj e))), kW.mv.trans (Mv.cell (.inl rfl) (fun _ e => .inl e))⟩
    rw [List.length_append, hl]
    exact set1 (i := 2) _ kW.box
  have HT48 : Hid (t.size ≤ 281474976710656) := by show _ ≤ _; omega
  have hpb := k.lt
  subst hb
  clear k hrow
  go_enter Try.func21, Try.ntmps21
  go_wp2
  go_quiet (fail)
  go_wp2
  obtain ⟨q, hsl, hvc, W', hcp, HW⟩ := HD.out nq
  obtain ⟨⟨e0, e1, e2, e3⟩, y0, y1, y2, y3⟩ := box4 HW.out.1
  clear HD
  go_region_law (first
    | (refine step_copy rfl (.tmp 17) (.tmp 22) 22 rfl _ _ rfl rfl _ _ (hcp _) ?_))
  all_goals go_wp2
  all_goals
    have hpb2 := (Array.getElem?_eq_some_iff.1 HW.out.1).1
    have HK : Hid (Pm w0 F base pb (.slice (some ⟨g, 0, none⟩) m vc) (m + 1) pl tl (W'.setCell ⟨pb, 1, none⟩ (.slice (some ⟨g, 0, none⟩) m vc))) := HW.out.2 0
  all_goals go_region
  all_goals go_wp2
  all_goals
    have HP0 : Hid (Pm w0 F base pb (.slice (some ⟨g, 0, none⟩) m vc) (m + 1) pl tl (W'.setCell ⟨pb, 1, none⟩ (.slice (some ⟨g, 0, none⟩) m vc)).drew.drew) := HK.out.drew.drew
    obtain ⟨⟨x0, x1, x2, x3⟩, z0, z1, z2, z3⟩ := box4 HK.out.box
    obtain ⟨W3, hW3⟩ : ∃ W3, W'.setCell ⟨pb, 1, none⟩ (.slice (some ⟨g, 0, none⟩) m vc) = W3 := ⟨_, rfl⟩
    rw [hW3] at HP0 x0 x1 x2 x3 z0 z1 z2 z3 ⊢
    clear hW3 HK e0 e1 e2 e3 y0 y1 y2 y3 HW hcp hsl c0 c1 c2 c3 f0 f1 f2 f3
    go_region_law (first
      | (refine step_clone rfl (.tmp 42) 9 rfl t rfl HT48.out ?_; intro w1 hb1; have HP1 : Hid _ := HP0.out.below hb1; obtain ⟨⟨d0, d1, d2, d3⟩, -⟩ := box4 HP1.out.box; obtain ⟨a', c', W4, hrun, HT⟩ := HA.out _ HP1.out; obtain ⟨⟨e0, e1, e2, e3⟩, y0, y1, y2, y3⟩ := box4 HT.out.1; have hl1 := HP1.out.lt; clear hb1 HA HP0)
      | (refine step_app rfl (.tmp 41) (.tmp 44) 22 rfl _ _ rfl rfl _ _ hrun ?_))
    all_goals go_wp2
    all_goals go_end0
    all_goals exact ⟨rfl, _, HE.out _ _ _ HT.out.2⟩
/-- a line becomes the newest entry of a history without drafts -/
theorem push_any {w : World} {base pb : Nat} {v : Value} {h : Hs} (k : Pv w base pb v (.slice none 0 0) h) (hb : 0 < h.b) {t : ByteArray} (ht : t.size ≤ 1099511627776) :
    Calls Try.prog 21 #[.pointer (some ⟨pb, 0, none⟩), .string t] w fun e w' => e = .returned (.tuple #[]) ∧ ∃ v', Pv w' base pb v' (.slice none 0 0) (h.push t) ∧ Mv w (Fp pb v (.slice none 0 0)) w' (Fp pb v' (.slice none 0 0)) := by
  have km : Pm w (Fp pb v (.slice none 0 0)) base pb v h.b h.pl h.es w := ⟨k.box, k.row, Mv.refl _ _⟩
  have hok := k.ok.push hb ht
  have hfin : ∀ w' v', Pm w (Fp pb v (.slice none 0 0)) base pb v' h.b (pushL h.b h.es t).length (pushL h.b h.es t) w' → Pv w' base pb v' (.slice none 0 0) (h.push t) ∧ Mv w (Fp pb v (.slice none 0 0)) w' (Fp pb v' (.slice none 0 0)) := fun w' v' q =>
    ⟨⟨q.box, q.row, ⟨0, .inl ⟨rfl, rfl⟩, World.ownsRow_nil _ _ _ _⟩, k.low, hok⟩, q.mv⟩
  have hlen := k.ok.len
  by_cases hf : h.es.length = h.b
  · obtain ⟨x, tl, hes⟩ : ∃ x tl, h.es = x :: tl := List.exists_cons_of_ne_nil (fun e => by rw [e] at hf; simp at hf; omega)
    have hp : pushL h.b h.es t = tl ++ [t] := by unfold pushL; rw [if_pos hf, hes]; rfl
    rw [hp] at hfin
    rw [hes] at km hf
    exact (push_full km k.low rfl hf.symm k.ok.b ht).mono fun e w' q => ⟨q.1, by obtain ⟨v', q2⟩ := q.2; exact ⟨v', hfin w' v' q2⟩⟩
  · have hp : pushL h.b h.es t = h.es ++ [t] := by unfold pushL; rw [if_neg hf]
    rw [hp] at hfin
    exact (push_room km k.low (by omega) k.ok.b ht).mono fun e w' q => ⟨q.1, by obtain ⟨v', q2⟩ := q.2; exact ⟨v', hfin w' v' q2⟩⟩
end Go.Proofs.Ytgakgebhhmkclab
