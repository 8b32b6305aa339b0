/-
  The document's own ring: New, Bound, Len, Killing, Yanking, Stop, All, push, Kill, Copy. Conditions: those of each theorem.
-/
import Derived.Test.YtihagjkdghbkdaaJKill
namespace Go.Proofs.Ytihagjkdghbkdaa
open Go.RowKit

section
variable {w : World} {base pb : Nat} {v : Value} {r : Rg}
set_option maxRecDepth 100000 in
theorem rbound_any (h : Rr w base pb v r) : Calls Try.prog 27 #[.pointer (some ⟨pb, 0, none⟩)] w fun e w' => e = .returned (.int .i64 (r.b : Int)) ∧ w' = w := by
  obtain ⟨⟨c0, c1, c2, c3⟩, _⟩ := box4 h.box
  clear h
  go_enter Try.func27, Try.ntmps27
  go_wp2
  go_ret
  exact ⟨rfl, rfl⟩
set_option maxRecDepth 100000 in
theorem rlen_any (h : Rr w base pb v r) : Calls Try.prog 28 #[.pointer (some ⟨pb, 0, none⟩)] w fun e w' => e = .returned (.int .i64 (r.es.length : Int)) ∧ w' = w := by
  obtain ⟨⟨c0, c1, c2, c3⟩, _⟩ := box4 h.box
  obtain ⟨a, c, rfl, _⟩ := row_slice h.row
  clear h
  go_enter Try.func28, Try.ntmps28
  go_wp2
  go_ret
  exact ⟨rfl, rfl⟩
set_option maxRecDepth 100000 in
theorem rkilling_any (h : Rr w base pb v r) : Calls Try.prog 29 #[.pointer (some ⟨pb, 0, none⟩)] w fun e w' => e = .returned (.bool (decide (r.st = 1))) ∧ w' = w := by
  obtain ⟨⟨c0, c1, c2, c3⟩, _⟩ := box4 h.box
  clear h
  obtain ⟨b, es, st, pl⟩ := r
  by_cases e : st = 1
  · subst e
    go_enter Try.func29, Try.ntmps29
    go_wp2
    go_ret
    exact ⟨rfl, rfl⟩
  · have e1 : ¬ (st : Int) = 1 := by omega
    have e2 : ((st : Int) == 1) = false := by simp; omega
    have e3 : decide (st = 1) = false := decide_eq_false e
    rw [e3]
    clear e e3
    go_enter Try.func29, Try.ntmps29
    go_wp2
    go_ret
    exact ⟨rfl, rfl⟩
set_option maxRecDepth 100000 in
theorem ryanking_any (h : Rr w base pb v r) : Calls Try.prog 30 #[.pointer (some ⟨pb, 0, none⟩)] w fun e w' => e = .returned (.bool (decide (r.st = 2))) ∧ w' = w := by
  obtain ⟨⟨c0, c1, c2, c3⟩, _⟩ := box4 h.box
  clear h
  obtain ⟨b, es, st, pl⟩ := r
  by_cases e : st = 2
  · subst e
    go_enter Try.func30, Try.ntmps30
    go_wp2
    go_ret
    exact ⟨rfl, rfl⟩
  · have e1 : ¬ (st : Int) = 2 := by omega
    have e2 : ((st : Int) == 2) = false := by simp; omega
    have e3 : decide (st = 2) = false := decide_eq_false e
    rw [e3]
    clear e e3
    go_enter Try.func30, Try.ntmps30
    go_wp2
    go_ret
    exact ⟨rfl, rfl⟩
/-- the document's ring with another state and place -/
theorem Rr.state (h : Rr w base pb v r) {b st pl : Nat} {es : Tl} {i j : Nat} {x y : Value} (hok : (⟨b, es, st, pl⟩ : Rg).Ok) (hb : b = r.b) (he : es = r.es) (hs : (((#[.int .i64 (r.b : Int), v, .int .i64 (r.st : Int), .int .i64 (r.pl : Int)] : Array Value).setIfInBounds i x).setIfInBounds j y) = #[.int .i64 (b : Int), v, .int .i64 (st : Int), .int .i64 (pl : Int)]) :
    Rr ((w.setCell ⟨pb, i, none⟩ x).setCell ⟨pb, j, none⟩ y) base pb v ⟨b, es, st, pl⟩ ∧ Ch pb none w ((w.setCell ⟨pb, i, none⟩ x).setCell ⟨pb, j, none⟩ y) := by
  subst hb he
  have hc : Ch pb none w ((w.setCell ⟨pb, i, none⟩ x).setCell ⟨pb, j, none⟩ y) := Ch.cell.trans (Nx.refl _ _) Ch.cell
  refine ⟨⟨?_, row_of_heap h.row (fun g hg => hc.2.2.2.2 g (h.blk hg).2.2 (h.blk hg).1 (by simp)), h.low, hok⟩, hc⟩
  rw [← hs]
  exact set1 (i := j) y (set1 (i := i) x h.box)
set_option maxRecDepth 100000 in
theorem rstop_any (h : Rr w base pb v r) : Calls Try.prog 36 #[.pointer (some ⟨pb, 0, none⟩)] w fun e w' => e = .returned (.tuple #[]) ∧ Rr w' base pb v r.stop ∧ Ch pb none w w' := by
  obtain ⟨⟨c0, c1, c2, c3⟩, f0, f1, f2, f3⟩ := box4 h.box
  have HX : Hid _ := h.state (i := 2) (j := 3) (x := .int .i64 0) (y := .int .i64 0) (st := 0) (pl := 0) h.ok.stop rfl rfl rfl
  clear h
  go_enter Try.func36, Try.ntmps36
  go_wp2
  go_end0
  exact ⟨rfl, HX.out⟩
end
set_option maxRecDepth 100000 in
theorem rnew_any {b : Int} (hb : -9223372036854775808 ≤ b ∧ b ≤ 9223372036854775807) (w : World) (base : Nat) (h0 : base ≤ w.heap.size) : Calls Try.prog 11 #[.int .i64 b] w fun e w' => e = .returned (.pointer (some ⟨w.heap.size, 0, none⟩)) ∧ Rr w' base w.heap.size (.slice none 0 0) (Rg.new b) ∧ Below w.heap.size w w' := by
  have HX : Hid (∀ W, W.heap[w.heap.size]? = some (.cells #[.int .i64 ((Rg.new b).b : Int), .slice none 0 0, .int .i64 0, .int .i64 0] 56 (0, 0)) → Below w.heap.size w W → Rr W base w.heap.size (.slice none 0 0) (Rg.new b) ∧ Below w.heap.size w W) := fun W hW hb =>
    ⟨⟨hW, World.ownsRow_nil _ _ _ _, h0, Rg.Ok.new b⟩, hb⟩
  have hn := World.alloc_heap_new w (.cells #[.int .i64 b, .slice none 0 0, .int .i64 0, .int .i64 0] 56)
  have hB : Below w.heap.size w (w.alloc (.cells #[.int .i64 b, .slice none 0 0, .int .i64 0, .int .i64 0] 56)) := (Below.refl _ w).alloc (Nat.le_refl _) _
  have HB : Hid (∀ x, Below w.heap.size w ((w.alloc (.cells #[.int .i64 b, .slice none 0 0, .int .i64 0, .int .i64 0] 56)).setCell ⟨w.heap.size, 0, none⟩ x)) := fun x => hB.setCell (p := ⟨w.heap.size, 0, none⟩) (Nat.le_refl _) _
  obtain ⟨W0, hW0⟩ : ∃ W0, w.alloc (.cells #[.int .i64 b, .slice none 0 0, .int .i64 0, .int .i64 0] 56) = W0 := ⟨_, rfl⟩
  rw [hW0] at hn hB HB
  obtain ⟨⟨c0, c1, c2, c3⟩, f0, f1, f2, f3⟩ := box4 hn
  have HN : Hid _ := hn
  have HB0 : Hid (Below w.heap.size w W0) := hB
  clear hn hB
  by_cases h : b < 0
  · have H1 : Hid ((Rg.new b).b = 0) := by show (Rg.new b).b = 0; simp [Rg.new, h]
    obtain ⟨⟨d0, -⟩, -⟩ := box4 (set1 (i := 0) (.int .i64 0) HN.out)
    go_enter Try.func11, Try.ntmps11
    go_wp2
    go_ret
    exact ⟨rfl, HX.out _ (by rw [H1.out]; exact set1 (i := 0) _ HN.out) (HB.out _)⟩
  · by_cases h2 : 1000 < b
    · have H1 : Hid ((Rg.new b).b = 1000) := by show (Rg.new b).b = 1000; simp [Rg.new, h2]; omega
      go_enter Try.func11, Try.ntmps11
      go_wp2
      go_ret
      exact ⟨rfl, HX.out _ (by rw [H1.out]; exact set1 (i := 0) _ HN.out) (HB.out _)⟩
    · have H1 : Hid (((Rg.new b).b : Int) = b) := by
        show (((if b < 0 then 0 else if 1000 < b then 1000 else b.toNat) : Nat) : Int) = b
        rw [if_neg (by omega), if_neg (by omega)]; omega
      go_enter Try.func11, Try.ntmps11
      go_wp2
      go_ret
      exact ⟨rfl, HX.out _ (by rw [H1.out]; exact HN.out) HB0.out⟩
/-- a row of texts appended to a row of the call's own -/
theorem app_row {W : World} {ops : Array Oper} {rest : List Oper} {o : Oper} {a : Act} {Q : Exit → Act → World → Prop} (hgd : o.guard = none) (s x : Operand)
    (ho : o.op = .call { callee := .builtin .append, args := #[s, x], argTypes := #[35, 35] }) (base : Nat) (v : Value) (n : Nat) (xs : List Value) (hs : a.eval s = v) (hown : W.ownsRow base 9 1 v n xs) (base' : Nat)
    (ad : Option Addr) (m c : Nat) (l : Tl) (hx : a.eval x = .slice ad m c) (hz : ad = none → c = 0) (hrow : W.ownsRow base' 9 1 (.slice ad m c) m (sv l)) (h63 : n + m ≤ 4398046511104) (hbase : base ≤ W.heap.size)
    (h : ∀ v' w', w'.ownsRow base 9 1 v' (n + m) (xs ++ sv l) → W.grownBy w' v.ownBlock → (v'.ownBlock = v.ownBlock ∨ v'.ownBlock = some W.heap.size) → wpList Try.prog ops Q rest (a.put o.dst v') w') :
    wpList Try.prog ops Q (o :: rest) a W := by
  obtain ⟨i0, hi, hz0, hz1, hz2⟩ := info_parts infoS
  have hl : l.length = m := by have := hrow.1; rw [sv_len] at this; omega
  cases ad with
  | none =>
    obtain rfl := hz rfl
    have hm : m = 0 := by
      rcases hrow.2 with ⟨e, h⟩ | ⟨g, cap, cur, e, _⟩
      · exact h
      · cases e
    subst hm
    have hln : l = [] := List.eq_nil_of_length_eq_zero hl
    subst hln
    have h1 := h v W (by simpa [sv] using hown) (grown0 _ _) (.inl rfl)
    exact wpList_append_own_none hgd s x 35 ho base 9 i0 1 Try.underlying35 hi v n xs hs hown hx h1
  | some ad =>
    refine wpList_append_own_at _ hgd s x 35 ho base 9 i0 _ 1 16 Try.underlying35 hi hz0 hz1 hz2 rfl (by decide) v n xs hs hown ad m c (sv l) hx (by rw [sv_len, hl, Nat.mul_one]) (fun j u hj => ?_) (fun u hu => ?_) (by unfold maxLen; omega) (by omega) hbase (fun v' w' h1 h2 _ h4 => h v' w' h1 h2 h4)
    · obtain ⟨y, hy⟩ : ∃ y, l[j]? = some y := by
        have := (List.getElem?_eq_some_iff.1 hj).1
        rw [sv_len] at this
        exact ⟨_, List.getElem?_eq_getElem this⟩
      rw [sv_get hy] at hj
      obtain ⟨g, e, hc⟩ := row_at hrow hy
      cases e
      rw [Go.WideShapes.add_plain, Nat.zero_add, hc, hj]
    · obtain ⟨y, _, rfl⟩ := List.mem_map.1 hu
      rfl
set_option maxRecDepth 100000 in
theorem rall_any {w : World} {base rb : Nat} {v : Value} {r : Rg} (h : Rr w base rb v r) :
    Calls Try.prog 31 #[.pointer (some ⟨rb, 0, none⟩)] w fun e W' => ∃ u, e = .returned u ∧ W'.ownsRow w.heap.size 9 1 u r.es.length (sv r.es) ∧ Below w.heap.size w W' := by
  obtain ⟨⟨c0, c1, c2, c3⟩, _⟩ := box4 h.box
  obtain ⟨a, c, hv, hz⟩ := row_slice h.row
  subst hv
  have HR : Hid (w.ownsRow base 9 1 (.slice a r.es.length c) r.es.length (sv r.es) ∧ (a = none → c = 0)) := ⟨h.row, hz⟩
  have hl3 : r.es.length ≤ 1000 := by have := h.ok.len; have := h.ok.b; omega
  obtain ⟨n, hn⟩ : ∃ n, r.es.length = n := ⟨_, rfl⟩
  rw [hn] at c1 HR hl3 ⊢
  clear h hn hz
  go_enter Try.func31, Try.ntmps31
  go_wp2_with (first
    | (at_builtin; refine app_row rfl _ _ rfl w.heap.size (.slice none 0 0) 0 [] rfl (World.ownsRow_nil _ _ _ _) base a n c r.es rfl HR.out.2 HR.out.1 (by omega) (Nat.le_refl _) ?_; intro v' w1 hown hg _; have HO : Hid _ := hown; have HG : Hid _ := hg; clear hown hg))
  go_ret
  have h1 := HO.out
  simp only [Nat.zero_add, List.nil_append] at h1
  have h2 := HG.out
  exact ⟨_, rfl, h1, h2.os, h2.tape, h2.output, h2.size, fun k hk => h2.block k hk (fun e => by cases e)⟩
set_option maxRecDepth 100000 in
set_option maxHeartbeats 2000000 in
theorem rpush_any {w : World} {base rb : Nat} {v : Value} {r : Rg} (h : Rr w base rb v r) {t : ByteArray} :
    Calls Try.prog 39 #[.pointer (some ⟨rb, 0, none⟩), .string t] w fun e w' => e = .returned (.tuple #[]) ∧ ∃ v', Rr w' base rb v' (r.push t) ∧ Ch rb none w w' ∧ Nx w v.ownBlock v'.ownBlock := by
  obtain ⟨a, c, hv, hz⟩ := row_slice h.row
  subst hv
  have hl3 : r.es.length ≤ 1000 := by have := h.ok.len; have := h.ok.b; omega
  have hb3 : r.b ≤ 1000 := h.ok.b
  have hbw : base ≤ w.heap.size := by have := h.low; have := h.lt; omega
  obtain ⟨W0, hW0⟩ : ∃ W0, w.alloc (.cells #[.string t] 9) = W0 := ⟨_, rfl⟩
  have hB : Below w.heap.size w W0 := by rw [← hW0]; exact (Below.refl _ w).alloc (Nat.le_refl _) _
  have hr0 : W0.ownsRow w.heap.size 9 1 (.slice (some ⟨w.heap.size, 0, none⟩) 1 1) 1 [.string t] := ⟨rfl, .inr ⟨_, 1, #[.string t], rfl, Nat.le_refl _, by rw [← hW0]; exact World.alloc_heap_new w _, Nat.le_refl _, by unfold maxLen; omega, rfl, rfl⟩⟩
  have h1 := h.below hB
  have HR : Hid (W0.ownsRow base 9 1 (.slice a r.es.length c) r.es.length (sv r.es) ∧ (a = none → c = 0) ∧ W0.ownsRow w.heap.size 9 1 (.slice (some ⟨w.heap.size, 0, none⟩) 1 1) 1 [.string t] ∧ w.heap.size ≤ W0.heap.size) := ⟨h1.row, hz, hr0, hB.size⟩
  have HF : Hid (∀ W v' , W.heap[rb]? = some (.cells #[.int .i64 (r.b : Int), .slice a r.es.length c, .int .i64 (r.st : Int), .int .i64 (r.pl : Int)] 56 (0, 0)) → Below w.heap.size w W → W.ownsRow w.heap.size 9 1 v' (r.push t).es.length (sv (r.push t).es) → Rr (W.setCell ⟨rb, 1, none⟩ v') base rb v' (r.push t) ∧ Ch rb none w (W.setCell ⟨rb, 1, none⟩ v') ∧ Nx w (Value.slice a r.es.length c).ownBlock v'.ownBlock) := fun W v' hbx hb hrow => by
    refine ⟨⟨set1 (i := 1) v' hbx, row_of_heap (row_base hrow hbw) (fun g hg => (gcell W rb 1 v').block g (row_blk hrow hg).2.2 (fun e => ?_)), h.low, h.ok.push t⟩, (Ch.below hb).trans (Nx.refl _ _) Ch.cell, fun k hk => .inr (row_blk hrow hk).2.1⟩
    have := (row_blk hrow hg).2.1
    have := Option.some.inj e
    have := h.lt
    omega
  have HBX : Hid (∀ W, Below w.heap.size w W → W.heap[rb]? = some (.cells #[.int .i64 (r.b : Int), .slice a r.es.length c, .int .i64 (r.st : Int), .int .i64 (r.pl : Int)] 56 (0, 0))) := fun W hb => (hb.block rb h.lt).trans h.box
  obtain ⟨⟨c0, c1, c2, c3⟩, f0, f1, f2, f3⟩ := box4 (HBX.out _ hB)
  have HB0 : Hid (Below w.heap.size w W0) := hB
  have HPE : Hid ((r.push t).es = (t :: r.es).take r.b) := rfl
  obtain ⟨n, hn⟩ : ∃ n, r.es.length = n := ⟨_, rfl⟩
  have HN : Hid (r.es.length = n) := hn
  rw [hn] at c1 HR hl3 HF HBX ⊢
  clear h h1 hn hz hr0 hB
  go_enter Try.func39, Try.ntmps39
  go_upto_region 1 with fail
  clear hW0
  go_upto_region 2 with (first
    | (at_builtin; refine app_row rfl _ _ rfl w.heap.size (.slice (some ⟨w.heap.size, 0, none⟩) 1 1) 1 [.string t] rfl HR.out.2.2.1 base a n c r.es rfl HR.out.2.1 HR.out.1 (by omega) HR.out.2.2.2 ?_; intro v' w1 hown hg hob; have HO : Hid (w1.ownsRow w.heap.size 9 1 v' (n + 1) (sv (t :: r.es)) ∧ Below w.heap.size w w1) := ⟨(by have := hown; rw [Nat.add_comm] at this; exact this), HB0.out.grown hg (by exact HR.out.2.2.2) (fun j e => by cases e; exact Nat.le_refl _)⟩; clear hown hg hob))
  obtain ⟨a1, c1', hv1, hz1⟩ := row_slice HO.out.1
  subst hv1
  obtain ⟨g1, rfl, -⟩ := row_at (k := 0) (l := t :: r.es) HO.out.1 rfl
  clear c0 c1 c2 c3 f0 f1 f2 f3
  have hbx := HBX.out _ HO.out.2
  obtain ⟨⟨c0, c1, c2, c3⟩, f0, f1, f2, f3⟩ := box4 hbx
  have HBX1 : Hid _ := hbx
  clear hbx
  have hcap : n + 1 ≤ c1' := by
    rcases HO.out.1.2 with ⟨e, _⟩ | ⟨g, cap, cur, e, _, _, hle, _⟩
    · cases e
    · obtain ⟨_, _, rfl⟩ := Value.slice.inj e; exact hle
  by_cases hgt : r.b < n + 1
  · have hgt' : (r.b : Int) < (n : Int) + 1 := by omega
    have HC : Hid (w1.ownsRow w.heap.size 9 1 (.slice (some ⟨g1, 0, none⟩) r.b c1') (r.push t).es.length (sv (r.push t).es)) := by
      show w1.ownsRow _ _ _ _ _ _
      have h2 := row_cut HO.out.1 (m := r.b) (by omega) (by simp)
      rw [Nat.mul_one, ← sv_take] at h2
      have : (r.push t).es.length = r.b := by rw [HPE.out, List.length_take, List.length_cons, HN.out]; omega
      rw [this]
      exact h2
    have hcb : r.b ≤ c1' := by omega
    go_wp2
    go_end0
    exact ⟨rfl, _, HF.out _ _ HBX1.out HO.out.2 HC.out⟩
  · have hgt' : ¬ (r.b : Int) < (n : Int) + 1 := by omega
    have HC : Hid (w1.ownsRow w.heap.size 9 1 (.slice (some ⟨g1, 0, none⟩) (n + 1) c1') (r.push t).es.length (sv (r.push t).es)) := by
      show w1.ownsRow _ _ _ _ _ _
      rw [HPE.out, List.take_of_length_le (by rw [List.length_cons, HN.out]; omega), List.length_cons, HN.out]
      exact HO.out.1
    go_wp2
    go_end0
    exact ⟨rfl, _, HF.out _ _ HBX1.out HO.out.2 HC.out⟩
theorem Rr.joined {w : World} {base pb n c g : Nat} {b st pl : Nat} {x s : ByteArray} {l : Tl} (h : Rr w base pb (.slice (some ⟨g, 0, none⟩) n c) ⟨b, x :: l, st, pl⟩) (hn : n = l.length + 1) :
    Rr (w.setCell ⟨g, 0, none⟩ (.string s)) base pb (.slice (some ⟨g, 0, none⟩) n c) ⟨b, s :: l, st, pl⟩ ∧ Ch pb (some g) w (w.setCell ⟨g, 0, none⟩ (.string s)) := by
  have hg := gcell w g 0 (.string s)
  have hb := h.blk (g := g) rfl
  refine ⟨⟨?_, ?_, h.low, h.ok.b, h.ok.len, h.ok.st, h.ok.pl⟩, Ch.grown hg⟩
  · exact (hg.block pb h.lt (fun e => hb.1 (Option.some.inj e).symm)).trans h.box
  · have := h.row
    simp only [List.length_cons] at this ⊢
    rw [← hn] at this ⊢
    exact row_set0 this
set_option maxRecDepth 100000 in
set_option maxHeartbeats 4000000 in
theorem rkill_any {w : World} {base pb : Nat} {v : Value} {r : Rg} (h : Rr w base pb v r) {t : ByteArray} (ht : t.size ≤ 35184372088832) (hf : r.Fit 35184372088832) (a : Bool) :
    Calls Try.prog 32 #[.pointer (some ⟨pb, 0, none⟩), .string t, .bool a] w fun e w' => e = .returned (.bool (r.kept t)) ∧ ∃ v', Rr w' base pb v' (r.kill t a) ∧ Ch pb v.ownBlock w w' ∧ Nx w v.ownBlock v'.ownBlock := by
  by_cases h0 : t = ⟨#[]⟩
  · have e1 : r.kept t = false := by simp [Rg.kept, h0]
    have e2 : r.kill t a = r := by simp [Rg.kill, h0]
    rw [e1, e2]
    subst h0
    go_enter Try.func32, Try.ntmps32
    go_wp2
    go_ret
    exact ⟨rfl, v, h, Ch.refl _ _ _, Nx.refl _ _⟩
  · have hemp := not_emp h0
    have HK : Hid (r.kept t = decide (0 < r.b)) := by show r.kept t = _; simp [Rg.kept, h0]
    by_cases hs : r.st = 1 ∧ r.es ≠ []
    · -- put together
      have e2 : r.kill t a = ⟨r.b, Rg.joined t a r.es, 1, 0⟩ := by unfold Rg.kill; rw [if_neg h0, if_pos hs]
      rw [e2, HK.out]
      obtain ⟨b, es, st, pl⟩ := r
      obtain ⟨hs1, hs2⟩ := hs
      simp only at hs1 hs2 h ⊢
      subst hs1
      obtain ⟨x, l, rfl⟩ : ∃ x l, es = x :: l := List.exists_cons_of_ne_nil hs2
      obtain ⟨va, c, rfl, _⟩ := row_slice h.row
      obtain ⟨g, rfl, hcell⟩ := row_at (k := 0) h.row rfl
      have hfz := row_froz (k := 0) h.row
      obtain ⟨⟨c0, c1, c2, c3⟩, f0, f1, f2, f3⟩ := box4 h.box
      have hx : x.size ≤ 35184372088832 := hf x List.mem_cons_self
      have hsum : t.size + x.size ≤ 140737488355328 := by omega
      have hsum' : x.size + t.size ≤ 140737488355328 := by omega
      have hb0 : 0 < b := by have := h.ok.len; simp only [List.length_cons] at this; omega
      rw [show decide (0 < b) = true from decide_eq_true hb0]
      have HJ : Hid (∀ s : ByteArray, s = (if a then t ++ x else x ++ t) → ∀ W, (W = (w.setCell ⟨g, 0, none⟩ (.string s)) ∨ W = (w.setCell ⟨g, 0, none⟩ (.string s)).drew) → W.heap[pb]? = some (.cells #[.int .i64 (b : Int), .slice (some ⟨g, 0, none⟩) (x :: l).length c, .int .i64 1, .int .i64 (pl : Int)] 56 (0, 0)) ∧ Rr ((W.setCell ⟨pb, 2, none⟩ (.int .i64 1)).setCell ⟨pb, 3, none⟩ (.int .i64 0)) base pb (.slice (some ⟨g, 0, none⟩) (x :: l).length c) ⟨b, Rg.joined t a (x :: l), 1, 0⟩ ∧ Ch pb (some g) w ((W.setCell ⟨pb, 2, none⟩ (.int .i64 1)).setCell ⟨pb, 3, none⟩ (.int .i64 0))) := fun s hs W hW => by
        obtain ⟨j1, j2⟩ := h.joined (s := s) rfl
        replace j1 : Rr W base pb (.slice (some ⟨g, 0, none⟩) (x :: l).length c) ⟨b, s :: l, 1, pl⟩ := by
          rcases hW with rfl | rfl
          · exact j1
          · exact j1.of_heap rfl (fun _ _ => rfl)
        replace j2 : Ch pb (some g) w W := by
          rcases hW with rfl | rfl
          · exact j2
          · exact j2
        subst hs
        obtain ⟨k1, k2⟩ := j1.state (i := 2) (j := 3) (x := .int .i64 1) (y := .int .i64 0) (b := b) (es := (if a then t ++ x else x ++ t) :: l) (st := 1) (pl := 0) ⟨j1.ok.b, j1.ok.len, by show 1 ≤ 2; omega, fun e => by cases e⟩ rfl rfl rfl
        exact ⟨j1.box, k1, j2.trans (Nx.refl _ _) k2.more⟩
      have hne : g ≠ pb := (h.blk rfl).1
      obtain ⟨n, hn⟩ : ∃ n, (x :: l).length = n := ⟨_, rfl⟩
      have hn0 : 0 < n := by rw [← hn]; simp
      have hnz : ¬ (n : Int) = 0 := by omega
      have hnz' : ((n : Int) == 0) = false := by simp; omega
      have hnp : (0 : Int) < (n : Int) := by omega
      rw [hn] at HJ c1 ⊢
      clear h hf hn ht
      cases a with
      | true =>
        go_enter Try.func32, Try.ntmps32
        go_wp2
        go_region
        obtain ⟨hb2, hP2⟩ := HJ.out (t ++ x) rfl _ (.inr rfl)
        have HP2 : Hid _ := hP2
        obtain ⟨⟨g0, g1, g2, g3⟩, i0, i1, i2, i3⟩ := box4 hb2
        clear HJ hb2 hP2
        go_wp2
        go_ret
        exact ⟨by simp, _, HP2.out.1, HP2.out.2, Nx.refl _ _⟩
      | false =>
        go_enter Try.func32, Try.ntmps32
        go_wp2
        go_region
        obtain ⟨hb2, hP2⟩ := HJ.out (x ++ t) rfl _ (.inr rfl)
        have HP2 : Hid _ := hP2
        obtain ⟨⟨g0, g1, g2, g3⟩, i0, i1, i2, i3⟩ := box4 hb2
        clear HJ hb2 hP2
        go_wp2
        go_ret
        exact ⟨by simp, _, HP2.out.1, HP2.out.2, Nx.refl _ _⟩
    · have CP := rpush_any h (t := t)
      have e2 : r.kill t a = ⟨r.b, (t :: r.es).take r.b, 1, 0⟩ := by unfold Rg.kill; rw [if_neg h0, if_neg hs]
      rw [e2, HK.out]
      have HE : Hid (∀ W v', Rr W base pb v' (r.push t) → Rr ((W.setCell ⟨pb, 2, none⟩ (.int .i64 1)).setCell ⟨pb, 3, none⟩ (.int .i64 0)) base pb v' ⟨r.b, (t :: r.es).take r.b, 1, 0⟩ ∧ Ch pb none W ((W.setCell ⟨pb, 2, none⟩ (.int .i64 1)).setCell ⟨pb, 3, none⟩ (.int .i64 0))) := fun W v' hW => hW.state (i := 2) (j := 3) (x := .int .i64 1) (y := .int .i64 0) (st := 1) (pl := 0) (h.ok.pushed t (by omega)) rfl rfl rfl
      have HLb : Hid (0 < ((t :: r.es).take r.b).length ↔ 0 < r.b) := by show _ ↔ _; rw [List.length_take, List.length_cons]; omega
      obtain ⟨⟨c0, c1, c2, c3⟩, f0, f1, f2, f3⟩ := box4 h.box
      obtain ⟨va, c, hv, _⟩ := row_slice h.row
      rw [hv] at c1
      obtain ⟨b, es, st, pl⟩ := r
      simp only at c0 c1 c2 c3 hs HE HLb ⊢
      have HV : Hid (v = _) := hv
      have CP2 : Hid (Calls Try.prog 39 #[.pointer (some ⟨pb, 0, none⟩), .string t] w fun e w' => e = .returned (.tuple #[]) ∧ ∃ a' c', Hid (Rr w' base pb (.slice a' ((t :: es).take b).length c') (Rg.push t ⟨b, es, st, pl⟩) ∧ Ch pb none w w' ∧ Nx w v.ownBlock (Value.slice a' ((t :: es).take b).length c').ownBlock)) := CP.mono (by
        rintro e w' ⟨rfl, v', k1, k2, k3⟩
        obtain ⟨a', c', rfl, _⟩ := row_slice k1.row
        exact ⟨rfl, a', c', k1, k2, k3⟩)
      obtain ⟨m, hm⟩ : ∃ m, ((t :: es).take b).length = m := ⟨_, rfl⟩
      rw [hm] at CP2 HLb
      clear h hf hv CP
      by_cases h1 : st = 1
      · subst h1
        have he : es = [] := Classical.byContradiction fun he => hs ⟨rfl, he⟩
        subst he
        go_enter Try.func32, Try.ntmps32
        go_wp2_with (go_at_call 39; refine CP2.out.mono ?_; clear CP2; rintro e w1 ⟨rfl, a1, k1, hp1⟩; obtain ⟨⟨g0, g1, g2, g3⟩, i0, i1, i2, i3⟩ := box4 hp1.out.1.box; have HP1 : Hid _ := HE.out _ _ hp1.out.1)
        go_ret
        exact ⟨(by simp; exact HLb.out), _, HP1.out.1, (hp1.out.2.1.trans (Nx.refl _ _) HP1.out.2).more, hp1.out.2.2⟩
      · have h1' : ¬ (st : Int) = 1 := by omega
        have h1'' : ((st : Int) == 1) = false := by simp; omega
        go_enter Try.func32, Try.ntmps32
        go_wp2_with (go_at_call 39; refine CP2.out.mono ?_; clear CP2; rintro e w1 ⟨rfl, a1, k1, hp1⟩; obtain ⟨⟨g0, g1, g2, g3⟩, i0, i1, i2, i3⟩ := box4 hp1.out.1.box; have HP1 : Hid _ := HE.out _ _ hp1.out.1)
        go_ret
        exact ⟨(by simp; exact HLb.out), _, HP1.out.1, (hp1.out.2.1.trans (Nx.refl _ _) HP1.out.2).more, hp1.out.2.2⟩
set_option maxRecDepth 100000 in
set_option maxHeartbeats 4000000 in
theorem rcopy_any {w : World} {base pb : Nat} {v : Value} {r : Rg} (h : Rr w base pb v r) {t : ByteArray} :
    Calls Try.prog 33 #[.pointer (some ⟨pb, 0, none⟩), .string t] w fun e w' => e = .returned (.bool (r.kept t)) ∧ ∃ v', Rr w' base pb v' (r.copy t) ∧ Ch pb v.ownBlock w w' ∧ Nx w v.ownBlock v'.ownBlock := by
  by_cases h0 : t = ⟨#[]⟩
  · have e1 : r.kept t = false := by simp [Rg.kept, h0]
    have e2 : r.copy t = r := by simp [Rg.copy, h0]
    rw [e1, e2]
    subst h0
    go_enter Try.func33, Try.ntmps33
    go_wp2
    go_ret
    exact ⟨rfl, v, h, Ch.refl _ _ _, Nx.refl _ _⟩
  · have hemp := not_emp h0
    have HK : Hid (r.kept t = decide (0 < r.b)) := by show r.kept t = _; simp [Rg.kept, h0]
    have CP := rpush_any h (t := t)
    have e2 : r.copy t = ⟨r.b, (t :: r.es).take r.b, 0, 0⟩ := by unfold Rg.copy; rw [if_neg h0]
    rw [e2, HK.out]
    have HE : Hid (∀ W v', Rr W base pb v' (r.push t) → Rr ((W.setCell ⟨pb, 2, none⟩ (.int .i64 0)).setCell ⟨pb, 3, none⟩ (.int .i64 0)) base pb v' ⟨r.b, (t :: r.es).take r.b, 0, 0⟩ ∧ Ch pb none W ((W.setCell ⟨pb, 2, none⟩ (.int .i64 0)).setCell ⟨pb, 3, none⟩ (.int .i64 0))) := fun W v' hW => hW.state (i := 2) (j := 3) (x := .int .i64 0) (y := .int .i64 0) (st := 0) (pl := 0) (h.ok.pushed t (by omega)) rfl rfl rfl
    have HLb : Hid (0 < ((t :: r.es).take r.b).length ↔ 0 < r.b) := by show _ ↔ _; rw [List.length_take, List.length_cons]; omega
    obtain ⟨b, es, st, pl⟩ := r
    simp only at HE HLb ⊢
    have CP2 : Hid (Calls Try.prog 39 #[.pointer (some ⟨pb, 0, none⟩), .string t] w fun e w' => e = .returned (.tuple #[]) ∧ ∃ a' c', Hid (Rr w' base pb (.slice a' ((t :: es).take b).length c') (Rg.push t ⟨b, es, st, pl⟩) ∧ Ch pb none w w' ∧ Nx w v.ownBlock (Value.slice a' ((t :: es).take b).length c').ownBlock)) := CP.mono (by
      rintro e w' ⟨rfl, v', k1, k2, k3⟩
      obtain ⟨a', c', rfl, _⟩ := row_slice k1.row
      exact ⟨rfl, a', c', k1, k2, k3⟩)
    obtain ⟨m, hm⟩ : ∃ m, ((t :: es).take b).length = m := ⟨_, rfl⟩
    rw [hm] at CP2 HLb
    clear h CP
    go_enter Try.func33, Try.ntmps33
    go_wp2_with (go_at_call 39; refine CP2.out.mono ?_; clear CP2; rintro e w1 ⟨rfl, a1, k1, hp1⟩; obtain ⟨⟨g0, g1, g2, g3⟩, i0, i1, i2, i3⟩ := box4 hp1.out.1.box; have HP1 : Hid _ := HE.out _ _ hp1.out.1)
    go_ret
    exact ⟨(by simp; exact HLb.out), _, HP1.out.1, (hp1.out.2.1.trans (Nx.refl _ _) HP1.out.2).more, hp1.out.2.2⟩
end Go.Proofs.Ytihagjkdghbkdaa
