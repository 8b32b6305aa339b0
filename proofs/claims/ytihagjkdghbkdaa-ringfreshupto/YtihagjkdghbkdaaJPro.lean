/-
  What package ring's calls answer, and what they leave: New, Bound, Len, Killing, Yanking, Stop, All. Conditions: those of each theorem.
-/
import Derived.Test.YtihagjkdghbkdaaJSet
import Derived.Laws.MakeOwn
import Derived.Deep.DeepCutAuto
import Derived.Deep.AppendLies
namespace Go.Proofs.Ytihagjkdghbkdaa
open Go.RowKit

section
variable {w : World} {base pb : Nat} {v : Value} {r : Rg}
set_option maxRecDepth 100000 in
theorem bound_any (h : Pr w base pb v r) : Calls Try.prog 24 #[.pointer (some ⟨pb, 0, none⟩)] w fun e w' => e = .returned (.int .i64 (r.b : Int)) ∧ w' = w := by
  obtain ⟨p, hp, hb⟩ := h.box
  obtain ⟨⟨c0, c1, c2, c3⟩, _⟩ := box4 hb
  clear h hb hp
  go_enter Try.func24, Try.ntmps24
  go_wp2
  go_ret
  exact ⟨rfl, rfl⟩
set_option maxRecDepth 100000 in
theorem len_any (h : Pr w base pb v r) : Calls Try.prog 25 #[.pointer (some ⟨pb, 0, none⟩)] w fun e w' => e = .returned (.int .i64 (r.es.length : Int)) ∧ w' = w := by
  obtain ⟨p, hp, hb⟩ := h.box
  obtain ⟨⟨c0, c1, c2, c3⟩, _⟩ := box4 hb
  obtain ⟨a, c, rfl, _⟩ := row_slice h.row
  clear h hb hp
  go_enter Try.func25, Try.ntmps25
  go_wp2
  go_ret
  exact ⟨rfl, rfl⟩
set_option maxRecDepth 100000 in
theorem killing_any (h : Pr w base pb v r) : Calls Try.prog 23 #[.pointer (some ⟨pb, 0, none⟩)] w fun e w' => e = .returned (.bool (decide (r.st = 1))) ∧ w' = w := by
  obtain ⟨p, hp, hb⟩ := h.box
  obtain ⟨⟨c0, c1, c2, c3⟩, _⟩ := box4 hb
  clear h hb hp
  obtain ⟨b, es, st, pl⟩ := r
  by_cases e : st = 1
  · subst e
    go_enter Try.func23, Try.ntmps23
    go_wp2
    go_ret
    exact ⟨rfl, rfl⟩
  · have e1 : ¬ (st : Int) = 1 := by omega
    have e2 : ((st : Int) == 1) = false := by simp; omega
    have e3 : decide (st = 1) = false := decide_eq_false e
    rw [e3]
    clear e e3
    go_enter Try.func23, Try.ntmps23
    go_wp2
    go_ret
    exact ⟨rfl, rfl⟩
set_option maxRecDepth 100000 in
theorem yanking_any (h : Pr w base pb v r) : Calls Try.prog 26 #[.pointer (some ⟨pb, 0, none⟩)] w fun e w' => e = .returned (.bool (decide (r.st = 2))) ∧ w' = w := by
  obtain ⟨p, hp, hb⟩ := h.box
  obtain ⟨⟨c0, c1, c2, c3⟩, _⟩ := box4 hb
  clear h hb hp
  obtain ⟨b, es, st, pl⟩ := r
  by_cases e : st = 2
  · subst e
    go_enter Try.func26, Try.ntmps26
    go_wp2
    go_ret
    exact ⟨rfl, rfl⟩
  · have e1 : ¬ (st : Int) = 2 := by omega
    have e2 : ((st : Int) == 2) = false := by simp; omega
    have e3 : decide (st = 2) = false := decide_eq_false e
    rw [e3]
    clear e e3
    go_enter Try.func26, Try.ntmps26
    go_wp2
    go_ret
    exact ⟨rfl, rfl⟩
/-- the ring with another state -/
theorem Pr.state (h : Pr w base pb v r) {st pl : Nat} (hok : (⟨r.b, r.es, st, pl⟩ : Rg).Ok) (h2 : st ≠ 2) : Pr (w.setCell ⟨pb, 2, none⟩ (.int .i64 (st : Int))) base pb v ⟨r.b, r.es, st, pl⟩ := by
  obtain ⟨p, hp, hb⟩ := h.box
  refine ⟨⟨p, fun e => absurd e h2, set1 (i := 2) _ hb⟩, row_of_heap h.row (fun g hg => (gcell w pb 2 _).block g (h.blk hg).2.2 (fun e => (h.blk hg).1 (Option.some.inj e))), h.low, hok⟩
set_option maxRecDepth 100000 in
theorem stop_any (h : Pr w base pb v r) : Calls Try.prog 17 #[.pointer (some ⟨pb, 0, none⟩)] w fun e w' => e = .returned (.tuple #[]) ∧ Pr w' base pb v r.stop ∧ Ch pb none w w' := by
  obtain ⟨p, hp, hb⟩ := h.box
  obtain ⟨⟨c0, c1, c2, c3⟩, f0, f1, f2, f3⟩ := box4 hb
  have HX : Hid (Pr (w.setCell ⟨pb, 2, none⟩ (.int .i64 0)) base pb v r.stop ∧ Ch pb none w (w.setCell ⟨pb, 2, none⟩ (.int .i64 0))) := ⟨h.state h.ok.stop (by decide), Ch.cell⟩
  clear h hb hp
  go_enter Try.func17, Try.ntmps17
  go_wp2
  go_end0
  exact ⟨rfl, HX.out⟩
end
theorem bound_nil (w : World) : Calls Try.prog 24 #[.pointer none] w fun e w' => e = .returned (.int .i64 0) ∧ w' = w := by
  go_enter Try.func24, Try.ntmps24
  go_wp2
  go_ret
  exact ⟨rfl, rfl⟩
theorem len_nil (w : World) : Calls Try.prog 25 #[.pointer none] w fun e w' => e = .returned (.int .i64 0) ∧ w' = w := by
  go_enter Try.func25, Try.ntmps25
  go_wp2
  go_ret
  exact ⟨rfl, rfl⟩
theorem killing_nil (w : World) : Calls Try.prog 23 #[.pointer none] w fun e w' => e = .returned (.bool false) ∧ w' = w := by
  go_enter Try.func23, Try.ntmps23
  go_wp2
  go_ret
  exact ⟨rfl, rfl⟩
theorem yanking_nil (w : World) : Calls Try.prog 26 #[.pointer none] w fun e w' => e = .returned (.bool false) ∧ w' = w := by
  go_enter Try.func26, Try.ntmps26
  go_wp2
  go_ret
  exact ⟨rfl, rfl⟩
theorem stop_nil (w : World) : Calls Try.prog 17 #[.pointer none] w fun e w' => e = .returned (.tuple #[]) ∧ w' = w := by
  go_enter Try.func17, Try.ntmps17
  go_wp2
  go_end0
  exact ⟨rfl, rfl⟩
set_option maxRecDepth 100000 in
theorem new_any {b : Int} (hb : -9223372036854775808 ≤ b ∧ b ≤ 9223372036854775807) (w : World) (base : Nat) (h0 : base ≤ w.heap.size) : Calls Try.prog 10 #[.int .i64 b] w fun e w' => e = .returned (.pointer (some ⟨w.heap.size, 0, none⟩)) ∧ Pr w' base w.heap.size (.slice none 0 0) (Rg.new b) ∧ Below w.heap.size w w' := by
  have HX : Hid (∀ x : Int, x = ((Rg.new b).b : Int) → Pr (w.alloc (.cells #[.int .i64 x, .slice none 0 0, .int .i64 0, .int .i64 0] 52)) base w.heap.size (.slice none 0 0) (Rg.new b) ∧ Below w.heap.size w (w.alloc (.cells #[.int .i64 x, .slice none 0 0, .int .i64 0, .int .i64 0] 52))) := fun x hn =>
    ⟨⟨⟨0, fun e => (by cases e), by rw [hn]; exact World.alloc_heap_new w _⟩, World.ownsRow_nil _ _ _ _, h0, Rg.Ok.new b⟩, (Below.refl _ w).alloc (Nat.le_refl _) _⟩
  have HM : Hid (min (max b 0) 1000 = ((Rg.new b).b : Int)) := by
    show min (max b 0) 1000 = ((if b < 0 then 0 else if 1000 < b then 1000 else b.toNat : Nat) : Int)
    split
    · omega
    · split <;> omega
  go_enter Try.func10, Try.ntmps10
  go_wp2
  go_ret
  exact ⟨rfl, HX.out _ HM.out⟩
theorem infoS : (Try.prog.info? 9).map (fun i => (i.zero, i.size, i.bytes)) = some (some (.string ⟨#[]⟩), 1, 16) := by kernel_rfl
theorem sv_snoc {l : Tl} {k : Nat} {s : ByteArray} (h : l[k]? = some s) : sv (l.take (k + 1)) = sv (l.take k) ++ [.string s] := by rw [List.take_add_one, h]; simp [sv]
/-- one text appended to a row of the call's own -/
theorem app_one {W : World} {ops : Array Oper} {rest : List Oper} {o : Oper} {a : Act} {Q : Exit → Act → World → Prop} (hgd : o.guard = none) (s x : Operand)
    (ho : o.op = .call { callee := .builtin .append, args := #[s, x], argTypes := #[35, 35] }) (base : Nat) (v : Value) (n : Nat) (X : List Value) (hs : a.eval s = v) (p : ByteArray) (hown : W.ownsRow base 9 1 v n X)
    (hx : a.eval x = .slice (some ⟨W.heap.size, 0, none⟩) 1 1) (h63 : n ≤ 4398046511104) (hbase : base ≤ W.heap.size)
    (h : ∀ v' w', w'.ownsRow base 9 1 v' (n + 1) (X ++ [.string p]) → (W.alloc (.cells #[.string p] 9)).grownBy w' v.ownBlock → (v'.ownBlock = v.ownBlock ∨ v'.ownBlock = some (W.heap.size + 1)) → wpList Try.prog ops Q rest (a.put o.dst v') w') :
    wpList Try.prog ops Q (o :: rest) a (W.alloc (.cells #[.string p] 9)) := by
  obtain ⟨i0, hi, hz0, hz1, hz2⟩ := info_parts infoS
  refine wpList_append_own_at _ hgd s x 35 ho base 9 i0 _ 1 16 Try.underlying35 hi hz0 hz1 hz2 rfl (by decide) v n X hs (hown.alloc _) ⟨W.heap.size, 0, none⟩ 1 1 [.string p] hx rfl (World.news_of_block (World.alloc_heap_new W _)) (by simp [Value.oneCell']) (by unfold maxLen; omega) (by omega) (by simp; omega) (fun v' w' h1 h2 _ h4 => h v' w' h1 h2 ?_)
  simpa using h4
set_option maxRecDepth 100000 in
set_option maxHeartbeats 1000000 in
/-- the texts, the newest first, in a row of their own -/
theorem all_any {w : World} {base pb : Nat} {v : Value} {r : Rg} (h : Pr w base pb v r) (hf : r.Fit 281474976710656) : Calls Try.prog 18 #[.pointer (some ⟨pb, 0, none⟩)] w fun e W' => ∃ u, e = .returned u ∧ W'.ownsRow w.heap.size 9 1 u r.es.length (sv r.es) ∧ Below w.heap.size w W' := by
  obtain ⟨i0, hi, hz0, hz1, hz2⟩ := info_parts infoS
  obtain ⟨N, hN⟩ : ∃ N, r.es.length = N := ⟨_, rfl⟩
  have hN3 : N ≤ 1000 := by have := h.ok.len; have := h.ok.b; omega
  have HL : Hid (r.es.length = N) := hN
  have CL : Hid (∀ W, Below w.heap.size w W → Calls Try.prog 25 #[.pointer (some ⟨pb, 0, none⟩)] W fun e w' => e = .returned (.int .i64 (N : Int)) ∧ w' = W) := fun W hb => hN ▸ len_any (h.below hb)
  have CC : Hid (∀ W (s : ByteArray), s ∈ r.es → Calls Try.prog 38 #[.string s] W fun e w' => e = .returned (.string s) ∧ Below W.heap.size W w') := fun W s hs => sclone_any s (hf s hs) W
  obtain ⟨a, c, hv, _⟩ := row_slice h.row
  have HR : Hid (∀ W, Below w.heap.size w W → W.cell? ⟨pb, 1, none⟩ = some (.slice a N c) ∧ W.ownsRow base 9 1 (.slice a N c) N (sv r.es)) := fun W hb => by
    obtain ⟨p, _, hx⟩ := (h.below hb).box
    rw [hN] at hv
    have := (h.below hb).row
    rw [hN, hv] at this
    exact ⟨hv ▸ (box4 hx).1.2.1, this⟩
  rw [hN]
  clear h hf hN hv
  go_enter Try.func18, Try.ntmps18
  go_wp2_with (first
    | (go_at_call 25; refine (CL.out _ (Below.refl _ _)).mono ?_; rintro e w1 ⟨rfl, rfl⟩)
    | (at_make; refine wpList_make_own _ rfl _ _ 35 rfl _ 9 i0 _ 1 Try.underlying35 hi hz0 hz1 .i64 .i64 _ N rfl rfl rfl (by rw [hz2]; omega) (by unfold maxLen; omega) (Nat.le_refl _) ?_; intro w2 hown2 hg2; have HB2 : Hid (Below w1.heap.size w1 w2) := ⟨hg2.os, hg2.tape, hg2.output, hg2.size, fun k hk => hg2.block k hk (by simp)⟩; have HO2 : Hid (w2.ownsRow w1.heap.size 9 1 (.slice (some ⟨w1.heap.size, 0, none⟩) 0 N) 0 []) := hown2; clear hg2 hown2)
    | (go_at_call 25; refine (CL.out _ HB2.out).mono ?_; clear CL; rintro e w3 ⟨rfl, hw3⟩; subst hw3))
  go_loopw [3, 10] (fun t3 t10 wr => ∃ (k : Nat) (tv : Value), k ≤ N ∧ t10 = .int .i64 k ∧ tv = t3 ∧ Hid (wr.ownsRow w1.heap.size 9 1 tv k (sv (r.es.take k)) ∧ Below w1.heap.size w1 wr)) (fun _ t10 _ => N - (intOf t10).toNat)
  case atStart => exact ⟨0, _, Nat.zero_le _, rfl, rfl, by simpa [sv] using HO2.out, HB2.out⟩
  case round =>
    obtain ⟨k, tv, hk, rfl, rfl, HK⟩ := hrel
    clear HB2 HO2
    by_cases hlt : k < N
    · obtain ⟨s, hs⟩ : ∃ s, r.es[k]? = some s := ⟨r.es[k]'(by rw [HL.out]; exact hlt), List.getElem?_eq_getElem _⟩
      obtain ⟨hc, hrow⟩ := HR.out _ HK.out.2
      obtain ⟨g, rfl, hcell⟩ := row_at hrow hs
      have HS : Hid (r.es[k]? = some s) := hs
      have C1 : Hid (∀ W, Calls Try.prog 38 #[.string s] W fun e w' => e = .returned (.string s) ∧ Below W.heap.size W w') := fun W => CC.out W s (List.mem_of_getElem? hs)
      clear hrow hs
      go_upto_region 5 with fail
      go_wp2_with (first
        | (go_at_call 38; refine (C1.out _).mono ?_; clear C1; rintro e w4 ⟨rfl, hb4⟩; have HK4 : Hid (w4.ownsRow w1.heap.size 9 1 tv k (sv (r.es.take k)) ∧ Below w1.heap.size w1 w4) := ⟨row_below HK.out.1 hb4, HK.out.2.trans (hb4.mono HK.out.2.size)⟩; clear hb4)
        | (at_builtin; refine app_one rfl _ _ rfl w1.heap.size tv k (sv (r.es.take k)) rfl s HK4.out.1 rfl (by omega) HK4.out.2.size ?_; intro v' w6 hown' hgrow _; have HN1 : Hid _ := hown'; have HN2 : Hid _ := hgrow; clear hown' hgrow))
      have h1 := HN1.out
      have h2 := HN2.out
      obtain ⟨q1, q2⟩ := HK4.out
      refine ⟨⟨k + 1, _, by omega, by go_num, rfl, by rw [sv_snoc HS.out]; exact h1, (q2.alloc q2.size _).grown h2 (by have := q2.size; simp; omega) (fun j e => (q1.lt j e).1)⟩, by simp [intOf]; omega⟩
    · go_wp2
      go_ret
      obtain rfl : k = N := by omega
      obtain ⟨h1, h2⟩ := HK.out
      rw [List.take_of_length_le (by rw [HL.out]; omega)] at h1
      exact ⟨_, rfl, h1, h2⟩
theorem all_nil (w : World) : Calls Try.prog 18 #[.pointer none] w fun e W' => ∃ u, e = .returned (.slice u 0 0) ∧ Below w.heap.size w W' := by
  obtain ⟨i0, hi, hz0, hz1, hz2⟩ := info_parts infoS
  have CL := len_nil w
  go_enter Try.func18, Try.ntmps18
  go_wp2_with (first
    | (go_at_call 25; refine CL.mono ?_; clear CL; rintro e w1 ⟨rfl, rfl⟩)
    | (at_make; refine wpList_make_own _ rfl _ _ 35 rfl _ 9 i0 _ 1 Try.underlying35 hi hz0 hz1 .i64 .i64 _ 0 rfl rfl rfl (by rw [hz2]; omega) (by unfold maxLen; omega) (Nat.le_refl _) ?_; intro w2 hown2 hg2; have HB2 : Hid (Below w1.heap.size w1 w2) := ⟨hg2.os, hg2.tape, hg2.output, hg2.size, fun k hk => hg2.block k hk (by simp)⟩; have CL2 := len_nil w2; clear hg2 hown2)
    | (go_at_call 25; refine CL2.mono ?_; clear CL2; rintro e w3 ⟨rfl, hw3⟩; subst hw3))
  go_loopw [3, 10] (fun t3 t10 wr => t3 = .slice (some ⟨w1.heap.size, 0, none⟩) 0 0 ∧ t10 = .int .i64 0 ∧ wr = w3) (fun _ _ _ => 0)
  case atStart => exact ⟨rfl, rfl, rfl⟩
  case round =>
    obtain ⟨rfl, rfl, rfl⟩ := hrel
    go_wp2
    go_ret
    exact ⟨_, rfl, HB2.out⟩
end Go.Proofs.Ytihagjkdghbkdaa
