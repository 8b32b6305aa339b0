/-
  The document's own set of marks: lay, Load, New, Put. Conditions: those of each theorem.
-/
import Derived.Test.YtolafffpgkgadaaERef
namespace Go.Proofs.Ytolafffpgkgadaa
open Go.RowKit

theorem lay_one {n : Nat} {a : Int} {x : Nat × Int} : ∀ {pre : Ml}, (∀ q ∈ pre, q.1 < n) → lay n a (pre ++ [x]) = pre ++ (if n < x.1 then [(n, a), x] else if n = x.1 then [(n, a)] else [x, (n, a)])
  | [], _ => by simp only [List.nil_append]; rfl
  | q :: r, h => by
    have := h q List.mem_cons_self
    show (if n < q.1 then _ else if n = q.1 then _ else q :: lay n a (r ++ [x])) = _
    rw [if_neg (by omega), if_neg (by omega), lay_one (fun p hp => h p (List.mem_cons_of_mem _ hp))]
    rfl
theorem lay_more {n : Nat} {a : Int} {x : Nat × Int} : ∀ {pre : Ml}, (∃ q ∈ pre, n ≤ q.1) → Ris (pre ++ [x]) → lay n a (pre ++ [x]) = lay n a pre ++ [x]
  | [], h, _ => by obtain ⟨_, h, _⟩ := h; cases h
  | q :: r, h, hr => by
    obtain ⟨h1, h2⟩ := List.pairwise_cons.1 hr
    show (if n < q.1 then _ else if n = q.1 then _ else q :: lay n a (r ++ [x])) = (if n < q.1 then _ else if n = q.1 then _ else q :: lay n a r) ++ [x]
    by_cases e1 : n < q.1
    · rw [if_pos e1, if_pos e1]; rfl
    · by_cases e2 : n = q.1
      · rw [if_neg e1, if_neg e1, if_pos e2, if_pos e2]; rfl
      · rw [if_neg e1, if_neg e1, if_neg e2, if_neg e2, lay_more ?_ h2]
        · rfl
        · obtain ⟨p, hp, hn⟩ := h
          rcases List.mem_cons.1 hp with rfl | hp
          · omega
          · exact ⟨p, hp, hn⟩
/-- what lay has laid of the first marks -/
def lyd (n : Nat) (a : Int) (d : Bool) (pre : Ml) : Ml := if d then lay n a pre else pre
def lyD (n : Nat) (d : Bool) (pre : Ml) : Prop := if d then ∃ q ∈ pre, n ≤ q.1 else ∀ q ∈ pre, q.1 < n
theorem lay_len {n : Nat} {a : Int} : ∀ {L : Ml}, (lay n a L).length ≤ L.length + 1
  | [] => by simp [lay]
  | q :: r => by
    unfold lay
    split
    · simp
    · split
      · simp
      · have := lay_len (n := n) (a := a) (L := r)
        simp only [List.length_cons]; omega
theorem kcl_app (l m : Ml) : kcl (l ++ m) = kcl l ++ kcl m := by simp [kcl]

theorem row_slice {W : World} {base c n : Nat} {e : TypeId} {v : Value} {xs : List Value} (h : W.ownsRow base e c v n xs) : ∃ a m k, v = .slice a m k := by
  rcases h.2 with ⟨rfl, _⟩ | ⟨g, cap, cur, rfl, _⟩
  · exact ⟨_, _, _, rfl⟩
  · exact ⟨_, _, _, rfl⟩
/-- what stays while a mark is laid -/
structure Lyg (w : World) (base rb : Nat) (v : Value) (L : Ml) (n : Nat) (a : Int) (t : Value) (X : Ml) (W : World) : Prop where
  rs : Rs W base rb v L
  bel : Below w.heap.size w W
  m0 : W.cell? ⟨w.heap.size, 0, none⟩ = some (.int .u8 (n : Int))
  m1 : W.cell? ⟨w.heap.size, 1, none⟩ = some (.int .i64 a)
  hm : w.heap.size < W.heap.size
  row : W.ownsRow (w.heap.size + 1) 26 2 t X.length (kcl X)
theorem Lyg.below {w W W' : World} {base rb n : Nat} {v t : Value} {L X : Ml} {a : Int} (h : Lyg w base rb v L n a t X W) (hb : Below W.heap.size W W') : Lyg w base rb v L n a t X W' :=
  ⟨h.rs.below hb, h.bel.trans (hb.mono h.bel.size), (hb.cell (p := ⟨w.heap.size, 0, none⟩) h.hm).trans h.m0, (hb.cell (p := ⟨w.heap.size, 1, none⟩) h.hm).trans h.m1, by have := hb.size; have := h.hm; omega,
    h.row.kept (row := none) ⟨hb.os, hb.tape, hb.output, hb.size, fun k hk _ => hb.block k hk⟩ (by
      rcases h.row.2 with ⟨rfl, _⟩ | ⟨g, cap, cur, rfl, _⟩
      · exact .inl rfl
      · exact .inr (by simp [Value.ownBlock]))⟩
theorem Lyg.alloc {w W : World} {base rb n : Nat} {v t : Value} {L X : Ml} {a : Int} (h : Lyg w base rb v L n a t X W) (o : Obj) : Lyg w base rb v L n a t X (W.alloc o) := h.below ((Below.refl _ W).alloc (Nat.le_refl _) o)
theorem Lyg.grown {w W W' : World} {base rb n : Nat} {v t t' : Value} {L X Y : Ml} {a : Int} (h : Lyg w base rb v L n a t X W) (hw : rb < w.heap.size ∧ ∀ g, v.ownBlock = some g → g < w.heap.size) (hg : W.grownBy W' t.ownBlock) (hr : W'.ownsRow (w.heap.size + 1) 26 2 t' Y.length (kcl Y)) : Lyg w base rb v L n a t' Y W' := by
  have hlow : ∀ k, t.ownBlock = some k → w.heap.size + 1 ≤ k := fun k hk => (h.row.lt k hk).1
  have blk : ∀ k, k ≤ w.heap.size → W'.heap[k]? = W.heap[k]? := fun k hk => hg.block k (by have := h.hm; omega) (fun e => by have := hlow k e.symm; omega)
  refine ⟨h.rs.of_heap (blk _ (by omega)) (fun g hg => blk g (by have := hw.2 g hg; omega)), ⟨hg.os.trans h.bel.os, hg.tape.trans h.bel.tape, hg.output.trans h.bel.output, Nat.le_trans h.bel.size hg.size, fun k hk => (blk k (by omega)).trans (h.bel.block k hk)⟩, ?_, ?_, by have := hg.size; have := h.hm; omega, hr⟩
  · rw [World.cell?_of_block (blk _ (Nat.le_refl _))]; exact h.m0
  · rw [World.cell?_of_block (blk _ (Nat.le_refl _))]; exact h.m1

theorem app_one {W : World} {ops : Array Oper} {rest : List Oper} {o : Oper} {a : Act} {Q : Exit → Act → World → Prop} (hgd : o.guard = none) (s x : Operand)
    (ho : o.op = .call { callee := .builtin .append, args := #[s, x], argTypes := #[22, 22] }) (base : Nat) (v : Value) (X : Ml) (hs : a.eval s = v) (p : Nat × Int) (hown : W.ownsRow base 26 2 v X.length (kcl X)) (t : TypeId)
    (hx : a.eval x = .slice (some ⟨W.heap.size, 0, none⟩) 1 1) (h63 : X.length ≤ 4398046511104) (hbase : base ≤ W.heap.size)
    (h : ∀ v' w', w'.ownsRow base 26 2 v' (X ++ [p]).length (kcl (X ++ [p])) → (W.alloc (.cells #[.int .u8 (p.1 : Int), .int .i64 p.2] t)).grownBy w' v.ownBlock → (v'.ownBlock = v.ownBlock ∨ v'.ownBlock = some (W.heap.size + 1)) → wpList Try.prog ops Q rest (a.put o.dst v') w') :
    wpList Try.prog ops Q (o :: rest) a (W.alloc (.cells #[.int .u8 (p.1 : Int), .int .i64 p.2] t)) := by
  obtain ⟨i0, hi, hz0, hz1, hz2⟩ := info_parts infoM
  refine wpList_append_own_at _ hgd s x 22 ho base 26 i0 _ 2 16 Try.underlying22 hi hz0 hz1 hz2 rfl (by decide) v X.length (kcl X) hs (hown.alloc _) ⟨W.heap.size, 0, none⟩ 1 1 [.int .u8 (p.1 : Int), .int .i64 p.2] hx rfl (World.news_of_block (World.alloc_heap_new W _)) (by simp [Value.oneCell']) (by unfold maxLen; omega) (by omega) (by simp; omega) (fun v' w' h1 h2 _ h4 => h v' w' ?_ h2 ?_)
  · rw [kcl_snoc, List.length_append]; exact h1
  · simpa using h4

set_option maxRecDepth 100000 in
set_option maxHeartbeats 2000000 in
theorem rlay_any {w : World} {base rb : Nat} {v : Value} {L : Ml} (h : Rs w base rb v L) {n : Nat} {a : Int} (hn : n < 256) (ha : i64ok a) :
    Calls Try.prog 46 #[.pointer (some ⟨rb, 0, none⟩), .agg #[.int .u8 (n : Int), .int .i64 a]] w fun e w' => e = .returned (.tuple #[]) ∧ ∃ v', Rs w' base rb v' (lay n a L) ∧ Ch rb none w w' ∧ Nx w none v'.ownBlock := by
  obtain ⟨N, hN⟩ : ∃ N, L.length = N := ⟨_, rfl⟩
  have hl8 := len8 h.ris h.fit
  have HF : Hid (L.length = N ∧ Ris L ∧ Fit8 L ∧ rb < w.heap.size ∧ (∀ g, v.ownBlock = some g → g < w.heap.size) ∧ base ≤ rb) := ⟨hN, h.ris, h.fit, h.lt, fun g hg => by obtain ⟨cur, hc, _⟩ := h.blk hg; exact (Array.getElem?_eq_some_iff.1 hc).1, h.low⟩
  have HB0 : Hid (Rs w base rb v L) := h
  obtain ⟨va, vc, hv, _⟩ := h.rd
  rw [hN] at hv hl8
  have hcell : ∀ W t X, Lyg w base rb v L n a t X W → W.cell? ⟨rb, 0, none⟩ = some (.slice va N vc) := fun W t X hW => by rw [hW.rs.cell, hv]
  have HC : Hid (∀ W t X, Lyg w base rb v L n a t X W → W.cell? ⟨rb, 0, none⟩ = some (.slice va N vc)) := hcell
  have HV : Hid (v = .slice va N vc) := hv
  clear h hN hcell hv
  have HL0 : Hid (Lyg w base rb v L n a (.slice none 0 0) [] (w.alloc (.cells #[.int .u8 (n : Int), .int .i64 a] 26))) := by
    have hb : Below w.heap.size w (w.alloc (.cells #[.int .u8 (n : Int), .int .i64 a] 26)) := (Below.refl _ w).alloc (Nat.le_refl _) _
    obtain ⟨z0, z1⟩ := new2 w (.int .u8 (n : Int)) (.int .i64 a) 26
    exact ⟨HB0.out.below hb, hb, z0, z1, by simp, World.ownsRow_nil _ _ _ _⟩
  go_enter Try.func46, Try.ntmps46
  go_wp2
  go_loopw [4, 5, 6] (fun t4 t5 t6 wr => ∃ (k : Nat) (d : Bool) (tv : Value), k ≤ N ∧ t6 = .int .i64 k ∧ t5 = .bool d ∧ tv = t4 ∧ Hid (lyD n d (L.take k) ∧ Lyg w base rb v L n a tv (lyd n a d (L.take k)) wr)) (fun _ _ t6 _ => N - (intOf t6).toNat)
  case atStart => exact ⟨0, false, _, Nat.zero_le _, rfl, rfl, rfl, fun q hq => by simp at hq, HL0.out⟩
  case round =>
    obtain ⟨k, d, tv, hk, rfl, rfl, rfl, HK⟩ := hrel
    clear HL0
    by_cases hlt : k < N
    · obtain ⟨p, hp⟩ : ∃ p, L[k]? = some p := ⟨L[k]'(by rw [HF.out.1]; exact hlt), List.getElem?_eq_getElem _⟩
      have hc := HC.out _ _ _ HK.out.2
      have hrd0 := HK.out.2.rs.rd
      rw [HV.out] at hrd0
      obtain ⟨a', cap', ev, hrd⟩ := hrd0
      obtain ⟨rfl, hmq, rfl⟩ := Value.slice.inj ev
      clear ev hmq
      obtain ⟨g, o, rfl, hg, hcs⟩ := hrd (fun e => by rw [e] at hp; cases hp)
      obtain ⟨y0, y1⟩ := hcs k p hp
      obtain ⟨z0, z1⟩ := new2 wr (.int .u8 (p.1 : Int)) (.int .i64 p.2) 26
      have hlk : (lyd n a d (L.take k)).length ≤ 257 := by
        have h1 : (L.take k).length ≤ k := List.length_take_le _ _
        have h2 := lay_len (n := n) (a := a) (L := L.take k)
        unfold lyd; split <;> omega
      have htk : L.take (k + 1) = L.take k ++ [p] := by rw [List.take_add_one, hp]; rfl
      have hris : Ris (L.take k ++ [p]) := htk ▸ HF.out.2.1.sublist (List.take_sublist _ _)
      have HX : Hid (Lyg w base rb v L n a _ (lyd n a d (L.take k)) (wr.alloc (.cells #[.int .u8 (p.1 : Int), .int .i64 p.2] 26))) := HK.out.2.alloc _
      have HD : Hid (lyD n d (L.take k)) := HK.out.1
      have HT : Hid (L.take (k + 1) = L.take k ++ [p] ∧ Ris (L.take k ++ [p])) := ⟨htk, hris⟩
      clear hrd hcs hp htk hris
      go_upto_region 7 with fail
      obtain ⟨xb, hxb⟩ : ∃ xb, wr.heap.size = xb := ⟨_, rfl⟩
      obtain ⟨W2, hW2⟩ : ∃ W2, wr.alloc (.cells #[.int .u8 (p.1 : Int), .int .i64 p.2] 26) = W2 := ⟨_, rfl⟩
      have HXL : Hid (∀ g, tv.ownBlock = some g → g ≠ xb) := fun g hg => by have := (HK.out.2.row.lt g hg).2; omega
      have HXB : Hid (xb < W2.heap.size) := by show xb < W2.heap.size; rw [← hxb, ← hW2]; simp
      rw [hW2] at HX z0 z1 ⊢
      rw [hxb] at z0 z1 ⊢
      obtain ⟨X, hX⟩ : ∃ X, lyd n a d (L.take k) = X := ⟨_, rfl⟩
      rw [hX] at HX hlk
      have HXX : Hid (lyd n a d (L.take k) = X) := hX
      have m0 := HX.out.m0
      have m1 := HX.out.m1
      have hc2 := HC.out _ _ _ HX.out
      clear HK hxb hW2 y0 y1 hc hX HC
      cases d with
      | true =>
        have hne : ¬ (p.1 : Int) = (n : Int) := by
          obtain ⟨q, hq, hqn⟩ := HD.out
          have := (List.pairwise_append.1 HT.out.2).2.2 q hq p List.mem_cons_self
          omega
        go_wp2_with (first
          | (at_builtin; refine app_one rfl _ _ rfl (w.heap.size + 1) _ X rfl p HX.out.row _ rfl (by omega) (by have := HX.out.hm; omega) ?_; intro v' w3 hown hg hob; have HX3 : Hid (Lyg w base rb v L n a v' (X ++ [p]) w3) := (HX.out.alloc _).grown ⟨HF.out.2.2.2.1, HF.out.2.2.2.2.1⟩ hg hown; clear hown hg hob))
        refine ⟨⟨k + 1, true, _, by omega, by go_num, rfl, rfl, ?_, ?_⟩, by simp [intOf]; omega⟩
        · obtain ⟨q, hq, hqn⟩ := HD.out
          rw [HT.out.1]
          exact ⟨q, List.mem_append_left _ hq, hqn⟩
        · have e : lyd n a true (L.take (k + 1)) = X ++ [p] := by
            rw [HT.out.1, ← HXX.out]
            exact lay_more HD.out HT.out.2
          rw [e]
          exact HX3.out
      | false =>
        have hpre : ∀ q ∈ L.take k, q.1 < n := HD.out
        have HPR : Hid (∀ q ∈ L.take k, q.1 < n) := hpre
        clear hpre
        by_cases e1 : p.1 < n
        · have e2 : ¬ (n : Int) ≤ (p.1 : Int) := by omega
          have hne : ¬ (p.1 : Int) = (n : Int) := by omega
          have HE : Hid (p.1 < n) := e1
          clear e1
          go_wp2_with (first
            | (at_builtin; refine app_one rfl _ _ rfl (w.heap.size + 1) _ X rfl p HX.out.row _ rfl (by omega) (by have := HX.out.hm; omega) ?_; intro v' w3 hown hg hob; have HX3 : Hid (Lyg w base rb v L n a v' (X ++ [p]) w3) := (HX.out.alloc _).grown ⟨HF.out.2.2.2.1, HF.out.2.2.2.2.1⟩ hg hown; clear hown hg hob))
          refine ⟨⟨k + 1, false, _, by omega, by go_num, rfl, rfl, ?_, ?_⟩, by simp [intOf]; omega⟩
          · rw [HT.out.1]
            intro q hq
            rcases List.mem_append.1 hq with hq | hq
            · exact HPR.out q hq
            · simp at hq; rw [hq]; exact HE.out
          · have e : lyd n a false (L.take (k + 1)) = X ++ [p] := by
              rw [HT.out.1, ← HXX.out]; rfl
            rw [e]
            exact HX3.out
        · have e2 : (n : Int) ≤ (p.1 : Int) := by omega
          have HE : Hid (n ≤ p.1) := by show n ≤ p.1; omega
          have hdn : lyD n true (L.take k ++ [p]) := ⟨p, by simp, HE.out⟩
          have HDN : Hid (lyD n true (L.take k ++ [p])) := hdn
          clear hdn e1
          by_cases e3 : p.1 = n
          · have e4 : (p.1 : Int) = (n : Int) := by omega
            have HE3 : Hid (p.1 = n) := e3
            clear e3
            go_wp2_with (first
              | (at_builtin; refine app_one rfl _ _ rfl (w.heap.size + 1) _ X rfl (n, a) HX.out.row _ rfl (by omega) (by have := HX.out.hm; omega) ?_; intro v' w3 hown hg hob; have HX3 : Hid (Lyg w base rb v L n a v' (X ++ [(n, a)]) w3) := (HX.out.alloc _).grown ⟨HF.out.2.2.2.1, HF.out.2.2.2.2.1⟩ hg hown; have q0 : w3.cell? ⟨xb, 0, none⟩ = some (.int .u8 (p.1 : Int)) := (hg.cell ((World.cell?_of_block (((Below.refl _ W2).alloc (Nat.le_refl _) _).block xb HXB.out)).trans z0) (fun e => HXL.out xb e.symm rfl)); have r0 := HX3.out.m0; clear hown hg hob))
            refine ⟨⟨k + 1, true, _, by omega, by go_num, rfl, rfl, by rw [HT.out.1]; exact HDN.out, ?_⟩, by simp [intOf]; omega⟩
            have e : lyd n a true (L.take (k + 1)) = X ++ [(n, a)] := by
              rw [HT.out.1, ← HXX.out]
              show lay n a (L.take k ++ [p]) = L.take k ++ [(n, a)]
              rw [lay_one HPR.out, if_neg (by have := HE3.out; omega), if_pos HE3.out.symm]
            rw [e]
            exact HX3.out
          · have e4 : ¬ (p.1 : Int) = (n : Int) := by omega
            have HE3 : Hid (n < p.1) := by show n < p.1; have := HE.out; omega
            clear e3
            go_wp2_with (first
              | (at_builtin; refine app_one rfl _ _ rfl (w.heap.size + 1) _ X rfl (n, a) HX.out.row _ rfl (by omega) (by have := HX.out.hm; omega) ?_; intro v' w3 hown hg hob; have HX3 : Hid (Lyg w base rb v L n a v' (X ++ [(n, a)]) w3) := (HX.out.alloc _).grown ⟨HF.out.2.2.2.1, HF.out.2.2.2.2.1⟩ hg hown; have q0 : w3.cell? ⟨xb, 0, none⟩ = some (.int .u8 (p.1 : Int)) := (hg.cell ((World.cell?_of_block (((Below.refl _ W2).alloc (Nat.le_refl _) _).block xb HXB.out)).trans z0) (fun e => HXL.out xb e.symm rfl)); have q1 : w3.cell? ⟨xb, 1, none⟩ = some (.int .i64 p.2) := (hg.cell ((World.cell?_of_block (((Below.refl _ W2).alloc (Nat.le_refl _) _).block xb HXB.out)).trans z1) (fun e => HXL.out xb e.symm rfl)); have r0 := HX3.out.m0; have hl3 : (X ++ [(n, a)]).length ≤ 258 := (by simp; omega); clear hown hg hob HX)
              | (at_builtin; refine app_one rfl _ _ rfl (w.heap.size + 1) _ (X ++ [(n, a)]) rfl p HX3.out.row _ rfl (by omega) (by have := HX3.out.hm; omega) ?_; intro v4 w4 hown hg hob; have HX4 : Hid (Lyg w base rb v L n a v4 (X ++ [(n, a)] ++ [p]) w4) := (HX3.out.alloc _).grown ⟨HF.out.2.2.2.1, HF.out.2.2.2.2.1⟩ hg hown; clear hown hg hob HX3))
            refine ⟨⟨k + 1, true, _, by omega, by go_num, rfl, rfl, by rw [HT.out.1]; exact HDN.out, ?_⟩, by simp [intOf]; omega⟩
            have e : lyd n a true (L.take (k + 1)) = X ++ [(n, a)] ++ [p] := by
              rw [HT.out.1, ← HXX.out]
              show lay n a (L.take k ++ [p]) = L.take k ++ [(n, a)] ++ [p]
              rw [lay_one HPR.out, if_pos HE3.out]
              simp
            rw [e]
            exact HX4.out
    · obtain rfl : k = N := by omega
      have htk : L.take k = L := List.take_of_length_le (by rw [HF.out.1]; exact Nat.le_refl _)
      have HX : Hid (lyD n d L ∧ Lyg w base rb v L n a tv (lyd n a d L) wr) := by have h1 := HK.out; rw [htk] at h1; exact h1
      have hc := HC.out _ _ _ HX.out.2
      have HFN : Hid (∀ t' W W', Lyg w base rb v L n a t' (lay n a L) W → W' = W.setCell ⟨rb, 0, none⟩ t' → ∃ v', Rs W' base rb v' (lay n a L) ∧ Ch rb none w W' ∧ Nx w none v'.ownBlock) := fun t' W W' hY e => by
        subst e
        have hx := set1 (i := 0) t' hY.rs.box
        have hg := gcell W rb 0 t'
        refine ⟨t', ⟨hx, ?_, HF.out.2.2.2.2.2, HF.out.2.1.lay, HF.out.2.2.1.lay hn ha⟩, ⟨hg.os.trans hY.bel.os, hg.tape.trans hY.bel.tape, hg.output.trans hY.bel.output, Nat.le_trans hY.bel.size hg.size, fun k hk hb _ => (hg.block k (by have := hY.bel.size; omega) (fun e => hb (Option.some.inj e))).trans (hY.bel.block k hk)⟩, fun k hk => .inr (by have := (hY.row.lt k hk).1; omega)⟩
        have hr := hY.row.kept hg (.inr (fun e => by have := (hY.row.lt rb e).1; have := HF.out.2.2.2.1; omega))
        exact ⟨hr.1, hr.2.imp id (fun ⟨g, cap, cur, h1, h2, h3⟩ => ⟨g, cap, cur, h1, by have := HF.out.2.2.2.1; have := HF.out.2.2.2.2.2; omega, h3⟩)⟩
      have hf : ∀ t X W, Lyg w base rb v L n a t X W → W.frozen? ⟨rb, 0, none⟩ = false := fun t X W hW => hW.rs.frozen
      have HFZ : Hid (∀ t X W, Lyg w base rb v L n a t X W → W.frozen? ⟨rb, 0, none⟩ = false) := hf
      clear hf HK htk hlt
      cases d with
      | true =>
        have hfz := HFZ.out _ _ _ HX.out.2
        obtain ⟨ta, tm, tc, rfl⟩ := row_slice HX.out.2.row
        go_wp2
        go_end0
        exact ⟨rfl, HFN.out _ _ _ HX.out.2 rfl⟩
      | false =>
        have m0 := HX.out.2.m0
        have m1 := HX.out.2.m1
        have HLE : Hid (lay n a L = L ++ [(n, a)]) := lay_end HX.out.1
        have hlen : L.length ≤ 256 := len8 HF.out.2.1 HF.out.2.2.1
        go_wp2_with (first
          | (at_builtin; refine app_one rfl _ _ rfl (w.heap.size + 1) _ L rfl (n, a) HX.out.2.row _ rfl (by omega) (by have := HX.out.2.hm; omega) ?_; intro v' w3 hown hg hob; have HX3 : Hid (Lyg w base rb v L n a v' (lay n a L) w3) := (HLE.out ▸ (HX.out.2.alloc _).grown ⟨HF.out.2.2.2.1, HF.out.2.2.2.2.1⟩ hg hown); have c3 := HC.out _ _ _ HX3.out; have f3 := HFZ.out _ _ _ HX3.out; clear hown hg hob; obtain ⟨ta, tm, tc, rfl⟩ := row_slice HX3.out.row))
        go_end0
        exact ⟨rfl, HFN.out _ _ _ HX3.out rfl⟩
end Go.Proofs.Ytolafffpgkgadaa
