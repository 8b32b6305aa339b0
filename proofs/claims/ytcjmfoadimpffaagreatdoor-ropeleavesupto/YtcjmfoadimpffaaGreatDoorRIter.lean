/-
  The iterator that a rope's Leaves hands back: the leaves one behind the other, each with its offset. Conditions: no round writes the tree.
-/
import Derived.Test.YtcjmfoadimpffaaGreatDoorRTog
import Derived.Test.YtcjmfoadimpffaaGreatDoorPkX
import Derived.Test.YtcjmfoadimpffaaGreatDoorUWalk
namespace Go.Proofs.YtcjmfoadimpffaaGreatDoor
open Go.RowKit Go.Shelf Bod Wid
attribute [local go_sem] Oper.semAt_some

/-- the leaves with their offsets -/
def lvo : Tr → Nat → List (Nat × ByteArray)
  | .leaf s, a => [(a, s)]
  | .knot l r, a => lvo l a ++ lvo r (a + l.text.size)
abbrev encL (x : Nat × ByteArray) : Array Value := #[.int .i64 (x.1 : Int), .string x.2]
theorem At.kpt {M : Nat → Obj → Prop} {W W' : World} (h : KpT M W W') (h1 : ∀ k vs fz, ¬ M k (.cells vs 188 fz)) (h2 : ∀ k vs fz, ¬ M k (.cells vs 152 fz)) : ∀ {t : Tr} {v : Value}, At W t v → At W' t v
  | .leaf _, _, ⟨b, e, hb⟩ => ⟨b, e, h.2 _ _ hb rfl (h1 _ _ _)⟩
  | .knot _ _, _, ⟨b, x, y, e, hb, hl, hr⟩ => ⟨b, x, y, e, h.2 _ _ hb rfl (h2 _ _ _), At.kpt h h1 h2 hl, At.kpt h h1 h2 hr⟩
/-- what a round of the range does with a leaf -/
def Yl (l B : Nat) (M : Nat → Obj → Prop) (J Jx : List (Nat × ByteArray) → World → Prop) (full : List (Nat × ByteArray)) : Prop :=
  ∀ pre x W1 m, J pre W1 → B ≤ W1.heap.size → pre ++ [x] <+: full → YieldAt Fence.wide m Tryz.prog l (encL x) W1 fun e W' => (e = .returned (.bool true) ∧ J (pre ++ [x]) W' ∧ KpT M W1 W') ∨ (e = .returned (.bool false) ∧ Jx (pre ++ [x]) W')
abbrev WkP (M : Nat → Obj → Prop) (J Jx : List (Nat × ByteArray) → World → Prop) (full pre : List (Nat × ByteArray)) (W : World) (e : Ending) (W' : World) : Prop :=
  (e = .returned (.bool true) ∧ J pre W' ∧ KpT M W W') ∨ (e = .returned (.bool false) ∧ ∃ p, p <+: full ∧ Jx p W')
set_option maxRecDepth 100000 in
set_option maxHeartbeats 1000000 in
theorem rwalk_leaf (n l B : Nat) (M : Nat → Obj → Prop) (J Jx : List (Nat × ByteArray) → World → Prop) (full : List (Nat × ByteArray)) (hJ : Ab B B (B + 0) J) (hY : Yl l B M J Jx full)
    {s : ByteArray} {v : Value} {W : World} {at' : Nat} {pre : List (Nat × ByteArray)} (h : At W (.leaf s) v) (hB : B ≤ W.heap.size) (h0 : J pre W) (hp : pre ++ [(at', s)] <+: full) :
    CallsIn Fence.wide n Tryz.prog 50 #[v, .int .i64 at', .func (.yield l) #[] #[]] W (WkP M J Jx full (pre ++ [(at', s)]) W) := by
  obtain ⟨T, a, fS, fP, fT, p, rfl, -, ⟨m1, m2⟩, ⟨m3, m4⟩, -, P1, X1, rfl⟩ := h.nd
  have X2 : Hid (∀ w', Below W.heap.size W w' → Calls Tryz.prog fT #[.pointer (some a)] w' fun e W' => e = .returned (.string s) ∧ Below W.heap.size W W') := fun w' hW => (X1.out w' hW).mono fun e W' ⟨k1, k2⟩ => ⟨k1, Below.on hW k2⟩
  have HY : Hid (∀ w' m, Below W.heap.size W w' → YieldAt Fence.wide m Tryz.prog l (encL (at', s)) w' fun e W' => WkP M J Jx full (pre ++ [(at', s)]) W e W') := fun w' m hb =>
    (hY pre (at', s) w' m (hJ.grow h0 (grown_of_below hb)) (Nat.le_trans hB hb.size) hp).mono fun e W' h => h.imp (fun ⟨k1, k2, k3⟩ => ⟨k1, k2, (KpT.of_below hb).trans k3⟩) (fun ⟨k1, k2⟩ => ⟨k1, _, hp, k2⟩)
  clear h X1 hY hJ h0 hp hB
  refine callsIn_of_wp Tryz.func50 rfl trivial ?_ rfl
  simp only [Tryz.ntmps50, List.size_toArray, List.length_cons, List.length_nil, Nat.reduceAdd, Nat.reduceSub, Array.replicate_succ, Array.replicate_zero, List.push_toArray, List.append_toArray, List.nil_append, List.cons_append]
  gi_wp2_with (first | (refine ⟨trivial, (fun h => by cases h), ?_⟩; guard_target =~ CallsIn _ _ _ fP _ _ _; refine (callsIn_wide.2 (P1.out _ (Below.refl _ W))).mono ?_; clear P1; rintro e w1 ⟨rfl, hb1⟩; have HB1 : Hid (Below W.heap.size W w1) := hb1; clear hb1) | (refine ⟨trivial, (fun h => by cases h), ?_⟩; guard_target =~ CallsIn _ _ _ fT _ _ _; refine (callsIn_wide.2 (X2.out _ HB1.out)).mono ?_; clear X2; rintro e w2 ⟨rfl, hb2⟩; obtain ⟨fn, tmps, assign, body, hy, hR⟩ := HY.out w2 (n - 1) hb2; dsimp only [encL] at hy; clear hb2))
  refine ⟨(fun h => by cases h), hR.mono ?_⟩
  rintro e W3 (⟨rfl, h3⟩ | ⟨rfl, h3⟩)
  · gi_wp2
    go_ret
    exact .inl ⟨rfl, h3⟩
  · gi_wp2
    go_ret
    exact .inr ⟨rfl, h3⟩
/-- Sum of a tree whose method is known -/
theorem At.sum_at {w : World} {t : Tr} {T : TypeId} {a : Addr} {f : FuncId} (h : At w t (.iface T (.pointer (some a)))) (hm : ∀ W, (method 356 T (.pointer (some a)) "Sum").run Tryz.prog W = .ok (f, .pointer (some a)) W) :
    Calls Tryz.prog f #[.pointer (some a)] w fun e W' => e = .returned (sv (smr t.text)) ∧ Below w.heap.size w W' := by
  obtain ⟨T', a', fS, _, _, _, e, ⟨m1, -⟩, -, -, S1, -⟩ := h.nd
  cases e
  have e := (hm w).symm.trans (m1 w)
  cases e
  exact S1.out w (Below.refl _ w)
set_option maxRecDepth 100000 in
set_option maxHeartbeats 1000000 in
theorem rwalk_in : ∀ {t : Tr} (n l B : Nat) (M : Nat → Obj → Prop) (J Jx : List (Nat × ByteArray) → World → Prop) (full : List (Nat × ByteArray)), Ab B B (B + 0) J → Yl l B M J Jx full → (∀ k vs fz, ¬ M k (.cells vs 188 fz)) → (∀ k vs fz, ¬ M k (.cells vs 152 fz)) →
    ∀ {v : Value} {W : World} {at' : Nat} {pre : List (Nat × ByteArray)}, At W t v → B ≤ W.heap.size → J pre W → pre ++ lvo t at' <+: full → at' + t.text.size ≤ 35184372088832 →
    CallsIn Fence.wide n Tryz.prog 50 #[v, .int .i64 at', .func (.yield l) #[] #[]] W (WkP M J Jx full (pre ++ lvo t at') W)
  | .leaf _, n, l, B, M, J, Jx, full, hJ, hY, _, _, _, _, _, _, h, hB, h0, hp, _ => rwalk_leaf n l B M J Jx full hJ hY h hB h0 hp
  | .knot t u, n, l, B, M, J, Jx, full, hJ, hY, hML, hMK, v, W, at', pre, h, hB, h0, hp, hz => by
    obtain ⟨T, a, fS, fP, fT, p, rfl, -, ⟨m1, m2⟩, -, -, P1, -, x1, x2, rfl, a1, a2⟩ := h.nd
    obtain ⟨U, d, gS, gP, gT, q, rfl, ⟨m3, m4⟩, -, -, -, -, -, -⟩ := a1.nd
    have hz' : at' + (t.text ++ u.text).size ≤ 35184372088832 := hz
    rw [size_app] at hz'
    obtain ⟨nl, e1⟩ : ∃ k, t.text.size = k := ⟨_, rfl⟩
    obtain ⟨ml, hml⟩ : ∃ m, smr t.text = m := ⟨_, rfl⟩
    have y1 := fby (m := ml) (n := nl) (by rw [← hml, ← e1]; rfl)
    have e2 : lvo (.knot t u) at' = lvo t at' ++ lvo u (at' + nl) := by rw [lvo, e1]
    rw [e2, ← List.append_assoc] at hp ⊢
    have hp1 : pre ++ lvo t at' <+: full := (List.prefix_append _ _).trans hp
    have K1 : Hid (∀ w1, Below W.heap.size W w1 → CallsIn Fence.wide (n - 1) Tryz.prog 50 #[.iface U (.pointer (some d)), .int .i64 at', .func (.yield l) #[] #[]] w1 fun e W' => (e = .returned (.bool true) ∧ Hid (J (pre ++ lvo t at') W' ∧ KpT M W W')) ∨ (e = .returned (.bool false) ∧ ∃ p, p <+: full ∧ Jx p W')) := fun w1 hb =>
      (rwalk_in (n - 1) l B M J Jx full hJ hY hML hMK (a1.below hb) (Nat.le_trans hB hb.size) (hJ.grow h0 (grown_of_below hb)) hp1 (by omega)).mono fun e W' h => h.imp (fun ⟨k1, k2, k3⟩ => ⟨k1, k2, (KpT.of_below hb).trans k3⟩) id
    have S1 : Hid (∀ w2, Hid (J (pre ++ lvo t at') w2 ∧ KpT M W w2) → Calls Tryz.prog gS #[.pointer (some d)] w2 fun e W' => e = .returned (sv ml) ∧ Hid (J (pre ++ lvo t at') W' ∧ KpT M W W')) := fun w2 ⟨h1, h2⟩ =>
      ((a1.kpt h2 hML hMK).sum_at m3).mono fun e W' ⟨k1, k2⟩ => ⟨by rw [k1, hml], hJ.grow h1 (grown_of_below k2), h2.trans (KpT.of_below k2)⟩
    obtain ⟨at2, ha2⟩ : ∃ k, at' + nl = k := ⟨_, rfl⟩
    have e3 : (at' : Int) + nl = (at2 : Int) := by omega
    rw [ha2] at hp ⊢
    have K2 : Hid (∀ w2, Hid (J (pre ++ lvo t at') w2 ∧ KpT M W w2) → CallsIn Fence.wide (n - 1) Tryz.prog 50 #[x2, .int .i64 at2, .func (.yield l) #[] #[]] w2 fun e W' => WkP M J Jx full (pre ++ lvo t at' ++ lvo u at2) W e W') := fun w2 ⟨h1, h2⟩ =>
      (rwalk_in (n - 1) l B M J Jx full hJ hY hML hMK (a2.kpt h2 hML hMK) (Nat.le_trans hB h2.1) h1 hp (by omega)).mono fun e W' h => h.imp (fun ⟨k1, k2, k3⟩ => ⟨k1, k2, h2.trans k3⟩) id
    have b1 : at' ≤ 35184372088832 := by omega
    have b2 : nl ≤ 35184372088832 := by omega
    clear h hJ hY hML hMK hB h0 hp hz hz' e1 hml e2 hp1 a1 a2 ha2
    refine callsIn_of_wp Tryz.func50 rfl trivial ?_ rfl
    simp only [Tryz.ntmps50, List.size_toArray, List.length_cons, List.length_nil, Nat.reduceAdd, Nat.reduceSub, Array.replicate_succ, Array.replicate_zero, List.push_toArray, List.append_toArray, List.nil_append, List.cons_append]
    gi_wp2_with (refine ⟨trivial, (fun h => by cases h), ?_⟩; guard_target =~ CallsIn _ _ _ fP _ _ _; refine (callsIn_wide.2 (P1.out _ (Below.refl _ W))).mono ?_; clear P1; rintro e w1 ⟨rfl, hb1⟩; have HB1 : Hid (Below W.heap.size W w1) := hb1; clear hb1)
    refine ⟨trivial, (fun h => by cases h), ?_⟩
    refine (K1.out _ HB1.out).mono ?_
    clear K1 HB1
    rintro e w2 (⟨rfl, h2⟩ | ⟨rfl, h2⟩)
    · gi_wp2_with (refine ⟨trivial, (fun h => by cases h), ?_⟩; guard_target =~ CallsIn _ _ _ gS _ _ _; refine (callsIn_wide.2 (S1.out _ h2)).mono ?_; clear S1 h2; rintro e w3 ⟨rfl, h2⟩)
      refine ⟨trivial, (fun h => by cases h), ?_⟩
      refine (K2.out _ h2).mono ?_
      clear K2 h2
      rintro e w4 (⟨rfl, h4⟩ | ⟨rfl, h4⟩)
      · gi_wp2
        go_ret
        exact .inl ⟨rfl, h4⟩
      · gi_wp2
        go_ret
        exact .inr ⟨rfl, h4⟩
    · dsimp only
      go_at_K
      repeat (first | (refine wpListIn_skip ?hw ?ha ?h; case hw => rfl; case ha => rfl) | gi_step | (refine ⟨fun _ _ => trivial, ?_⟩; go_at_K) | (refine ⟨fun _ _ => trivial, ?_⟩) | (refine ⟨trivial, ?_⟩; go_at_K) | (refine ⟨trivial, ?_⟩))
      gi_wp2
      go_ret
      exact .inr ⟨rfl, h2⟩
set_option maxRecDepth 100000 in
set_option maxHeartbeats 1000000 in
/-- what Leaves promises a range over it -/
theorem leaf_seq (n c B : Nat) (M : Nat → Obj → Prop) (t : Tr) (x : Value) (w : World) (hc : w.heap[c]? = some (.cells #[x] 89 (0, 0))) (hA : At w t x) (hs : t.text.size ≤ B40) (hML : ∀ k vs fz, ¬ M k (.cells vs 188 fz)) (hMK : ∀ k vs fz, ¬ M k (.cells vs 152 fz)) :
    SeqC Fence.wide n Tryz.prog 49 #[.pointer (some ⟨c, 0, none⟩)] encL (KpT M) (fun ys => ys = lvo t 0) (fun pre => pre <+: lvo t 0) (fun pre x => pre ++ [x] <+: lvo t 0) 0 B w := by
  intro l J Jx W hWB hW hJ _ hY h0
  unfold B40 at hs
  have hcW : W.heap[c]? = some (.cells #[x] 89 (0, 0)) := (hW.block _ (Array.getElem?_eq_some_iff.1 hc).1).trans hc
  have hcell : W.cell? ⟨c, 0, none⟩ = some x := by unfold World.cell?; rw [hcW]; rfl
  have hYl : Yl l B M J Jx (lvo t 0) := fun pre x W1 m h1 h2 h3 => (yield_deep (hY pre x W1 h1 h2 h3)).mono fun _ _ h => h.2
  have K1 : Hid (CallsIn Fence.wide (n - 1) Tryz.prog 50 #[x, .int .i64 0, .func (.yield l) #[] #[]] W (WkP M J Jx (lvo t 0) ([] ++ lvo t 0) W)) := rwalk_in (at' := 0) (n - 1) l B M J Jx (lvo t 0) hJ hYl hML hMK (hA.below hW) (by omega) h0 (List.prefix_refl _) (by omega)
  rw [List.nil_append] at K1
  clear hY hYl h0 hcW hc hA hML hMK hJ hW hWB hs
  refine callsIn_of_wp Tryz.func49 rfl trivial ?_ rfl
  simp only [Tryz.ntmps49, List.size_toArray, List.length_cons, List.length_nil, Nat.reduceAdd, Nat.reduceSub, Array.replicate_succ, Array.replicate_zero, List.push_toArray, List.append_toArray, List.nil_append, List.cons_append]
  gi_wp2
  refine ⟨trivial, (fun h => by cases h), ?_⟩
  refine K1.out.mono ?_
  rintro e w2 (⟨rfl, h2⟩ | ⟨rfl, h2⟩)
  · gi_wp2
    go_end0
    exact ⟨⟨_, rfl⟩, .inl ⟨_, rfl, h2.1⟩⟩
  · gi_wp2
    go_end0
    exact ⟨⟨_, rfl⟩, .inr h2⟩
end Go.Proofs.YtcjmfoadimpffaaGreatDoor
