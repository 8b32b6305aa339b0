/-
  Trees of package seek as they lie in memory, and the laws' joined and build. Conditions: those of each theorem.
-/
import Derived.Test.YtiehhafbblbbiabDoorSConB
import Derived.Test.YtiehhafbblbbiabDoorUTexts
import Derived.Test.YtiehhafbblbbiabDoorUInts
import Derived.Deep.DeepCutAuto
import Derived.Deep.RegionHeld3
namespace Go.Proofs.YtiehhafbblbbiabDoor
open Go.RowKit Go.Shelf Bod Wid

theorem brow_block {W : World} {base e size n : Nat} {v : Value} {xs : List Value} (h : W.ownsRow base e size v n xs) {g : Nat} (hg : v.ownBlock = some g) : ∃ vs, W.heap[g]? = some (.cells vs e (0, 0)) := by
  rcases h.2 with ⟨h0, _⟩ | ⟨g', cap, cur, hv, _, hb, _⟩
  · rw [h0] at hg; cases hg
  · rw [hv] at hg; cases hg; exact ⟨cur, hb⟩
theorem brow_below {base e size n : Nat} {v : Value} {xs : List Value} {W W' : World} (h : W.ownsRow base e size v n xs) (hb : Below W.heap.size W W') : W'.ownsRow base e size v n xs :=
  h.kept (row := none) ⟨hb.os, hb.tape, hb.output, hb.size, fun k hk _ => hb.block k hk⟩ (by cases hv : v.ownBlock with
    | none => exact .inl rfl
    | some _ => exact .inr (by simp))
theorem brow_slice {W : World} {base : Nat} {e : TypeId} {size : Nat} {v : Value} {n : Nat} {xs : List Value} (h : W.ownsRow base e size v n xs) : ∃ ao ln cp, v = .slice ao ln cp := by
  rcases h.2 with ⟨h0, _⟩ | ⟨g, cap, cur, hv, _⟩
  · exact ⟨_, _, _, h0⟩
  · exact ⟨_, _, _, hv⟩
/-- the tree t of package seek's own leaves and knots lies at v -/
def St (W : World) : Tr → Value → Prop
  | .leaf s, v => ∃ b, v = .iface 64 (.pointer (some ⟨b, 0, none⟩)) ∧ W.heap[b]? = some (.cells (lcs s (smr s)) 68 (0, 0))
  | .knot l r, v => ∃ b x y, v = .iface 69 (.pointer (some ⟨b, 0, none⟩)) ∧ W.heap[b]? = some (.cells (zcs x y (smr (Tr.knot l r).text)) 72 (0, 0)) ∧ St W l x ∧ St W r y
theorem St.nt : ∀ {t : Tr} {v : Value} {W : World}, St W t v → Nt W t v
  | .leaf _, _, _, ⟨_, e, h⟩ => e ▸ nt_leaf h
  | .knot _ _, _, _, ⟨_, _, _, e, h, h1, h2⟩ => e ▸ nt_knot h h1.nt h2.nt
theorem St.below : ∀ {t : Tr} {v : Value} {W X : World}, St W t v → Below W.heap.size W X → St X t v
  | .leaf _, _, _, _, ⟨b, e, h⟩, hb => ⟨b, e, (hb.block _ (Array.getElem?_eq_some_iff.1 h).1).trans h⟩
  | .knot _ _, _, _, _, ⟨b, x, y, e, h, h1, h2⟩, hb => ⟨b, x, y, e, (hb.block _ (Array.getElem?_eq_some_iff.1 h).1).trans h, h1.below hb, h2.below hb⟩
theorem St.one : ∀ {t : Tr} {v : Value} {W : World}, St W t v → v.oneCell' = true
  | .leaf _, _, _, ⟨_, e, _⟩ => by rw [e]; rfl
  | .knot _ _, _, _, ⟨_, _, _, e, _⟩ => by rw [e]; rfl
theorem St.grown {W W' : World} {row : Option Nat} (hr : ∀ b, row = some b → ∃ vs, W.heap[b]? = some (.cells vs 27 (0, 0))) (hg : W.grownBy W' row) : ∀ {t : Tr} {x : Value}, St W t x → St W' t x
  | .leaf _, _, ⟨b, h1, h2⟩ => ⟨b, h1, (hg.block b (Array.getElem?_eq_some_iff.1 h2).1 fun e => by
      obtain ⟨vs, hv⟩ := hr b e.symm
      rw [hv] at h2; cases h2).trans h2⟩
  | .knot _ _, _, ⟨b, x, y, h1, h2, h3, h4⟩ => ⟨b, x, y, h1, (hg.block b (Array.getElem?_eq_some_iff.1 h2).1 fun e => by
      obtain ⟨vs, hv⟩ := hr b e.symm
      rw [hv] at h2; cases h2).trans h2, St.grown hr hg h3, St.grown hr hg h4⟩
set_option maxRecDepth 100000 in
set_option maxHeartbeats 1000000 in
theorem plain_st (s : ByteArray) (hs : s.size ≤ 1099511627776) (w : World) (hE : Ev w) :
    Calls Tryd.prog 17 #[.string s] w fun e W' => ∃ b, e = .returned (.iface 64 (.pointer (some ⟨b, 0, none⟩))) ∧ St W' (.leaf s) (.iface 64 (.pointer (some ⟨b, 0, none⟩))) ∧ Below w.heap.size w W' := by
  have C1 : Hid (Calls Tryd.prog 30 #[.string s] w fun e W' => e = .returned (.string s) ∧ Hid (Below w.heap.size w W')) := sclone_any s (by omega) w
  have C2 : Hid (∀ W, Hid (Below w.heap.size w W) → Calls Tryd.prog 31 #[.string s] W fun e W' => e = .returned (sv (smr s)) ∧ Hid (Below w.heap.size w W')) := fun W hW =>
    (measure_any s (by omega) W (hE.below hW).t (hE.below hW).l0 (hE.below hW).l1).mono fun e W' ⟨h1, h2⟩ => ⟨h1, Below.on hW h2⟩
  obtain ⟨m, hm⟩ : ∃ m, smr s = m := ⟨_, rfl⟩
  rw [hm] at C2
  clear hE
  go_enter Tryd.func17, Tryd.ntmps17
  go_wp2_with (first | (go_at_call 30; refine C1.out.mono ?_; clear C1; rintro e w1 ⟨rfl, H⟩) | (go_at_call 31; refine (C2.out _ H).mono ?_; clear C2 H; rintro e w2 ⟨rfl, H⟩))
  go_ret
  refine ⟨_, rfl, ⟨_, rfl, ?_⟩, H.out.alloc H.out.size _⟩
  rw [hm]
  exact World.alloc_heap_new w2 _
set_option maxRecDepth 100000 in
set_option maxHeartbeats 1000000 in
theorem ssome_st (T : TypeId) (a : Addr) (w : World) :
    Calls Tryd.prog 19 #[.iface T (.pointer (some a))] w fun e W' => e = .returned (.iface T (.pointer (some a))) ∧ w = W' := by
  have he := fun W => eq_nil T (.pointer (some a)) W
  go_enter Tryd.func19, Tryd.ntmps19
  go_wp2
  go_ret
  exact ⟨rfl, rfl⟩
set_option maxRecDepth 100000 in
set_option maxHeartbeats 1000000 in
theorem pair_st {w : World} {l r : Tr} {x y : Value} (hl : St w l x) (hr : St w r y) (hs : l.text.size + r.text.size ≤ 1099511627776) (hE : Ev w) :
    Calls Tryd.prog 18 #[x, y] w fun e W' => ∃ b, e = .returned (.iface 69 (.pointer (some ⟨b, 0, none⟩))) ∧ St W' (.knot l r) (.iface 69 (.pointer (some ⟨b, 0, none⟩))) ∧ Below w.heap.size w W' := by
  obtain ⟨T, c, fS, _, _, _, rfl, ml', -⟩ := hl.nt.nd
  obtain ⟨U, d, gS, _, _, _, rfl, mr', -⟩ := hr.nt.nd
  obtain ⟨m1, m2⟩ := ml'.ms
  obtain ⟨m3, m4⟩ := mr'.ms
  have C1 : Hid (∀ W, Calls Tryd.prog 19 #[.iface T (.pointer (some c))] W fun e W' => e = .returned (.iface T (.pointer (some c))) ∧ W = W') := fun W => ssome_st T c W
  have C2 : Hid (∀ W, Calls Tryd.prog 19 #[.iface U (.pointer (some d))] W fun e W' => e = .returned (.iface U (.pointer (some d))) ∧ W = W') := fun W => ssome_st U d W
  have S1 : Hid (Calls Tryd.prog fS #[.pointer (some c)] w fun e X => e = .returned (sv (smr l.text)) ∧ Hid (Below w.heap.size w X)) := ml'.cs w (Below.refl _ w)
  have S2 : Hid (∀ W, Hid (Below w.heap.size w W) → Calls Tryd.prog gS #[.pointer (some d)] W fun e X => e = .returned (sv (smr r.text)) ∧ Hid (Below w.heap.size w X)) := fun W hW => (mr'.cs W hW).mono fun e X ⟨h1, h2⟩ => ⟨h1, Below.on hW h2⟩
  obtain ⟨ml, hml⟩ : ∃ m, smr l.text = m := ⟨_, rfl⟩
  obtain ⟨mr, hmr⟩ : ∃ m, smr r.text = m := ⟨_, rfl⟩
  rw [hml] at S1
  rw [hmr] at S2
  have C3 : Hid (∀ W, Hid (Below w.heap.size w W) → Calls Tryd.prog 32 #[.slice (some ⟨W.heap.size, 0, none⟩) 2 2] (W.alloc (.cells (scs2 ml mr) 42)) fun e W' => e = .returned (sv (smr (Tr.knot l r).text)) ∧ Hid (Below w.heap.size w W')) := fun W hW => by
    have hb := (Below.refl _ W).alloc (Nat.le_refl _) (.cells (scs2 ml mr) 42)
    have hW2 := Below.on hW hb
    rw [← hml, ← hmr] at hb hW2 ⊢
    have := mjoin_any [l.text, r.text] _ _ (two_sums W l.text r.text) (by rw [cat_two, size_app]; omega) (by simp) (hE.below hW2).t (hE.below hW2).l0 (hE.below hW2).l1
    rw [cat_two] at this
    exact this.mono fun e W' ⟨k1, k2⟩ => ⟨k1, Below.on hW2 k2⟩
  obtain ⟨mk, hmk⟩ : ∃ m, smr (Tr.knot l r).text = m := ⟨_, rfl⟩
  rw [hmk] at C3
  have HL : Hid (St w l _ ∧ St w r _) := ⟨hl, hr⟩
  clear hl hr hE hml hmr ml' mr'
  go_enter Tryd.func18, Tryd.ntmps18
  go_wp2_with (first | (go_at_call 19; refine (C1.out _).mono ?_; clear C1; rintro e w1 ⟨rfl, rfl⟩) | (go_at_call 19; refine (C2.out _).mono ?_; clear C2; rintro e w2 ⟨rfl, rfl⟩) | (go_at_fn fS; refine S1.out.mono ?_; clear S1; rintro e w3 ⟨rfl, H⟩) | (go_at_fn gS; refine (S2.out _ H).mono ?_; clear S2 H; rintro e w4 ⟨rfl, H⟩) | (go_at_call 32; refine (C3.out _ H).mono ?_; clear C3 H; rintro e w5 ⟨rfl, H⟩))
  go_ret
  have hb6 := (Below.refl _ w5).alloc (Nat.le_refl _) (.cells (zcs (.iface T (.pointer (some c))) (.iface U (.pointer (some d))) mk) 72)
  have hb7 := Below.on H.out hb6
  refine ⟨_, rfl, ⟨_, _, _, rfl, ?_, HL.out.1.below hb7, HL.out.2.below hb7⟩, hb7⟩
  rw [hmk]
  exact World.alloc_heap_new w5 _
/-- the trees ts, one behind the other, in a row v of its own from the block B on -/
structure BL (w : World) (B : Nat) (ts : List Tr) (v : Value) (W : World) (xs : List Value) : Prop where
  len : xs.length = ts.length
  st : ∀ (j : Nat) t, ts[j]? = some t → ∃ x, xs[j]? = some x ∧ St W t x
  row : W.ownsRow B 27 1 v ts.length xs
  bel : Below w.heap.size w W
theorem BL.below {w : World} {B : Nat} {ts : List Tr} {v : Value} {W X : World} {xs : List Value} (h : BL w B ts v W xs) (hb : Below W.heap.size W X) : BL w B ts v X xs :=
  ⟨h.len, fun j t hj => by obtain ⟨x, h1, h2⟩ := h.st j t hj; exact ⟨x, h1, h2.below hb⟩, brow_below h.row hb, Below.on h.bel hb⟩
theorem BL.ones {w : World} {B : Nat} {ts : List Tr} {v : Value} {W : World} {xs : List Value} (h : BL w B ts v W xs) : ∀ u ∈ xs, u.oneCell' = true := fun u hu => by
  obtain ⟨j, hj⟩ := List.mem_iff_getElem?.1 hu
  have hl := (List.getElem?_eq_some_iff.1 hj).1
  obtain ⟨x, h1, h2⟩ := h.st j (ts[j]'(by rw [← h.len]; exact hl)) (List.getElem?_eq_getElem _)
  rw [hj] at h1
  cases h1
  exact h2.one
/-- some more trees behind a row -/
theorem BL.more {w : World} {B : Nat} {ts us : List Tr} {v v' : Value} {W W' : World} {xs ys : List Value} (h : BL w B ts v W xs) (hB : w.heap.size ≤ B) (hl : ys.length = us.length) (hy : ∀ (j : Nat) t, us[j]? = some t → ∃ x, ys[j]? = some x ∧ St W t x) (hr : W'.ownsRow B 27 1 v' (ts.length + us.length) (xs ++ ys)) (hg : W.grownBy W' v.ownBlock) : BL w B (ts ++ us) v' W' (xs ++ ys) := by
  have hrow : ∀ b, v.ownBlock = some b → ∃ vs, W.heap[b]? = some (.cells vs 27 (0, 0)) := fun b hb => brow_block h.row hb
  refine ⟨by simp [h.len, hl], fun j t hj => ?_, by simpa using hr, h.bel.grown hg h.bel.size (fun k hk => Nat.le_trans hB (h.row.lt k hk).1)⟩
  by_cases c : j < ts.length
  · rw [List.getElem?_append_left c] at hj
    obtain ⟨x, h1, h2⟩ := h.st j t hj
    exact ⟨x, by rw [List.getElem?_append_left (by rw [h.len]; exact c)]; exact h1, h2.grown hrow hg⟩
  · rw [List.getElem?_append_right (by omega)] at hj
    obtain ⟨x, h1, h2⟩ := hy _ t hj
    exact ⟨x, by rw [List.getElem?_append_right (by rw [h.len]; omega), h.len]; exact h1, h2.grown hrow hg⟩
/-- a row beside another that grows -/
theorem BL.side {w : World} {B C : Nat} {ts us : List Tr} {v u : Value} {W W' : World} {xs ys : List Value} (h : BL w B ts v W xs) (k : BL w C us u W ys) (hC : w.heap.size ≤ C) (hv : ∀ g, v.ownBlock = some g → g < C) (hg : W.grownBy W' u.ownBlock) : BL w B ts v W' xs := by
  refine ⟨h.len, fun j t hj => ?_, h.row.kept hg ?_, h.bel.grown hg h.bel.size (fun j hj => Nat.le_trans hC (k.row.lt j hj).1)⟩
  · obtain ⟨x, h1, h2⟩ := h.st j t hj
    exact ⟨x, h1, h2.grown (fun b hb => brow_block k.row hb) hg⟩
  · cases e : v.ownBlock with
    | none => exact .inl rfl
    | some g =>
      refine .inr fun e2 => ?_
      have := (k.row.lt g e2.symm).1
      have := hv g e
      omega
end Go.Proofs.YtiehhafbblbbiabDoor
namespace Go.Proofs.YtiehhafbblbbiabDoor
open Go.RowKit Go.Shelf Bod Wid

theorem pret_str {a b : ByteArray} (h : a = b) : Ending.returned (.string a) = .returned (.string b) := by rw [h]
theorem pc_bd : ∀ ss : List ByteArray, (∀ s ∈ ss, s.size ≤ 1048576) → (jo ss).size ≤ ss.length * 1048576
  | [], _ => Nat.zero_le _
  | s :: r, h => by
    show (s ++ jo r).size ≤ (r.length + 1) * 1048576
    rw [size_app]
    have := pc_bd r (fun x hx => h x (List.mem_cons_of_mem _ hx))
    have := h s List.mem_cons_self
    omega
theorem pc_snoc {ss : List ByteArray} {k : Nat} {s : ByteArray} (h : ss[k]? = some s) : jo (ss.take (k + 1)) = jo (ss.take k) ++ s := by
  rw [List.take_add_one, h, jo_app]
  congr 1
  exact jo_one s
theorem pc_at {w : World} {a0 : Option Addr} {len : Nat} {ss : List ByteArray} (hS : Texts w a0 len ss) : ∀ k s, ss[k]? = some s → ∃ g o, a0 = some ⟨g, o, none⟩ ∧ g < w.heap.size ∧ w.cell? ⟨g, o + k, none⟩ = some (.string s) := fun k s hk => by
  obtain ⟨hlen, hcell⟩ := hS
  have hk' := (List.getElem?_eq_some_iff.1 hk).1
  obtain ⟨b, o, h1, h2, h3⟩ := hcell (by omega)
  refine ⟨b, o, h1, h2, ?_⟩
  have := h3 k (by omega)
  rw [List.getD_eq_getElem?_getD, hk] at this
  simpa using this
set_option maxRecDepth 100000 in
set_option maxHeartbeats 1000000 in
theorem pjoined_any (a0 : Option Addr) (len cap : Nat) (ss : List ByteArray) (w W : World) (hb : Below w.heap.size w W) (hS : Texts w a0 len ss) (hl : len ≤ 1048576) (hz : ∀ s ∈ ss, s.size ≤ 1048576) :
    Calls Tryd.prog 5 #[.slice a0 len cap] W fun e W' => e = .returned (.string (jo ss)) ∧ W = W' := by
  have HC : Hid (∀ k s, ss[k]? = some s → ∃ g o, a0 = some ⟨g, o, none⟩ ∧ g < w.heap.size ∧ w.cell? ⟨g, o + k, none⟩ = some (.string s)) := pc_at hS
  have hlen := hS.1
  have hjo : (jo ss).size ≤ 1099511627776 := by have := pc_bd ss hz; rw [hlen] at this; omega
  have HLN : Hid (ss.length = len) := hlen
  have HZ : Hid (∀ s ∈ ss, s.size ≤ 1048576) := hz
  have HJ : Hid (∀ k, (jo (ss.take k)).size ≤ 1099511627776) := fun k => by
    have := congrArg ByteArray.size (jo_app (ss.take k) (ss.drop k))
    rw [List.take_append_drop, size_app] at this
    omega
  have HB : Hid (Below w.heap.size w W) := hb
  clear hlen hjo hz hS hb
  go_enter Tryd.func5, Tryd.ntmps5
  go_wp2
  go_loopw [3, 4] (fun t3 t4 wr => ∃ k : Nat, t4 = .int .i64 k ∧ k ≤ len ∧ t3 = .string (jo (ss.take k)) ∧ W = wr) (fun _ t4 _ => len - (intOf t4).toNat)
  case atStart => exact ⟨0, rfl, Nat.zero_le _, rfl, rfl⟩
  case round =>
    obtain ⟨k, rfl, hk, rfl, rfl⟩ := hrel
    by_cases c : k < len
    · obtain ⟨s, hs⟩ : ∃ s, ss[k]? = some s := ⟨ss[k]'(by rw [HLN.out]; exact c), List.getElem?_eq_getElem _⟩
      obtain ⟨g, o, rfl, hg, hc0⟩ := HC.out k s hs
      have d0 : W.cell? ⟨g, o + k, none⟩ = some (.string s) := (HB.out.cell (p := ⟨g, _, none⟩) hg).trans hc0
      have zs := HZ.out s (List.mem_of_getElem? hs)
      have zj := HJ.out k
      have HSN : Hid (jo (ss.take (k + 1)) = jo (ss.take k) ++ s) := pc_snoc hs
      generalize jo (ss.take k) = J at *
      clear hs hc0
      go_wp2
      exact ⟨⟨k + 1, by go_num, by omega, by rw [HSN.out], trivial⟩, by simp [intOf]; omega⟩
    · have E : Hid (jo (ss.take k) = jo ss) := by show _ = _; rw [List.take_of_length_le (by rw [HLN.out]; omega)]
      go_wp2
      go_ret
      exact ⟨pret_str E.out, rfl⟩
end Go.Proofs.YtiehhafbblbbiabDoor
namespace Go.Proofs.YtiehhafbblbbiabDoor
open Go.RowKit Go.Shelf Bod Wid

theorem wh_at {w : World} {a : Option Addr} {len : Nat} {rs : List Int} (y : Wholes w a len rs) : ∀ k, k < len → ∃ g o c, a = some ⟨g, o, none⟩ ∧ g < w.heap.size ∧ w.cell? ⟨g, o + k, none⟩ = some (.int .i64 c) ∧ -9223372036854775808 ≤ c ∧ c ≤ 9223372036854775807 := fun k hk => by
  obtain ⟨h1, h2, h3⟩ := y
  obtain ⟨g, o, e1, e2, e3⟩ := h3 (by omega)
  refine ⟨g, o, rs[k]'(by omega), e1, e2, ?_, h2 _ (List.getElem_mem _)⟩
  rw [e3 k (by omega), List.getElem?_eq_getElem (by omega)]
  rfl
theorem binfoTR : (Tryd.prog.info? 27).map (fun i => (i.zero, i.size, i.bytes)) = some (some .nilIface, 1, 16) := by kernel_rfl
theorem bone_new (w : World) (a : Value) (t : TypeId) : ∀ j u, [a][j]? = some u → (w.alloc (.cells #[a] t)).cell? ((⟨w.heap.size, 0, none⟩ : Addr).add j) = some u := by
  intro j u hj
  match j, hj with
  | 0, hj => simp at hj; subst hj; simp [Addr.add]
  | j + 1, hj => simp at hj
theorem bstep_append_own {P : Program} {ops : Array Oper} {o : Oper} {a : Act} {w : World} {K : Act → World → Prop} {Q : Exit → Act → World → Prop} {E : Prop}
    (hg : o.guard = none) (s x : Operand) (t : TypeId) (ho : o.op = .call { callee := .builtin .append, args := #[s, x], argTypes := #[t, t] })
    (base : Nat) (e : TypeId) (i : TypeInfo) (z : Value) (size bytes : Nat) (ht : P.underlying t = some (.slice e)) (hi : P.info? e = some i) (hz : i.zero = some z)
    (hsize : i.size = size) (hby : i.bytes = bytes) (hzs : z.cells.size = size) (hsz : 0 < size)
    (v : Value) (n : Nat) (xs : List Value) (hs : a.eval s = v) (hown : w.ownsRow base e size v n xs)
    (ad : Addr) (m c : Nat) (news : List Value) (hx : a.eval x = .slice (some ad) m c) (hl : news.length = m * size) (hnews : ∀ j u, news[j]? = some u → w.cell? (ad.add j) = some u) (h1 : ∀ u ∈ news, u.oneCell' = true)
    (h63 : n + m ≤ maxLen) (hbytes : (n + m) * bytes ≤ 140737488355328) (hbase : base ≤ w.heap.size)
    (hK : ∀ v' w', w'.ownsRow base e size v' (n + m) (xs ++ news) → w.grownBy w' v.ownBlock → K (a.put o.dst v') w') :
    if Region.wanted o (yielded ops a.tmps) = true then Oper.wp P o a w K Q else E := by
  have hw : Region.wanted o (yielded ops a.tmps) = true := by simp [Region.wanted, hg]
  rw [if_pos hw]
  exact wp_append_own w s x t ho base e i z size bytes ht hi hz hsize hby hzs hsz v n xs hs hown ad m c news hx hl hnews h1 h63 hbytes hbase fun v' w' h2 h3 _ => hK v' w' h2 h3
/-- two rows of trees, the second one new -/
structure BM (W : World) (C : Nat) (ts us : List Tr) (l u : Value) (X : World) (xs ys : List Value) : Prop where
  fl : BL W W.heap.size ts l X xs
  fm : BL W C us u X ys
  fc : W.heap.size ≤ C
  lt : ∀ g, l.ownBlock = some g → g < C
  sz : C ≤ X.heap.size
theorem BM.below {W : World} {C : Nat} {ts us : List Tr} {l u : Value} {X Y : World} {xs ys : List Value} (h : BM W C ts us l u X xs ys) (hb : Below X.heap.size X Y) : BM W C ts us l u Y xs ys := ⟨h.fl.below hb, h.fm.below hb, h.fc, h.lt, Nat.le_trans h.sz hb.size⟩
theorem BM.more {W : World} {C : Nat} {ts us ns : List Tr} {l u u' : Value} {X X' : World} {xs ys zs : List Value} (h : BM W C ts us l u X xs ys) (hl : zs.length = ns.length) (hy : ∀ (j : Nat) t, ns[j]? = some t → ∃ x, zs[j]? = some x ∧ St X t x) (hr : X'.ownsRow C 27 1 u' (us.length + ns.length) (ys ++ zs)) (hg : X.grownBy X' u.ownBlock) : BM W C ts (us ++ ns) l u' X' xs (ys ++ zs) :=
  ⟨h.fl.side h.fm h.fc h.lt hg, h.fm.more h.fc hl hy hr hg, h.fc, h.lt, Nat.le_trans h.sz hg.size⟩
theorem BL.form {w : World} {B n : Nat} {ts : List Tr} {v : Value} {W : World} {xs : List Value} (h : BL w B ts v W xs) (hn : ts.length = n) (h0 : 0 < n) : ∃ g cp, v = .slice (some ⟨g, 0, none⟩) n cp := by
  rcases h.row.2 with ⟨_, h1⟩ | ⟨g, cp, cur, h1, _⟩
  · omega
  · exact ⟨g, cp, by rw [h1, hn]⟩
theorem BL.base {w : World} {B C : Nat} {ts : List Tr} {v : Value} {W : World} {xs : List Value} (h : BL w B ts v W xs) (hC : C ≤ B) : BL w C ts v W xs := ⟨h.len, h.st, ⟨h.row.1, h.row.2.imp id (fun ⟨g, cap, cur, h1, h2, h3⟩ => ⟨g, cap, cur, h1, Nat.le_trans hC h2, h3⟩)⟩, h.bel⟩
theorem badd (g i j : Nat) : (⟨g, i, none⟩ : Addr).add j = ⟨g, i + j, none⟩ := by
  unfold Addr.add
  split
  · rename_i h; rw [h]; rfl
  · rfl
/-- what lies in the first row, from one place on -/
theorem BL.news {w : World} {B : Nat} {ts : List Tr} {n cp g : Nat} {W : World} {xs : List Value} (h : BL w B ts (.slice (some ⟨g, 0, none⟩) n cp) W xs) (i : Nat) : ∀ j u, (xs.drop i)[j]? = some u → W.cell? ((⟨g, i, none⟩ : Addr).add j) = some u := fun j u hj => by
  rw [List.getElem?_drop] at hj
  have := h.row.cells (g := g) rfl (i + j) u hj
  rw [badd, Nat.zero_add] at this
  rw [badd]
  exact this
theorem BL.newsT {w : World} {B : Nat} {ts : List Tr} {n cp g : Nat} {W : World} {xs : List Value} (h : BL w B ts (.slice (some ⟨g, 0, none⟩) n cp) W xs) (i : Nat) : ∀ j u, (xs.take i)[j]? = some u → W.cell? ((⟨g, 0, none⟩ : Addr).add j) = some u := fun j u hj => by
  rw [List.getElem?_take] at hj
  split at hj
  · exact h.row.cells (g := g) rfl j u hj
  · cases hj
theorem BL.at {w : World} {B : Nat} {ts : List Tr} {n cp g : Nat} {W : World} {xs : List Value} (h : BL w B ts (.slice (some ⟨g, 0, none⟩) n cp) W xs) {m : Nat} (hm : m < ts.length) : ∃ A x, ts[m]? = some A ∧ xs[m]? = some x ∧ St W A x ∧ W.cell? ⟨g, m, none⟩ = some x := by
  obtain ⟨x, h1, h2⟩ := h.st m (ts[m]'hm) (List.getElem?_eq_getElem _)
  refine ⟨_, x, List.getElem?_eq_getElem _, h1, h2, ?_⟩
  have := h.row.cells (g := g) rfl m x h1
  rw [badd, Nat.zero_add] at this
  exact this
theorem BL.stT {w : World} {B : Nat} {ts : List Tr} {v : Value} {W : World} {xs : List Value} (h : BL w B ts v W xs) (i : Nat) : ∀ (j : Nat) t, (ts.take i)[j]? = some t → ∃ x, (xs.take i)[j]? = some x ∧ St W t x := fun j t hj => by
  rw [List.getElem?_take] at hj
  split at hj
  · rename_i c
    rw [List.getElem?_take, if_pos c]
    exact h.st j t hj
  · cases hj
theorem BL.stD {w : World} {B : Nat} {ts : List Tr} {v : Value} {W : World} {xs : List Value} (h : BL w B ts v W xs) (i : Nat) : ∀ (j : Nat) t, (ts.drop i)[j]? = some t → ∃ x, (xs.drop i)[j]? = some x ∧ St W t x := fun j t hj => by
  rw [List.getElem?_drop] at hj ⊢
  exact h.st _ t hj
theorem two_drop {ts : List Tr} {m : Nat} {A B : Tr} (hA : ts[m]? = some A) (hB : ts[m + 1]? = some B) : ts = ts.take m ++ (A :: B :: ts.drop (m + 2)) := by
  have h1 := (List.getElem?_eq_some_iff.1 hA)
  have h2 := (List.getElem?_eq_some_iff.1 hB)
  obtain ⟨l1, e1⟩ := h1
  obtain ⟨l2, e2⟩ := h2
  rw [← e1, ← e2, ← List.drop_eq_getElem_cons, ← List.drop_eq_getElem_cons, List.take_append_drop]
theorem joT_fold {ts : List Tr} {m : Nat} {A B : Tr} (hA : ts[m]? = some A) (hB : ts[m + 1]? = some B) : joT (ts.take m ++ [Tr.knot A B] ++ ts.drop (m + 2)) = joT ts := by
  conv => rhs; rw [two_drop hA hB]
  rw [joT_app, joT_app, joT_app]
  show joT (ts.take m) ++ ((A.text ++ B.text) ++ noB) ++ _ = joT (ts.take m) ++ (A.text ++ (B.text ++ joT (ts.drop (m + 2))))
  rw [app_noB, app_assoc, app_assoc]
theorem two_size {ts : List Tr} {m : Nat} {A B : Tr} (hA : ts[m]? = some A) (hB : ts[m + 1]? = some B) : A.text.size + B.text.size ≤ (joT ts).size := by
  have e : joT ts = joT (ts.take m) ++ (A.text ++ (B.text ++ joT (ts.drop (m + 2)))) := by
    conv => lhs; rw [two_drop hA hB]
    rw [joT_app]
    rfl
  rw [e, size_app, size_app, size_app]
  omega
theorem leaves_jo : ∀ ss : List ByteArray, joT (ss.map Tr.leaf) = jo ss
  | [] => rfl
  | s :: r => by show s ++ joT (r.map Tr.leaf) = s ++ jo r; rw [leaves_jo r]
set_option maxRecDepth 100000 in
set_option maxHeartbeats 2000000 in
theorem build_any (a0 : Option Addr) (len cap : Nat) (ss : List ByteArray) (a1 : Option Addr) (l1 c1 : Nat) (ps : List Int) (w0 w : World) (hb0 : Below w0.heap.size w0 w) (hS : Texts w0 a0 len ss) (hl : len ≤ 1048576) (hz : ∀ s ∈ ss, s.size ≤ 1048576) (y : Wholes w0 a1 l1 ps) (hl1 : l1 ≤ 1048576) (hE : Ev w) :
    Calls Tryd.prog 6 #[.slice a0 len cap, .slice a1 l1 c1] w fun e W' => ∃ T p t, e = .returned (.iface T p) ∧ Nt W' t (.iface T p) ∧ t.text = jo ss ∧ Below w.heap.size w W' := by
  obtain ⟨i0, hi, hz0, hz1, hz2⟩ := info_parts binfoTR
  have hjo : (jo ss).size ≤ 1099511627776 := by have := pc_bd ss hz; rw [hS.1] at this; omega
  have HC : Hid (∀ k s, ss[k]? = some s → ∃ g o, a0 = some ⟨g, o, none⟩ ∧ g < w.heap.size ∧ w.cell? ⟨g, o + k, none⟩ = some (.string s)) := fun k s hk => by
    obtain ⟨g, o, h1, h2, h3⟩ := pc_at hS k s hk
    exact ⟨g, o, h1, Nat.lt_of_lt_of_le h2 hb0.size, (hb0.cell (p := ⟨g, _, none⟩) h2).trans h3⟩
  have HY : Hid (∀ k, k < l1 → ∃ g o c, a1 = some ⟨g, o, none⟩ ∧ g < w.heap.size ∧ w.cell? ⟨g, o + k, none⟩ = some (.int .i64 c) ∧ -9223372036854775808 ≤ c ∧ c ≤ 9223372036854775807) := fun k hk => by
    obtain ⟨g, o, c, h1, h2, h3, h4⟩ := wh_at y k hk
    exact ⟨g, o, c, h1, Nat.lt_of_lt_of_le h2 hb0.size, (hb0.cell (p := ⟨g, _, none⟩) h2).trans h3, h4⟩
  have C1 : Hid (∀ (s : ByteArray) (ts : List Tr) (v : Value) (W : World) xs, s.size ≤ 1048576 → Hid (BL w w.heap.size ts v W xs) → Calls Tryd.prog 17 #[.string s] W fun e W' => ∃ b, e = .returned (.iface 64 (.pointer (some ⟨b, 0, none⟩))) ∧ Hid (St W' (.leaf s) (.iface 64 (.pointer (some ⟨b, 0, none⟩))) ∧ BL w w.heap.size ts v W' xs)) := fun s ts v W xs hs hn => (plain_st s (by omega) W (hE.below hn.out.bel)).mono fun e W' ⟨b, h1, h2, h3⟩ => ⟨b, h1, h2, hn.out.below h3⟩
  have C2 : Hid (∀ W, Hid (Below w.heap.size w W) → Calls Tryd.prog 17 #[.string ⟨#[]⟩] W fun e W' => ∃ b, e = .returned (.iface 64 (.pointer (some ⟨b, 0, none⟩))) ∧ Hid (St W' (.leaf noB) (.iface 64 (.pointer (some ⟨b, 0, none⟩))) ∧ Below w.heap.size w W')) := fun W hW => (plain_st noB (by decide) W (hE.below hW)).mono fun e W' ⟨b, h1, h2, h3⟩ => ⟨b, h1, h2, Below.on hW h3⟩
  have C3 : Hid (∀ (A B : Tr) (x y : Value) (C : Nat) (ts us : List Tr) (l u : Value) (W : World) xs ys, A.text.size + B.text.size ≤ 1099511627776 → Hid (St W A x ∧ St W B y ∧ BM w C ts us l u W xs ys) → Calls Tryd.prog 18 #[x, y] W fun e W' => ∃ b, e = .returned (.iface 69 (.pointer (some ⟨b, 0, none⟩))) ∧ Hid (St W' (.knot A B) (.iface 69 (.pointer (some ⟨b, 0, none⟩))) ∧ BM w C ts us l u W' xs ys)) := fun A B x y C ts us l u W xs ys hs hn => (pair_st hn.out.1 hn.out.2.1 hs (hE.below hn.out.2.2.fl.bel)).mono fun e W' ⟨b, h1, h2, h3⟩ => ⟨b, h1, h2, hn.out.2.2.below h3⟩
  have hlen := hS.1
  have HLN : Hid (ss.length = len) := hlen
  have HZ : Hid (∀ s ∈ ss, s.size ≤ 1048576) := hz
  have HJO : Hid ((jo ss).size ≤ 1099511627776) := hjo
  clear hE hlen hz hjo y hb0 hS
  go_enter Tryd.func6, Tryd.ntmps6
  go_wp2
  go_loopw [5, 6] (fun t5 t6 wr => ∃ k : Nat, t6 = .int .i64 k ∧ k ≤ len ∧ Hid (∃ xs, BL w w.heap.size ((ss.take k).map Tr.leaf) t5 wr xs)) (fun _ t6 _ => len - (intOf t6).toNat)
  case atStart => exact ⟨0, rfl, Nat.zero_le _, [], rfl, fun j t hj => by simp at hj, World.ownsRow_nil _ _ _ _, Below.refl _ w⟩
  case round =>
    obtain ⟨k, rfl, hk, HX⟩ := hrel
    obtain ⟨xs, hn⟩ := HX.out
    clear HX
    have HK : Hid (((ss.take k).map Tr.leaf).length = k) := by show _ = _; rw [List.length_map, List.length_take, HLN.out]; omega
    have HN : Hid (BL w w.heap.size ((ss.take k).map Tr.leaf) _ wr xs) := hn
    clear hn
    have hbs := HN.out.bel.size
    by_cases c : k < len
    · obtain ⟨s, hs⟩ : ∃ s, ss[k]? = some s := ⟨ss[k]'(by rw [HLN.out]; exact c), List.getElem?_eq_getElem _⟩
      obtain ⟨g, o, rfl, hg, hc0⟩ := HC.out k s hs
      have d0 : wr.cell? ⟨g, o + k, none⟩ = some (.string s) := (HN.out.bel.cell (p := ⟨g, _, none⟩) hg).trans hc0
      have zs := HZ.out s (List.mem_of_getElem? hs)
      have HTK : Hid ((ss.take (k + 1)).map Tr.leaf = (ss.take k).map Tr.leaf ++ [Tr.leaf s]) := by show _ = _; rw [List.take_add_one, hs, List.map_append]; rfl
      generalize (ss.take k).map Tr.leaf = ts at *
      clear hs hc0 C2 C3
      go_wp2_with (first | (go_at_call 17; refine (C1.out _ _ _ _ _ zs HN).mono ?_; clear C1 HN; rintro e w2 ⟨b, rfl, H⟩; have HR : Hid ((w2.alloc (.cells #[.iface 64 (.pointer (some ⟨b, 0, none⟩))] 27)).ownsRow w.heap.size 27 1 _ k xs) := (by rw [← HK.out]; exact H.out.2.row.alloc _); have hb3 := H.out.2.bel.size) | (at_builtin; refine wpList_append_own _ rfl _ _ 39 rfl w.heap.size 27 i0 _ 1 16 Tryd.underlying39 hi hz0 hz1 hz2 rfl (by decide) _ k _ rfl HR.out ⟨w2.heap.size, 0, none⟩ 1 1 [.iface 64 (.pointer (some ⟨b, 0, none⟩))] rfl rfl (bone_new _ _ _) (by simp [Value.oneCell']) (by unfold maxLen; omega) (by omega) (by simp; omega) ?_; intro v4 w4 hrow4 hg4 _; have H4 : Hid (BL w w.heap.size (ts ++ [Tr.leaf s]) v4 w4 (xs ++ [.iface 64 (.pointer (some ⟨b, 0, none⟩))])) := (H.out.2.below ((Below.refl _ w2).alloc (Nat.le_refl _) _)).more (Nat.le_refl _) rfl (fun j t hj => (by cases j with | zero => cases hj; exact ⟨_, rfl, H.out.1.below ((Below.refl _ w2).alloc (Nat.le_refl _) _)⟩ | succ j => simp at hj)) (by rw [HK.out]; exact hrow4) hg4; clear hrow4 hg4 HR H))
      exact ⟨⟨k + 1, by go_num, by omega, _, HTK.out ▸ H4.out⟩, by simp [intOf]; omega⟩
    · have hkl : k = len := by omega
      have E : Hid ((ss.take k).map Tr.leaf = ss.map Tr.leaf) := by show _ = _; rw [List.take_of_length_le (by rw [HLN.out]; omega)]
      have HN2 : Hid (BL w w.heap.size (ss.map Tr.leaf) _ wr xs) := E.out ▸ HN.out
      obtain ⟨ao, ln, cv, rfl⟩ := brow_slice HN2.out.row
      clear C1 HN HK E hk
      have hln : ln = len := by
        have hl' := HN2.out.row.2
        rw [List.length_map, HLN.out] at hl'
        rcases hl' with ⟨h1, h2⟩ | ⟨g, cp, cur, h1, _⟩
        · simp at h1; omega
        · simp at h1; omega
      subst hln
      clear hkl
      by_cases c0 : ln = 0
      · have E0 : Hid (noB = jo ss) := by show _ = _; rw [List.length_eq_zero_iff.1 (HLN.out.trans c0)]; rfl
        have HB : Hid (Below w.heap.size w wr) := HN2.out.bel
        subst c0
        clear C3 HN2
        go_wp2_with (go_at_call 17; refine (C2.out _ HB).mono ?_; clear C2 HB; rintro e w2 ⟨b, rfl, H⟩)
        go_ret
        exact ⟨_, _, .leaf noB, rfl, H.out.1.nt, E0.out, H.out.2⟩
      obtain ⟨g0, hao⟩ : ∃ g0, ao = some ⟨g0, 0, none⟩ := by
        have hl' := HN2.out.row.2
        rw [List.length_map, HLN.out] at hl'
        rcases hl' with ⟨h1, h2⟩ | ⟨g, cp, cur, h1, _⟩
        · omega
        · simp at h1; exact ⟨g, h1.1⟩
      subst hao
      have HI : Hid (∀ ts W xs n g cp, ts.length = n → BL w w.heap.size ts (.slice (some ⟨g, 0, none⟩) n cp) W xs → g < W.heap.size ∧ n ≤ cp ∧ cp ≤ 9223372036854775807) := fun ts W xs n g cp hn h => by
        rcases h.row.2 with ⟨h1, h2⟩ | ⟨g', cp', cur, h1, _, h2, h3, h4, _⟩
        · simp at h1
        · simp at h1
          obtain ⟨rfl, rfl, rfl⟩ := h1
          exact ⟨(Array.getElem?_eq_some_iff.1 h2).1, h3, h4⟩
      have hc0 : ((ln : Int) == 0) = false := by simp; omega
      clear C2
      go_wp2
      obtain ⟨wo, hwo⟩ : ∃ wo, wo = wr := ⟨_, rfl⟩
      subst hwo
      go_loopw [5, 7] (fun t5 t7 wq => ∃ (k n g cp : Nat), t7 = .int .i64 k ∧ k + n = ln ∧ 0 < n ∧ t5 = .slice (some ⟨g, 0, none⟩) n cp ∧ Hid (∃ ts xs, ts.length = n ∧ joT ts = jo ss ∧ BL w w.heap.size ts t5 wq xs)) (fun _ t7 _ => ln - (intOf t7).toNat)
      case atStart => exact ⟨0, ln, _, _, rfl, by omega, by omega, rfl, ss.map Tr.leaf, xs, by rw [List.length_map, HLN.out], leaves_jo ss, HN2.out⟩
      case round =>
        clear HN2 c0
        obtain ⟨k, n, g, cp, rfl, hkn, hn0, rfl, HX⟩ := hrel
        obtain ⟨ts, ys, hts, hj, hbl⟩ := HX.out
        clear HX
        obtain ⟨hg, hcp, hcm⟩ := HI.out _ _ _ _ _ _ hts hbl
        have HTS : Hid (ts.length = n) := hts
        have HJ : Hid (joT ts = jo ss) := hj
        have HBL : Hid (BL w w.heap.size ts _ wr ys) := hbl
        clear hj hbl hts
        by_cases c2 : 1 < n
        · have HS2 : Hid (∀ m, m + 1 < n → ∃ A B x y, ts[m]? = some A ∧ ts[m + 1]? = some B ∧ St wr A x ∧ St wr B y ∧ wr.cell? ⟨g, m, none⟩ = some x ∧ wr.cell? ⟨g, m + 1, none⟩ = some y) := fun m hm => by
            obtain ⟨A, x, e1, _, e3, e4⟩ := HBL.out.at (m := m) (by rw [HTS.out]; omega)
            obtain ⟨B, y, f1, _, f3, f4⟩ := HBL.out.at (m := m + 1) (by rw [HTS.out]; omega)
            exact ⟨A, B, x, y, e1, f1, e3, f3, e4, f4⟩
          by_cases ck : k < l1
          · obtain ⟨g1, o1, x, rfl, hg1, hc1, hx⟩ := HY.out k ck
            have d1 : wr.cell? ⟨g1, o1 + k, none⟩ = some (.int .i64 x) := (HBL.out.bel.cell (p := ⟨g1, _, none⟩) hg1).trans hc1
            obtain ⟨r, hr, hr1, hr2⟩ : ∃ r, x.tmod ((n : Int) - 1) = r ∧ -((n : Int) - 1) < r ∧ r < (n : Int) - 1 := ⟨_, rfl, by
              have := Int.lt_tmod_of_pos x (show (0 : Int) < (n : Int) - 1 by omega); omega, Int.tmod_lt_of_pos x (by omega)⟩
            obtain ⟨m, hm, hm2⟩ : ∃ m : Nat, (r + n - 1) % ((n : Int) - 1) = m ∧ m + 1 < n := by
              have h1 := Int.emod_nonneg (r + n - 1) (show (n : Int) - 1 ≠ 0 by omega)
              have h2 := Int.emod_lt_of_pos (r + n - 1) (show (0 : Int) < (n : Int) - 1 by omega)
              exact ⟨((r + n - 1) % ((n : Int) - 1)).toNat, by omega, by omega⟩
            clear hc1
            go_upto_region 14 with fail
            rw [hm]
            clear hm hr hr1 hr2 d1 hx
            have HB0 : Hid (BM w wr.heap.size ts [] (.slice (some ⟨g, 0, none⟩) n cp) (.slice none 0 0) wr ys []) := ⟨HBL.out, ⟨rfl, fun j t hj => by simp at hj, World.ownsRow_nil _ _ _ _, HBL.out.bel⟩, HBL.out.bel.size, (fun g' e => by cases e; exact hg), Nat.le_refl _⟩
            have HYL : Hid (ys.length = n) := HBL.out.len.trans HTS.out
            have HL1 : Hid ((ys.take m).length = m * 1) := by show _ = _; rw [List.length_take, HYL.out]; omega
            have HL2 : Hid ((ts.take m).length = m) := by show _ = _; rw [List.length_take, HTS.out]; omega
            have HO1 : Hid (∀ u ∈ ys.take m, u.oneCell' = true) := fun u hu => HBL.out.ones u (List.mem_of_mem_take hu)
            go_upto_region 16 with (at_builtin; refine wpList_append_own _ rfl _ _ 39 rfl wr.heap.size 27 i0 _ 1 16 Tryd.underlying39 hi hz0 hz1 hz2 rfl (by decide) (.slice none 0 0) 0 [] rfl (World.ownsRow_nil _ _ _ _) ⟨g, 0, none⟩ m cp (ys.take m) rfl HL1.out (HBL.out.newsT m) HO1.out (by unfold maxLen; omega) (by omega) (Nat.le_refl _) ?_; intro v1 w1 hrow1 hgr1 _; have H1 : Hid (BM w wr.heap.size ts (ts.take m) (.slice (some ⟨g, 0, none⟩) n cp) v1 w1 ys (ys.take m)) := HB0.out.more (ns := ts.take m) (zs := ys.take m) (by have := HL1.out; rw [HL2.out]; omega) (HBL.out.stT m) (by rw [HL2.out]; exact hrow1) hgr1; clear hrow1 hgr1)
            obtain ⟨A, x, e1, e2, e3, e4⟩ := H1.out.fl.at (m := m) (by rw [HTS.out]; omega)
            obtain ⟨B, y, f1, f2, f3, f4⟩ := H1.out.fl.at (m := m + 1) (by rw [HTS.out]; omega)
            have HF : Hid (ts[m]? = some A ∧ ts[m + 1]? = some B) := ⟨e1, f1⟩
            have hsz : A.text.size + B.text.size ≤ 1099511627776 := by have := two_size e1 f1; rw [HJ.out] at this; have := HJO.out; omega
            have bd : Below w1.heap.size w1 w1.drew := (Below.refl _ w1).drew
            have H2 : Hid (St w1.drew A x ∧ St w1.drew B y ∧ BM w wr.heap.size ts (ts.take m) (.slice (some ⟨g, 0, none⟩) n cp) v1 w1.drew ys (ys.take m)) := ⟨e3.below bd, f3.below bd, H1.out.below bd⟩
            have hgw : g < w1.heap.size := (HI.out _ _ _ _ _ _ HTS.out H1.out.fl).1
            have C4 : Hid (Calls Tryd.prog 18 #[x, y] w1.drew fun e W' => ∃ b, e = .returned (.iface 69 (.pointer (some ⟨b, 0, none⟩))) ∧ Hid (St W' (.knot A B) (.iface 69 (.pointer (some ⟨b, 0, none⟩))) ∧ BM w wr.heap.size ts (ts.take m) (.slice (some ⟨g, 0, none⟩) n cp) v1 W' ys (ys.take m))) := C3.out A B x y _ _ _ _ _ _ _ _ hsz H2
            have HR3 : Hid (∀ W' V, BM w wr.heap.size ts (ts.take m) (.slice (some ⟨g, 0, none⟩) n cp) v1 W' ys (ys.take m) → (W'.alloc V).ownsRow wr.heap.size 27 1 v1 m (ys.take m) ∧ wr.heap.size ≤ (W'.alloc V).heap.size) := fun W' V h => by
              have hr := h.fm.row.alloc V
              rw [HL2.out] at hr
              have h1 := h.sz
              exact ⟨hr, by simp; omega⟩
            have HCL : Hid (∀ W' us u zs, BM w wr.heap.size ts us (.slice (some ⟨g, 0, none⟩) n cp) u W' ys zs → W'.cell? ⟨g, m, none⟩ = some x ∧ W'.cell? ⟨g, m + 1, none⟩ = some y) := fun W' us u zs h => by
              have q1 := h.fl.row.cells (g := g) rfl m x e2
              have q2 := h.fl.row.cells (g := g) rfl (m + 1) y f2
              rw [badd, Nat.zero_add] at q1 q2
              exact ⟨q1, q2⟩
            have i1 : (0 : Int) ≤ (m : Int) := by omega
            have i2 : (m : Int) < (n : Int) := by omega
            obtain ⟨q, hq⟩ : ∃ q, m + 1 = q := ⟨_, rfl⟩
            have i0' : IntKind.i64.wrap ((m : Int) + 1) = (m : Int) + 1 := by rw [IntKind.wrap_i64]; omega
            have i3 : (0 : Int) ≤ (m : Int) + 1 := by omega
            have i4 : (m : Int) + 1 < (n : Int) := by omega
            have i10 : ((m : Int) + 1).toNat = q := by omega
            have i7 : q < n := by omega
            have i8 : q ≤ 1048576 := by omega
            rw [hq] at HCL f4
            have HQ : Hid (m + 1 = q) := hq
            clear hq
            have i5 : m < n := by omega
            have i6 : m ≤ 1048576 := by omega
            clear e1 e2 e3 f1 f2 f3 C3 H1 HB0 HO1 HBL H2
            go_region_held3 (fun w' => w'.cell? ⟨g, m, none⟩ = some x ∧ w'.cell? ⟨g, q, none⟩ = some y) (go_keep) (first | (go_at_call 18; refine C4.out.mono ?_; clear C4; rintro e w2 ⟨b, rfl, H3⟩; obtain ⟨r1, r2⟩ := HR3.out w2 (.cells #[.iface 69 (.pointer (some ⟨b, 0, none⟩))] 27) H3.out.2; obtain ⟨z1, z2⟩ := HCL.out _ _ _ _ H3.out.2) | (refine bstep_append_own rfl (.tmp 58) (.tmp 69) 39 rfl wr.heap.size 27 i0 _ 1 16 Tryd.underlying39 hi hz0 hz1 hz2 rfl (by decide) v1 m (ys.take m) rfl r1 ⟨w2.heap.size, 0, none⟩ 1 1 [.iface 69 (.pointer (some ⟨b, 0, none⟩))] rfl rfl (bone_new _ _ _) (by simp [Value.oneCell']) (by unfold maxLen; omega) (by omega) r2 ?_; intro v3 w3 hrow3 hgr3; have H4 : Hid (BM w wr.heap.size ts (ts.take m ++ [Tr.knot A B]) (.slice (some ⟨g, 0, none⟩) n cp) v3 w3 ys (ys.take m ++ [.iface 69 (.pointer (some ⟨b, 0, none⟩))])) := (H3.out.2.below ((Below.refl _ w2).alloc (Nat.le_refl _) _)).more (ns := [Tr.knot A B]) rfl (fun j t hj => (by cases j with | zero => cases hj; exact ⟨_, rfl, H3.out.1.below ((Below.refl _ w2).alloc (Nat.le_refl _) _)⟩ | succ j => simp at hj)) (by rw [HL2.out]; exact hrow3) hgr3; obtain ⟨z3, z4⟩ := HCL.out _ _ _ _ H4.out; clear hrow3 hgr3 r1 r2 H3))
            have HR5 : Hid (w3.ownsRow wr.heap.size 27 1 v3 (m + 1) (ys.take m ++ [.iface 69 (.pointer (some ⟨b, 0, none⟩))]) ∧ wr.heap.size ≤ w3.heap.size) := by
              have hr := H4.out.fm.row
              rw [List.length_append, HL2.out] at hr
              exact ⟨hr, H4.out.sz⟩
            have HD2 : Hid ((ts.drop (m + 2)).length = n - (m + 2) ∧ (ys.drop (m + 2)).length = n - (m + 2)) := ⟨by rw [List.length_drop, HTS.out], by rw [List.length_drop, HYL.out]⟩
            have HO3 : Hid (∀ u ∈ ys.drop (m + 2), u.oneCell' = true) := fun u hu => H4.out.fl.ones u (List.mem_of_mem_drop hu)
            have HT2 : Hid ((ts.take m ++ [Tr.knot A B] ++ ts.drop (m + 2)).length = n - 1 ∧ joT (ts.take m ++ [Tr.knot A B] ++ ts.drop (m + 2)) = jo ss) := ⟨by rw [List.length_append, List.length_append, HL2.out, HD2.out.1]; simp; omega, by rw [joT_fold HF.out.1 HF.out.2]; exact HJ.out⟩
            have b2 : (m : Int) + 2 ≤ (n : Int) := by omega
            by_cases hcc : cp = m + 2
            · subst hcc
              go_wp2_with (at_builtin; refine wpList_append_own _ rfl _ _ 39 rfl wr.heap.size 27 i0 _ 1 16 Tryd.underlying39 hi hz0 hz1 hz2 rfl (by decide) v3 (m + 1) (ys.take m ++ [.iface 69 (.pointer (some ⟨b, 0, none⟩))]) rfl HR5.out.1 ⟨g, 0, none⟩ (n - (m + 2)) _ (ys.drop (m + 2)) rfl (by rw [HD2.out.2]; omega) (fun j u h => (by rw [List.length_eq_zero_iff.1 (HD2.out.2.trans (by omega))] at h; simp at h)) HO3.out (by unfold maxLen; omega) (by omega) HR5.out.2 ?_; intro v5 w5 hrow5 hgr5 _; have H5 : Hid (BM w wr.heap.size ts (ts.take m ++ [Tr.knot A B] ++ ts.drop (m + 2)) (.slice (some ⟨g, 0, none⟩) n (m + 2)) v5 w5 ys (ys.take m ++ [.iface 69 (.pointer (some ⟨b, 0, none⟩))] ++ ys.drop (m + 2))) := H4.out.more (ns := ts.drop (m + 2)) (zs := ys.drop (m + 2)) (by rw [HD2.out.1, HD2.out.2]) (H4.out.fl.stD (m + 2)) (by rw [List.length_append, HL2.out, HD2.out.1]; exact hrow5) hgr5; obtain ⟨g5, cp5, rfl⟩ := H5.out.fm.form HT2.out.1 (by omega); clear hrow5 hgr5)
              exact ⟨⟨k + 1, n - 1, g5, cp5, by go_num, by omega, by omega, rfl, _, _, HT2.out.1, HT2.out.2, H5.out.fm.base H5.out.fc⟩, by simp [intOf]; omega⟩
            · go_wp2_with (at_builtin; refine wpList_append_own _ rfl _ _ 39 rfl wr.heap.size 27 i0 _ 1 16 Tryd.underlying39 hi hz0 hz1 hz2 rfl (by decide) v3 (m + 1) (ys.take m ++ [.iface 69 (.pointer (some ⟨b, 0, none⟩))]) rfl HR5.out.1 ⟨g, m + 2, none⟩ (n - (m + 2)) _ (ys.drop (m + 2)) rfl (by rw [HD2.out.2]; omega) (H4.out.fl.news (m + 2)) HO3.out (by unfold maxLen; omega) (by omega) HR5.out.2 ?_; intro v5 w5 hrow5 hgr5 _; have H5 : Hid (BM w wr.heap.size ts (ts.take m ++ [Tr.knot A B] ++ ts.drop (m + 2)) (.slice (some ⟨g, 0, none⟩) n cp) v5 w5 ys (ys.take m ++ [.iface 69 (.pointer (some ⟨b, 0, none⟩))] ++ ys.drop (m + 2))) := H4.out.more (ns := ts.drop (m + 2)) (zs := ys.drop (m + 2)) (by rw [HD2.out.1, HD2.out.2]) (H4.out.fl.stD (m + 2)) (by rw [List.length_append, HL2.out, HD2.out.1]; exact hrow5) hgr5; obtain ⟨g5, cp5, rfl⟩ := H5.out.fm.form HT2.out.1 (by omega); clear hrow5 hgr5)
              exact ⟨⟨k + 1, n - 1, g5, cp5, by go_num, by omega, by omega, rfl, _, _, HT2.out.1, HT2.out.2, H5.out.fm.base H5.out.fc⟩, by simp [intOf]; omega⟩
          · obtain ⟨m, hm0⟩ : ∃ m : Nat, m = 0 := ⟨0, rfl⟩
            have hm2 : m + 1 < n := by omega
            go_upto_region 14 with fail
            rw [show Value.int IntKind.i64 0 = Value.int IntKind.i64 ((m : Nat) : Int) by rw [hm0]; rfl]
            clear hm0
            have HB0 : Hid (BM w wr.heap.size ts [] (.slice (some ⟨g, 0, none⟩) n cp) (.slice none 0 0) wr ys []) := ⟨HBL.out, ⟨rfl, fun j t hj => by simp at hj, World.ownsRow_nil _ _ _ _, HBL.out.bel⟩, HBL.out.bel.size, (fun g' e => by cases e; exact hg), Nat.le_refl _⟩
            have HYL : Hid (ys.length = n) := HBL.out.len.trans HTS.out
            have HL1 : Hid ((ys.take m).length = m * 1) := by show _ = _; rw [List.length_take, HYL.out]; omega
            have HL2 : Hid ((ts.take m).length = m) := by show _ = _; rw [List.length_take, HTS.out]; omega
            have HO1 : Hid (∀ u ∈ ys.take m, u.oneCell' = true) := fun u hu => HBL.out.ones u (List.mem_of_mem_take hu)
            go_upto_region 16 with (at_builtin; refine wpList_append_own _ rfl _ _ 39 rfl wr.heap.size 27 i0 _ 1 16 Tryd.underlying39 hi hz0 hz1 hz2 rfl (by decide) (.slice none 0 0) 0 [] rfl (World.ownsRow_nil _ _ _ _) ⟨g, 0, none⟩ m cp (ys.take m) rfl HL1.out (HBL.out.newsT m) HO1.out (by unfold maxLen; omega) (by omega) (Nat.le_refl _) ?_; intro v1 w1 hrow1 hgr1 _; have H1 : Hid (BM w wr.heap.size ts (ts.take m) (.slice (some ⟨g, 0, none⟩) n cp) v1 w1 ys (ys.take m)) := HB0.out.more (ns := ts.take m) (zs := ys.take m) (by have := HL1.out; rw [HL2.out]; omega) (HBL.out.stT m) (by rw [HL2.out]; exact hrow1) hgr1; clear hrow1 hgr1)
            obtain ⟨A, x, e1, e2, e3, e4⟩ := H1.out.fl.at (m := m) (by rw [HTS.out]; omega)
            obtain ⟨B, y, f1, f2, f3, f4⟩ := H1.out.fl.at (m := m + 1) (by rw [HTS.out]; omega)
            have HF : Hid (ts[m]? = some A ∧ ts[m + 1]? = some B) := ⟨e1, f1⟩
            have hsz : A.text.size + B.text.size ≤ 1099511627776 := by have := two_size e1 f1; rw [HJ.out] at this; have := HJO.out; omega
            have bd : Below w1.heap.size w1 w1.drew := (Below.refl _ w1).drew
            have H2 : Hid (St w1.drew A x ∧ St w1.drew B y ∧ BM w wr.heap.size ts (ts.take m) (.slice (some ⟨g, 0, none⟩) n cp) v1 w1.drew ys (ys.take m)) := ⟨e3.below bd, f3.below bd, H1.out.below bd⟩
            have hgw : g < w1.heap.size := (HI.out _ _ _ _ _ _ HTS.out H1.out.fl).1
            have C4 : Hid (Calls Tryd.prog 18 #[x, y] w1.drew fun e W' => ∃ b, e = .returned (.iface 69 (.pointer (some ⟨b, 0, none⟩))) ∧ Hid (St W' (.knot A B) (.iface 69 (.pointer (some ⟨b, 0, none⟩))) ∧ BM w wr.heap.size ts (ts.take m) (.slice (some ⟨g, 0, none⟩) n cp) v1 W' ys (ys.take m))) := C3.out A B x y _ _ _ _ _ _ _ _ hsz H2
            have HR3 : Hid (∀ W' V, BM w wr.heap.size ts (ts.take m) (.slice (some ⟨g, 0, none⟩) n cp) v1 W' ys (ys.take m) → (W'.alloc V).ownsRow wr.heap.size 27 1 v1 m (ys.take m) ∧ wr.heap.size ≤ (W'.alloc V).heap.size) := fun W' V h => by
              have hr := h.fm.row.alloc V
              rw [HL2.out] at hr
              have h1 := h.sz
              exact ⟨hr, by simp; omega⟩
            have HCL : Hid (∀ W' us u zs, BM w wr.heap.size ts us (.slice (some ⟨g, 0, none⟩) n cp) u W' ys zs → W'.cell? ⟨g, m, none⟩ = some x ∧ W'.cell? ⟨g, m + 1, none⟩ = some y) := fun W' us u zs h => by
              have q1 := h.fl.row.cells (g := g) rfl m x e2
              have q2 := h.fl.row.cells (g := g) rfl (m + 1) y f2
              rw [badd, Nat.zero_add] at q1 q2
              exact ⟨q1, q2⟩
            have i1 : (0 : Int) ≤ (m : Int) := by omega
            have i2 : (m : Int) < (n : Int) := by omega
            obtain ⟨q, hq⟩ : ∃ q, m + 1 = q := ⟨_, rfl⟩
            have i0' : IntKind.i64.wrap ((m : Int) + 1) = (m : Int) + 1 := by rw [IntKind.wrap_i64]; omega
            have i3 : (0 : Int) ≤ (m : Int) + 1 := by omega
            have i4 : (m : Int) + 1 < (n : Int) := by omega
            have i10 : ((m : Int) + 1).toNat = q := by omega
            have i7 : q < n := by omega
            have i8 : q ≤ 1048576 := by omega
            rw [hq] at HCL f4
            have HQ : Hid (m + 1 = q) := hq
            clear hq
            have i5 : m < n := by omega
            have i6 : m ≤ 1048576 := by omega
            clear e1 e2 e3 f1 f2 f3 C3 H1 HB0 HO1 HBL H2
            go_region_held3 (fun w' => w'.cell? ⟨g, m, none⟩ = some x ∧ w'.cell? ⟨g, q, none⟩ = some y) (go_keep) (first | (go_at_call 18; refine C4.out.mono ?_; clear C4; rintro e w2 ⟨b, rfl, H3⟩; obtain ⟨r1, r2⟩ := HR3.out w2 (.cells #[.iface 69 (.pointer (some ⟨b, 0, none⟩))] 27) H3.out.2; obtain ⟨z1, z2⟩ := HCL.out _ _ _ _ H3.out.2) | (refine bstep_append_own rfl (.tmp 58) (.tmp 69) 39 rfl wr.heap.size 27 i0 _ 1 16 Tryd.underlying39 hi hz0 hz1 hz2 rfl (by decide) v1 m (ys.take m) rfl r1 ⟨w2.heap.size, 0, none⟩ 1 1 [.iface 69 (.pointer (some ⟨b, 0, none⟩))] rfl rfl (bone_new _ _ _) (by simp [Value.oneCell']) (by unfold maxLen; omega) (by omega) r2 ?_; intro v3 w3 hrow3 hgr3; have H4 : Hid (BM w wr.heap.size ts (ts.take m ++ [Tr.knot A B]) (.slice (some ⟨g, 0, none⟩) n cp) v3 w3 ys (ys.take m ++ [.iface 69 (.pointer (some ⟨b, 0, none⟩))])) := (H3.out.2.below ((Below.refl _ w2).alloc (Nat.le_refl _) _)).more (ns := [Tr.knot A B]) rfl (fun j t hj => (by cases j with | zero => cases hj; exact ⟨_, rfl, H3.out.1.below ((Below.refl _ w2).alloc (Nat.le_refl _) _)⟩ | succ j => simp at hj)) (by rw [HL2.out]; exact hrow3) hgr3; obtain ⟨z3, z4⟩ := HCL.out _ _ _ _ H4.out; clear hrow3 hgr3 r1 r2 H3))
            have HR5 : Hid (w3.ownsRow wr.heap.size 27 1 v3 (m + 1) (ys.take m ++ [.iface 69 (.pointer (some ⟨b, 0, none⟩))]) ∧ wr.heap.size ≤ w3.heap.size) := by
              have hr := H4.out.fm.row
              rw [List.length_append, HL2.out] at hr
              exact ⟨hr, H4.out.sz⟩
            have HD2 : Hid ((ts.drop (m + 2)).length = n - (m + 2) ∧ (ys.drop (m + 2)).length = n - (m + 2)) := ⟨by rw [List.length_drop, HTS.out], by rw [List.length_drop, HYL.out]⟩
            have HO3 : Hid (∀ u ∈ ys.drop (m + 2), u.oneCell' = true) := fun u hu => H4.out.fl.ones u (List.mem_of_mem_drop hu)
            have HT2 : Hid ((ts.take m ++ [Tr.knot A B] ++ ts.drop (m + 2)).length = n - 1 ∧ joT (ts.take m ++ [Tr.knot A B] ++ ts.drop (m + 2)) = jo ss) := ⟨by rw [List.length_append, List.length_append, HL2.out, HD2.out.1]; simp; omega, by rw [joT_fold HF.out.1 HF.out.2]; exact HJ.out⟩
            have b2 : (m : Int) + 2 ≤ (n : Int) := by omega
            by_cases hcc : cp = m + 2
            · subst hcc
              go_wp2_with (at_builtin; refine wpList_append_own _ rfl _ _ 39 rfl wr.heap.size 27 i0 _ 1 16 Tryd.underlying39 hi hz0 hz1 hz2 rfl (by decide) v3 (m + 1) (ys.take m ++ [.iface 69 (.pointer (some ⟨b, 0, none⟩))]) rfl HR5.out.1 ⟨g, 0, none⟩ (n - (m + 2)) _ (ys.drop (m + 2)) rfl (by rw [HD2.out.2]; omega) (fun j u h => (by rw [List.length_eq_zero_iff.1 (HD2.out.2.trans (by omega))] at h; simp at h)) HO3.out (by unfold maxLen; omega) (by omega) HR5.out.2 ?_; intro v5 w5 hrow5 hgr5 _; have H5 : Hid (BM w wr.heap.size ts (ts.take m ++ [Tr.knot A B] ++ ts.drop (m + 2)) (.slice (some ⟨g, 0, none⟩) n (m + 2)) v5 w5 ys (ys.take m ++ [.iface 69 (.pointer (some ⟨b, 0, none⟩))] ++ ys.drop (m + 2))) := H4.out.more (ns := ts.drop (m + 2)) (zs := ys.drop (m + 2)) (by rw [HD2.out.1, HD2.out.2]) (H4.out.fl.stD (m + 2)) (by rw [List.length_append, HL2.out, HD2.out.1]; exact hrow5) hgr5; obtain ⟨g5, cp5, rfl⟩ := H5.out.fm.form HT2.out.1 (by omega); clear hrow5 hgr5)
              exact ⟨⟨k + 1, n - 1, g5, cp5, by go_num, by omega, by omega, rfl, _, _, HT2.out.1, HT2.out.2, H5.out.fm.base H5.out.fc⟩, by simp [intOf]; omega⟩
            · go_wp2_with (at_builtin; refine wpList_append_own _ rfl _ _ 39 rfl wr.heap.size 27 i0 _ 1 16 Tryd.underlying39 hi hz0 hz1 hz2 rfl (by decide) v3 (m + 1) (ys.take m ++ [.iface 69 (.pointer (some ⟨b, 0, none⟩))]) rfl HR5.out.1 ⟨g, m + 2, none⟩ (n - (m + 2)) _ (ys.drop (m + 2)) rfl (by rw [HD2.out.2]; omega) (H4.out.fl.news (m + 2)) HO3.out (by unfold maxLen; omega) (by omega) HR5.out.2 ?_; intro v5 w5 hrow5 hgr5 _; have H5 : Hid (BM w wr.heap.size ts (ts.take m ++ [Tr.knot A B] ++ ts.drop (m + 2)) (.slice (some ⟨g, 0, none⟩) n cp) v5 w5 ys (ys.take m ++ [.iface 69 (.pointer (some ⟨b, 0, none⟩))] ++ ys.drop (m + 2))) := H4.out.more (ns := ts.drop (m + 2)) (zs := ys.drop (m + 2)) (by rw [HD2.out.1, HD2.out.2]) (H4.out.fl.stD (m + 2)) (by rw [List.length_append, HL2.out, HD2.out.1]; exact hrow5) hgr5; obtain ⟨g5, cp5, rfl⟩ := H5.out.fm.form HT2.out.1 (by omega); clear hrow5 hgr5)
              exact ⟨⟨k + 1, n - 1, g5, cp5, by go_num, by omega, by omega, rfl, _, _, HT2.out.1, HT2.out.2, H5.out.fm.base H5.out.fc⟩, by simp [intOf]; omega⟩
        · have hn1 : n = 1 := by omega
          subst hn1
          obtain ⟨A, x, e1, e2, e3, e4⟩ := HBL.out.at (m := 0) (by rw [HTS.out]; omega)
          have HF : Hid (St wr A x ∧ A.text = jo ss) := ⟨e3, by
            rw [← HJ.out]
            match ts, HTS.out, e1 with
            | [B], _, e1 => cases e1; exact (app_noB _).symm⟩
          obtain ⟨T, p, _, _, _, _, hx, _⟩ := e3.nt.nd
          subst hx
          clear e1 e2 e3
          go_wp2
          go_ret
          exact ⟨_, _, A, rfl, HF.out.1.nt, HF.out.2, HBL.out.bel⟩
end Go.Proofs.YtiehhafbblbbiabDoor
