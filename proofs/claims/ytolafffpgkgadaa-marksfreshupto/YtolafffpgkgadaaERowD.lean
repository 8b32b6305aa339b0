/-
  Rows of deltas and of marks that a law makes and writes over; great; arguments of which nil has no room. Conditions: those of each theorem.
-/
import Derived.Test.YtolafffpgkgadaaEPair
import Derived.Test.YtolafffpgkgadaaUMks
import Derived.Lib.AppendZeros
namespace Go.Proofs.Ytolafffpgkgadaa
open Go.ChangeShapes Go.WideShapes Go.ChangeAt Go.RowKit Go.Deep

def RdK0 (W : World) (v : Value) (l : Ml) : Prop := RdK W v l ∧ ∀ m c, v = .slice none m c → c = 0
def RdD0 (W : World) (v : Value) (l : List Dl) : Prop := RdD W v l ∧ ∀ m c, v = .slice none m c → c = 0
theorem mks0_of {H : Type} {enc : TypeId × Value → H} {W : World} {base : Nat} {sp : Nat → Bool} {hd : Bool} {fuel : Nat} {a : Option Addr} {len cap : Nat} {d : DataW H} {p : List MemPlace}
    (h : DataW.trod enc Try.prog W base sp hd fuel 22 [.slice a len cap] = some (d, p)) :
    ∃ l : Ml, RdK0 W (.slice a len cap) l ∧ (l.length ≤ Rows.uptoBulk d ∧ Fit8 l) := by
  obtain ⟨l, h1, h2⟩ := mks_of h
  refine ⟨l, ⟨h1, fun m c e => ?_⟩, h2⟩
  rcases open_slice Try.underlying22 h with ⟨hcs, _⟩ | ⟨x, l, c', m', n, D, Pl, hcs, _⟩
  · simp at hcs; obtain ⟨rfl, rfl, rfl⟩ := hcs; cases e; rfl
  · simp at hcs; obtain ⟨rfl, rfl, rfl⟩ := hcs; cases e
theorem dls0_of {H : Type} {enc : TypeId × Value → H} {W : World} {base : Nat} {sp : Nat → Bool} {hd : Bool} {fuel : Nat} {a : Option Addr} {len cap : Nat} {d : DataW H} {p : List MemPlace}
    (h : DataW.trod enc Try.prog W base sp hd fuel 32 [.slice a len cap] = some (d, p)) :
    ∃ l : List Dl, RdD0 W (.slice a len cap) l ∧ (l.length + dls l ≤ Rows.uptoBulk d ∧ ∀ x ∈ l, x.fit) := by
  obtain ⟨l, h1, h2⟩ := dls_of h
  refine ⟨l, ⟨h1, fun m c e => ?_⟩, h2⟩
  rcases open_slice Try.underlying32 h with ⟨hcs, _⟩ | ⟨x, l, c', m', n, D, Pl, hcs, _⟩
  · simp at hcs; obtain ⟨rfl, rfl, rfl⟩ := hcs; cases e; rfl
  · simp at hcs; obtain ⟨rfl, rfl, rfl⟩ := hcs; cases e

def dcl (l : List Dl) : List Value := l.flatMap fun d => [.int .i64 d.a, .string d.o, .string d.i]
theorem infoD : (Try.prog.info? 63).map (fun i => (i.zero, i.size, i.bytes)) = some (some (.agg #[.int .i64 0, .string ⟨#[]⟩, .string ⟨#[]⟩]), 3, 40) := by kernel_rfl
theorem dcl_len : ∀ l : List Dl, (dcl l).length = l.length * 3
  | [] => rfl
  | q :: l => by
    have e : dcl (q :: l) = .int .i64 q.a :: .string q.o :: .string q.i :: dcl l := rfl
    rw [e, List.length_cons, List.length_cons, List.length_cons, dcl_len l, List.length_cons]; omega
theorem dcl_get : ∀ (l : List Dl) (k : Nat) (d : Dl), l[k]? = some d → (dcl l)[k * 3]? = some (.int .i64 d.a) ∧ (dcl l)[k * 3 + 1]? = some (.string d.o) ∧ (dcl l)[k * 3 + 2]? = some (.string d.i)
  | [], _, _, h => by simp at h
  | q :: l, 0, d, h => by simp at h; subst h; exact ⟨rfl, rfl, rfl⟩
  | q :: l, k + 1, d, h => by
    have := dcl_get l k d (by simpa using h)
    have e : dcl (q :: l) = .int .i64 q.a :: .string q.o :: .string q.i :: dcl l := rfl
    rw [e, show (k + 1) * 3 = k * 3 + 1 + 1 + 1 by omega]
    exact ⟨by simpa using this.1, by simpa using this.2.1, by simpa using this.2.2⟩
theorem RdD.of_row {W : World} {base : Nat} {v : Value} {l : List Dl} (h : W.ownsRow base 63 3 v l.length (dcl l)) : RdD W v l := by
  rcases h.2 with ⟨rfl, hz⟩ | ⟨g, cap, cur, rfl, hb, hg, h1, h2, h3, h4⟩
  · obtain rfl : l = [] := List.eq_nil_of_length_eq_zero hz
    exact ⟨none, 0, rfl, fun h => absurd rfl h⟩
  · refine ⟨_, cap, rfl, fun _ => ⟨g, 0, rfl, (Array.getElem?_eq_some_iff.1 hg).1, fun k p hk => ?_⟩⟩
    obtain ⟨q0, q1, q2⟩ := dcl_get l k p hk
    have hkl := (List.getElem?_eq_some_iff.1 hk).1
    rw [← h4] at q0 q1 q2
    rw [List.getElem?_take_of_lt (by omega)] at q0 q1 q2
    unfold World.cell?
    simp only [hg]
    exact ⟨by simpa using q0, by simpa using q1, by simpa using q2⟩
/-- a slice of deltas that reads, appended to a row of the call's own -/
theorem app_rdD {W : World} {ops : Array Oper} {rest : List Oper} {o : Oper} {a : Act} {Q : Exit → Act → World → Prop} (hgd : o.guard = none) (s x : Operand)
    (ho : o.op = .call { callee := .builtin .append, args := #[s, x], argTypes := #[32, 32] }) (base : Nat) (v : Value) (hs : a.eval s = v) (hown : W.ownsRow base 63 3 v 0 [])
    (ad : Option Addr) (m c : Nat) (l : List Dl) (hx : a.eval x = .slice ad m c) (hz : ad = none → c = 0) (hl : l.length = m) (hrd : RdD W (.slice ad m c) l) (h63 : m ≤ 1048576) (hbase : base ≤ W.heap.size)
    (h : ∀ v' w', w'.ownsRow base 63 3 v' m (dcl l) → W.grownBy w' v.ownBlock → (v'.ownBlock = v.ownBlock ∨ v'.ownBlock = some W.heap.size) → wpList Try.prog ops Q rest (a.put o.dst v') w') :
    wpList Try.prog ops Q (o :: rest) a W := by
  obtain ⟨i0, hi, hz0, hz1, hz2⟩ := info_parts infoD
  cases ad with
  | none =>
    obtain rfl := hz rfl
    obtain ⟨a', c', e, hr⟩ := hrd
    obtain ⟨rfl, _, _⟩ := Value.slice.inj e
    have hln : l = [] := Classical.byContradiction fun h0 => by obtain ⟨g, o, e, _⟩ := hr h0; cases e
    subst hln
    obtain rfl : m = 0 := hl.symm
    exact wpList_append_own_none hgd s x 32 ho base 63 i0 3 Try.underlying32 hi v 0 [] hs hown hx (h v W hown ⟨rfl, rfl, rfl, Nat.le_refl _, fun _ _ _ => rfl⟩ (.inl rfl))
  | some ad =>
    refine wpList_append_own_at _ hgd s x 32 ho base 63 i0 _ 3 40 Try.underlying32 hi hz0 hz1 hz2 rfl (by decide) v 0 [] hs hown ad m c (dcl l) hx (by rw [dcl_len, hl]) (fun j u hj => ?_) (fun u hu => ?_) (by unfold maxLen; omega) (by omega) hbase (fun v' w' h1 h2 _ h4 => h v' w' (by simpa using h1) h2 h4)
    · obtain ⟨a', c', e, hr⟩ := hrd
      obtain ⟨rfl, _, _⟩ := Value.slice.inj e
      have hj2 := (List.getElem?_eq_some_iff.1 hj).1
      rw [dcl_len] at hj2
      obtain ⟨g, o, e, hg, hc⟩ := hr (fun h0 => by rw [h0] at hj2; simp at hj2)
      cases e
      obtain ⟨p, hp⟩ : ∃ p, l[j / 3]? = some p := ⟨l[j / 3]'(by omega), List.getElem?_eq_getElem _⟩
      obtain ⟨c0, c1, c2⟩ := hc _ p hp
      obtain ⟨k0, k1, k2⟩ := dcl_get l _ p hp
      rw [Go.WideShapes.add_plain]
      have h3 : j % 3 = 0 ∨ j % 3 = 1 ∨ j % 3 = 2 := by omega
      rcases h3 with e | e | e
      · rw [show j = j / 3 * 3 by omega] at hj ⊢
        rw [k0] at hj; rw [c0, hj]
      · rw [show j = j / 3 * 3 + 1 by omega] at hj ⊢
        rw [k1] at hj; rw [← Nat.add_assoc, c1, hj]
      · rw [show j = j / 3 * 3 + 2 by omega] at hj ⊢
        rw [k2] at hj; rw [← Nat.add_assoc, c2, hj]
    · obtain ⟨p, hp, hu⟩ := List.mem_flatMap.1 hu
      simp at hu
      rcases hu with rfl | rfl | rfl <;> rfl
/-- a row of deltas, one place of it written -/
theorem rowD_set {W : World} {base g cap k : Nat} {l : List Dl} {d : Dl} {y : Int} (h : W.ownsRow base 63 3 (.slice (some ⟨g, 0, none⟩) l.length cap) l.length (dcl l)) (hk : l[k]? = some d) :
    (W.setCell ⟨g, k * 3, none⟩ (.int .i64 y)).ownsRow base 63 3 (.slice (some ⟨g, 0, none⟩) l.length cap) l.length (dcl (l.set k ⟨y, d.o, d.i⟩)) ∧ W.grownBy (W.setCell ⟨g, k * 3, none⟩ (.int .i64 y)) (some g) := by
  have h1 := h.stored (k * 3) (.int .i64 y)
  have e : (dcl l).set (k * 3) (.int .i64 y) = dcl (l.set k ⟨y, d.o, d.i⟩) := by
    clear h h1
    induction l generalizing k with
    | nil => simp at hk
    | cons q r ih =>
      have e : ∀ (q : Dl) l, dcl (q :: l) = .int .i64 q.a :: .string q.o :: .string q.i :: dcl l := fun _ _ => rfl
      cases k with
      | zero => simp at hk; subst hk; rfl
      | succ k =>
        rw [show (q :: r).set (k + 1) (⟨y, d.o, d.i⟩ : Dl) = q :: r.set k ⟨y, d.o, d.i⟩ from rfl, e, e, show (k + 1) * 3 = (k * 3) + 1 + 1 + 1 by omega, List.set_cons_succ, List.set_cons_succ, List.set_cons_succ, ih (by simpa using hk)]
  rw [e] at h1
  exact h1
/-- a row of marks, one mark of it written -/
theorem row_put {W : World} {base g cap k : Nat} {L : Ml} {n : Nat} {y : Int} (h : W.ownsRow base 26 2 (.slice (some ⟨g, 0, none⟩) L.length cap) L.length (kcl L)) (hk : k < L.length) :
    ((W.setCell ⟨g, k * 2, none⟩ (.int .u8 (n : Int))).setCell ⟨g, k * 2 + 1, none⟩ (.int .i64 y)).ownsRow base 26 2 (.slice (some ⟨g, 0, none⟩) L.length cap) L.length (kcl (L.set k (n, y))) ∧ W.grownBy ((W.setCell ⟨g, k * 2, none⟩ (.int .u8 (n : Int))).setCell ⟨g, k * 2 + 1, none⟩ (.int .i64 y)) (some g) := by
  have h1 := h.stored (k * 2) (.int .u8 (n : Int))
  have h2 := h1.1.stored (k * 2 + 1) (.int .i64 y)
  have e : ((kcl L).set (k * 2) (.int .u8 (n : Int))).set (k * 2 + 1) (.int .i64 y) = kcl (L.set k (n, y)) := by
    clear h h1 h2
    induction L generalizing k with
    | nil => simp at hk
    | cons q r ih =>
      have e : ∀ (q : Nat × Int) l, kcl (q :: l) = .int .u8 (q.1 : Int) :: .int .i64 q.2 :: kcl l := fun _ _ => rfl
      cases k with
      | zero => rfl
      | succ k =>
        rw [show (q :: r).set (k + 1) (n, y) = q :: r.set k (n, y) from rfl, e, e, show (k + 1) * 2 = (k * 2) + 2 by omega, ← ih (by simpa using hk)]
        rfl
  rw [e] at h2
  exact ⟨h2.1, h1.2.trans h2.2⟩
/-- a row of another kind stays while the set is turned -/
theorem rowD_ch {W W' : World} {base sb n c : Nat} {t : TypeId} {mb : Option Nat} {L : Ml} {v : Value} {xs : List Value} (hr : W.ownsRow base t c v n xs) (ht : t ≠ 49) (h : St W sb mb L) (hc : Ch sb mb W W') : W'.ownsRow base t c v n xs := by
  refine ⟨hr.1, hr.2.imp id (fun ⟨g, cap, cur, h1, h2, h3, h4⟩ => ⟨g, cap, cur, h1, h2, (hc.2.2.2.2 g (Array.getElem?_eq_some_iff.1 h3).1 (fun e => ?_) (fun e => ?_)).trans h3, h4⟩)⟩
  · rw [e, h.box] at h3; injection h3 with hb; injection hb with _ hq _; exact ht hq.symm
  · obtain ⟨es, clock, hb, _⟩ := (h.own g e).2.1; rw [h3] at hb; cases hb
theorem rowD_chR {W W' : World} {base base' rb n c : Nat} {t : TypeId} {L : Ml} {v u : Value} {xs : List Value} (hr : W.ownsRow base t c v n xs) (ht : t ≠ 69) (h : Rs W base' rb u L) (hc : Ch rb u.ownBlock W W') (hu : ∀ k, v.ownBlock = some k → u.ownBlock ≠ some k) : W'.ownsRow base t c v n xs := by
  refine ⟨hr.1, hr.2.imp id (fun ⟨g, cap, cur, h1, h2, h3, h4⟩ => ⟨g, cap, cur, h1, h2, (hc.2.2.2.2 g (Array.getElem?_eq_some_iff.1 h3).1 (fun e => ?_) (hu g (by rw [h1]; rfl))).trans h3, h4⟩)⟩
  rw [e, h.box] at h3; injection h3 with hb; injection hb with _ hq _; exact ht hq.symm
def gtP (l : Ml) : Bool := l.any (fun p => decide (549755813888 < p.2))
set_option maxRecDepth 100000 in
theorem great_any {w : World} {a : Option Addr} {N cap : Nat} {ms : Ml} (hN : ms.length = N) (hl : N ≤ 140737488351232) (hR : RdK w (.slice a N cap) ms) :
    Calls Try.prog 28 #[.slice a N cap] w fun e w' => e = .returned (.bool (gtP ms)) ∧ Below w.heap.size w w' := by
  have HR : Hid (∀ W', Below w.heap.size w W' → RdK W' (.slice a N cap) ms) := fun W' hb => hR.below (Nat.le_refl _) hb
  have HF : Hid (ms.length = N) := hN
  obtain ⟨F, hF⟩ : ∃ F, gtP ms = F := ⟨_, rfl⟩
  have HFF : Hid (gtP ms = F) := hF
  rw [hF]
  clear hR hN hF
  go_enter Try.func28, Try.ntmps28
  go_wp2
  go_loopw [7] (fun t7 wr => ∃ k : Nat, k ≤ N ∧ t7 = .int .i64 k ∧ Hid (gtP (ms.take k) = false ∧ Below w.heap.size w wr)) (fun t7 _ => N - (intOf t7).toNat)
  case atStart => exact ⟨0, Nat.zero_le _, rfl, rfl, Below.refl _ _⟩
  case round =>
    obtain ⟨k, hk, rfl, HB⟩ := hrel
    by_cases hlt : k < N
    · obtain ⟨p, hp⟩ : ∃ p, ms[k]? = some p := ⟨ms[k]'(by rw [HF.out]; exact hlt), List.getElem?_eq_getElem _⟩
      obtain ⟨a', cap', ev, hrd⟩ := HR.out _ HB.out.2
      cases ev
      obtain ⟨g, o, rfl, hg, hcs⟩ := hrd (fun e => by rw [e] at hp; cases hp)
      obtain ⟨y0, y1⟩ := hcs k p hp
      have HBA : Hid (Below w.heap.size w (wr.alloc (.cells #[.int .u8 (p.1 : Int), .int .i64 p.2] 26))) := HB.out.2.alloc HB.out.2.size _
      obtain ⟨z0, z1⟩ := new2 wr (.int .u8 (p.1 : Int)) (.int .i64 p.2) 26
      have HP : Hid (ms[k]? = some p) := hp
      clear hrd hcs hp
      by_cases c1 : 549755813888 < p.2
      · have HE : Hid (gtP ms = true) := List.any_eq_true.2 ⟨p, List.mem_of_getElem? HP.out, by simp [c1]⟩
        go_wp2
        go_ret
        exact ⟨by rw [← HFF.out, HE.out]; rfl, HBA.out⟩
      · have HC1 : Hid (¬ 549755813888 < p.2) := c1
        go_wp2
        refine ⟨⟨k + 1, by omega, by go_num, ?_, HBA.out⟩, by simp [intOf]; omega⟩
        unfold gtP
        rw [List.take_add_one, HP.out, List.any_append]
        have := HB.out.1
        unfold gtP at this
        rw [this]
        simp
        have := HC1.out
        omega
    · go_wp2
      go_ret
      obtain rfl : k = N := by omega
      have := HB.out.1
      rw [List.take_of_length_le (by rw [HF.out]; exact Nat.le_refl _)] at this
      exact ⟨by rw [← HFF.out, this]; rfl, HB.out.2⟩
/-- append(a, make([]api.Mark, 30)...): whatever room there is, no other row is turned -/
theorem app_zeros {W : World} {base n : Nat} {v : Value} {xs : List Value} (h : W.ownsRow base 26 2 v n xs) (hn : n ≤ 1048576) : ∃ v' W', (Builtin.append_ #[22, 3] 22 #[v, .int .i64 30]).run Try.prog W = .ok v' W' ∧ W.grownBy W' v.ownBlock := by
  obtain ⟨i, hi, hz0, hz1, hz2⟩ := info_parts infoM
  have hw : IntKind.i64.wrap (30 : Int) = 30 := by rw [IntKind.wrap_i64]; omega
  rcases h.2 with ⟨rfl, rfl⟩ | ⟨g, cap, cur, rfl, hb, hg, hnc, hcm, hcs, htk⟩
  · have hr := Lib.run_append_nil_zeros (P := Try.prog) W 22 3 22 26 i _ .i64 .i64 Try.underlying22 Try.underlying3 hi hz0 30 (by omega) (by omega) (by omega) (by omega)
    exact ⟨_, _, hr, ⟨rfl, rfl, rfl, by simp, fun k hk _ => heap_alloc_old W.drew _ k hk⟩⟩
  · by_cases hroom : n + 30 ≤ cap
    · have hzs : (Builtin.zeroCells #[Value.int .u8 0, .int .i64 0] 30).toList.length = 60 := by simp [Builtin.zeroCells]
      have hst := run_storeCells_at Try.prog g (n * 2) 26 (Builtin.zeroCells #[.int .u8 0, .int .i64 0] 30).toList 0 cur W hg (by rw [hcs, hzs]; omega) (fun u hu => by
        simp [Builtin.zeroCells] at hu
        obtain ⟨j, _, rfl⟩ := hu
        rcases Nat.mod_two_eq_zero_or_one j with e | e <;> rw [e] <;> rfl)
      simp only [Nat.add_zero] at hst
      obtain ⟨zs, hzz⟩ : ∃ zs, Builtin.zeroCells #[Value.int .u8 0, .int .i64 0] 30 = zs := ⟨_, rfl⟩
      rw [hzz] at hst
      generalize (List.take (n * 2) cur.toList ++ zs.toList ++ List.drop (n * 2 + zs.toList.length) cur.toList).toArray = R at hst
      refine ⟨.slice (some ⟨g, 0, none⟩) (n + 30) cap, W.setRow g R, ?_, ⟨rfl, rfl, rfl, by simp, fun k _ hk => setRow_other W g k _ (fun e => hk (by simp [Value.ownBlock, e]))⟩⟩
      simp [Builtin.append_, run_underlying Try.underlying22, run_underlying Try.underlying3, sizeOf, typeInfo, zeroValue, hi, hz0, hz1, hz2, asInt, asIntOf, hw, hroom, Addr.add_lit, Value.cells, hzz, hst]
    · have hn2 : ¬ (n + 30 ≤ cap) := hroom
      have hfo := run_firstCells_some (P := Try.prog) W.drew 2 n ⟨g, 0, none⟩ n cap xs h.1 (fun j v hj => by
        have := h.cells (g := g) rfl j v hj
        exact this)
      have hfit := growslice_fits (need := n + 30) (old := cap) (bytes := 16) (by omega) (by omega)
      have h48' : ¬ (281474976710656 < Builtin.nextslicecap (n + 30) cap * 16) := by omega
      have key : ∃ (v' : Value) (o : Obj), (Builtin.append_ #[22, 3] 22 #[.slice (some ⟨g, 0, none⟩) n cap, .int .i64 30]).run Try.prog W = .ok v' (W.drew.alloc o) := by
        simp [Builtin.append_, run_underlying Try.underlying22, run_underlying Try.underlying3, sizeOf, typeInfo, zeroValue, hi, hz0, hz1, hz2, asInt, asIntOf, hw, hn2, h48', Question.forced, hfo, newRow]
        rw [if_neg (by omega)]
        exact ⟨_, _, rfl⟩
      obtain ⟨v', o, hr⟩ := key
      have hg2 := World.grownBy_alloc W.drew o none
      exact ⟨v', _, hr, ⟨hg2.os, hg2.tape, hg2.output, hg2.size, fun k hk hne => hg2.block k hk (by simp)⟩⟩
end Go.Proofs.Ytolafffpgkgadaa
