/-
  The document's own set of marks as it lies in memory: its block and its list; Good, place, Len, Get, All, Clear. Conditions: those of each theorem.
-/
import Derived.Test.YtolafffpgkgadaaELst
import Derived.Laws.AppendOwnNone
namespace Go.Proofs.Ytolafffpgkgadaa
open Go.RowKit

/-- the block rb is the document's set with the marks L, which lie in the row v -/
structure Rs (W : World) (base rb : Nat) (v : Value) (L : Ml) : Prop where
  box : W.heap[rb]? = some (.cells #[v] 69 (0, 0))
  row : W.ownsRow base 26 2 v L.length (kcl L)
  low : base ≤ rb
  ris : Ris L
  fit : Fit8 L
theorem Rs.lt {W : World} {base rb : Nat} {v : Value} {L : Ml} (h : Rs W base rb v L) : rb < W.heap.size := (Array.getElem?_eq_some_iff.1 h.box).1
theorem Rs.cell {W : World} {base rb : Nat} {v : Value} {L : Ml} (h : Rs W base rb v L) : W.cell? ⟨rb, 0, none⟩ = some v := by simp [World.cell?, h.box]
theorem Rs.frozen {W : World} {base rb : Nat} {v : Value} {L : Ml} (h : Rs W base rb v L) : W.frozen? ⟨rb, 0, none⟩ = false := by simp [World.frozen?, h.box]
theorem Rs.rd {W : World} {base rb : Nat} {v : Value} {L : Ml} (h : Rs W base rb v L) : RdK W v L := RdK.of_row h.row
theorem Rs.blk {W : World} {base rb g : Nat} {v : Value} {L : Ml} (h : Rs W base rb v L) (hg : v.ownBlock = some g) : ∃ cur, W.heap[g]? = some (.cells cur 26 (0, 0)) ∧ base ≤ g := by
  rcases h.row.2 with ⟨rfl, _⟩ | ⟨g', cap, cur, rfl, hb, hc, _⟩
  · cases hg
  · cases hg; exact ⟨cur, hc, hb⟩
theorem Rs.of_heap {W W' : World} {base rb : Nat} {v : Value} {L : Ml} (h : Rs W base rb v L) (e : W'.heap[rb]? = W.heap[rb]?) (e2 : ∀ g, v.ownBlock = some g → W'.heap[g]? = W.heap[g]?) : Rs W' base rb v L := by
  refine ⟨e.trans h.box, ⟨h.row.1, ?_⟩, h.low, h.ris, h.fit⟩
  rcases h.row.2 with ⟨h1, h2⟩ | ⟨g, cap, cur, h1, hb, hc, h3⟩
  · exact .inl ⟨h1, h2⟩
  · exact .inr ⟨g, cap, cur, h1, hb, (e2 g (by rw [h1]; rfl)).trans hc, h3⟩
theorem Rs.below {W W' : World} {base rb : Nat} {v : Value} {L : Ml} (h : Rs W base rb v L) (hb : Below W.heap.size W W') : Rs W' base rb v L :=
  h.of_heap (hb.block rb h.lt) (fun g hg => by obtain ⟨cur, hc, _⟩ := h.blk hg; exact hb.block g (Array.getElem?_eq_some_iff.1 hc).1)
/-- another row is the same, none, or a new one -/
def Nx (w : World) (r r' : Option Nat) : Prop := ∀ k, r' = some k → r = some k ∨ w.heap.size ≤ k
theorem Nx.refl (w : World) (r : Option Nat) : Nx w r r := fun _ h => .inl h
theorem Nx.none (w : World) (r : Option Nat) : Nx w r .none := fun _ h => by cases h
theorem Nx.trans {w w1 : World} {r r' r'' : Option Nat} (h : Nx w r r') (hs : w.heap.size ≤ w1.heap.size) (g : Nx w1 r' r'') : Nx w r r'' := fun k e => by
  rcases g k e with h1 | h1
  · exact h k h1
  · exact .inr (by omega)
theorem Ch.transx {b : Nat} {r r' : Option Nat} {w w1 w2 : World} (h : Ch b r w w1) (hr : Nx w r r') (g : Ch b r' w1 w2) : Ch b r w w2 :=
  ⟨g.1.trans h.1, g.2.1.trans h.2.1, g.2.2.1.trans h.2.2.1, Nat.le_trans h.2.2.2.1 g.2.2.2.1, fun k hk hb hn => by
    rw [g.2.2.2.2 k (Nat.lt_of_lt_of_le hk h.2.2.2.1) hb (fun e => ?_), h.2.2.2.2 k hk hb hn]
    rcases hr k e with h1 | h1
    · exact hn h1
    · omega⟩
theorem Ch.more {b : Nat} {r : Option Nat} {w w' : World} (h : Ch b none w w') : Ch b r w w' := ⟨h.1, h.2.1, h.2.2.1, h.2.2.2.1, fun k hk hb _ => h.2.2.2.2 k hk hb (by simp)⟩
/-- the program's set stays while the document's is turned -/
theorem St.keptR {W W' : World} {sb rb base : Nat} {mb : Option Nat} {v : Value} {L M : Ml} (h : St W sb mb L) (hr : Rs W base rb v M) (hc : Ch rb v.ownBlock W W') : St W' sb mb L := by
  have ne1 : sb ≠ rb := fun e => by
    have h1 := h.box; rw [e, hr.box] at h1; injection h1 with h1; injection h1 with _ ht _; exact absurd ht (by decide)
  refine h.kept hc ne1 (fun e => ?_) (fun b hm => ⟨fun e => ?_, fun e => ?_⟩)
  · obtain ⟨cur, hc, _⟩ := hr.blk e
    rw [h.box] at hc; injection hc with h1; injection h1 with _ ht _; exact absurd ht (by decide)
  · obtain ⟨es, clock, hb, _⟩ := (h.own b hm).2.1
    rw [e, hr.box] at hb; cases hb
  · obtain ⟨es, clock, hb, _⟩ := (h.own b hm).2.1
    obtain ⟨cur, hc, _⟩ := hr.blk e
    rw [hc] at hb; cases hb
/-- the document's set stays while the program's is turned -/
theorem Rs.keptS {W W' : World} {sb rb base : Nat} {mb : Option Nat} {v : Value} {L M : Ml} (hr : Rs W base rb v M) (h : St W sb mb L) (hc : Ch sb mb W W') : Rs W' base rb v M := by
  refine hr.of_heap (hc.2.2.2.2 rb hr.lt (fun e => ?_) (fun e => ?_)) (fun g hg => ?_)
  · have h1 := h.box; rw [← e, hr.box] at h1; injection h1 with h1; injection h1 with _ ht _; exact absurd ht (by decide)
  · obtain ⟨es, clock, hb, _⟩ := (h.own rb e).2.1
    rw [hr.box] at hb; cases hb
  · obtain ⟨cur, hcg, _⟩ := hr.blk hg
    refine hc.2.2.2.2 g (Array.getElem?_eq_some_iff.1 hcg).1 (fun e => ?_) (fun e => ?_)
    · rw [e, h.box] at hcg; injection hcg with h1; injection h1 with _ ht _; exact absurd ht (by decide)
    · obtain ⟨es, clock, hb, _⟩ := (h.own g e).2.1
      rw [hcg] at hb; cases hb
/-- two of the document's sets side by side -/
theorem Rs.keptRR {W W' : World} {rb rb' base base' : Nat} {v v' : Value} {L M : Ml} (hr : Rs W base rb v M) (h : Rs W base' rb' v' L) (hc : Ch rb' v'.ownBlock W W') (h1 : rb ≠ rb') (h2 : ∀ g, v.ownBlock = some g → v'.ownBlock ≠ some g) : Rs W' base rb v M := by
  refine hr.of_heap (hc.2.2.2.2 rb hr.lt h1 (fun e => ?_)) (fun g hg => ?_)
  · obtain ⟨cur, hcg, _⟩ := h.blk e
    rw [hr.box] at hcg; injection hcg with h1; injection h1 with _ ht _; exact absurd ht (by decide)
  · obtain ⟨cur, hcg, _⟩ := hr.blk hg
    refine hc.2.2.2.2 g (Array.getElem?_eq_some_iff.1 hcg).1 (fun e => ?_) (h2 g hg)
    rw [e, h.box] at hcg; injection hcg with h1; injection h1 with _ ht _; exact absurd ht (by decide)

set_option maxRecDepth 100000 in
theorem rgood_any {n : Nat} (h : n < 256) (w : World) : Calls Try.prog 22 #[.int .u8 (n : Int)] w fun e w' => e = .returned (.bool (gd n)) ∧ w' = w := by
  go_enter Try.func22, Try.ntmps22
  go_wp2
  all_goals go_ret
  all_goals (refine ⟨congrArg (fun b => Ending.returned (.bool b)) ?_, rfl⟩; rw [Bool.eq_iff_iff]; simp [gd]; try omega)
set_option maxRecDepth 100000 in
theorem rlen_any {w : World} {base rb : Nat} {v : Value} {L : Ml} (h : Rs w base rb v L) : Calls Try.prog 33 #[.pointer (some ⟨rb, 0, none⟩)] w fun e w' => e = .returned (.int .i64 (L.length : Int)) ∧ w' = w := by
  obtain ⟨a, c, rfl, _⟩ := h.rd
  have hc := h.cell
  clear h
  go_enter Try.func33, Try.ntmps33
  go_wp2
  go_ret
  exact ⟨rfl, rfl⟩
set_option maxRecDepth 100000 in
theorem rclear_any {w : World} {base rb : Nat} {v : Value} {L : Ml} (h : Rs w base rb v L) : Calls Try.prog 38 #[.pointer (some ⟨rb, 0, none⟩)] w fun e w' => e = .returned (.tuple #[]) ∧ Rs w' base rb (.slice none 0 0) [] ∧ Ch rb none w w' := by
  have hc := h.cell
  have hf := h.frozen
  have hx := set1 (i := 0) (.slice none 0 0) h.box
  have hg := gcell w rb 0 (.slice none 0 0)
  have HX : Hid (Rs (w.setCell ⟨rb, 0, none⟩ (.slice none 0 0)) base rb (.slice none 0 0) [] ∧ Ch rb none w (w.setCell ⟨rb, 0, none⟩ (.slice none 0 0))) :=
    ⟨⟨hx, World.ownsRow_nil _ _ _ _, h.low, List.Pairwise.nil, fun _ h => by cases h⟩, hg.os, hg.tape, hg.output, hg.size, fun k hk hb _ => hg.block k hk (fun e => hb (Option.some.inj e))⟩
  clear h hx hg
  go_enter Try.func38, Try.ntmps38
  go_wp2
  go_end0
  exact ⟨rfl, HX.out⟩
set_option maxRecDepth 100000 in
theorem rplace_any {w : World} {base rb : Nat} {v : Value} {L : Ml} (h : Rs w base rb v L) {n : Nat} :
    Calls Try.prog 47 #[.pointer (some ⟨rb, 0, none⟩), .int .u8 (n : Int)] w fun e w' => ∃ z : Int, e = .returned (.int .i64 z) ∧ w' = w ∧ (z = -1 ∧ got n L = none ∨ ∃ (k : Nat) (p : Nat × Int), z = (k : Int) ∧ L[k]? = some p ∧ p.1 = n ∧ got n L = some p.2) := by
  obtain ⟨N, hN⟩ : ∃ N, L.length = N := ⟨_, rfl⟩
  have hl8 := len8 h.ris h.fit
  have hc := h.cell
  have HR : Hid (RdK w v L) := h.rd
  have HF : Hid (L.length = N ∧ Ris L) := ⟨hN, h.ris⟩
  obtain ⟨a, c, rfl, _⟩ := h.rd
  rw [hN] at hc hl8 HR
  clear h hN
  go_enter Try.func47, Try.ntmps47
  go_wp2
  go_loopw [5] (fun t5 wr => ∃ k : Nat, k ≤ N ∧ t5 = .int .i64 k ∧ wr = w ∧ Hid (∀ p ∈ L.take k, p.1 ≠ n)) (fun t5 _ => N - (intOf t5).toNat)
  case atStart => exact ⟨0, Nat.zero_le _, rfl, rfl, fun p hp => by simp at hp⟩
  case round =>
    obtain ⟨k, hk, rfl, rfl, HK⟩ := hrel
    by_cases hlt : k < N
    · obtain ⟨p, hp⟩ : ∃ p, L[k]? = some p := ⟨L[k]'(by rw [HF.out.1]; exact hlt), List.getElem?_eq_getElem _⟩
      obtain ⟨a', cap', ev, hrd⟩ := HR.out
      obtain ⟨rfl, hmq, rfl⟩ := Value.slice.inj ev
      clear ev hmq
      obtain ⟨g, o, rfl, hg, hcs⟩ := hrd (fun e => by rw [e] at hp; cases hp)
      obtain ⟨y0, y1⟩ := hcs k p hp
      have HP : Hid (L[k]? = some p) := hp
      clear hrd hcs hp
      by_cases e : p.1 = n
      · have e' : (p.1 : Int) = (n : Int) := by omega
        have HE : Hid (p.1 = n) := e
        clear e
        go_wp2
        go_ret
        exact ⟨_, rfl, rfl, .inr ⟨k, p, rfl, HP.out, HE.out, got_of_mem HF.out.2 (by rw [← HE.out]; exact List.mem_of_getElem? HP.out)⟩⟩
      · have e' : ¬ (p.1 : Int) = (n : Int) := by omega
        have HE : Hid (p.1 ≠ n) := e
        clear e
        go_wp2
        refine ⟨⟨k + 1, by omega, by go_num, trivial, fun q hq => ?_⟩, by simp [intOf]; omega⟩
        rw [List.take_add_one, HP.out] at hq
        rcases List.mem_append.1 hq with hq | hq
        · exact HK.out q hq
        · simp at hq; rw [hq]; exact HE.out
    · go_wp2
      go_ret
      refine ⟨_, rfl, rfl, .inl ⟨rfl, got_none.2 fun p hp => HK.out p ?_⟩⟩
      rw [List.take_of_length_le (by rw [HF.out.1]; omega)]
      exact hp
set_option maxRecDepth 100000 in
theorem rget_any {w : World} {base rb : Nat} {v : Value} {L : Ml} (h : Rs w base rb v L) {n : Nat} (hn : n < 256) :
    Calls Try.prog 34 #[.pointer (some ⟨rb, 0, none⟩), .int .u8 (n : Int)] w fun e w' => e = .returned (.tuple #[.int .i64 (getE n L).1, .int .i64 (getE n L).2]) ∧ w' = w := by
  have CG := rgood_any hn w
  cases hg : gd n with
  | false =>
    rw [hg] at CG
    go_enter Try.func34, Try.ntmps34
    go_wp2_with (go_at_call 22; refine CG.mono ?_; rintro e w1 ⟨rfl, rfl⟩)
    go_ret2
    exact ⟨by simp [getE, hg], rfl⟩
  | true =>
    rw [hg] at CG
    have CP := rplace_any (n := n) h
    have hl8 := len8 h.ris h.fit
    have hc := h.cell
    have HR : Hid (RdK w v L) := h.rd
    have HG : Hid (gd n = true) := hg
    obtain ⟨a, c, rfl, _⟩ := h.rd
    cases hq : got n L with
    | none =>
      have HQ : Hid (got n L = none) := hq
      have CP2 : Calls Try.prog 47 #[.pointer (some ⟨rb, 0, none⟩), .int .u8 (n : Int)] w fun e w' => e = .returned (.int .i64 (-1)) ∧ w' = w := CP.mono (by
        rintro e w' ⟨z, rfl, rfl, ⟨rfl, _⟩ | ⟨k, p, _, _, _, h3⟩⟩
        · exact ⟨rfl, rfl⟩
        · rw [hq] at h3; cases h3)
      clear CP hg hq h
      go_enter Try.func34, Try.ntmps34
      go_wp2_with (first
        | (go_at_call 22; refine CG.mono ?_; clear CG; rintro e w1 ⟨rfl, rfl⟩)
        | (go_at_call 47; refine CP2.mono ?_; clear CP2; rintro e w1 ⟨rfl, rfl⟩))
      go_ret2
      exact ⟨by simp [getE, HG.out, HQ.out], rfl⟩
    | some y =>
      have HQ : Hid (got n L = some y) := hq
      have CP2 : Calls Try.prog 47 #[.pointer (some ⟨rb, 0, none⟩), .int .u8 (n : Int)] w fun e w' => ∃ (k : Nat) (p : Nat × Int), e = .returned (.int .i64 (k : Int)) ∧ w' = w ∧ L[k]? = some p ∧ p.2 = y := CP.mono (by
        rintro e w' ⟨z, rfl, rfl, ⟨_, h3⟩ | ⟨k, p, rfl, h1, _, h3⟩⟩
        · rw [hq] at h3; cases h3
        · rw [hq] at h3; exact ⟨k, p, rfl, rfl, h1, (Option.some.inj h3).symm⟩)
      clear CP hg hq
      obtain ⟨N, hN⟩ : ∃ N, L.length = N := ⟨_, rfl⟩
      have HN : Hid (L.length = N) := hN
      rw [hN] at hc hl8 HR
      clear hN h
      go_enter Try.func34, Try.ntmps34
      go_wp2_with (first
        | (go_at_call 22; refine CG.mono ?_; clear CG; rintro e w1 ⟨rfl, rfl⟩)
        | (go_at_call 47; refine CP2.mono ?_; clear CP2; rintro e w1 ⟨k, p, rfl, rfl, hp, hy⟩; have hk : k < N := (by rw [← HN.out]; exact (List.getElem?_eq_some_iff.1 hp).1); obtain ⟨a', cap', ev, hrd⟩ := HR.out; obtain ⟨rfl, hmq, rfl⟩ := Value.slice.inj ev; clear ev hmq; obtain ⟨g, o, rfl, hg, hcs⟩ := hrd (fun e => by rw [e] at hp; cases hp); obtain ⟨y0, y1⟩ := hcs k p hp; rw [hy] at y1; clear hrd hcs hp hy))
      go_ret2
      exact ⟨by simp [getE, HG.out, HQ.out], rfl⟩
/-- a slice of marks that reads, appended to a row of the call's own -/
theorem app_rd {W : World} {ops : Array Oper} {rest : List Oper} {o : Oper} {a : Act} {Q : Exit → Act → World → Prop} (hgd : o.guard = none) (s x : Operand)
    (ho : o.op = .call { callee := .builtin .append, args := #[s, x], argTypes := #[22, 22] }) (base : Nat) (v : Value) (n : Nat) (xs : List Value) (hs : a.eval s = v) (hown : W.ownsRow base 26 2 v n xs)
    (ad : Option Addr) (m c : Nat) (l : Ml) (hx : a.eval x = .slice ad m c) (hz : ad = none → c = 0) (hl : l.length = m) (hrd : RdK W (.slice ad m c) l) (h63 : n + m ≤ 4398046511104) (hbase : base ≤ W.heap.size)
    (h : ∀ v' w', w'.ownsRow base 26 2 v' (n + m) (xs ++ kcl l) → W.grownBy w' v.ownBlock → (v'.ownBlock = v.ownBlock ∨ v'.ownBlock = some W.heap.size) → wpList Try.prog ops Q rest (a.put o.dst v') w') :
    wpList Try.prog ops Q (o :: rest) a W := by
  obtain ⟨i0, hi, hz0, hz1, hz2⟩ := info_parts infoM
  cases ad with
  | none =>
    obtain rfl := hz rfl
    obtain ⟨a', c', e, hr⟩ := hrd
    obtain ⟨rfl, _, _⟩ := Value.slice.inj e
    have hln : l = [] := Classical.byContradiction fun h0 => by obtain ⟨g, o, e, _⟩ := hr h0; cases e
    subst hln
    obtain rfl : m = 0 := hl.symm
    have h1 := h v W (by simpa [kcl] using hown) ⟨rfl, rfl, rfl, Nat.le_refl _, fun _ _ _ => rfl⟩ (.inl rfl)
    exact wpList_append_own_none hgd s x 22 ho base 26 i0 2 Try.underlying22 hi v n xs hs hown hx h1
  | some ad =>
    refine wpList_append_own_at _ hgd s x 22 ho base 26 i0 _ 2 16 Try.underlying22 hi hz0 hz1 hz2 rfl (by decide) v n xs hs hown ad m c (kcl l) hx (by rw [kcl_len, hl]) (fun j u hj => ?_) (fun u hu => ?_) (by unfold maxLen; omega) (by omega) hbase (fun v' w' h1 h2 _ h4 => h v' w' h1 h2 h4)
    · obtain ⟨a', c', e, hr⟩ := hrd
      obtain ⟨rfl, _, _⟩ := Value.slice.inj e
      have hj2 := (List.getElem?_eq_some_iff.1 hj).1
      rw [kcl_len] at hj2
      obtain ⟨g, o, e, hg, hc⟩ := hr (fun h0 => by rw [h0] at hj2; simp at hj2)
      cases e
      obtain ⟨p, hp⟩ : ∃ p, l[j / 2]? = some p := ⟨l[j / 2]'(by omega), List.getElem?_eq_getElem _⟩
      obtain ⟨c0, c1⟩ := hc _ p hp
      obtain ⟨k0, k1⟩ := kcl_get l _ p hp
      rw [Go.WideShapes.add_plain]
      rcases Nat.mod_two_eq_zero_or_one j with e | e
      · rw [show j = j / 2 * 2 by omega] at hj ⊢
        rw [k0] at hj; rw [c0, hj]
      · rw [show j = j / 2 * 2 + 1 by omega] at hj ⊢
        rw [k1] at hj; rw [← Nat.add_assoc, c1, hj]
    · obtain ⟨p, hp, hu⟩ := List.mem_flatMap.1 hu
      rcases List.mem_cons.1 hu with rfl | hu
      · rfl
      · rcases List.mem_cons.1 hu with rfl | hu
        · rfl
        · cases hu
set_option maxRecDepth 100000 in
theorem rall_any {w : World} {base rb : Nat} {v : Value} {L : Ml} (h : Rs w base rb v L) :
    Calls Try.prog 16 #[.pointer (some ⟨rb, 0, none⟩)] w fun e W' => ∃ v, e = .returned v ∧ W'.ownsRow w.heap.size 26 2 v L.length (kcl L) ∧ Below w.heap.size w W' := by
  obtain ⟨N, hN⟩ : ∃ N, L.length = N := ⟨_, rfl⟩
  have hl8 := len8 h.ris h.fit
  have hc := h.cell
  have HZ : Hid (∀ a m c, v = .slice a m c → a = none → c = 0) := fun a m c e e2 => by
    rcases h.row.2 with ⟨h1, _⟩ | ⟨g, cap, cur, h1, _⟩
    · rw [h1] at e; cases e; rfl
    · rw [h1] at e; cases e; cases e2
  have HR : Hid (RdK w v L) := h.rd
  have HN : Hid (L.length = N) := hN
  obtain ⟨a, c, rfl, _⟩ := h.rd
  rw [hN] at hc hl8 HR HZ ⊢
  clear h hN
  go_enter Try.func16, Try.ntmps16
  go_wp2_with (first
    | (at_builtin; refine app_rd rfl _ _ rfl w.heap.size _ 0 [] rfl (World.ownsRow_nil _ _ _ _) a N c L rfl (fun e => HZ.out _ _ _ rfl e) HN.out HR.out (by omega) (Nat.le_refl _) ?_; intro v' w1 hown hg _; have HO : Hid _ := hown; have HG : Hid _ := hg; clear hown hg))
  go_ret
  have h1 := HO.out
  simp only [Nat.zero_add, List.nil_append] at h1
  have h2 := HG.out
  exact ⟨_, rfl, h1, h2.os, h2.tape, h2.output, h2.size, fun k hk => h2.block k hk (fun e => by cases e)⟩
end Go.Proofs.Ytolafffpgkgadaa
