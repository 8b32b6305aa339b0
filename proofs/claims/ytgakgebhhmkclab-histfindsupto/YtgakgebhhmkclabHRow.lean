/-
  Rows of texts as they lie in memory; what stays while something else is turned; SameTexts of two rows with the same texts. Conditions: those of each theorem.
-/
import Derived.Test.YtgakgebhhmkclabRows
import Derived.WalkKit
import Derived.WalkLawsBesides
import Derived.WalkSpells
import Derived.OwnWalk
import Derived.RangeFuncRecord
import Derived.Laws.AppendOwnNone
import Derived.Laws.MakeOwn
import Derived.Deep.DeepCutAuto
import Derived.Deep.AppendLies
import Derived.Deep.RegionHeld3
import Derived.BigQuiet
namespace Go.Proofs.Ytgakgebhhmkclab
open Go.RowKit
abbrev Tl := List ByteArray
/-- texts as values -/
def sv (l : Tl) : List Value := l.map Value.string
theorem sv_len (l : Tl) : (sv l).length = l.length := List.length_map ..
theorem sv_get {l : Tl} {k : Nat} {s : ByteArray} (h : l[k]? = some s) : (sv l)[k]? = some (.string s) := by simp [sv, h]
theorem sv_app (l m : Tl) : sv (l ++ m) = sv l ++ sv m := List.map_append ..
theorem sv_take (l : Tl) (n : Nat) : sv (l.take n) = (sv l).take n := List.map_take ..
theorem set1 {W : World} {b i : Nat} {vs : Array Value} {t : TypeId} {fz : Nat × Nat} (u : Value) (h : W.heap[b]? = some (.cells vs t fz)) : (W.setCell ⟨b, i, none⟩ u).heap[b]? = some (.cells (vs.setIfInBounds i u) t fz) := by
  unfold World.setCell
  show (W.heap.modify b _)[b]? = _
  rw [Array.getElem?_modify, if_pos rfl, h]
  rfl
theorem gcell (W : World) (b i : Nat) (u : Value) : W.grownBy (W.setCell ⟨b, i, none⟩ u) (some b) :=
  ⟨rfl, rfl, rfl, by simp [World.setCell], fun k _ hne => by unfold World.setCell; simp only; rw [Array.getElem?_modify, if_neg (fun e => hne (by rw [e]))]⟩
theorem grown0 (W : World) (r : Option Nat) : W.grownBy W r := ⟨rfl, rfl, rfl, Nat.le_refl _, fun _ _ _ => rfl⟩
theorem grown2 {A B C : World} {r : Option Nat} (h : A.grownBy B r) (g : B.grownBy C r) : A.grownBy C r :=
  ⟨g.os.trans h.os, g.tape.trans h.tape, g.output.trans h.output, Nat.le_trans h.size g.size, fun k hk hne => (g.block k (Nat.lt_of_lt_of_le hk h.size) hne).trans (h.block k hk hne)⟩
theorem row_slice {W : World} {base c n : Nat} {e : TypeId} {v : Value} {xs : List Value} (h : W.ownsRow base e c v n xs) : ∃ a k, v = .slice a n k ∧ (a = none → k = 0) := by
  rcases h.2 with ⟨rfl, rfl⟩ | ⟨g, cap, cur, rfl, _⟩
  · exact ⟨_, _, rfl, fun _ => rfl⟩
  · exact ⟨_, _, rfl, fun e => by cases e⟩
theorem row_below {W W' : World} {base c n : Nat} {e : TypeId} {v : Value} {xs : List Value} (h : W.ownsRow base e c v n xs) (hb : Below W.heap.size W W') : W'.ownsRow base e c v n xs :=
  ⟨h.1, h.2.imp id (fun ⟨g, cap, cur, h1, h2, h3, h4⟩ => ⟨g, cap, cur, h1, h2, (hb.block g (Array.getElem?_eq_some_iff.1 h3).1).trans h3, h4⟩)⟩
theorem row_base {W : World} {base base' c n : Nat} {e : TypeId} {v : Value} {xs : List Value} (h : W.ownsRow base e c v n xs) (hb : base' ≤ base) : W.ownsRow base' e c v n xs :=
  ⟨h.1, h.2.imp id (fun ⟨g, cap, cur, h1, h2, h3⟩ => ⟨g, cap, cur, h1, by omega, h3⟩)⟩
theorem row_blk {W : World} {base c n g : Nat} {e : TypeId} {v : Value} {xs : List Value} (h : W.ownsRow base e c v n xs) (hg : v.ownBlock = some g) : (∃ cur, W.heap[g]? = some (.cells cur e (0, 0))) ∧ base ≤ g ∧ g < W.heap.size := by
  have hl := h.lt g hg
  rcases h.2 with ⟨rfl, _⟩ | ⟨g', cap, cur, rfl, hb, hc, _⟩
  · cases hg
  · cases hg; exact ⟨⟨cur, hc⟩, hl⟩
theorem row_cut {W : World} {base c n m cap : Nat} {a : Option Addr} {e : TypeId} {xs : List Value} (h : W.ownsRow base e c (.slice a n cap) n xs) (hm : m ≤ n) (h0 : a ≠ none) : W.ownsRow base e c (.slice a m cap) m (xs.take (m * c)) := by
  obtain ⟨hl, h⟩ := h
  rcases h with ⟨h1, _⟩ | ⟨g, cap', cur, h1, h2, h3, h4, h5, h6, h7⟩
  · cases h1; exact absurd rfl h0
  · obtain ⟨rfl, _, rfl⟩ := Value.slice.inj h1
    have hmc : m * c ≤ n * c := Nat.mul_le_mul_right _ hm
    refine ⟨by rw [List.length_take, hl]; omega, .inr ⟨g, cap, cur, rfl, h2, h3, by omega, h5, h6, ?_⟩⟩
    rw [← h7, List.take_take, Nat.min_eq_left hmc]
theorem cells_of {W : World} {g : Nat} {cur : Array Value} {t : TypeId} {n : Nat} {xs : List Value} (hc : W.heap[g]? = some (.cells cur t (0, 0))) (ht : cur.toList.take n = xs) : ∀ j u, xs[j]? = some u → W.cell? ⟨g, 0 + j, none⟩ = some u := by
  intro j u hu
  rw [← ht] at hu
  have hj : j < n := by
    rcases Nat.lt_or_ge j n with h | h
    · exact h
    · rw [List.getElem?_take_eq_none h] at hu; cases hu
  rw [List.getElem?_take_of_lt hj, Array.getElem?_toList] at hu
  simp [World.cell?, hc, hu]
theorem there_of {W : World} {g j : Nat} {cur : Array Value} {t : TypeId} (hc : W.heap[g]? = some (.cells cur t (0, 0))) (hj : j < cur.size) : (W.cell? ⟨g, j, none⟩).isSome = true := by simp [World.cell?, hc, hj]
theorem frozen_of {W : World} {g j : Nat} {cur : Array Value} {t : TypeId} (hc : W.heap[g]? = some (.cells cur t (0, 0))) : W.frozen? ⟨g, j, none⟩ = false := by simp [World.frozen?, hc]
theorem box4 {W : World} {b : Nat} {v0 v1 v2 v3 : Value} {t : TypeId} (h : W.heap[b]? = some (.cells #[v0, v1, v2, v3] t (0, 0))) :
    (W.cell? ⟨b, 0, none⟩ = some v0 ∧ W.cell? ⟨b, 1, none⟩ = some v1 ∧ W.cell? ⟨b, 2, none⟩ = some v2 ∧ W.cell? ⟨b, 3, none⟩ = some v3) ∧
    W.frozen? ⟨b, 0, none⟩ = false ∧ W.frozen? ⟨b, 1, none⟩ = false ∧ W.frozen? ⟨b, 2, none⟩ = false ∧ W.frozen? ⟨b, 3, none⟩ = false := by
  simp [World.cell?, World.frozen?, h]
theorem row_of_heap {W W' : World} {base c n : Nat} {e : TypeId} {v : Value} {xs : List Value} (h : W.ownsRow base e c v n xs) (e2 : ∀ g, v.ownBlock = some g → W'.heap[g]? = W.heap[g]?) : W'.ownsRow base e c v n xs := by
  refine ⟨h.1, ?_⟩
  rcases h.2 with ⟨h1, h2⟩ | ⟨g, cap, cur, h1, hb, hc, h3⟩
  · exact .inl ⟨h1, h2⟩
  · exact .inr ⟨g, cap, cur, h1, hb, (e2 g (by rw [h1]; rfl)).trans hc, h3⟩
/-- a text of a ring's row, where it lies -/
theorem row_at {W : World} {base : Nat} {a : Option Addr} {n c k : Nat} {l : Tl} {s : ByteArray} (h : W.ownsRow base 9 1 (.slice a n c) n (sv l)) (hk : l[k]? = some s) : ∃ g, a = some ⟨g, 0, none⟩ ∧ W.cell? ⟨g, k, none⟩ = some (.string s) := by
  rcases h.2 with ⟨h1, h2⟩ | ⟨g, cap, cur, h1, hb, hc, _, _, _, h3⟩
  · have := h.1
    rw [sv_len, h2] at this
    rw [show l = [] from List.eq_nil_of_length_eq_zero (by omega)] at hk; cases hk
  · obtain ⟨rfl, _, _⟩ := Value.slice.inj h1
    have := cells_of hc h3 k _ (sv_get hk)
    rw [Nat.zero_add] at this
    exact ⟨g, rfl, this⟩
theorem row_froz {W : World} {base n : Nat} {g k c : Nat} {xs : List Value} (h : W.ownsRow base 9 1 (.slice (some ⟨g, 0, none⟩) n c) n xs) : W.frozen? ⟨g, k, none⟩ = false := by
  rcases h.2 with ⟨h1, _⟩ | ⟨g', cap, cur, h1, hb, hc, _⟩
  · cases h1
  · obtain ⟨e, _, _⟩ := Value.slice.inj h1
    cases e
    exact frozen_of hc
theorem infoS : (Try.prog.info? 9).map (fun i => (i.zero, i.size, i.bytes)) = some (some (.string ⟨#[]⟩), 1, 16) := by kernel_rfl
theorem sv_snoc {l : Tl} {k : Nat} {s : ByteArray} (h : l[k]? = some s) : sv (l.take (k + 1)) = sv (l.take k) ++ [.string s] := by rw [List.take_add_one, h]; simp [sv]
/-- one text appended to a row of the call's own -/
theorem app_one {W : World} {ops : Array Oper} {rest : List Oper} {o : Oper} {a : Act} {Q : Exit → Act → World → Prop} (hgd : o.guard = none) (s x : Operand)
    (ho : o.op = .call { callee := .builtin .append, args := #[s, x], argTypes := #[22, 22] }) (base : Nat) (v : Value) (n : Nat) (X : List Value) (hs : a.eval s = v) (p : ByteArray) (hown : W.ownsRow base 9 1 v n X)
    (hx : a.eval x = .slice (some ⟨W.heap.size, 0, none⟩) 1 1) (h63 : n ≤ 4398046511104) (hbase : base ≤ W.heap.size)
    (h : ∀ v' w', w'.ownsRow base 9 1 v' (n + 1) (X ++ [.string p]) → (W.alloc (.cells #[.string p] 9)).grownBy w' v.ownBlock → (v'.ownBlock = v.ownBlock ∨ v'.ownBlock = some (W.heap.size + 1)) → wpList Try.prog ops Q rest (a.put o.dst v') w') :
    wpList Try.prog ops Q (o :: rest) a (W.alloc (.cells #[.string p] 9)) := by
  obtain ⟨i0, hi, hz0, hz1, hz2⟩ := info_parts infoS
  refine wpList_append_own_at _ hgd s x 22 ho base 9 i0 _ 1 16 Try.underlying22 hi hz0 hz1 hz2 rfl (by decide) v n X hs (hown.alloc _) ⟨W.heap.size, 0, none⟩ 1 1 [.string p] hx rfl (World.news_of_block (World.alloc_heap_new W _)) (by simp [Value.oneCell']) (by unfold maxLen; omega) (by omega) (by simp; omega) (fun v' w' h1 h2 _ h4 => h v' w' h1 h2 ?_)
  simpa using h4
/-- a row of texts appended to a row of the call's own -/
theorem app_row {W : World} {ops : Array Oper} {rest : List Oper} {o : Oper} {a : Act} {Q : Exit → Act → World → Prop} (hgd : o.guard = none) (s x : Operand)
    (ho : o.op = .call { callee := .builtin .append, args := #[s, x], argTypes := #[22, 22] }) (base : Nat) (v : Value) (n : Nat) (xs : List Value) (hs : a.eval s = v) (hown : W.ownsRow base 9 1 v n xs) (base' : Nat)
    (ad : Option Addr) (m c : Nat) (l : Tl) (hx : a.eval x = .slice ad m c) (hz : ad = none → c = 0) (hrow : W.ownsRow base' 9 1 (.slice ad m c) m (sv l)) (h63 : n + m ≤ 4398046511104) (hbase : base ≤ W.heap.size)
    (h : ∀ v' w', w'.ownsRow base 9 1 v' (n + m) (xs ++ sv l) → W.grownBy w' v.ownBlock → (v'.ownBlock = v.ownBlock ∨ v'.ownBlock = some W.heap.size) → wpList Try.prog ops Q rest (a.put o.dst v') w') :
    wpList Try.prog ops Q (o :: rest) a W := by
  obtain ⟨i0, hi, hz0, hz1, hz2⟩ := info_parts infoS
  have hl : l.length = m := by have := hrow.1; rw [sv_len] at this; omega
  cases ad with
  | none =>
    obtain rfl := hz rfl
    have hm : m = 0 := by
      rcases hrow.2 with ⟨e, h⟩ | ⟨g, cap, cur, e, _⟩
      · exact h
      · cases e
    subst hm
    have hln : l = [] := List.eq_nil_of_length_eq_zero hl
    subst hln
    have h1 := h v W (by simpa [sv] using hown) (grown0 _ _) (.inl rfl)
    exact wpList_append_own_none hgd s x 22 ho base 9 i0 1 Try.underlying22 hi v n xs hs hown hx h1
  | some ad =>
    refine wpList_append_own_at _ hgd s x 22 ho base 9 i0 _ 1 16 Try.underlying22 hi hz0 hz1 hz2 rfl (by decide) v n xs hs hown ad m c (sv l) hx (by rw [sv_len, hl, Nat.mul_one]) (fun j u hj => ?_) (fun u hu => ?_) (by unfold maxLen; omega) (by omega) hbase (fun v' w' h1 h2 _ h4 => h v' w' h1 h2 h4)
    · obtain ⟨y, hy⟩ : ∃ y, l[j]? = some y := by
        have := (List.getElem?_eq_some_iff.1 hj).1
        rw [sv_len] at this
        exact ⟨_, List.getElem?_eq_getElem this⟩
      rw [sv_get hy] at hj
      obtain ⟨g, e, hc⟩ := row_at hrow hy
      cases e
      rw [Go.WideShapes.add_plain, Nat.zero_add, hc, hj]
    · obtain ⟨y, _, rfl⟩ := List.mem_map.1 hu
      rfl
theorem drewN_below (n : Nat) (W : World) (m : Nat) : Below n W (W.drewN m) := ⟨rfl, rfl, rfl, Nat.le_refl _, fun _ _ => rfl⟩
/-- a slice that reads as the texts l -/
def RdS (W : World) (v : Value) (l : Tl) : Prop := ∃ a c, v = .slice a l.length c ∧ (l ≠ [] → ∃ g o, a = some ⟨g, o, none⟩ ∧ g < W.heap.size ∧ ∀ (k : Nat) s, l[k]? = some s → W.cell? ⟨g, o + k, none⟩ = some (.string s))
theorem RdS.below {W W' : World} {n : Nat} {v : Value} {l : Tl} (h : RdS W v l) (hn : W.heap.size ≤ n) (hb : Below n W W') : RdS W' v l := by
  obtain ⟨a, cap, e, h⟩ := h
  refine ⟨a, cap, e, fun h0 => ?_⟩
  obtain ⟨g, o, e, hg, hc⟩ := h h0
  exact ⟨g, o, e, by have := hb.size; omega, fun k x hk => (hb.cell (p := ⟨g, o + k, none⟩) (by simp; omega)).trans (hc k x hk)⟩
theorem RdS.of_row {W : World} {base n : Nat} {v : Value} {l : Tl} (h : W.ownsRow base 9 1 v n (sv l)) : RdS W v l := by
  have hl : l.length = n := by have := h.1; rw [sv_len] at this; omega
  obtain ⟨a, c, rfl, _⟩ := row_slice h
  refine ⟨a, c, by rw [hl], fun h0 => ?_⟩
  obtain ⟨x, l', rfl⟩ := List.exists_cons_of_ne_nil h0
  obtain ⟨g, rfl, _⟩ := row_at (k := 0) h rfl
  refine ⟨g, 0, rfl, (row_blk h rfl).2.2, fun k s hk => ?_⟩
  obtain ⟨g', e, hc⟩ := row_at h hk
  cases e
  rw [Nat.zero_add]
  exact hc
theorem str_eq (s : ByteArray) (w : World) : (binOp .neq 9 (.string s) (.string s)).run Try.prog w = .ok (.bool false) w := by simp [go_sem]
end Go.Proofs.Ytgakgebhhmkclab
