/-
  A set of package marks as it lies in memory: its block and its map; all, Good, Clear, Put. Conditions: those of each theorem.
-/
import Derived.Test.YtolafffpgkgadaaEMath
import Derived.WalkKit
import Derived.WalkLawsBesides
import Derived.WalkSpells
import Derived.OwnWalk
import Derived.Maps.OwnSet
import Derived.Maps.OwnOps
namespace Go.Proofs.Ytolafffpgkgadaa
open Go.RowKit Go.ChangeMaps Go.MapKept

theorem law8 : Maps.Keyed Try.prog 5 := Maps.int_keyed Try.underlying5
theorem zero64 (w : World) : (zeroValue 3).run Try.prog w = .ok (.int .i64 0) w := by kernel_rfl
theorem key8 {n : Nat} (h : n < 256) : keyOf Try.prog 5 (.int .u8 (n : Int)) = some (.int .u8 (n : Int)) := Maps.keyOf_int_mk Try.underlying5 (wf8 h)
theorem map_nil (w : World) : (binOp .eql 47 (.map none) (.map none)).run Try.prog w = .ok (.bool true) w := by kernel_rfl
theorem map_some (b : Nat) (w : World) : (binOp .eql 47 (.map (some b)) (.map none)).run Try.prog w = .ok (.bool false) w := by kernel_rfl

/-- the block b is a map that holds the marks L -/
def Mp (W : World) (b : Nat) (L : Ml) : Prop := W.ownsMap Try.prog 5 (plainElem Try.prog 3) b L.length (mk L) ∧ Ris L ∧ Fit8 L
theorem Mp.lt {W : World} {b : Nat} {L : Ml} (h : Mp W b L) : b < W.heap.size := h.1.lt
theorem Mp.of_heap {W W' : World} {b : Nat} {L : Ml} (h : Mp W b L) (e : W'.heap[b]? = W.heap[b]?) : Mp W' b L := by
  obtain ⟨⟨es, clock, hb, F, hs, hD⟩, h2⟩ := h
  exact ⟨⟨es, clock, e.trans hb, F, hs, hD⟩, h2⟩
theorem owns_tight {W : World} {P : Program} {k : TypeId} {R : Value → Option (DataW Unit × List MemPlace)} {b n : Nat} {L : Ml} (h : W.ownsMap P k R b n (mk L)) : W.ownsMap P k R b L.length (mk L) := by
  obtain ⟨es, clock, hb, F, hs, hD⟩ := h
  refine ⟨es, clock, hb, F, ?_, hD⟩
  have := congrArg Maps.size hD
  rw [size_mk, Maps.size_eq, length_sorted] at this
  simp at this
  omega
theorem Mp.room {W : World} {b : Nat} {L : Ml} (h : Mp W b L) : L.length < maxLen := by
  have := len8 h.2.1 h.2.2
  unfold maxLen
  omega

/-- the block sb is a set with the marks L, which lie in the map mb, if there is one -/
structure St (W : World) (sb : Nat) (mb : Option Nat) (L : Ml) : Prop where
  box : W.heap[sb]? = some (.cells #[.map mb] 49 (0, 0))
  nil : mb = none → L = []
  own : ∀ b, mb = some b → b ≠ sb ∧ Mp W b L
theorem St.lt {W : World} {sb : Nat} {mb : Option Nat} {L : Ml} (h : St W sb mb L) : sb < W.heap.size := (Array.getElem?_eq_some_iff.1 h.box).1
theorem St.cell {W : World} {sb : Nat} {mb : Option Nat} {L : Ml} (h : St W sb mb L) : W.cell? ⟨sb, 0, none⟩ = some (.map mb) := by simp [World.cell?, h.box]
theorem St.frozen {W : World} {sb : Nat} {mb : Option Nat} {L : Ml} (h : St W sb mb L) : W.frozen? ⟨sb, 0, none⟩ = false := by simp [World.frozen?, h.box]
theorem St.ris {W : World} {sb : Nat} {mb : Option Nat} {L : Ml} (h : St W sb mb L) : Ris L ∧ Fit8 L := by
  cases mb with
  | none => rw [h.nil rfl]; exact ⟨List.Pairwise.nil, fun _ h => by cases h⟩
  | some b => exact (h.own b rfl).2.2
/-- nothing but the set's block and its map is turned -/
def Ch (sb : Nat) (mb : Option Nat) (w w' : World) : Prop := w'.os = w.os ∧ w'.tape = w.tape ∧ w'.output = w.output ∧ w.heap.size ≤ w'.heap.size ∧ ∀ k, k < w.heap.size → k ≠ sb → mb ≠ some k → w'.heap[k]? = w.heap[k]?
theorem Ch.refl (b : Nat) (r : Option Nat) (w : World) : Ch b r w w := ⟨rfl, rfl, rfl, Nat.le_refl _, fun _ _ _ _ => rfl⟩
/-- another map is the same or a new one -/
def Nw (w : World) (r r' : Option Nat) : Prop := r' = r ∨ ∃ k, r' = some k ∧ w.heap.size ≤ k
theorem Ch.trans {b : Nat} {r r' : Option Nat} {w w1 w2 : World} (h : Ch b r w w1) (hr : Nw w r r') (g : Ch b r' w1 w2) : Ch b r w w2 :=
  ⟨g.1.trans h.1, g.2.1.trans h.2.1, g.2.2.1.trans h.2.2.1, Nat.le_trans h.2.2.2.1 g.2.2.2.1, fun k hk hb hn => by
    rw [g.2.2.2.2 k (Nat.lt_of_lt_of_le hk h.2.2.2.1) hb (fun e => ?_), h.2.2.2.2 k hk hb hn]
    rcases hr with rfl | ⟨j, rfl, hj⟩
    · exact hn e
    · cases e; omega⟩
theorem Nw.refl (w : World) (r : Option Nat) : Nw w r r := .inl rfl
theorem Nw.trans {w w1 : World} {r r' r'' : Option Nat} (h : Nw w r r') (hs : w.heap.size ≤ w1.heap.size) (g : Nw w1 r' r'') : Nw w r r'' := by
  rcases g with rfl | ⟨k, rfl, hk⟩
  · exact h
  · exact .inr ⟨k, rfl, by omega⟩
theorem Ch.below {b : Nat} {r : Option Nat} {w w' : World} (h : Below w.heap.size w w') : Ch b r w w' := ⟨h.os, h.tape, h.output, h.size, fun k hk _ _ => h.block k hk⟩
theorem Ch.low {b n : Nat} {r : Option Nat} {w0 w w' : World} (h : Ch b r w w') (hb : Below n w0 w) (h0 : n ≤ w0.heap.size) (h1 : n ≤ b) (h2 : ∀ k, r = some k → n ≤ k) : Below n w0 w' :=
  ⟨h.1.trans hb.os, h.2.1.trans hb.tape, h.2.2.1.trans hb.output, Nat.le_trans hb.size h.2.2.2.1, fun k hk => (h.2.2.2.2 k (by have := hb.size; omega) (by omega) (fun e => by have := h2 k e; omega)).trans (hb.block k hk)⟩
theorem St.below {W W' : World} {sb : Nat} {mb : Option Nat} {L : Ml} (h : St W sb mb L) (hb : Below W.heap.size W W') : St W' sb mb L :=
  ⟨(hb.block sb h.lt).trans h.box, h.nil, fun b hm => ⟨(h.own b hm).1, (h.own b hm).2.of_heap (hb.block b (h.own b hm).2.lt)⟩⟩
/-- a set stays while another one is turned -/
theorem St.kept {W W' : World} {sb sb' : Nat} {mb mb' : Option Nat} {L : Ml} (h : St W sb mb L) (hc : Ch sb' mb' W W') (h1 : sb ≠ sb') (h2 : mb' ≠ some sb) (h3 : ∀ b, mb = some b → b ≠ sb' ∧ mb' ≠ some b) : St W' sb mb L :=
  ⟨(hc.2.2.2.2 sb h.lt h1 h2).trans h.box, h.nil, fun b hm => ⟨(h.own b hm).1, (h.own b hm).2.of_heap (hc.2.2.2.2 b (h.own b hm).2.lt (h3 b hm).1 (h3 b hm).2)⟩⟩

theorem set1 {W : World} {b i : Nat} {vs : Array Value} {t : TypeId} {fz : Nat × Nat} (u : Value) (h : W.heap[b]? = some (.cells vs t fz)) : (W.setCell ⟨b, i, none⟩ u).heap[b]? = some (.cells (vs.setIfInBounds i u) t fz) := by
  unfold World.setCell
  show (W.heap.modify b _)[b]? = _
  rw [Array.getElem?_modify, if_pos rfl, h]
  rfl
theorem gcell (W : World) (b i : Nat) (u : Value) : W.grownBy (W.setCell ⟨b, i, none⟩ u) (some b) :=
  ⟨rfl, rfl, rfl, by simp [World.setCell], fun k _ hne => by unfold World.setCell; simp only; rw [Array.getElem?_modify, if_neg (fun e => hne (by rw [e]))]⟩

set_option maxRecDepth 100000 in
theorem all_any {w : World} {sb : Nat} {mb : Option Nat} {L : Ml} (h : St w sb mb L) : Calls Try.prog 39 #[.pointer (some ⟨sb, 0, none⟩)] w fun e w' => e = .returned (.map mb) ∧ w' = w := by
  have hc := h.cell
  clear h
  go_enter Try.func39, Try.ntmps39
  go_wp2
  go_ret
  exact ⟨rfl, rfl⟩
theorem all_nil (w : World) : Calls Try.prog 39 #[.pointer none] w fun e w' => e = .returned (.map none) ∧ w' = w := by
  go_enter Try.func39, Try.ntmps39
  go_wp2
  go_ret
  exact ⟨rfl, rfl⟩
set_option maxRecDepth 100000 in
theorem good_any {n : Nat} (h : n < 256) (w : World) : Calls Try.prog 41 #[.int .u8 (n : Int)] w fun e w' => e = .returned (.bool (gd n)) ∧ w' = w := by
  go_enter Try.func41, Try.ntmps41
  go_wp2
  all_goals go_ret
  all_goals (refine ⟨congrArg (fun b => Ending.returned (.bool b)) ?_, rfl⟩; rw [Bool.eq_iff_iff]; simp [gd]; try omega)

theorem run_clear {W : World} {b : Nat} {es : Array MapEntry} {clock : Nat} (hb : W.heap[b]? = some (.map es clock)) (ty : TypeId) :
    (Builtin.clear_ #[47] ty #[.map (some b)]).run Try.prog W = .ok (.tuple #[]) (setBlock W b (.map #[] clock)) := by
  simp [Builtin.clear_, run_underlying Try.underlying47, MapKept.run_getObj_map hb, MapKept.run_setObj_map _ hb, Result.andThen, setBlock]
theorem run_clear_nil (W : World) (ty : TypeId) : (Builtin.clear_ #[47] ty #[.map none]).run Try.prog W = .ok (.tuple #[]) W := by
  simp [Builtin.clear_, run_underlying Try.underlying47, Result.andThen]
theorem clear_mp {W : World} {b : Nat} {es : Array MapEntry} {clock : Nat} (hb : W.heap[b]? = some (.map es clock)) : Mp (setBlock W b (.map #[] clock)) b [] :=
  ⟨⟨#[], clock, heap_setBlock_same hb _, ⟨by simp, stamped_empty clock, by simp⟩, Nat.le_refl _, rfl⟩, List.Pairwise.nil, fun _ h => by cases h⟩
theorem St.turned {W W' : World} {sb b : Nat} {L M : Ml} (h : St W sb (some b) L) (hg : W.grownBy W' (some b)) (hm : Mp W' b M) : St W' sb (some b) M ∧ Ch sb (some b) W W' :=
  ⟨⟨(hg.block sb h.lt (fun e => (h.own b rfl).1 (Option.some.inj e).symm)).trans h.box, fun e => (by cases e), fun b' e => (by cases e; exact ⟨(h.own b rfl).1, hm⟩)⟩, hg.os, hg.tape, hg.output, hg.size, fun k hk _ h2 => hg.block k hk (fun e => h2 e.symm)⟩
set_option maxRecDepth 100000 in
theorem clear_any {w : World} {sb : Nat} {mb : Option Nat} {L : Ml} (h : St w sb mb L) : Calls Try.prog 21 #[.pointer (some ⟨sb, 0, none⟩)] w fun e w' => e = .returned (.tuple #[]) ∧ St w' sb mb [] ∧ Ch sb mb w w' := by
  have CA := all_any h
  cases mb with
  | none =>
    have hr := run_clear_nil w
    obtain rfl := h.nil rfl
    go_enter Try.func21, Try.ntmps21
    go_wp2_with (go_at_call 39; refine CA.mono ?_; rintro e w1 ⟨rfl, rfl⟩)
    go_end0
    exact ⟨rfl, h, Ch.refl _ _ _⟩
  | some b =>
    obtain ⟨es, clock, hb, _⟩ := (h.own b rfl).2.1
    have hr := run_clear hb
    go_enter Try.func21, Try.ntmps21
    go_wp2_with (go_at_call 39; refine CA.mono ?_; rintro e w1 ⟨rfl, rfl⟩)
    go_end0
    have hg : w1.grownBy (setBlock w1 b (.map #[] clock)) (some b) := ⟨rfl, rfl, rfl, by simp [setBlock], fun i _ hi => heap_setBlock_other hb _ (fun e => hi (by rw [e]))⟩
    exact ⟨rfl, h.turned hg (clear_mp hb)⟩
theorem clear_none (w : World) : Calls Try.prog 21 #[.pointer none] w fun e w' => e = .returned (.tuple #[]) ∧ w' = w := by
  have CA := all_nil w
  have hr := run_clear_nil w
  go_enter Try.func21, Try.ntmps21
  go_wp2_with (go_at_call 39; refine CA.mono ?_; rintro e w1 ⟨rfl, rfl⟩)
  go_end0
  exact ⟨rfl, rfl⟩

/-- what Put answers, but for a set that is nil -/
def putE (n : Nat) (a : Int) : Int := if gd n then (if a < 0 then 1 else 0) else 13
/-- the marks behind Put -/
def putL (n : Nat) (a : Int) (L : Ml) : Ml := if gd n && decide (0 ≤ a) then lay n a L else L
set_option maxRecDepth 100000 in
theorem put_no {n : Nat} {a : Int} (hn : n < 256) (h : gd n = false ∨ a < 0) (v : Value) (w : World) : Calls Try.prog 27 #[v, .int .u8 (n : Int), .int .i64 a] w fun e w' => e = .returned (.int .i64 (putE n a)) ∧ w' = w := by
  have CG := good_any hn w
  cases hg : gd n with
  | false =>
    rw [hg] at CG
    go_enter Try.func27, Try.ntmps27
    go_wp2_with (go_at_call 41; refine CG.mono ?_; rintro e w1 ⟨rfl, rfl⟩)
    go_ret
    exact ⟨by simp [putE, hg], rfl⟩
  | true =>
    have ha : a < 0 := h.resolve_left (by simp [hg])
    rw [hg] at CG
    go_enter Try.func27, Try.ntmps27
    go_wp2_with (go_at_call 41; refine CG.mono ?_; rintro e w1 ⟨rfl, rfl⟩)
    go_ret
    exact ⟨by simp [putE, hg, ha], rfl⟩
set_option maxRecDepth 100000 in
theorem put_ok {w : World} {sb : Nat} {mb : Option Nat} {L : Ml} (h : St w sb mb L) {n : Nat} {a : Int} (hn : n < 256) (hg : gd n = true) (h0 : 0 ≤ a) (ha : i64ok a) :
    Calls Try.prog 27 #[.pointer (some ⟨sb, 0, none⟩), .int .u8 (n : Int), .int .i64 a] w fun e w' => e = .returned (.int .i64 0) ∧ ∃ mb', St w' sb mb' (lay n a L) ∧ Ch sb mb w w' ∧ Nw w mb mb' := by
  have CG := good_any hn w
  rw [hg] at CG
  have hna : ¬ a < 0 := by omega
  have hkey := key8 hn
  have hc := h.cell
  have hf := h.frozen
  cases mb with
  | some b =>
    have hown := (h.own b rfl).2
    have hroom := hown.room
    have he := map_some b w
    go_enter Try.func27, Try.ntmps27
    go_wp2_with (first | (go_at_call 41; refine CG.mono ?_; rintro e w1 ⟨rfl, rfl⟩) | (at_mapUpdate; refine wpList_mapUpdate_own _ rfl _ _ _ 47 rfl 5 3 law8 Try.underlying47 _ b _ _ rfl hown.1 hroom _ _ _ rfl rfl hkey _ [] (plainElem_int Try.underlying3 (wf64 ha)) ?_; intro w2 hown2 hg2) | go_in)
    go_ret
    rw [put_mk hown.2.1] at hown2
    have := h.turned hg2 ⟨owns_tight hown2, hown.2.1.lay, hown.2.2.lay hn ha⟩
    exact ⟨rfl, some b, this.1, this.2, Nw.refl _ _⟩
  | none =>
    obtain rfl := h.nil rfl
    have he := map_nil w
    have hmm := @run_makeMap Try.prog
    have hb1 : Below w.heap.size w (w.alloc (.map #[] 0)) := (Below.refl _ w).alloc (Nat.le_refl _) _
    have hown0 := World.ownsMap_made w Try.prog 5 (plainElem (H := Unit) Try.prog 3)
    have hx1 : (w.alloc (.map #[] 0)).heap[sb]? = some (.cells #[.map none] 49 (0, 0)) := (hb1.block sb h.lt).trans h.box
    have hc1 : (w.alloc (.map #[] 0)).cell? ⟨sb, 0, none⟩ = some (.map none) := by simp [World.cell?, hx1]
    have hf1 : (w.alloc (.map #[] 0)).frozen? ⟨sb, 0, none⟩ = false := by simp [World.frozen?, hx1]
    have hx2 := set1 (i := 0) (.map (some w.heap.size)) hx1
    have hc2 : ((w.alloc (.map #[] 0)).setCell ⟨sb, 0, none⟩ (.map (some w.heap.size))).cell? ⟨sb, 0, none⟩ = some (.map (some w.heap.size)) := by simp [World.cell?, hx2]
    have hg1 := gcell (w.alloc (.map #[] 0)) sb 0 (.map (some w.heap.size))
    have hown1 : Mp ((w.alloc (.map #[] 0)).setCell ⟨sb, 0, none⟩ (.map (some w.heap.size))) w.heap.size [] :=
      ⟨hown0.kept hg1 (fun e => by have := h.lt; cases e; omega), List.Pairwise.nil, fun _ h => by cases h⟩
    have hroom := hown1.room
    have HX : Hid (St ((w.alloc (.map #[] 0)).setCell ⟨sb, 0, none⟩ (.map (some w.heap.size))) sb (some w.heap.size) [] ∧ Ch sb none w ((w.alloc (.map #[] 0)).setCell ⟨sb, 0, none⟩ (.map (some w.heap.size)))) :=
      ⟨⟨hx2, fun e => (by cases e), fun b e => (by cases e; exact ⟨by have := h.lt; omega, hown1⟩)⟩, hg1.os, hg1.tape, hg1.output, Nat.le_trans hb1.size hg1.size, fun k hk hne _ => (hg1.block k (by have := hb1.size; omega) (fun e => hne (Option.some.inj e))).trans (hb1.block k hk)⟩
    have HO : Hid (Mp ((w.alloc (.map #[] 0)).setCell ⟨sb, 0, none⟩ (.map (some w.heap.size))) w.heap.size []) := hown1
    clear hx1 hx2 hb1 hown0 hg1 hown1 h
    go_enter Try.func27, Try.ntmps27
    go_wp2_with (first | (go_at_call 41; refine CG.mono ?_; rintro e w1 ⟨rfl, rfl⟩) | (at_mapUpdate; refine wpList_mapUpdate_own _ rfl _ _ _ 47 rfl 5 3 law8 Try.underlying47 _ _ _ _ rfl HO.out.1 hroom _ _ _ rfl rfl hkey _ [] (plainElem_int Try.underlying3 (wf64 ha)) ?_; intro w2 hown2 hg2) | go_in)
    go_ret
    rw [put_mk HO.out.2.1] at hown2
    have := HX.out.1.turned hg2 ⟨owns_tight hown2, HO.out.2.1.lay, HO.out.2.2.lay hn ha⟩
    exact ⟨rfl, some w1.heap.size, this.1, HX.out.2.trans (.inr ⟨_, rfl, Nat.le_refl _⟩) this.2, .inr ⟨_, rfl, Nat.le_refl _⟩⟩
theorem put_st {w : World} {sb : Nat} {mb : Option Nat} {L : Ml} (h : St w sb mb L) {n : Nat} {a : Int} (hn : n < 256) (ha : i64ok a) :
    Calls Try.prog 27 #[.pointer (some ⟨sb, 0, none⟩), .int .u8 (n : Int), .int .i64 a] w fun e w' => e = .returned (.int .i64 (putE n a)) ∧ ∃ mb', St w' sb mb' (putL n a L) ∧ Ch sb mb w w' ∧ Nw w mb mb' := by
  by_cases hg : gd n = true ∧ 0 ≤ a
  · have e1 : putE n a = 0 := by simp [putE, hg.1]; omega
    have e2 : putL n a L = lay n a L := by simp [putL, hg.1, hg.2]
    rw [e1, e2]
    exact put_ok h hn hg.1 hg.2 ha
  · have e2 : putL n a L = L := by
      unfold putL
      rw [if_neg]
      simpa using hg
    rw [e2]
    refine (put_no hn ?_ _ w).mono ?_
    · cases hq : gd n with
      | false => exact .inl rfl
      | true => exact .inr (by have : ¬ (0 ≤ a) := fun h => hg ⟨hq, h⟩; omega)
    · rintro e w' ⟨rfl, rfl⟩
      exact ⟨rfl, mb, h, Ch.refl _ _ _, Nw.refl _ _⟩
set_option maxRecDepth 100000 in
/-- a nil set keeps nothing -/
theorem put_nil {n : Nat} {a : Int} (hn : n < 256) (w : World) :
    Calls Try.prog 27 #[.pointer none, .int .u8 (n : Int), .int .i64 a] w fun e w' => e = .returned (.int .i64 (if putE n a = 0 then 7 else putE n a)) ∧ w' = w := by
  by_cases hg : gd n = true ∧ 0 ≤ a
  · have e1 : putE n a = 0 := by simp [putE, hg.1]; omega
    have CG := good_any hn w
    rw [hg.1] at CG
    have hna : ¬ a < 0 := by omega
    rw [e1]
    go_enter Try.func27, Try.ntmps27
    go_wp2_with (go_at_call 41; refine CG.mono ?_; rintro e w1 ⟨rfl, rfl⟩)
    go_ret
    exact ⟨rfl, rfl⟩
  · have hq : gd n = false ∨ a < 0 := by
      cases hq : gd n with
      | false => exact .inl rfl
      | true => exact .inr (by have : ¬ (0 ≤ a) := fun h => hg ⟨hq, h⟩; omega)
    have e1 : putE n a ≠ 0 := by
      unfold putE
      rcases hq with h | h
      · simp [h]
      · rw [if_pos h]; split <;> decide
    rw [if_neg e1]
    exact put_no hn hq _ w
end Go.Proofs.Ytolafffpgkgadaa
