/-
  Package seek's down: from a tree to a leaf, by the answer of a function. Conditions: the two tables of unicode/utf8 lie as their text lays them; the text holds at most 1099511627776 bytes.
-/
import Derived.Test.YtiehhafbblbbiabDoorSConD
import Derived.Deep.DeepCutAuto
import Derived.Test.YtiehhafbblbbiabDoorURegInv
namespace Go.Proofs.YtiehhafbblbbiabDoor
open Go.RowKit Go.Shelf Bod Wid

/-- the way down: what lies ahead of the leaf, its text, what lies behind -/
def dn (D : ByteArray → ByteArray → Bool) : Tr → ByteArray → ByteArray → ByteArray × ByteArray × ByteArray
  | .leaf M, A, B => (A, M, B)
  | .knot l r, A, B => if D (A ++ l.text) (r.text ++ B) then dn D r (A ++ l.text) B else dn D l A (r.text ++ B)
/-- a least number of each kind -/
theorem least_ex : ∃ mu : (Nat → Prop) → Nat, ∀ P : Nat → Prop, (∃ n, P n) → P (mu P) ∧ ∀ n, P n → mu P ≤ n := by
  have key : ∀ P : Nat → Prop, (∃ n, P n) → ∃ m, P m ∧ ∀ n, P n → m ≤ n := fun P ⟨n, hn⟩ => by
    induction n using Nat.strongRecOn with
    | _ n ih =>
      by_cases h : ∃ k, k < n ∧ P k
      · obtain ⟨k, hk, hp⟩ := h
        exact ih k hk hp
      · exact ⟨n, hn, fun j hj => Nat.le_of_not_lt fun hlt => h ⟨j, hlt, hj⟩⟩
  refine Classical.axiomOfChoice (r := fun (P : Nat → Prop) (m : Nat) => (∃ n, P n) → P m ∧ ∀ n, P n → m ≤ n) fun P => ?_
  by_cases h : ∃ n, P n
  · obtain ⟨m, h1, h2⟩ := key P h
    exact ⟨m, fun _ => ⟨h1, h2⟩⟩
  · exact ⟨0, fun k => absurd k h⟩
/-- a place's box, stored to -/
theorem set8_below {w W : World} {q : Nat} (hq : w.heap.size ≤ q) (h : Below w.heap.size w W) (u0 u1 u2 u3 u4 u5 u6 u7 : Value) : Below w.heap.size w ((((((((W.setCell ⟨q, 0, none⟩ u0).setCell ⟨q, 1, none⟩ u1).setCell ⟨q, 2, none⟩ u2).setCell ⟨q, 3, none⟩ u3).setCell ⟨q, 4, none⟩ u4).setCell ⟨q, 5, none⟩ u5).setCell ⟨q, 6, none⟩ u6).setCell ⟨q, 7, none⟩ u7) := ((((((((h.setCell (p := ⟨q, 0, none⟩) hq _).setCell (p := ⟨q, 1, none⟩) hq _).setCell (p := ⟨q, 2, none⟩) hq _).setCell (p := ⟨q, 3, none⟩) hq _).setCell (p := ⟨q, 4, none⟩) hq _).setCell (p := ⟨q, 5, none⟩) hq _).setCell (p := ⟨q, 6, none⟩) hq _).setCell (p := ⟨q, 7, none⟩) hq _)
theorem set8_box {W : World} {q : Nat} {t : TypeId} {a0 a1 a2 a3 a4 a5 a6 a7 : Value} (h : W.heap[q]? = some (.cells #[a0, a1, a2, a3, a4, a5, a6, a7] t (0, 0))) (u0 u1 u2 u3 u4 u5 u6 u7 : Value) : ((((((((W.setCell ⟨q, 0, none⟩ u0).setCell ⟨q, 1, none⟩ u1).setCell ⟨q, 2, none⟩ u2).setCell ⟨q, 3, none⟩ u3).setCell ⟨q, 4, none⟩ u4).setCell ⟨q, 5, none⟩ u5).setCell ⟨q, 6, none⟩ u6).setCell ⟨q, 7, none⟩ u7).heap[q]? = some (.cells #[u0, u1, u2, u3, u4, u5, u6, u7] t (0, 0)) := by
  have h0 : (W.setCell ⟨q, 0, none⟩ u0).heap[q]? = some (.cells #[u0, a1, a2, a3, a4, a5, a6, a7] t (0, 0)) := set1 (i := 0) u0 h
  have h1 : ((W.setCell ⟨q, 0, none⟩ u0).setCell ⟨q, 1, none⟩ u1).heap[q]? = some (.cells #[u0, u1, a2, a3, a4, a5, a6, a7] t (0, 0)) := set1 (i := 1) u1 h0
  have h2 : (((W.setCell ⟨q, 0, none⟩ u0).setCell ⟨q, 1, none⟩ u1).setCell ⟨q, 2, none⟩ u2).heap[q]? = some (.cells #[u0, u1, u2, a3, a4, a5, a6, a7] t (0, 0)) := set1 (i := 2) u2 h1
  have h3 : ((((W.setCell ⟨q, 0, none⟩ u0).setCell ⟨q, 1, none⟩ u1).setCell ⟨q, 2, none⟩ u2).setCell ⟨q, 3, none⟩ u3).heap[q]? = some (.cells #[u0, u1, u2, u3, a4, a5, a6, a7] t (0, 0)) := set1 (i := 3) u3 h2
  have h4 : (((((W.setCell ⟨q, 0, none⟩ u0).setCell ⟨q, 1, none⟩ u1).setCell ⟨q, 2, none⟩ u2).setCell ⟨q, 3, none⟩ u3).setCell ⟨q, 4, none⟩ u4).heap[q]? = some (.cells #[u0, u1, u2, u3, u4, a5, a6, a7] t (0, 0)) := set1 (i := 4) u4 h3
  have h5 : ((((((W.setCell ⟨q, 0, none⟩ u0).setCell ⟨q, 1, none⟩ u1).setCell ⟨q, 2, none⟩ u2).setCell ⟨q, 3, none⟩ u3).setCell ⟨q, 4, none⟩ u4).setCell ⟨q, 5, none⟩ u5).heap[q]? = some (.cells #[u0, u1, u2, u3, u4, u5, a6, a7] t (0, 0)) := set1 (i := 5) u5 h4
  have h6 : (((((((W.setCell ⟨q, 0, none⟩ u0).setCell ⟨q, 1, none⟩ u1).setCell ⟨q, 2, none⟩ u2).setCell ⟨q, 3, none⟩ u3).setCell ⟨q, 4, none⟩ u4).setCell ⟨q, 5, none⟩ u5).setCell ⟨q, 6, none⟩ u6).heap[q]? = some (.cells #[u0, u1, u2, u3, u4, u5, u6, a7] t (0, 0)) := set1 (i := 6) u6 h5
  have h7 : ((((((((W.setCell ⟨q, 0, none⟩ u0).setCell ⟨q, 1, none⟩ u1).setCell ⟨q, 2, none⟩ u2).setCell ⟨q, 3, none⟩ u3).setCell ⟨q, 4, none⟩ u4).setCell ⟨q, 5, none⟩ u5).setCell ⟨q, 6, none⟩ u6).setCell ⟨q, 7, none⟩ u7).heap[q]? = some (.cells #[u0, u1, u2, u3, u4, u5, u6, u7] t (0, 0)) := set1 (i := 7) u7 h6
  exact h7
theorem set8_other {W : World} {q b : Nat} {o : Obj} (hb : b ≠ q) (h : W.heap[b]? = some o) (u0 u1 u2 u3 u4 u5 u6 u7 : Value) : ((((((((W.setCell ⟨q, 0, none⟩ u0).setCell ⟨q, 1, none⟩ u1).setCell ⟨q, 2, none⟩ u2).setCell ⟨q, 3, none⟩ u3).setCell ⟨q, 4, none⟩ u4).setCell ⟨q, 5, none⟩ u5).setCell ⟨q, 6, none⟩ u6).setCell ⟨q, 7, none⟩ u7).heap[b]? = some o := by
  have h0 : (W.setCell ⟨q, 0, none⟩ u0).heap[b]? = some o := ((gcell W q 0 u0).block b (Array.getElem?_eq_some_iff.1 h).1 (fun e => hb (Option.some.inj e))).trans h
  have h1 : ((W.setCell ⟨q, 0, none⟩ u0).setCell ⟨q, 1, none⟩ u1).heap[b]? = some o := ((gcell (W.setCell ⟨q, 0, none⟩ u0) q 1 u1).block b (Array.getElem?_eq_some_iff.1 h0).1 (fun e => hb (Option.some.inj e))).trans h0
  have h2 : (((W.setCell ⟨q, 0, none⟩ u0).setCell ⟨q, 1, none⟩ u1).setCell ⟨q, 2, none⟩ u2).heap[b]? = some o := ((gcell ((W.setCell ⟨q, 0, none⟩ u0).setCell ⟨q, 1, none⟩ u1) q 2 u2).block b (Array.getElem?_eq_some_iff.1 h1).1 (fun e => hb (Option.some.inj e))).trans h1
  have h3 : ((((W.setCell ⟨q, 0, none⟩ u0).setCell ⟨q, 1, none⟩ u1).setCell ⟨q, 2, none⟩ u2).setCell ⟨q, 3, none⟩ u3).heap[b]? = some o := ((gcell (((W.setCell ⟨q, 0, none⟩ u0).setCell ⟨q, 1, none⟩ u1).setCell ⟨q, 2, none⟩ u2) q 3 u3).block b (Array.getElem?_eq_some_iff.1 h2).1 (fun e => hb (Option.some.inj e))).trans h2
  have h4 : (((((W.setCell ⟨q, 0, none⟩ u0).setCell ⟨q, 1, none⟩ u1).setCell ⟨q, 2, none⟩ u2).setCell ⟨q, 3, none⟩ u3).setCell ⟨q, 4, none⟩ u4).heap[b]? = some o := ((gcell ((((W.setCell ⟨q, 0, none⟩ u0).setCell ⟨q, 1, none⟩ u1).setCell ⟨q, 2, none⟩ u2).setCell ⟨q, 3, none⟩ u3) q 4 u4).block b (Array.getElem?_eq_some_iff.1 h3).1 (fun e => hb (Option.some.inj e))).trans h3
  have h5 : ((((((W.setCell ⟨q, 0, none⟩ u0).setCell ⟨q, 1, none⟩ u1).setCell ⟨q, 2, none⟩ u2).setCell ⟨q, 3, none⟩ u3).setCell ⟨q, 4, none⟩ u4).setCell ⟨q, 5, none⟩ u5).heap[b]? = some o := ((gcell (((((W.setCell ⟨q, 0, none⟩ u0).setCell ⟨q, 1, none⟩ u1).setCell ⟨q, 2, none⟩ u2).setCell ⟨q, 3, none⟩ u3).setCell ⟨q, 4, none⟩ u4) q 5 u5).block b (Array.getElem?_eq_some_iff.1 h4).1 (fun e => hb (Option.some.inj e))).trans h4
  have h6 : (((((((W.setCell ⟨q, 0, none⟩ u0).setCell ⟨q, 1, none⟩ u1).setCell ⟨q, 2, none⟩ u2).setCell ⟨q, 3, none⟩ u3).setCell ⟨q, 4, none⟩ u4).setCell ⟨q, 5, none⟩ u5).setCell ⟨q, 6, none⟩ u6).heap[b]? = some o := ((gcell ((((((W.setCell ⟨q, 0, none⟩ u0).setCell ⟨q, 1, none⟩ u1).setCell ⟨q, 2, none⟩ u2).setCell ⟨q, 3, none⟩ u3).setCell ⟨q, 4, none⟩ u4).setCell ⟨q, 5, none⟩ u5) q 6 u6).block b (Array.getElem?_eq_some_iff.1 h5).1 (fun e => hb (Option.some.inj e))).trans h5
  have h7 : ((((((((W.setCell ⟨q, 0, none⟩ u0).setCell ⟨q, 1, none⟩ u1).setCell ⟨q, 2, none⟩ u2).setCell ⟨q, 3, none⟩ u3).setCell ⟨q, 4, none⟩ u4).setCell ⟨q, 5, none⟩ u5).setCell ⟨q, 6, none⟩ u6).setCell ⟨q, 7, none⟩ u7).heap[b]? = some o := ((gcell (((((((W.setCell ⟨q, 0, none⟩ u0).setCell ⟨q, 1, none⟩ u1).setCell ⟨q, 2, none⟩ u2).setCell ⟨q, 3, none⟩ u3).setCell ⟨q, 4, none⟩ u4).setCell ⟨q, 5, none⟩ u5).setCell ⟨q, 6, none⟩ u6) q 7 u7).block b (Array.getElem?_eq_some_iff.1 h6).1 (fun e => hb (Option.some.inj e))).trans h6
  exact h7
/-- a place's box as it is made -/
abbrev z8 : Array Value := #[.int .i64 0, .int .i64 0, .int .i64 0, .int .i64 0, .int .i64 0, .string ⟨#[]⟩, .string ⟨#[]⟩, .string ⟨#[]⟩]
def BQ (w : World) (q : Nat) (W : World) : Prop := W.heap[q]? = some (.cells z8 51 (0, 0)) ∧ w.heap.size < q
theorem BQ.below {w W X : World} {q : Nat} (h : BQ w q W) (hb : Below W.heap.size W X) : BQ w q X := ⟨(hb.block _ (Array.getElem?_eq_some_iff.1 h.1).1).trans h.1, h.2⟩
theorem box8f {W : World} {b : Nat} {v0 v1 v2 v3 v4 v5 v6 v7 : Value} {t : TypeId} (h : W.heap[b]? = some (.cells #[v0, v1, v2, v3, v4, v5, v6, v7] t (0, 0))) : W.frozen? ⟨b, 0, none⟩ = false ∧ W.frozen? ⟨b, 1, none⟩ = false ∧ W.frozen? ⟨b, 2, none⟩ = false ∧ W.frozen? ⟨b, 3, none⟩ = false ∧ W.frozen? ⟨b, 4, none⟩ = false ∧ W.frozen? ⟨b, 5, none⟩ = false ∧ W.frozen? ⟨b, 6, none⟩ = false ∧ W.frozen? ⟨b, 7, none⟩ = false := by
  simp [World.frozen?, h]
theorem fhd (m : Sum) (W : World) : (Instr.field 42 (sv m) 5).run Tryd.prog W = .ok (.string m.hd) W := by kernel_rfl
theorem two_sums' {W : World} {g : Nat} {a b : ByteArray} (h : W.heap[g]? = some (.cells (scs2 (smr a) (smr b)) 42 (0, 0))) : RdS W (.slice (some ⟨g, 0, none⟩) 2 2) [a, b] := by
  refine ⟨_, 2, rfl, fun _ => ⟨g, 0, rfl, (Array.getElem?_eq_some_iff.1 h).1, fun k s hk => ?_⟩⟩
  have hc : ∀ i u, (scs2 (smr a) (smr b))[i]? = some u → W.cell? ⟨g, i, none⟩ = some u := fun i u h2 => by
    unfold World.cell?
    rw [h]
    simpa using h2
  match k, hk with
  | 0, hk => cases hk; exact ⟨hc _ _ rfl, hc _ _ rfl, hc _ _ rfl, hc _ _ rfl, hc _ _ rfl, hc _ _ rfl, hc _ _ rfl⟩
  | 1, hk => cases hk; exact ⟨hc _ _ rfl, hc _ _ rfl, hc _ _ rfl, hc _ _ rfl, hc _ _ rfl, hc _ _ rfl, hc _ _ rfl⟩
  | k + 2, hk => simp at hk
/-- the thirteen slots that the line reckons with -/
def dfr (ts : Array Value) (x : Nat → Value) : Array Value :=
  ((((((((((((ts.setIfInBounds 27 (x 0)).setIfInBounds 28 (x 1)).setIfInBounds 29 (x 2)).setIfInBounds 30 (x 3)).setIfInBounds 31 (x 4)).setIfInBounds 32 (x 5)).setIfInBounds 33 (x 6)).setIfInBounds 34 (x 7)).setIfInBounds 35 (x 8)).setIfInBounds 36 (x 9)).setIfInBounds 37 (x 10)).setIfInBounds 38 (x 11)).setIfInBounds 10 (x 12)
def upd (x : Nat → Value) (i : Nat) (y : Value) : Nat → Value := fun j => if j = i then y else x j
theorem dname {c : Code} {P : Program} {Q : Exit → Act → World → Prop} {a : Act} {w : World} (h : ∀ A, A = a → c.wp P Q A w) : c.wp P Q a w := h a rfl
theorem dgset {v : List Bool} {i j : Nat} (h : i ≠ j) : (v.set i true).getD j false = v.getD j false := by
  rw [List.getD_eq_getElem?_getD, List.getD_eq_getElem?_getD, List.getElem?_set, if_neg h]
/-- what each operation's slot has, once it has run -/
def PQ (w3 : World) (mA ml mr mAl : Sum) (z Zn : ByteArray) (one two : Value) : Nat → Value → World → Prop
  | 0, y, _ => y = sv mA
  | 1, y, _ => y = one
  | 2, y, _ => y = sv ml
  | 3, y, W => ∃ g, y = .slice (some ⟨g, 0, none⟩) 2 2 ∧ W.heap[g]? = some (.cells (scs2 mA ml) 42 (0, 0))
  | 4, y, _ => y = sv mAl
  | 5, y, _ => y = two
  | 6, y, _ => y = sv mr
  | 7, y, _ => y = .string mr.hd
  | 8, y, _ => y = .string z
  | 9, y, _ => y = .string (mr.hd ++ z)
  | 10, y, _ => y = .string Zn
  | 11, y, _ => y = plv mAl Zn
  | 12, y, W => ∃ q, y = .pointer (some ⟨q, 0, none⟩) ∧ W.heap[q]? = some (.cells z8 51 (0, 0)) ∧ w3.heap.size ≤ q
  | _, _, _ => True
theorem PQ.below {w3 : World} {mA ml mr mAl : Sum} {z Zn : ByteArray} {one two : Value} {W W' : World} (hb : Below W.heap.size W W') : ∀ {i : Nat} {y : Value}, PQ w3 mA ml mr mAl z Zn one two i y W → PQ w3 mA ml mr mAl z Zn one two i y W'
  | 0, _, h => h
  | 1, _, h => h
  | 2, _, h => h
  | 3, _, ⟨g, h1, h2⟩ => ⟨g, h1, (hb.block _ (Array.getElem?_eq_some_iff.1 h2).1).trans h2⟩
  | 4, _, h => h
  | 5, _, h => h
  | 6, _, h => h
  | 7, _, h => h
  | 8, _, h => h
  | 9, _, h => h
  | 10, _, h => h
  | 11, _, h => h
  | 12, _, ⟨q, h1, h2, h3⟩ => ⟨q, h1, (hb.block _ (Array.getElem?_eq_some_iff.1 h2).1).trans h2, h3⟩
  | _ + 13, _, _ => trivial
/-- what holds while the line runs, ahead of its store -/
structure DI (w3 : World) (mA ml mr mAl : Sum) (z Zn : ByteArray) (one two : Value) (v : List Bool) (x : Nat → Value) (W : World) : Prop where
  b : Below w3.heap.size w3 W
  h : ∀ i, v.getD i false = true → PQ w3 mA ml mr mAl z Zn one two i (x i) W
  n : v.getD 13 false = false
theorem DI.set {w3 : World} {mA ml mr mAl : Sum} {z Zn : ByteArray} {one two : Value} {v : List Bool} {x : Nat → Value} {W W' : World} (h : DI w3 mA ml mr mAl z Zn one two v x W) (hb : Below W.heap.size W W') {i : Nat} {y : Value} (hi : i ≠ 13) (hy : PQ w3 mA ml mr mAl z Zn one two i y W') : DI w3 mA ml mr mAl z Zn one two (v.set i true) (upd x i y) W' := by
  refine ⟨Below.on h.b hb, fun j e => ?_, by rw [dgset hi]; exact h.n⟩
  by_cases c : j = i
  · subst c
    unfold upd
    rw [if_pos rfl]
    exact hy
  · rw [dgset (fun e => c e.symm)] at e
    unfold upd
    rw [if_neg c]
    exact (h.h j e).below hb
/-- behind it -/
def DF (w w3 : World) (mAl : Sum) (Zn : ByteArray) (x : Nat → Value) (W : World) : Prop := ∃ q, x 12 = .pointer (some ⟨q, 0, none⟩) ∧ W.heap[q]? = some (.cells (pcs mAl Zn) 51 (0, 0)) ∧ Below w3.heap.size w3 W ∧ w.heap.size < q
/-- both -/
def DB (w w3 : World) (mA ml mr mAl : Sum) (z Zn : ByteArray) (one two : Value) (v : List Bool) (x : Nat → Value) (W : World) : Prop := DI w3 mA ml mr mAl z Zn one two v x W ∨ ((∀ j, j < 14 → v.getD j false = true) ∧ DF w w3 mAl Zn x W)
theorem DB.at {w w3 : World} {mA ml mr mAl : Sum} {z Zn : ByteArray} {one two : Value} {v : List Bool} {x : Nat → Value} {W : World} (h : DB w w3 mA ml mr mAl z Zn one two v x W) {i : Nat} (hi : i < 14) (hv : v.length = 14) (hn : v.getD i true = false) : DI w3 mA ml mr mAl z Zn one two v x W := by
  rcases h with h | ⟨h, _⟩
  · exact h
  · have := h i hi
    rw [gd_tf (by omega), this] at hn
    cases hn
theorem DB.fin {w w3 : World} {mA ml mr mAl : Sum} {z Zn : ByteArray} {one two : Value} {v : List Bool} {x : Nat → Value} {W : World} (h : DB w w3 mA ml mr mAl z Zn one two v x W) (hv : v.length = 14) (ha : v.all id = true) : DF w w3 mAl Zn x W := by
  rcases h with h | ⟨_, h⟩
  · have := of_all ha (show 13 < v.length by omega)
    rw [h.n] at this
    cases this
  · exact h
set_option maxRecDepth 100000 in
set_option maxHeartbeats 1000000 in
theorem ssome_same (T : TypeId) (a : Addr) (w : World) : Calls Tryd.prog 19 #[.iface T (.pointer (some a))] w fun e W' => e = .returned (.iface T (.pointer (some a))) ∧ w = W' := by
  have he := fun W => eq_nil T (.pointer (some a)) W
  go_enter Tryd.func19, Tryd.ntmps19
  go_wp2
  go_ret
  exact ⟨rfl, rfl⟩
/-- how it stands ahead of a round -/
structure Dw (w : World) (D : ByteArray → ByteArray → Bool) (S : ByteArray) (RES : ByteArray × ByteArray × ByteArray) (t : Tr) (A B : ByteArray) (t0 t6 : Value) (W : World) : Prop where
  n : Nt w t t0
  a : W.heap[w.heap.size]? = some (.cells (scs (smr A)) 42 (0, 0))
  b : t6 = .string (hd B)
  s : A ++ (t.text ++ B) = S
  r : dn D t A B = RES
  l : Below w.heap.size w W
theorem mu_le {mu : (Nat → Prop) → Nat} (hmu : ∀ P : Nat → Prop, (∃ n, P n) → P (mu P) ∧ ∀ n, P n → mu P ≤ n) {w : World} {D : ByteArray → ByteArray → Bool} {S : ByteArray} {RES : ByteArray × ByteArray × ByteArray} {t : Tr} {A B : ByteArray} {t0 t6 : Value} {W : World} (h : Dw w D S RES t A B t0 t6 W) : mu (fun n => ∃ t A B, Dw w D S RES t A B t0 t6 W ∧ t.lv.length = n) ≤ t.lv.length :=
  (hmu (fun n => ∃ t A B, Dw w D S RES t A B t0 t6 W ∧ t.lv.length = n) ⟨_, t, A, B, h, rfl⟩).2 _ ⟨t, A, B, h, rfl⟩
set_option maxRecDepth 100000 in
set_option maxHeartbeats 2000000 in
theorem sdown_any {w : World} {t : Tr} {v : Value} {F : FuncId} {caps : Array Value} (D : ByteArray → ByteArray → Bool) (h : Nt w t v) (hs : t.text.size ≤ 1099511627776) (hent : ∀ args W, (callFunc F args).run Tryd.prog W = .ok (.enter F args) W) (hE : Ev w)
    (hD : ∀ W A B, Below w.heap.size w W → A ++ B = t.text → Calls Tryd.prog F (#[plv (smr A) (hd B)] ++ caps) W fun e W' => e = .returned (.bool (D A B)) ∧ Below W.heap.size W W') :
    Calls Tryd.prog 34 #[v, .func (.func F) #[] caps] w fun e W' => e = .returned (.tuple #[sv (smr (dn D t noB noB).1), .string (dn D t noB noB).2.1, .string (hd (dn D t noB noB).2.2)]) ∧ Below w.heap.size w W' := by
  obtain ⟨mu, hmu⟩ := least_ex
  obtain ⟨RES, hRES⟩ : ∃ R, dn D t noB noB = R := ⟨_, rfl⟩
  obtain ⟨S, hS⟩ : ∃ S, t.text = S := ⟨_, rfl⟩
  rw [hRES]
  rw [hS] at hs hD
  have b0 : Dw w D S RES t noB noB v (.string ⟨#[]⟩) (w.alloc (.cells #[.int .i64 0, .int .i64 0, .int .i64 0, .int .i64 0, .int .i64 0, .string ⟨#[]⟩, .string ⟨#[]⟩] 42)) := ⟨h, by rw [show smr noB = sm0 from smr_nil noB_size]; exact World.alloc_heap_new w _, rfl, by rw [noB_app, app_noB]; exact hS, hRES, (Below.refl _ w).alloc (Nat.le_refl _) _⟩
  obtain ⟨T, a, fS, fP, fT, p, rfl, -⟩ := h.nd
  have HB0 : Hid (Dw w D S RES t noB noB _ _ _) := b0
  have HMU : Hid (∀ P : Nat → Prop, (∃ n, P n) → P (mu P) ∧ ∀ n, P n → mu P ≤ n) := hmu
  have HD : Hid (∀ W A B, Below w.heap.size w W → A ++ B = S → Calls Tryd.prog F (#[plv (smr A) (hd B)] ++ caps) W fun e W' => e = .returned (.bool (D A B)) ∧ Below W.heap.size W W') := hD
  have HE : Hid (Ev w) := hE
  clear b0 hmu hD hE h hRES hS
  go_enter Tryd.func34, Tryd.ntmps34
  go_wp2
  go_loopw [0, 6] (fun t0 t6 wr => ∃ T p z, t0 = .iface T p ∧ t6 = .string z ∧ Hid (∃ t A B, Dw w D S RES t A B t0 t6 wr)) (fun t0 t6 wr => mu (fun n => ∃ t A B, Dw w D S RES t A B t0 t6 wr ∧ t.lv.length = n))
  case atStart => exact ⟨_, _, _, rfl, rfl, t, noB, noB, HB0.out⟩
  case round =>
    clear HB0
    obtain ⟨T1, p1, z, rfl, rfl, HX⟩ := hrel
    obtain ⟨⟨t1, A, B, hd1, hl1⟩, -⟩ := HMU.out (fun n => ∃ t A B, Dw w D S RES t A B (.iface T1 p1) (.string z) wr ∧ t.lv.length = n) (by obtain ⟨t, A, B, h⟩ := HX.out; exact ⟨_, t, A, B, h, rfl⟩)
    clear HX
    obtain ⟨T2, a2, gS, gP, gT, q2, e2, ms, hpn⟩ := hd1.n.nd
    cases e2
    obtain ⟨⟨m1, m2⟩, ⟨m3, m4⟩, ⟨m5, m6⟩, cs, cp, ct⟩ := ms
    have P1 : Hid (Calls Tryd.prog gP #[.pointer (some a2)] wr fun e W' => e = .returned q2 ∧ Hid (Below wr.heap.size wr W')) := cp wr hd1.l
    have hz : z = hd B := by have := hd1.b; cases this; rfl
    have hsz : A.size + (t1.text.size + B.size) ≤ 1099511627776 := by have := congrArg ByteArray.size hd1.s; rw [size_app, size_app] at this; omega
    match t1, hd1, hl1, hpn, cs, ct, hsz with
    | .leaf M, hd1, hl1, hpn, cs, ct, hsz =>
      have hpn : q2 = _ := hpn
      subst hpn
      have hr : (A, M, B) = RES := hd1.r
      subst hr
      have X1 : Hid (∀ W, Hid (Below wr.heap.size wr W) → Calls Tryd.prog gT #[.pointer (some a2)] W fun e W' => e = .returned (.string M) ∧ Hid (Below wr.heap.size wr W')) := fun W hW => (ct W (Below.on hd1.l hW.out)).mono fun e W' ⟨h1, h2⟩ => ⟨h1, Below.on hW.out h2⟩
      have FX : Hid (∀ W, Hid (Below wr.heap.size wr W) → W.heap[w.heap.size]? = some (.cells (scs (smr A)) 42 (0, 0)) ∧ Below w.heap.size w W) := fun W hW => ⟨(hW.out.block _ (Array.getElem?_eq_some_iff.1 hd1.a).1).trans hd1.a, Below.on hd1.l hW.out⟩
      obtain ⟨mA, hmA⟩ : ∃ m, smr A = m := ⟨_, rfl⟩
      rw [hmA] at FX
      have HMA : Hid (smr A = mA) := hmA
      have HZ : Hid (z = hd B) := hz
      clear hl1 cs cp ct hd1 hmA HD HE hs hsz hz HMU m1 m2
      go_wp2_with (go_at_fn gP; refine P1.out.mono ?_; clear P1; rintro e w1 ⟨rfl, H⟩; obtain ⟨⟨z0, z1, z2, z3, z4, z5, z6⟩, f0, f1, f2, f3, f4, f5, f6⟩ := box7 (FX.out _ H).1; have hl : w.heap.size < w1.heap.size := (Array.getElem?_eq_some_iff.1 (FX.out _ H).1).1)
      have H1 : Hid (Below wr.heap.size wr w1.drew) := H.out.drew
      go_region_held3 (fun w' => w'.cell? ⟨w.heap.size, 0, none⟩ = some (.int .i64 mA.by') ∧ w'.cell? ⟨w.heap.size, 1, none⟩ = some (.int .i64 mA.un) ∧ w'.cell? ⟨w.heap.size, 2, none⟩ = some (.int .i64 mA.cl) ∧ w'.cell? ⟨w.heap.size, 3, none⟩ = some (.int .i64 mA.ce) ∧ w'.cell? ⟨w.heap.size, 4, none⟩ = some (.int .i64 mA.nl) ∧ w'.cell? ⟨w.heap.size, 5, none⟩ = some (.string mA.hd) ∧ w'.cell? ⟨w.heap.size, 6, none⟩ = some (.string mA.tl)) (first | go_keep | exact (box7 (set7_box (FX.out _ H2).1 _ _ _ _ _ _ _)).1) (first | (go_at_fn gT; refine (X1.out _ H1).mono ?_; clear X1 H1; rintro e w2 ⟨rfl, H2⟩; obtain ⟨⟨y0, y1, y2, y3, y4, y5, y6⟩, g0, g1, g2, g3, g4, g5, g6⟩ := box7 (FX.out _ H2).1; have hl2 : w.heap.size < w2.heap.size := (Array.getElem?_eq_some_iff.1 (FX.out _ H2).1).1))
      go_wp2
      exact bodyPost_ret (v := .tuple #[sv mA, .string M, .string z]) (by simp [results, Tryd.results34, go_sem, y0, y1, y2, y3, y4, y5, y6]) rfl ⟨by rw [← HMA.out, HZ.out], set7_below (FX.out _ H2).2 _ _ _ _ _ _ _⟩
    | .knot l r, hd1, hl1, hpn, cs, ct, hsz =>
      obtain ⟨x, y, rfl, nx, ny⟩ := hpn
      have hsz : A.size + ((l.text ++ r.text).size + B.size) ≤ 1099511627776 := hsz
      rw [size_app] at hsz
      have P1 : Hid (Calls Tryd.prog gP #[.pointer (some a2)] wr fun e W' => e = .returned (.tuple #[x, y, .bool true]) ∧ Hid (Below wr.heap.size wr W')) := P1
      have HNX : Hid (Nt w l x ∧ Nt w r y) := ⟨nx, ny⟩
      obtain ⟨Ta, c, gl, _, _, _, rfl, ms1, -⟩ := nx.nd
      obtain ⟨U, d, gr, _, _, _, rfl, ms2, -⟩ := ny.nd
      have C1 : Hid (∀ W, Calls Tryd.prog 19 #[.iface Ta (.pointer (some c))] W fun e W' => e = .returned (.iface Ta (.pointer (some c))) ∧ W = W') := fun W => ssome_same Ta c W
      have C2 : Hid (∀ W, Calls Tryd.prog 19 #[.iface U (.pointer (some d))] W fun e W' => e = .returned (.iface U (.pointer (some d))) ∧ W = W') := fun W => ssome_same U d W
      have Sl0 : Hid (∀ W2, Below wr.heap.size wr W2 → Calls Tryd.prog gl #[.pointer (some c)] W2 fun e X => e = .returned (sv (smr l.text)) ∧ Hid (Below W2.heap.size W2 X)) := fun W2 h2 => (ms1.cs W2 (Below.on hd1.l h2)).mono fun e X ⟨h1, h2⟩ => ⟨h1, h2⟩
      have Sr0 : Hid (∀ W2, Below wr.heap.size wr W2 → Calls Tryd.prog gr #[.pointer (some d)] W2 fun e X => e = .returned (sv (smr r.text)) ∧ Hid (Below W2.heap.size W2 X)) := fun W2 h2 => (ms2.cs W2 (Below.on hd1.l h2)).mono fun e X ⟨h1, h2⟩ => ⟨h1, h2⟩
      obtain ⟨n3, n4⟩ := ms1.ms
      obtain ⟨n1, n2⟩ := ms2.ms
      obtain ⟨mA, hmA⟩ : ∃ m, smr A = m := ⟨_, rfl⟩
      obtain ⟨ml, hml⟩ : ∃ m, smr l.text = m := ⟨_, rfl⟩
      obtain ⟨mr, hmr⟩ : ∃ m, smr r.text = m := ⟨_, rfl⟩
      obtain ⟨mAl, hmAl⟩ : ∃ m, smr (A ++ l.text) = m := ⟨_, rfl⟩
      obtain ⟨Zn, hZn⟩ : ∃ Z, hd (r.text ++ B) = Z := ⟨_, rfl⟩
      have hzr : mr.hd = hd r.text := by rw [← hmr]; rfl
      have FX0 : Hid (∀ W, Below wr.heap.size wr W → W.heap[w.heap.size]? = some (.cells (scs mA) 42 (0, 0)) ∧ Below w.heap.size w W) := fun W hW => ⟨by rw [← hmA]; exact (hW.block _ (Array.getElem?_eq_some_iff.1 hd1.a).1).trans hd1.a, Below.on hd1.l hW⟩
      have CJ0 : Hid (∀ g W, Below wr.heap.size wr W → W.heap[g]? = some (.cells (scs2 mA ml) 42 (0, 0)) → Calls Tryd.prog 32 #[.slice (some ⟨g, 0, none⟩) 2 2] W fun e W' => e = .returned (sv mAl) ∧ Hid (Below W.heap.size W W')) := fun g W hW hg => by
        have hE2 := HE.out.below (Below.on hd1.l hW)
        rw [← hmA, ← hml] at hg
        have := mjoin_any [A, l.text] _ W (two_sums' hg) (by rw [cat_two, size_app]; omega) (by simp) hE2.t hE2.l0 hE2.l1
        rw [cat_two, hmAl] at this
        exact this.mono fun e W' ⟨k1, k2⟩ => ⟨k1, k2⟩
      have CF0 : Hid (∀ W, Below wr.heap.size wr W → Calls Tryd.prog 43 #[.string (mr.hd ++ z)] W fun e W' => e = .returned (.string Zn) ∧ Hid (Below W.heap.size W W')) := fun W _ => (sfirst_any (mr.hd ++ z) (by rw [hzr, hz, size_app, hd_size, hd_size]; omega) W).mono fun e W' ⟨k1, k2⟩ => ⟨by rw [k1, hzr, hz, hd_hd2, hZn], k2 ▸ Below.refl _ _⟩
      rw [hml] at Sl0
      rw [hmr] at Sr0
      have y5 := fhd mr
      have zz1 : mr.hd.size ≤ 16 := by rw [hzr, hd_size]; omega
      have zz2 : z.size ≤ 16 := by rw [hz, hd_size]; omega
      have s1 : ¬ 9223372036854775807 < mr.hd.size + z.size := by omega
      have CD : Hid (∀ W, Below wr.heap.size wr W → Calls Tryd.prog F (#[plv mAl Zn] ++ caps) W fun e W' => e = .returned (.bool (D (A ++ l.text) (r.text ++ B))) ∧ Hid (Below W.heap.size W W')) := fun W hW => by
        rw [← hmAl, ← hZn]
        have e : A ++ l.text ++ (r.text ++ B) = S := by rw [app_assoc, ← app_assoc l.text]; exact hd1.s
        exact HD.out W _ _ (Below.on hd1.l hW) e
      have HD1 : Hid (Dw w D S RES (.knot l r) A B (.iface T1 (.pointer (some a2))) (.string z) wr ∧ (Tr.knot l r).lv.length = mu (fun n => ∃ t A B, Dw w D S RES t A B (.iface T1 (.pointer (some a2))) (.string z) wr ∧ t.lv.length = n)) := ⟨hd1, hl1⟩
      have HEQ : Hid (smr A = mA ∧ smr (A ++ l.text) = mAl ∧ hd (r.text ++ B) = Zn ∧ z = hd B) := ⟨hmA, hmAl, hZn, hz⟩
      clear hl1 cs cp ct hd1 hmA hml hmr hmAl hZn hzr HD HE hs hsz hz m1 m2 m5 m6 nx ny zz1 zz2 ms1 ms2
      go_wp2_with (first | (go_at_fn gP; refine P1.out.mono ?_; clear P1; rintro e w3 ⟨rfl, H⟩) | (go_at_call 19; refine (C1.out _).mono ?_; clear C1; rintro e _ ⟨rfl, rfl⟩) | (go_at_call 19; refine (C2.out _).mono ?_; clear C2; rintro e _ ⟨rfl, rfl⟩))
      have FX : Hid (∀ W, Hid (Below w3.heap.size w3 W) → W.heap[w.heap.size]? = some (.cells (scs mA) 42 (0, 0)) ∧ Below w.heap.size w W) := fun W hW => FX0.out W (Below.on H.out hW.out)
      have CJ : Hid (∀ g W, Below w3.heap.size w3 W → W.heap[g]? = some (.cells (scs2 mA ml) 42 (0, 0)) → Calls Tryd.prog 32 #[.slice (some ⟨g, 0, none⟩) 2 2] W fun e W' => e = .returned (sv mAl) ∧ Hid (Below W.heap.size W W')) := fun g W hW hg => CJ0.out g W (Below.on H.out hW) hg
      have CF : Hid (∀ W, Below w3.heap.size w3 W → Calls Tryd.prog 43 #[.string (mr.hd ++ z)] W fun e W' => e = .returned (.string Zn) ∧ Hid (Below W.heap.size W W')) := fun W hW => CF0.out W (Below.on H.out hW)
      have Sl : Hid (∀ W, Below w3.heap.size w3 W → Calls Tryd.prog gl #[.pointer (some c)] W fun e X => e = .returned (sv ml) ∧ Hid (Below W.heap.size W X)) := fun W hW => Sl0.out W (Below.on H.out hW)
      have Sr : Hid (∀ W, Below w3.heap.size w3 W → Calls Tryd.prog gr #[.pointer (some d)] W fun e X => e = .returned (sv mr) ∧ Hid (Below W.heap.size W X)) := fun W hW => Sr0.out W (Below.on H.out hW)
      clear Sl0 Sr0
      have HW : Hid (Below w3.heap.size w3 w3) := Below.refl _ w3
      have HLW : Hid (w.heap.size < w3.heap.size) := (Array.getElem?_eq_some_iff.1 (FX.out _ HW).1).1
      clear FX0 CJ0 CF0
      go_cut [10] (fun v10 wx => ∃ q, v10 = .pointer (some ⟨q, 0, none⟩) ∧ Hid (wx.heap[q]? = some (.cells (pcs mAl Zn) 51 (0, 0)) ∧ Below w3.heap.size w3 wx ∧ w.heap.size < q))
      case first =>
        refine dname fun A hA => ?_
        refine region_inv (by kernel_rfl) (by kernel_rfl) (fun v a' w' => ∃ x : Nat → Value, a' = ⟨dfr A.tmps x, []⟩ ∧ DB w w3 mA ml mr mAl z Zn (.iface Ta (.pointer (some c))) (.iface U (.pointer (some d))) v x w') ?start ?step ?fin
        case start =>
          refine ⟨fun i => A.tmps.getD (if i = 12 then 10 else 27 + i) undef, ?_, .inl ⟨(Below.refl _ w3).drew, fun i e => ?_, rfl⟩⟩
          · subst hA
            simp [dfr]
          · rw [List.getD_eq_getElem?_getD, List.getElem?_replicate] at e
            split at e <;> simp at e
        case step =>
          intro i o v a' w' ho hv hni hop hI
          obtain ⟨x, rfl, hx⟩ := hI
          have hi : i < 14 := (List.getElem?_eq_some_iff.1 ho).1
          have HI : Hid (DI w3 mA ml mr mAl z Zn (.iface Ta (.pointer (some c))) (.iface U (.pointer (some d))) v x w') := hx.at hi hv hni
          clear hx hi HW HMU HD1 HEQ CD HNX
          rcases i with _ | _ | _ | _ | _ | _ | _ | _ | _ | _ | _ | _ | _ | _ | i
          · obtain rfl := Option.some.inj ho
            obtain ⟨⟨c0, c1, c2, c3, c4, c5, c6⟩, -⟩ := box7 (FX.out _ HI.out.b).1
            subst hA
            simp only [dfr, List.setIfInBounds_toArray, List.set_cons_succ, List.set_cons_zero]
            go_wp2
            exact ⟨upd x 0 (sv mA), by simp [upd], .inl (HI.out.set (Below.refl _ _) (by decide) rfl)⟩
          · obtain rfl := Option.some.inj ho
            subst hA
            simp only [dfr, List.setIfInBounds_toArray, List.set_cons_succ, List.set_cons_zero]
            go_wp2
            exact ⟨upd x 1 (.iface Ta (.pointer (some c))), by simp [upd], .inl (HI.out.set (Below.refl _ _) (by decide) rfl)⟩
          · obtain rfl := Option.some.inj ho
            have e1 : x 1 = _ := HI.out.h 1 (open_waits hop (by kernel_rfl))
            subst hA
            simp only [dfr, List.setIfInBounds_toArray, List.set_cons_succ, List.set_cons_zero]
            simp only [e1]
            go_wp2_with (go_at_fn gl; refine (Sl.out _ HI.out.b).mono ?_; rintro e w5 ⟨rfl, hb5⟩)
            exact ⟨upd x 2 (sv ml), by simp [upd, e1], .inl (HI.out.set hb5.out (by decide) rfl)⟩
          · obtain rfl := Option.some.inj ho
            have e0 : x 0 = _ := HI.out.h 0 (open_waits hop (by kernel_rfl))
            have e2 : x 2 = _ := HI.out.h 2 (open_waits hop (by kernel_rfl))
            subst hA
            simp only [dfr, List.setIfInBounds_toArray, List.set_cons_succ, List.set_cons_zero]
            simp only [e0, e2]
            go_wp2
            exact ⟨upd x 3 (.slice (some ⟨w'.heap.size, 0, none⟩) 2 2), by simp [upd, e0, e2], .inl (HI.out.set ((Below.refl _ w').alloc (Nat.le_refl _) (.cells (scs2 mA ml) 42)) (by decide) ⟨_, rfl, World.alloc_heap_new w' _⟩)⟩
          · obtain rfl := Option.some.inj ho
            obtain ⟨g, e3, hg⟩ : ∃ g, x 3 = .slice (some ⟨g, 0, none⟩) 2 2 ∧ w'.heap[g]? = some (.cells (scs2 mA ml) 42 (0, 0)) := HI.out.h 3 (open_waits hop (by kernel_rfl))
            have HG : Hid (w'.heap[g]? = some (.cells (scs2 mA ml) 42 (0, 0))) := hg
            clear hg
            subst hA
            simp only [dfr, List.setIfInBounds_toArray, List.set_cons_succ, List.set_cons_zero]
            simp only [e3]
            go_wp2_with (go_at_call 32; refine (CJ.out g _ HI.out.b HG.out).mono ?_; rintro e w5 ⟨rfl, hb5⟩)
            exact ⟨upd x 4 (sv mAl), by simp [upd, e3], .inl (HI.out.set hb5.out (by decide) rfl)⟩
          · obtain rfl := Option.some.inj ho
            subst hA
            simp only [dfr, List.setIfInBounds_toArray, List.set_cons_succ, List.set_cons_zero]
            go_wp2
            exact ⟨upd x 5 (.iface U (.pointer (some d))), by simp [upd], .inl (HI.out.set (Below.refl _ _) (by decide) rfl)⟩
          · obtain rfl := Option.some.inj ho
            have e5 : x 5 = _ := HI.out.h 5 (open_waits hop (by kernel_rfl))
            subst hA
            simp only [dfr, List.setIfInBounds_toArray, List.set_cons_succ, List.set_cons_zero]
            simp only [e5]
            go_wp2_with (go_at_fn gr; refine (Sr.out _ HI.out.b).mono ?_; rintro e w5 ⟨rfl, hb5⟩)
            exact ⟨upd x 6 (sv mr), by simp [upd, e5], .inl (HI.out.set hb5.out (by decide) rfl)⟩
          · obtain rfl := Option.some.inj ho
            have e6 : x 6 = _ := HI.out.h 6 (open_waits hop (by kernel_rfl))
            subst hA
            simp only [dfr, List.setIfInBounds_toArray, List.set_cons_succ, List.set_cons_zero]
            simp only [e6]
            go_wp2
            exact ⟨upd x 7 (.string mr.hd), by simp [upd, e6], .inl (HI.out.set (Below.refl _ _) (by decide) rfl)⟩
          · obtain rfl := Option.some.inj ho
            subst hA
            simp only [dfr, List.setIfInBounds_toArray, List.set_cons_succ, List.set_cons_zero]
            go_wp2
            exact ⟨upd x 8 (.string z), by simp [upd], .inl (HI.out.set (Below.refl _ _) (by decide) rfl)⟩
          · obtain rfl := Option.some.inj ho
            have e7 : x 7 = _ := HI.out.h 7 (open_waits hop (by kernel_rfl))
            have e8 : x 8 = _ := HI.out.h 8 (open_waits hop (by kernel_rfl))
            subst hA
            simp only [dfr, List.setIfInBounds_toArray, List.set_cons_succ, List.set_cons_zero]
            simp only [e7, e8]
            go_wp2
            exact ⟨upd x 9 (.string (mr.hd ++ z)), by simp [upd, e7, e8], .inl (HI.out.set (Below.refl _ _) (by decide) rfl)⟩
          · obtain rfl := Option.some.inj ho
            have e9 : x 9 = _ := HI.out.h 9 (open_waits hop (by kernel_rfl))
            subst hA
            simp only [dfr, List.setIfInBounds_toArray, List.set_cons_succ, List.set_cons_zero]
            simp only [e9]
            go_wp2_with (go_at_call 43; refine (CF.out _ HI.out.b).mono ?_; rintro e w5 ⟨rfl, hb5⟩)
            exact ⟨upd x 10 (.string Zn), by simp [upd, e9], .inl (HI.out.set hb5.out (by decide) rfl)⟩
          · obtain rfl := Option.some.inj ho
            have e4 : x 4 = _ := HI.out.h 4 (open_waits hop (by kernel_rfl))
            have e10 : x 10 = _ := HI.out.h 10 (open_waits hop (by kernel_rfl))
            subst hA
            simp only [dfr, List.setIfInBounds_toArray, List.set_cons_succ, List.set_cons_zero]
            simp only [e4, e10]
            go_wp2
            exact ⟨upd x 11 (plv mAl Zn), by simp [upd, e4, e10], .inl (HI.out.set (Below.refl _ _) (by decide) rfl)⟩
          · obtain rfl := Option.some.inj ho
            subst hA
            simp only [dfr, List.setIfInBounds_toArray, List.set_cons_succ, List.set_cons_zero]
            go_wp2
            exact ⟨upd x 12 (.pointer (some ⟨w'.heap.size, 0, none⟩)), by simp [upd], .inl (HI.out.set ((Below.refl _ w').alloc (Nat.le_refl _) (.cells z8 51)) (by decide) ⟨_, rfl, World.alloc_heap_new w' _, HI.out.b.size⟩)⟩
          · obtain rfl := Option.some.inj ho
            have e11 : x 11 = _ := HI.out.h 11 (open_waits hop (by kernel_rfl))
            have hall : ∀ j, j < 14 → (v.set 13 true).getD j false = true := fun j hj => by
              by_cases c : j = 13
              · subst c
                simp [List.getD_eq_getElem?_getD, hv]
              · rw [dgset (fun e => c e.symm)]
                have : j = 0 ∨ j = 1 ∨ j = 2 ∨ j = 3 ∨ j = 4 ∨ j = 5 ∨ j = 6 ∨ j = 7 ∨ j = 8 ∨ j = 9 ∨ j = 10 ∨ j = 11 ∨ j = 12 := by omega
                rcases this with rfl | rfl | rfl | rfl | rfl | rfl | rfl | rfl | rfl | rfl | rfl | rfl | rfl <;> exact open_waits hop (by kernel_rfl)
            obtain ⟨q, e12, hq, hq3⟩ : ∃ q, x 12 = .pointer (some ⟨q, 0, none⟩) ∧ w'.heap[q]? = some (.cells z8 51 (0, 0)) ∧ w3.heap.size ≤ q := HI.out.h 12 (open_waits hop (by kernel_rfl))
            obtain ⟨k0, k1, k2, k3, k4, k5, k6, k7⟩ := box8 hq
            obtain ⟨g0, g1, g2, g3, g4, g5, g6, g7⟩ := box8f hq
            have lq := (Array.getElem?_eq_some_iff.1 hq).1
            have HFN : Hid (∀ X, X = ((((((((w'.setCell ⟨q, 0, none⟩ (.int .i64 mAl.by')).setCell ⟨q, 1, none⟩ (.int .i64 mAl.un)).setCell ⟨q, 2, none⟩ (.int .i64 mAl.cl)).setCell ⟨q, 3, none⟩ (.int .i64 mAl.ce)).setCell ⟨q, 4, none⟩ (.int .i64 mAl.nl)).setCell ⟨q, 5, none⟩ (.string mAl.hd)).setCell ⟨q, 6, none⟩ (.string mAl.tl)).setCell ⟨q, 7, none⟩ (.string Zn)) → (∀ j, j < 14 → (v.set 13 true).getD j false = true) ∧ DF w w3 mAl Zn x X) := fun X hX => ⟨hall, q, e12, by rw [hX]; exact set8_box hq _ _ _ _ _ _ _ _, by rw [hX]; exact set8_below hq3 HI.out.b _ _ _ _ _ _ _ _, by have := HLW.out; omega⟩
            clear hall hq hq3
            subst hA
            simp only [dfr, List.setIfInBounds_toArray, List.set_cons_succ, List.set_cons_zero]
            simp only [e11, e12]
            go_wp2
            exact ⟨x, by simp [e11, e12], .inr (HFN.out _ rfl)⟩
          · simp at ho
        case fin =>
          intro v a' w' hv hall hI
          obtain ⟨x, rfl, hx⟩ := hI
          obtain ⟨q, e12, hq⟩ := hx.fin hv hall
          have HQ : Hid (w'.heap[q]? = some (.cells (pcs mAl Zn) 51 (0, 0)) ∧ Below w3.heap.size w3 w' ∧ w.heap.size < q) := hq
          clear hq hx
          subst hA
          simp only [dfr, List.setIfInBounds_toArray, List.set_cons_succ, List.set_cons_zero, e12]
          go_wp2_with fail
          go_meet
          exact ⟨q, rfl, HQ⟩
      case rest =>
        obtain ⟨q, rfl, HC⟩ := hcut
        clear Sl Sr CJ CF HLW HW n1 n2 n3 n4 y5 s1
        obtain ⟨k0, k1, k2, k3, k4, k5, k6, k7⟩ := box8 HC.out.1
        have CDx : Hid (Calls Tryd.prog F (#[plv mAl Zn] ++ caps) wc fun e W' => e = .returned (.bool (D (A ++ l.text) (r.text ++ B))) ∧ Hid (Below wc.heap.size wc W')) := CD.out _ (Below.on H.out HC.out.2.1)
        clear CD
        have HKP : Hid (∀ W, Hid (Below wc.heap.size wc W) → W.heap[q]? = some (.cells (pcs mAl Zn) 51 (0, 0)) ∧ W.heap[w.heap.size]? = some (.cells (scs mA) 42 (0, 0)) ∧ Below w.heap.size w W) := fun W hW => ⟨(hW.out.block _ (Array.getElem?_eq_some_iff.1 HC.out.1).1).trans HC.out.1, FX.out W (Below.on HC.out.2.1 hW.out)⟩
        obtain ⟨bb, hbb⟩ : ∃ b, D (A ++ l.text) (r.text ++ B) = b := ⟨_, rfl⟩
        have HBB : Hid (D (A ++ l.text) (r.text ++ B) = bb) := hbb
        rw [hbb] at CDx
        have hq : w.heap.size < q := HC.out.2.2
        clear hbb FX HC
        cases bb
        · go_wp2_with (go_at_fn F; refine CDx.out.mono ?_; clear CDx; rintro e w5 ⟨rfl, H5⟩; obtain ⟨j0, j1, j2, j3, j4, j5, j6, j7⟩ := box8 (HKP.out _ H5).1; have lq := (Array.getElem?_eq_some_iff.1 (HKP.out _ H5).1).1)
          have hz : z = hd B := HEQ.out.2.2.2
          have hDw : Dw w D S RES l A (r.text ++ B) (.iface Ta (.pointer (some c))) (.string Zn) w5 := ⟨HNX.out.1, by rw [HEQ.out.1]; exact (HKP.out _ H5).2.1, by rw [HEQ.out.2.2.1], by have e := HD1.out.1.s; have e2 : (Tr.knot l r).text = l.text ++ r.text := rfl; rw [e2, app_assoc l.text] at e; exact e, by have e := HD1.out.1.r; unfold dn at e; rw [HBB.out] at e; exact e, (HKP.out _ H5).2.2⟩
          refine ⟨⟨_, _, _, rfl, rfl, _, _, _, hDw⟩, ?_⟩
          have h1 := mu_le HMU.out hDw
          have h2 := HD1.out.2
          have h3 : (Tr.knot l r).lv.length = l.lv.length + r.lv.length := List.length_append
          have h4 := lv_pos r
          omega
        · go_wp2_with (go_at_fn F; refine CDx.out.mono ?_; clear CDx; rintro e w5 ⟨rfl, H5⟩; obtain ⟨j0, j1, j2, j3, j4, j5, j6, j7⟩ := box8 (HKP.out _ H5).1; obtain ⟨⟨z0, z1, z2, z3, z4, z5, z6⟩, f0, f1, f2, f3, f4, f5, f6⟩ := box7 (HKP.out _ H5).2.1; have lq := (Array.getElem?_eq_some_iff.1 (HKP.out _ H5).1).1; have lw := (Array.getElem?_eq_some_iff.1 (HKP.out _ H5).2.1).1)
          have hz : z = hd B := HEQ.out.2.2.2
          have hDw : Dw w D S RES r (A ++ l.text) B (.iface U (.pointer (some d))) (.string z) (((((((w5.setCell ⟨w.heap.size, 0, none⟩ (.int .i64 mAl.by')).setCell ⟨w.heap.size, 1, none⟩ (.int .i64 mAl.un)).setCell ⟨w.heap.size, 2, none⟩ (.int .i64 mAl.cl)).setCell ⟨w.heap.size, 3, none⟩ (.int .i64 mAl.ce)).setCell ⟨w.heap.size, 4, none⟩ (.int .i64 mAl.nl)).setCell ⟨w.heap.size, 5, none⟩ (.string mAl.hd)).setCell ⟨w.heap.size, 6, none⟩ (.string mAl.tl)) := ⟨HNX.out.2, by rw [HEQ.out.2.1]; exact set7_box (HKP.out _ H5).2.1 _ _ _ _ _ _ _, by rw [hz], by have e := HD1.out.1.s; have e2 : (Tr.knot l r).text = l.text ++ r.text := rfl; rw [e2, app_assoc l.text, ← app_assoc A] at e; exact e, by have e := HD1.out.1.r; unfold dn at e; rw [HBB.out] at e; exact e, set7_below (HKP.out _ H5).2.2 _ _ _ _ _ _ _⟩
          refine ⟨⟨_, _, _, rfl, rfl, _, _, _, hDw⟩, ?_⟩
          have h1 := mu_le HMU.out hDw
          have h2 := HD1.out.2
          have h3 : (Tr.knot l r).lv.length = l.lv.length + r.lv.length := List.length_append
          have h4 := lv_pos l
          omega
end Go.Proofs.YtiehhafbblbbiabDoor
