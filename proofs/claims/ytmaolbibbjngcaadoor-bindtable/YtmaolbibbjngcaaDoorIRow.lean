/-
  Rows of keys that are read and rows of commands that are made; what a binder makes of keys one behind the other; Key of package bind, whatever waits. Conditions: those of waits, kindOf and command.
-/
import Derived.Test.YtmaolbibbjngcaaDoorIKey
import Derived.Maps.AppendAt
import Derived.Laws.OwnMore
namespace Go.Proofs.YtmaolbibbjngcaaDoor
open Go.RowKit Go.Shelf Bod

theorem preP_pn (k : Ky) : preP k = ⟨#[]⟩ ∨ Pn (preP k) := by
  unfold preP
  cases h : pxL.find? fun r => isP k r.1 r.2.1 r.2.2.1 with
  | none => exact .inl rfl
  | some r =>
    have := List.mem_of_find?_eq_some h
    simp only [pxL, List.mem_cons, List.not_mem_nil, or_false] at this
    refine .inr ?_
    rcases this with rfl | rfl | rfl | rfl
    · exact .inl rfl
    · exact .inr (.inl rfl)
    · exact .inr (.inr (.inl rfl))
    · exact .inr (.inr (.inr rfl))
theorem bsz_ok : bsz.Ok := ⟨.inl rfl, by decide, by decide, fun _ => rfl⟩
theorem waiP_ok {s t : Bs} {k : Ky} (hs : s.Ok) (h : waiP s k = some t) : t.Ok := by
  unfold waiP at h
  split at h
  · split at h
    · rename_i hd
      cases h
      simp only [digP, Bool.and_eq_true, decide_eq_true_eq] at hd
      obtain ⟨⟨⟨_, q0⟩, q1⟩, _⟩ := hd
      have n0 := hs.n0
      exact ⟨.inl rfl, by simp only; omega, by simp only; omega, fun e => by cases e⟩
    · split at h
      · cases h
      · cases h
        exact ⟨preP_pn k, hs.n0, hs.n1, hs.z⟩
  · cases h
theorem keyP_ok {s : Bs} (hs : s.Ok) (k : Ky) : (keyP s k).2.2.Ok := by
  unfold keyP
  cases h : waiP s k with
  | none => exact bsz_ok
  | some t => exact waiP_ok hs h
theorem key_any (hM : Tryd.prog.follows .mixedOrders = true) (b : Nat) (s : Bs) (hs : s.Ok) (k : Ky) (hk : k.Ok) (w : World) (hT : Tb w) (ha : Ab b) (h : Bn b s w) : Calls Tryd.prog 15 #[.pointer (some ⟨b, 0, none⟩), kyv k] w fun e w' => e = .returned (.tuple #[.agg (cmc (keyP s k).1), .bool (keyP s k).2.1]) ∧ Bn b (keyP s k).2.2 w' ∧ w.grownBy w' (some b) := by
  unfold keyP
  cases hw : waiP s k with
  | none => exact key_mk hM b s hs k hk w hT ha h hw
  | some t => exact key_wt b s t hs k hk w hT ha h hw
/-- the commands that a binder makes of keys, and what waits then -/
def runP (s : Bs) (l : List Ky) : List Cm × Bs := l.foldl (fun p k => (p.1 ++ (if (keyP p.2 k).2.1 then [(keyP p.2 k).1] else []), (keyP p.2 k).2.2)) ([], s)
theorem runP_snoc (s : Bs) (l : List Ky) (k : Ky) : runP s (l ++ [k]) = ((runP s l).1 ++ (if (keyP (runP s l).2 k).2.1 then [(keyP (runP s l).2 k).1] else []), (keyP (runP s l).2 k).2.2) := by
  unfold runP
  rw [List.foldl_append]
  rfl
theorem runP_take (s : Bs) {l : List Ky} {i : Nat} {k : Ky} (h : l[i]? = some k) : runP s (l.take (i + 1)) = ((runP s (l.take i)).1 ++ (if (keyP (runP s (l.take i)).2 k).2.1 then [(keyP (runP s (l.take i)).2 k).1] else []), (keyP (runP s (l.take i)).2 k).2.2) := by
  rw [List.take_add_one, h]
  exact runP_snoc s _ k
theorem runP_ok {s : Bs} (hs : s.Ok) (l : List Ky) : (runP s l).2.Ok := by
  have : ∀ n, n ≤ l.length → (runP s (l.take n)).2.Ok := fun n => by
    induction n with
    | zero => intro _; exact hs
    | succ n ih =>
      intro hn
      rw [runP_take s (List.getElem?_eq_getElem (by omega))]
      exact keyP_ok (ih (by omega)) _
  have := this l.length (Nat.le_refl _)
  rwa [List.take_length] at this
theorem runP_len (s : Bs) (l : List Ky) : (runP s l).1.length ≤ l.length := by
  have : ∀ n, n ≤ l.length → (runP s (l.take n)).1.length ≤ n := fun n => by
    induction n with
    | zero => intro _; exact Nat.le_refl _
    | succ n ih =>
      intro hn
      rw [runP_take s (List.getElem?_eq_getElem (by omega))]
      have := ih (by omega)
      simp only [List.length_append]
      split <;> simp <;> omega
  have := this l.length (Nat.le_refl _)
  rwa [List.take_length] at this
/-- a slice that reads as keys -/
def RdKy (W : World) (v : Value) (l : List Ky) : Prop :=
  ∃ a cap, v = .slice a l.length cap ∧ l.length ≤ cap ∧ (l ≠ [] → ∃ g o, a = some ⟨g, o, none⟩ ∧ g < W.heap.size ∧ ∀ (k : Nat) x, l[k]? = some x → ∀ j, j < 6 → W.cell? ⟨g, o + k * 6 + j, none⟩ = (kyc x)[j]?)
theorem RdKy.to {W W' : World} {v : Value} {l : List Ky} (h : RdKy W v l) (hz : W.heap.size ≤ W'.heap.size) (hb : ∀ k, k < W.heap.size → W'.heap[k]? = W.heap[k]?) : RdKy W' v l := by
  obtain ⟨a, cap, e, hc, h⟩ := h
  refine ⟨a, cap, e, hc, fun h0 => ?_⟩
  obtain ⟨g, o, e, hg, hx⟩ := h h0
  refine ⟨g, o, e, by omega, fun k x hk j hj => ?_⟩
  rw [← hx k x hk j hj]
  simp only [World.cell?, hb g hg]
theorem RdKy.below {W W' : World} {n : Nat} {v : Value} {l : List Ky} (h : RdKy W v l) (hn : W.heap.size ≤ n) (hb : Below n W W') : RdKy W' v l := h.to hb.size fun k hk => hb.block k (by omega)
/-- one key of it -/
theorem RdKy.at {W : World} {a : Option Addr} {n cap : Nat} {l : List Ky} (h : RdKy W (.slice a n cap) l) {i : Nat} {x : Ky} (hx : l[i]? = some x) : ∃ g o, a = some ⟨g, o, none⟩ ∧ g < W.heap.size ∧
    (W.cell? ⟨g, o + i * 6, none⟩ = some (.int .i64 x.kd) ∧ W.cell? ⟨g, o + i * 6 + 1, none⟩ = some (.int .i32 x.ch) ∧ W.cell? ⟨g, o + i * 6 + 2, none⟩ = some (.bool x.ct) ∧ W.cell? ⟨g, o + i * 6 + 3, none⟩ = some (.bool x.me) ∧ W.cell? ⟨g, o + i * 6 + 4, none⟩ = some (.bool x.sh) ∧ W.cell? ⟨g, o + i * 6 + 5, none⟩ = some (.string x.tx)) := by
  obtain ⟨a', cap', e, _, h⟩ := h
  obtain ⟨g, o, e', hg, hc⟩ := h (fun e => by rw [e] at hx; simp at hx)
  cases e
  have hc := hc i x hx
  exact ⟨g, o, e', hg, hc 0 (by omega), hc 1 (by omega), hc 2 (by omega), hc 3 (by omega), hc 4 (by omega), hc 5 (by omega)⟩
/-- the cells of commands -/
def ccl (l : List Cm) : List Value := l.flatMap fun c => [.int .i64 c.kd, .int .i64 c.n, .string c.tx, .int .u8 c.mr]
theorem ccl_snoc (l : List Cm) (c : Cm) : ccl (l ++ [c]) = ccl l ++ [.int .i64 c.kd, .int .i64 c.n, .string c.tx, .int .u8 c.mr] := by simp [ccl]
theorem info_ccl : (Tryd.prog.info? 34).map (fun i => (i.zero, i.size, i.bytes)) = some (some (.agg #[.int .i64 0, .int .i64 0, .string ⟨#[]⟩, .int .u8 0]), 4, 40) := by kernel_rfl
/-- while commands are made: a binder of the call's own, what waits in it, the row of commands -/
structure Lc (w : World) (b : Nat) (s : Bs) (v : Value) (ys : List Cm) (W : World) : Prop where
  bel : Below w.heap.size w W
  ge : w.heap.size ≤ b
  bn : Bn b s W
  row : W.ownsRow w.heap.size 34 4 v ys.length (ccl ys)
section
variable {w W X : World} {b : Nat} {s t : Bs} {v v' : Value} {ys : List Cm}
theorem Lc.lt (h : Lc w b s v ys W) : b < W.heap.size := (Array.getElem?_eq_some_iff.1 h.bn).1
theorem Lc.ne (h : Lc w b s v ys W) : v.ownBlock = none ∨ v.ownBlock ≠ some b := by
  rcases h.row.2 with ⟨rfl, _⟩ | ⟨g, cap, cur, rfl, _, hg, _⟩
  · exact .inl rfl
  · refine .inr (fun e => ?_)
    simp only [Value.ownBlock, Option.some.injEq] at e
    subst e
    have := h.bn
    unfold Bn at this
    rw [hg] at this
    have := Option.some.inj this
    injection this with _ h3 _
    exact absurd h3 (by decide)
theorem Lc.below (h : Lc w b s v ys W) (hb : Below W.heap.size W X) : Lc w b s v ys X :=
  ⟨h.bel.trans (hb.mono h.bel.size), h.ge, h.bn.below hb, h.row.kept (row := none) ⟨hb.os, hb.tape, hb.output, hb.size, fun k hk _ => hb.block k hk⟩ (by cases v.ownBlock <;> simp)⟩
theorem Lc.to (h : Lc w b s v ys W) (h1 : Bn b t X) (hg : W.grownBy X (some b)) : Lc w b t v ys X :=
  ⟨h.bel.grown hg (by have := h.bel.size; omega) (fun k e => by cases e; exact h.ge), h.ge, h1, h.row.kept hg h.ne⟩
theorem Lc.app {c : Cm} {o : Obj} (h : Lc w b s v ys W) (h1 : X.ownsRow w.heap.size 34 4 v' (ys.length + 1) (ccl ys ++ [.int .i64 c.kd, .int .i64 c.n, .string c.tx, .int .u8 c.mr])) (hg : (W.alloc o).grownBy X v.ownBlock) : Lc w b s v' (ys ++ [c]) X := by
  have hb1 := h.bel.alloc h.bel.size o
  have hl := h.lt
  refine ⟨hb1.grown hg (by have := h.bel.size; simp; omega) (fun k e => (h.row.lt k e).1), h.ge, ?_, ?_⟩
  · refine (hg.block b (by simp; omega) (fun e => ?_)).trans ((Below.heap_alloc _ _ _ hl).trans h.bn)
    rcases h.ne with q | q
    · rw [q] at e; cases e
    · exact q e.symm
  · rw [ccl_snoc, List.length_append]
    exact h1
end
/-- a new box of four cells, or of six, written once -/
theorem nw4 (W : World) (o : Obj) (u0 u1 u2 u3 : Value) : Below W.heap.size W (((((W.alloc o).setCell ⟨W.heap.size, 0, none⟩ u0).setCell ⟨W.heap.size, 1, none⟩ u1).setCell ⟨W.heap.size, 2, none⟩ u2).setCell ⟨W.heap.size, 3, none⟩ u3) :=
  (((((Below.refl _ W).alloc (Nat.le_refl _) o).setCell (p := ⟨W.heap.size, 0, none⟩) (Nat.le_refl _) _).setCell (p := ⟨W.heap.size, 1, none⟩) (Nat.le_refl _) _).setCell (p := ⟨W.heap.size, 2, none⟩) (Nat.le_refl _) _).setCell (p := ⟨W.heap.size, 3, none⟩) (Nat.le_refl _) _
theorem nw6 (W : World) (o : Obj) (u0 u1 u2 u3 u4 u5 : Value) : Below W.heap.size W (((((((W.alloc o).setCell ⟨W.heap.size, 0, none⟩ u0).setCell ⟨W.heap.size, 1, none⟩ u1).setCell ⟨W.heap.size, 2, none⟩ u2).setCell ⟨W.heap.size, 3, none⟩ u3).setCell ⟨W.heap.size, 4, none⟩ u4).setCell ⟨W.heap.size, 5, none⟩ u5) :=
  ((nw4 W o u0 u1 u2 u3).setCell (p := ⟨W.heap.size, 4, none⟩) (Nat.le_refl _) _).setCell (p := ⟨W.heap.size, 5, none⟩) (Nat.le_refl _) _
end Go.Proofs.YtmaolbibbjngcaaDoor
