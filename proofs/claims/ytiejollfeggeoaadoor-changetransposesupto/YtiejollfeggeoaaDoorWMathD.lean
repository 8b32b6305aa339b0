/-
  A cluster holds its first unit; spans as cells. No program is walked in this text; no conditions.
-/
import Derived.Test.YtiejollfeggeoaaDoorPkB
import Derived.Test.YtiejollfeggeoaaDoorPkC
import Derived.Test.YtiejollfeggeoaaDoorCRd
namespace Go.Proofs.YtiejollfeggeoaaDoor
open Go.RowKit Bod Wid

theorem cl_first {s : ByteArray} {c : Clu} (h : c ∈ cl s) : c.fr < s.size ∧ c.fr + sz s c.fr ≤ c.to ∧ c.to ≤ s.size := by
  obtain ⟨h1, h2⟩ := cl_span h
  obtain ⟨m, hm, hB⟩ := cb_B (cl_cb s c h).1
  have : c.to = m := by omega
  exact ⟨by omega, by rw [this]; exact hB.2 c.fr (by omega), h2⟩
/-- the cells of spans -/
def spc (l : List (Nat × Nat)) : List Value := l.flatMap fun p => [Value.int .i64 p.1, Value.int .i64 p.2]
theorem spc_snoc (l : List (Nat × Nat)) (p : Nat × Nat) : spc (l ++ [p]) = spc l ++ [.int .i64 p.1, .int .i64 p.2] := by simp [spc]
theorem info_span : (Tryd.prog.info? 70).map (fun i => (i.zero, i.size, i.bytes)) = some (some (.agg #[.int .i64 0, .int .i64 0]), 2, 16) := by kernel_rfl
/-- rows of clusters and of spans lie apart -/
theorem rows_apart {W : World} {b b' n n' : Nat} {v v' : Value} {xs ys : List Value} (h : W.ownsRow b 68 4 v n xs) (h' : W.ownsRow b' 70 2 v' n' ys) : v.ownBlock = none ∨ v.ownBlock ≠ v'.ownBlock := by
  rcases h.2 with ⟨rfl, _⟩ | ⟨g, cap, cur, rfl, _, hg, _⟩
  · exact .inl rfl
  · refine .inr fun e => ?_
    rcases h'.2 with ⟨rfl, _⟩ | ⟨g', cap', cur', rfl, _, hg', _⟩
    · cases e
    · have e : g = g' := Option.some.inj e
      subst e
      rw [hg] at hg'
      have := Option.some.inj hg'
      injection this with _ ht _
      exact absurd ht (by decide)
/-- what lies where while the words are found -/
structure SI (w : World) (lv v : Value) (l : List Clu) (ys : List (Nat × Nat)) (W : World) : Prop where
  cls : W.ownsRow w.heap.size 68 4 lv l.length (ccl l)
  out : W.ownsRow w.heap.size 70 2 v ys.length (spc ys)
  bel : Below w.heap.size w W
theorem SI.below {w : World} {lv v : Value} {l : List Clu} {ys : List (Nat × Nat)} {W W' : World} (h : SI w lv v l ys W) (hb : Below W.heap.size W W') : SI w lv v l ys W' :=
  ⟨h.cls.kept ⟨hb.os, hb.tape, hb.output, hb.size, fun k hk _ => hb.block k hk⟩ (row := none) (by cases lv.ownBlock <;> simp), h.out.kept ⟨hb.os, hb.tape, hb.output, hb.size, fun k hk _ => hb.block k hk⟩ (row := none) (by cases v.ownBlock <;> simp), h.bel.trans (hb.mono h.bel.size)⟩
theorem SI.push {w : World} {lv v v' : Value} {l : List Clu} {ys : List (Nat × Nat)} {p : Nat × Nat} {W W1 W2 : World} (h : SI w lv v l ys W) (hb : Below W.heap.size W W1) (hg : W1.grownBy W2 v.ownBlock) (hrow : W2.ownsRow w.heap.size 70 2 v' (ys.length + 1) (spc ys ++ [.int .i64 p.1, .int .i64 p.2])) : SI w lv v' l (ys ++ [p]) W2 := by
  have h1 := h.below hb
  refine ⟨h1.cls.kept hg (rows_apart h1.cls h1.out), by rw [List.length_append, spc_snoc]; exact hrow, h1.bel.grown hg h1.bel.size (fun j e => (h1.out.lt j e).1)⟩
end Go.Proofs.YtiejollfeggeoaaDoor
