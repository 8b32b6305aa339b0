/-
  The walks of package width's pairs and Ranges: for every class a new list of the ranges that VMath tells. Conditions of pairs: its list lies in one block and is short.
-/
import Derived.Test.YtfjoklbiocniiaaDoorVWalkB
import Derived.OwnWalk
import Derived.ArgAppend
import Derived.Deep.RegionLaw
namespace Go.Proofs.YtfjoklbiocniiaaDoor
open Go.RowKit Wid

theorem step_append_own {P : Program} {ops : Array Oper} {o : Oper} {a : Act} {w : World} {K : Act → World → Prop} {Q : Exit → Act → World → Prop} {E : Prop}
    (hg : o.guard = none) (s x : Operand) (t : TypeId) (ho : o.op = .call { callee := .builtin .append, args := #[s, x], argTypes := #[t, t] })
    (base : Nat) (e : TypeId) (i : TypeInfo) (z : Value) (size bytes : Nat) (ht : P.underlying t = some (.slice e)) (hi : P.info? e = some i) (hz : i.zero = some z)
    (hsize : i.size = size) (hby : i.bytes = bytes) (hzs : z.cells.size = size) (hsz : 0 < size)
    (v : Value) (n : Nat) (xs : List Value) (hs : a.eval s = v) (hown : w.ownsRow base e size v n xs)
    (ad : Addr) (m c : Nat) (news : List Value) (hx : a.eval x = .slice (some ad) m c) (hl : news.length = m * size) (hnews : ∀ j u, news[j]? = some u → w.cell? (ad.add j) = some u) (h1 : ∀ u ∈ news, u.oneCell' = true)
    (h63 : n + m ≤ maxLen) (hbytes : (n + m) * bytes ≤ 140737488355328) (hbase : base ≤ w.heap.size)
    (hK : ∀ v' w', w'.ownsRow base e size v' (n + m) (xs ++ news) → w.grownBy w' v.ownBlock → K (a.put o.dst v') w') :
    if Region.wanted o (yielded ops a.tmps) = true then Oper.wp P o a w K Q else E := by
  have hw : Region.wanted o (yielded ops a.tmps) = true := by simp [Region.wanted, hg]
  rw [if_pos hw]
  exact wp_append_own w s x t ho base e i z size bytes ht hi hz hsize hby hzs hsz v n xs hs hown ad m c news hx hl hnews h1 h63 hbytes hbase fun v' w' h2 h3 _ => hK v' w' h2 h3

/-- the cells of a list of ranges -/
def rcells (l : List (Int × Int)) : List Value := l.flatMap fun p => [Value.int .i32 p.1, Value.int .i32 p.2]
theorem rcells_snoc (l : List (Int × Int)) (p : Int × Int) : rcells (l ++ [p]) = rcells l ++ [.int .i32 p.1, .int .i32 p.2] := by simp [rcells]
theorem rcells_len : ∀ l : List (Int × Int), (rcells l).length = l.length * 2
  | [] => rfl
  | p :: r => by
    have := rcells_len r
    simp only [rcells, List.flatMap_cons, List.length_append, List.length_cons, List.length_nil] at this ⊢
    omega
theorem infoR : (Tryd.prog.info? 118).map (fun i => (i.zero, i.size, i.bytes)) = some (some (.agg #[.int .i32 0, .int .i32 0]), 2, 8) := by kernel_rfl

theorem take_snoc (l : List (Int × Int)) (k : Nat) (h : k < l.length) : l.take (k + 1) = l.take k ++ [l.getD k (0, 0)] := by
  rw [List.take_succ_eq_append_getElem h]; simp [List.getD, h]

theorem below_drew {B : Nat} {w W : World} (h : Below B w W) : Below B w W.drew := ⟨h.os, h.tape, h.output, h.size, h.block⟩

theorem fill_alloc {P : Program} (w : World) (Z M : Array Value) (t : TypeId) (hZ : M.size = Z.size) (h1 : ∀ v ∈ M.toList, v.oneCell' = true) : (storeCells ⟨w.heap.size, 0, none⟩ M.toList).run P (w.alloc (.cells Z t)) = .ok () (w.alloc (.cells M t)) := by
  rw [fill_one _ _ t Z M (heap_one w _) hZ h1, setRow_alloc]
theorem row_mono {base base' e size n : Nat} {v : Value} {xs : List Value} {W : World} (h : W.ownsRow base e size v n xs) (hb : base' ≤ base) : W.ownsRow base' e size v n xs := by
  refine ⟨h.1, ?_⟩
  rcases h.2 with h0 | ⟨g, cap, cur, hv, hbg, rest⟩
  · exact .inl h0
  · exact .inr ⟨g, cap, cur, hv, Nat.le_trans hb hbg, rest⟩
/-- what a call of Ranges leaves: a new list of its own -/
def Made (w : World) (l : List (Int × Int)) (e : Ending) (w' : World) : Prop := ∃ v, e = .returned v ∧ w'.ownsRow w.heap.size 118 2 v l.length (rcells l) ∧ Below w.heap.size w w'
theorem made_of {w w1 : World} {l : List (Int × Int)} {e : Ending} {w' : World} (hb : Below w.heap.size w w1) (h : Made w1 l e w') : Made w l e w' := by
  obtain ⟨v, h1, h2, h3⟩ := h
  exact ⟨v, h1, row_mono h2 hb.size, hb.trans (h3.mono hb.size)⟩
theorem lit_cell (w : World) (zs : List Int) (t : TypeId) : ∀ j, j < zs.length → (w.alloc (.cells (arr zs) t)).cell? ⟨w.heap.size, j, none⟩ = some (.int .i32 (zs.getD j 0)) := arr_cell (heap_one w _)

end Go.Proofs.YtfjoklbiocniiaaDoor
