/-
  Package bind's four tables as they lie in memory, and their rows. Conditions: the tables hold what the program's text lays.
-/
import Derived.Test.YtmaolbibbjngcaaDoorIMath
namespace Go.Proofs.YtmaolbibbjngcaaDoor
open Go.RowKit

def bdv (l : List (Int × Bool × Int × Int)) : List Value := l.flatMap fun r => [.int .i64 r.1, .bool r.2.1, .int .i32 r.2.2.1, .int .i64 r.2.2.2]
def pxv (l : List (Int × Bool × Int × ByteArray)) : List Value := l.flatMap fun r => [.int .i64 r.1, .bool r.2.1, .int .i32 r.2.2.1, .string r.2.2.2]
def nmv (l : List (Int × Int × Int)) : List Value := l.flatMap fun r => [.int .i64 r.1, .int .i64 r.2.1, .int .i64 r.2.2]
/-- the tables lie in memory -/
structure Tb (w : World) : Prop where
  b : ∀ j v, (bdv bdL)[j]? = some v → w.cell? ⟨1, j, none⟩ = some v
  e : ∀ j v, (bdv exL)[j]? = some v → w.cell? ⟨3, j, none⟩ = some v
  p : ∀ j v, (pxv pxL)[j]? = some v → w.cell? ⟨0, j, none⟩ = some v
  n : ∀ j v, (nmv nmL)[j]? = some v → w.cell? ⟨2, j, none⟩ = some v
  lo : 0 < w.heap.size ∧ 1 < w.heap.size ∧ 2 < w.heap.size ∧ 3 < w.heap.size
theorem Tb.below {w W : World} (h : Tb w) (hb : Below w.heap.size w W) : Tb W :=
  ⟨fun j v q => (hb.cell (p := ⟨1, j, none⟩) h.lo.2.1).trans (h.b j v q), fun j v q => (hb.cell (p := ⟨3, j, none⟩) h.lo.2.2.2).trans (h.e j v q), fun j v q => (hb.cell (p := ⟨0, j, none⟩) h.lo.1).trans (h.p j v q), fun j v q => (hb.cell (p := ⟨2, j, none⟩) h.lo.2.2.1).trans (h.n j v q),
    Nat.lt_of_lt_of_le h.lo.1 hb.size, Nat.lt_of_lt_of_le h.lo.2.1 hb.size, Nat.lt_of_lt_of_le h.lo.2.2.1 hb.size, Nat.lt_of_lt_of_le h.lo.2.2.2 hb.size⟩
theorem load_tab {w : World} {g : Nat} {l : List Value} {n : Nat} (hn : l.length = n) (h : ∀ j v, l[j]? = some v → w.cell? ⟨g, j, none⟩ = some v) : (loadCells ⟨g, 0, none⟩ n).run Tryd.prog w = .ok l.toArray w := by
  subst hn
  exact run_loadCells_list w (⟨g, 0, none⟩ : Addr) l (fun j v q => by
    have := h j v q
    have e : (⟨g, 0, none⟩ : Addr).add j = ⟨g, j, none⟩ := by
      simp [Addr.add]
      intro h0; rw [h0]
    rw [e]; exact this)
theorem Tb.lb {w : World} (h : Tb w) : (loadCells ⟨1, 0, none⟩ 152).run Tryd.prog w = .ok (bdv bdL).toArray w := load_tab (by kernel_rfl) h.b
theorem Tb.le {w : World} (h : Tb w) : (loadCells ⟨3, 0, none⟩ 12).run Tryd.prog w = .ok (bdv exL).toArray w := load_tab (by kernel_rfl) h.e
theorem Tb.lp {w : World} (h : Tb w) : (loadCells ⟨0, 0, none⟩ 16).run Tryd.prog w = .ok (pxv pxL).toArray w := load_tab (by kernel_rfl) h.p
theorem Tb.ln {w : World} (h : Tb w) : (loadCells ⟨2, 0, none⟩ 27).run Tryd.prog w = .ok (nmv nmL).toArray w := load_tab (by kernel_rfl) h.n
theorem ixb : ∀ (i : Nat) (p : Int × Bool × Int × Int), bdL[i]? = some p → ∀ w : World, (Instr.index 77 (.agg (bdv bdL).toArray) (.int .i64 i)).run Tryd.prog w = .ok (.agg #[.int .i64 p.1, .bool p.2.1, .int .i32 p.2.2.1, .int .i64 p.2.2.2]) w := by
  intro i p h w
  have hi : i < 38 := (List.getElem?_eq_some_iff.1 h).1
  by_cases h0 : i = 0
  · have e : ∀ w : World, (Instr.index 77 (.agg (bdv bdL).toArray) (.int .i64 0)).run Tryd.prog w = .ok (.agg #[.int .i64 2, .bool false, .int .i32 64, .int .i64 29]) w := fun w => by kernel_rfl
    subst h0
    rw [← (Option.some.inj h : ((2, false, 64, 29) : Int × Bool × Int × Int) = p)]
    exact e w
  by_cases h1 : i = 1
  · have e : ∀ w : World, (Instr.index 77 (.agg (bdv bdL).toArray) (.int .i64 1)).run Tryd.prog w = .ok (.agg #[.int .i64 2, .bool false, .int .i32 65, .int .i64 8]) w := fun w => by kernel_rfl
    subst h1
    rw [← (Option.some.inj h : ((2, false, 65, 8) : Int × Bool × Int × Int) = p)]
    exact e w
  by_cases h2 : i = 2
  · have e : ∀ w : World, (Instr.index 77 (.agg (bdv bdL).toArray) (.int .i64 2)).run Tryd.prog w = .ok (.agg #[.int .i64 2, .bool false, .int .i32 69, .int .i64 9]) w := fun w => by kernel_rfl
    subst h2
    rw [← (Option.some.inj h : ((2, false, 69, 9) : Int × Bool × Int × Int) = p)]
    exact e w
  by_cases h3 : i = 3
  · have e : ∀ w : World, (Instr.index 77 (.agg (bdv bdL).toArray) (.int .i64 3)).run Tryd.prog w = .ok (.agg #[.int .i64 2, .bool false, .int .i32 66, .int .i64 4]) w := fun w => by kernel_rfl
    subst h3
    rw [← (Option.some.inj h : ((2, false, 66, 4) : Int × Bool × Int × Int) = p)]
    exact e w
  by_cases h4 : i = 4
  · have e : ∀ w : World, (Instr.index 77 (.agg (bdv bdL).toArray) (.int .i64 4)).run Tryd.prog w = .ok (.agg #[.int .i64 2, .bool false, .int .i32 70, .int .i64 5]) w := fun w => by kernel_rfl
    subst h4
    rw [← (Option.some.inj h : ((2, false, 70, 5) : Int × Bool × Int × Int) = p)]
    exact e w
  by_cases h5 : i = 5
  · have e : ∀ w : World, (Instr.index 77 (.agg (bdv bdL).toArray) (.int .i64 5)).run Tryd.prog w = .ok (.agg #[.int .i64 2, .bool false, .int .i32 80, .int .i64 10]) w := fun w => by kernel_rfl
    subst h5
    rw [← (Option.some.inj h : ((2, false, 80, 10) : Int × Bool × Int × Int) = p)]
    exact e w
  by_cases h6 : i = 6
  · have e : ∀ w : World, (Instr.index 77 (.agg (bdv bdL).toArray) (.int .i64 6)).run Tryd.prog w = .ok (.agg #[.int .i64 2, .bool false, .int .i32 78, .int .i64 11]) w := fun w => by kernel_rfl
    subst h6
    rw [← (Option.some.inj h : ((2, false, 78, 11) : Int × Bool × Int × Int) = p)]
    exact e w
  by_cases h7 : i = 7
  · have e : ∀ w : World, (Instr.index 77 (.agg (bdv bdL).toArray) (.int .i64 7)).run Tryd.prog w = .ok (.agg #[.int .i64 2, .bool false, .int .i32 68, .int .i64 14]) w := fun w => by kernel_rfl
    subst h7
    rw [← (Option.some.inj h : ((2, false, 68, 14) : Int × Bool × Int × Int) = p)]
    exact e w
  by_cases h8 : i = 8
  · have e : ∀ w : World, (Instr.index 77 (.agg (bdv bdL).toArray) (.int .i64 8)).run Tryd.prog w = .ok (.agg #[.int .i64 2, .bool false, .int .i32 72, .int .i64 15]) w := fun w => by kernel_rfl
    subst h8
    rw [← (Option.some.inj h : ((2, false, 72, 15) : Int × Bool × Int × Int) = p)]
    exact e w
  by_cases h9 : i = 9
  · have e : ∀ w : World, (Instr.index 77 (.agg (bdv bdL).toArray) (.int .i64 9)).run Tryd.prog w = .ok (.agg #[.int .i64 2, .bool false, .int .i32 63, .int .i64 15]) w := fun w => by kernel_rfl
    subst h9
    rw [← (Option.some.inj h : ((2, false, 63, 15) : Int × Bool × Int × Int) = p)]
    exact e w
  by_cases h10 : i = 10
  · have e : ∀ w : World, (Instr.index 77 (.agg (bdv bdL).toArray) (.int .i64 10)).run Tryd.prog w = .ok (.agg #[.int .i64 2, .bool false, .int .i32 71, .int .i64 37]) w := fun w => by kernel_rfl
    subst h10
    rw [← (Option.some.inj h : ((2, false, 71, 37) : Int × Bool × Int × Int) = p)]
    exact e w
  by_cases h11 : i = 11
  · have e : ∀ w : World, (Instr.index 77 (.agg (bdv bdL).toArray) (.int .i64 11)).run Tryd.prog w = .ok (.agg #[.int .i64 2, .bool false, .int .i32 73, .int .i64 1]) w := fun w => by kernel_rfl
    subst h11
    rw [← (Option.some.inj h : ((2, false, 73, 1) : Int × Bool × Int × Int) = p)]
    exact e w
  by_cases h12 : i = 12
  · have e : ∀ w : World, (Instr.index 77 (.agg (bdv bdL).toArray) (.int .i64 12)).run Tryd.prog w = .ok (.agg #[.int .i64 2, .bool false, .int .i32 74, .int .i64 2]) w := fun w => by kernel_rfl
    subst h12
    rw [← (Option.some.inj h : ((2, false, 74, 2) : Int × Bool × Int × Int) = p)]
    exact e w
  by_cases h13 : i = 13
  · have e : ∀ w : World, (Instr.index 77 (.agg (bdv bdL).toArray) (.int .i64 13)).run Tryd.prog w = .ok (.agg #[.int .i64 2, .bool false, .int .i32 77, .int .i64 3]) w := fun w => by kernel_rfl
    subst h13
    rw [← (Option.some.inj h : ((2, false, 77, 3) : Int × Bool × Int × Int) = p)]
    exact e w
  by_cases h14 : i = 14
  · have e : ∀ w : World, (Instr.index 77 (.agg (bdv bdL).toArray) (.int .i64 14)).run Tryd.prog w = .ok (.agg #[.int .i64 2, .bool false, .int .i32 75, .int .i64 18]) w := fun w => by kernel_rfl
    subst h14
    rw [← (Option.some.inj h : ((2, false, 75, 18) : Int × Bool × Int × Int) = p)]
    exact e w
  by_cases h15 : i = 15
  · have e : ∀ w : World, (Instr.index 77 (.agg (bdv bdL).toArray) (.int .i64 15)).run Tryd.prog w = .ok (.agg #[.int .i64 2, .bool false, .int .i32 85, .int .i64 19]) w := fun w => by kernel_rfl
    subst h15
    rw [← (Option.some.inj h : ((2, false, 85, 19) : Int × Bool × Int × Int) = p)]
    exact e w
  by_cases h16 : i = 16
  · have e : ∀ w : World, (Instr.index 77 (.agg (bdv bdL).toArray) (.int .i64 16)).run Tryd.prog w = .ok (.agg #[.int .i64 2, .bool false, .int .i32 76, .int .i64 38]) w := fun w => by kernel_rfl
    subst h16
    rw [← (Option.some.inj h : ((2, false, 76, 38) : Int × Bool × Int × Int) = p)]
    exact e w
  by_cases h17 : i = 17
  · have e : ∀ w : World, (Instr.index 77 (.agg (bdv bdL).toArray) (.int .i64 17)).run Tryd.prog w = .ok (.agg #[.int .i64 2, .bool false, .int .i32 82, .int .i64 36]) w := fun w => by kernel_rfl
    subst h17
    rw [← (Option.some.inj h : ((2, false, 82, 36) : Int × Bool × Int × Int) = p)]
    exact e w
  by_cases h18 : i = 18
  · have e : ∀ w : World, (Instr.index 77 (.agg (bdv bdL).toArray) (.int .i64 18)).run Tryd.prog w = .ok (.agg #[.int .i64 2, .bool false, .int .i32 84, .int .i64 24]) w := fun w => by kernel_rfl
    subst h18
    rw [← (Option.some.inj h : ((2, false, 84, 24) : Int × Bool × Int × Int) = p)]
    exact e w
  by_cases h19 : i = 19
  · have e : ∀ w : World, (Instr.index 77 (.agg (bdv bdL).toArray) (.int .i64 19)).run Tryd.prog w = .ok (.agg #[.int .i64 2, .bool false, .int .i32 87, .int .i64 20]) w := fun w => by kernel_rfl
    subst h19
    rw [← (Option.some.inj h : ((2, false, 87, 20) : Int × Bool × Int × Int) = p)]
    exact e w
  by_cases h20 : i = 20
  · have e : ∀ w : World, (Instr.index 77 (.agg (bdv bdL).toArray) (.int .i64 20)).run Tryd.prog w = .ok (.agg #[.int .i64 2, .bool false, .int .i32 89, .int .i64 22]) w := fun w => by kernel_rfl
    subst h20
    rw [← (Option.some.inj h : ((2, false, 89, 22) : Int × Bool × Int × Int) = p)]
    exact e w
  by_cases h21 : i = 21
  · have e : ∀ w : World, (Instr.index 77 (.agg (bdv bdL).toArray) (.int .i64 21)).run Tryd.prog w = .ok (.agg #[.int .i64 2, .bool false, .int .i32 95, .int .i64 32]) w := fun w => by kernel_rfl
    subst h21
    rw [← (Option.some.inj h : ((2, false, 95, 32) : Int × Bool × Int × Int) = p)]
    exact e w
  by_cases h22 : i = 22
  · have e : ∀ w : World, (Instr.index 77 (.agg (bdv bdL).toArray) (.int .i64 22)).run Tryd.prog w = .ok (.agg #[.int .i64 2, .bool false, .int .i32 94, .int .i64 33]) w := fun w => by kernel_rfl
    subst h22
    rw [← (Option.some.inj h : ((2, false, 94, 33) : Int × Bool × Int × Int) = p)]
    exact e w
  by_cases h23 : i = 23
  · have e : ∀ w : World, (Instr.index 77 (.agg (bdv bdL).toArray) (.int .i64 23)).run Tryd.prog w = .ok (.agg #[.int .i64 2, .bool true, .int .i32 72, .int .i64 17]) w := fun w => by kernel_rfl
    subst h23
    rw [← (Option.some.inj h : ((2, true, 72, 17) : Int × Bool × Int × Int) = p)]
    exact e w
  by_cases h24 : i = 24
  · have e : ∀ w : World, (Instr.index 77 (.agg (bdv bdL).toArray) (.int .i64 24)).run Tryd.prog w = .ok (.agg #[.int .i64 2, .bool true, .int .i32 63, .int .i64 17]) w := fun w => by kernel_rfl
    subst h24
    rw [← (Option.some.inj h : ((2, true, 63, 17) : Int × Bool × Int × Int) = p)]
    exact e w
  by_cases h25 : i = 25
  · have e : ∀ w : World, (Instr.index 77 (.agg (bdv bdL).toArray) (.int .i64 25)).run Tryd.prog w = .ok (.agg #[.int .i64 1, .bool true, .int .i32 98, .int .i64 6]) w := fun w => by kernel_rfl
    subst h25
    rw [← (Option.some.inj h : ((1, true, 98, 6) : Int × Bool × Int × Int) = p)]
    exact e w
  by_cases h26 : i = 26
  · have e : ∀ w : World, (Instr.index 77 (.agg (bdv bdL).toArray) (.int .i64 26)).run Tryd.prog w = .ok (.agg #[.int .i64 1, .bool true, .int .i32 102, .int .i64 7]) w := fun w => by kernel_rfl
    subst h26
    rw [← (Option.some.inj h : ((1, true, 102, 7) : Int × Bool × Int × Int) = p)]
    exact e w
  by_cases h27 : i = 27
  · have e : ∀ w : World, (Instr.index 77 (.agg (bdv bdL).toArray) (.int .i64 27)).run Tryd.prog w = .ok (.agg #[.int .i64 1, .bool true, .int .i32 100, .int .i64 16]) w := fun w => by kernel_rfl
    subst h27
    rw [← (Option.some.inj h : ((1, true, 100, 16) : Int × Bool × Int × Int) = p)]
    exact e w
  by_cases h28 : i = 28
  · have e : ∀ w : World, (Instr.index 77 (.agg (bdv bdL).toArray) (.int .i64 28)).run Tryd.prog w = .ok (.agg #[.int .i64 1, .bool true, .int .i32 60, .int .i64 12]) w := fun w => by kernel_rfl
    subst h28
    rw [← (Option.some.inj h : ((1, true, 60, 12) : Int × Bool × Int × Int) = p)]
    exact e w
  by_cases h29 : i = 29
  · have e : ∀ w : World, (Instr.index 77 (.agg (bdv bdL).toArray) (.int .i64 29)).run Tryd.prog w = .ok (.agg #[.int .i64 1, .bool true, .int .i32 62, .int .i64 13]) w := fun w => by kernel_rfl
    subst h29
    rw [← (Option.some.inj h : ((1, true, 62, 13) : Int × Bool × Int × Int) = p)]
    exact e w
  by_cases h30 : i = 30
  · have e : ∀ w : World, (Instr.index 77 (.agg (bdv bdL).toArray) (.int .i64 30)).run Tryd.prog w = .ok (.agg #[.int .i64 1, .bool true, .int .i32 119, .int .i64 21]) w := fun w => by kernel_rfl
    subst h30
    rw [← (Option.some.inj h : ((1, true, 119, 21) : Int × Bool × Int × Int) = p)]
    exact e w
  by_cases h31 : i = 31
  · have e : ∀ w : World, (Instr.index 77 (.agg (bdv bdL).toArray) (.int .i64 31)).run Tryd.prog w = .ok (.agg #[.int .i64 1, .bool true, .int .i32 121, .int .i64 23]) w := fun w => by kernel_rfl
    subst h31
    rw [← (Option.some.inj h : ((1, true, 121, 23) : Int × Bool × Int × Int) = p)]
    exact e w
  by_cases h32 : i = 32
  · have e : ∀ w : World, (Instr.index 77 (.agg (bdv bdL).toArray) (.int .i64 32)).run Tryd.prog w = .ok (.agg #[.int .i64 1, .bool true, .int .i32 116, .int .i64 25]) w := fun w => by kernel_rfl
    subst h32
    rw [← (Option.some.inj h : ((1, true, 116, 25) : Int × Bool × Int × Int) = p)]
    exact e w
  by_cases h33 : i = 33
  · have e : ∀ w : World, (Instr.index 77 (.agg (bdv bdL).toArray) (.int .i64 33)).run Tryd.prog w = .ok (.agg #[.int .i64 1, .bool true, .int .i32 117, .int .i64 26]) w := fun w => by kernel_rfl
    subst h33
    rw [← (Option.some.inj h : ((1, true, 117, 26) : Int × Bool × Int × Int) = p)]
    exact e w
  by_cases h34 : i = 34
  · have e : ∀ w : World, (Instr.index 77 (.agg (bdv bdL).toArray) (.int .i64 34)).run Tryd.prog w = .ok (.agg #[.int .i64 1, .bool true, .int .i32 108, .int .i64 27]) w := fun w => by kernel_rfl
    subst h34
    rw [← (Option.some.inj h : ((1, true, 108, 27) : Int × Bool × Int × Int) = p)]
    exact e w
  by_cases h35 : i = 35
  · have e : ∀ w : World, (Instr.index 77 (.agg (bdv bdL).toArray) (.int .i64 35)).run Tryd.prog w = .ok (.agg #[.int .i64 1, .bool true, .int .i32 99, .int .i64 28]) w := fun w => by kernel_rfl
    subst h35
    rw [← (Option.some.inj h : ((1, true, 99, 28) : Int × Bool × Int × Int) = p)]
    exact e w
  by_cases h36 : i = 36
  · have e : ∀ w : World, (Instr.index 77 (.agg (bdv bdL).toArray) (.int .i64 36)).run Tryd.prog w = .ok (.agg #[.int .i64 1, .bool true, .int .i32 112, .int .i64 34]) w := fun w => by kernel_rfl
    subst h36
    rw [← (Option.some.inj h : ((1, true, 112, 34) : Int × Bool × Int × Int) = p)]
    exact e w
  by_cases h37 : i = 37
  · have e : ∀ w : World, (Instr.index 77 (.agg (bdv bdL).toArray) (.int .i64 37)).run Tryd.prog w = .ok (.agg #[.int .i64 1, .bool true, .int .i32 110, .int .i64 35]) w := fun w => by kernel_rfl
    subst h37
    rw [← (Option.some.inj h : ((1, true, 110, 35) : Int × Bool × Int × Int) = p)]
    exact e w
  omega
theorem ixe : ∀ (i : Nat) (p : Int × Bool × Int × Int), exL[i]? = some p → ∀ w : World, (Instr.index 86 (.agg (bdv exL).toArray) (.int .i64 i)).run Tryd.prog w = .ok (.agg #[.int .i64 p.1, .bool p.2.1, .int .i32 p.2.2.1, .int .i64 p.2.2.2]) w := by
  intro i p h w
  have hi : i < 3 := (List.getElem?_eq_some_iff.1 h).1
  by_cases h0 : i = 0
  · have e : ∀ w : World, (Instr.index 86 (.agg (bdv exL).toArray) (.int .i64 0)).run Tryd.prog w = .ok (.agg #[.int .i64 2, .bool false, .int .i32 88, .int .i64 31]) w := fun w => by kernel_rfl
    subst h0
    rw [← (Option.some.inj h : ((2, false, 88, 31) : Int × Bool × Int × Int) = p)]
    exact e w
  by_cases h1 : i = 1
  · have e : ∀ w : World, (Instr.index 86 (.agg (bdv exL).toArray) (.int .i64 1)).run Tryd.prog w = .ok (.agg #[.int .i64 1, .bool false, .int .i32 117, .int .i64 32]) w := fun w => by kernel_rfl
    subst h1
    rw [← (Option.some.inj h : ((1, false, 117, 32) : Int × Bool × Int × Int) = p)]
    exact e w
  by_cases h2 : i = 2
  · have e : ∀ w : World, (Instr.index 86 (.agg (bdv exL).toArray) (.int .i64 2)).run Tryd.prog w = .ok (.agg #[.int .i64 1, .bool false, .int .i32 114, .int .i64 33]) w := fun w => by kernel_rfl
    subst h2
    rw [← (Option.some.inj h : ((1, false, 114, 33) : Int × Bool × Int × Int) = p)]
    exact e w
  omega
theorem ixp : ∀ (i : Nat) (p : Int × Bool × Int × ByteArray), pxL[i]? = some p → ∀ w : World, (Instr.index 70 (.agg (pxv pxL).toArray) (.int .i64 i)).run Tryd.prog w = .ok (.agg #[.int .i64 p.1, .bool p.2.1, .int .i32 p.2.2.1, .string p.2.2.2]) w := by
  intro i p h w
  have hi : i < 4 := (List.getElem?_eq_some_iff.1 h).1
  by_cases h0 : i = 0
  · have e : ∀ w : World, (Instr.index 70 (.agg (pxv pxL).toArray) (.int .i64 0)).run Tryd.prog w = .ok (.agg #[.int .i64 2, .bool false, .int .i32 81, .string ⟨#[113]⟩]) w := fun w => by kernel_rfl
    subst h0
    rw [← (Option.some.inj h : ((2, false, 81, ⟨#[113]⟩) : Int × Bool × Int × ByteArray) = p)]
    exact e w
  by_cases h1 : i = 1
  · have e : ∀ w : World, (Instr.index 70 (.agg (pxv pxL).toArray) (.int .i64 1)).run Tryd.prog w = .ok (.agg #[.int .i64 2, .bool false, .int .i32 88, .string ⟨#[120]⟩]) w := fun w => by kernel_rfl
    subst h1
    rw [← (Option.some.inj h : ((2, false, 88, ⟨#[120]⟩) : Int × Bool × Int × ByteArray) = p)]
    exact e w
  by_cases h2 : i = 2
  · have e : ∀ w : World, (Instr.index 70 (.agg (pxv pxL).toArray) (.int .i64 2)).run Tryd.prog w = .ok (.agg #[.int .i64 1, .bool true, .int .i32 109, .string ⟨#[109]⟩]) w := fun w => by kernel_rfl
    subst h2
    rw [← (Option.some.inj h : ((1, true, 109, ⟨#[109]⟩) : Int × Bool × Int × ByteArray) = p)]
    exact e w
  by_cases h3 : i = 3
  · have e : ∀ w : World, (Instr.index 70 (.agg (pxv pxL).toArray) (.int .i64 3)).run Tryd.prog w = .ok (.agg #[.int .i64 1, .bool true, .int .i32 39, .string ⟨#[39]⟩]) w := fun w => by kernel_rfl
    subst h3
    rw [← (Option.some.inj h : ((1, true, 39, ⟨#[39]⟩) : Int × Bool × Int × ByteArray) = p)]
    exact e w
  omega
theorem ixn : ∀ (i : Nat) (p : Int × Int × Int), nmL[i]? = some p → ∀ w : World, (Instr.index 85 (.agg (nmv nmL).toArray) (.int .i64 i)).run Tryd.prog w = .ok (.agg #[.int .i64 p.1, .int .i64 p.2.1, .int .i64 p.2.2]) w := by
  intro i p h w
  have hi : i < 9 := (List.getElem?_eq_some_iff.1 h).1
  by_cases h0 : i = 0
  · have e : ∀ w : World, (Instr.index 85 (.agg (nmv nmL).toArray) (.int .i64 0)).run Tryd.prog w = .ok (.agg #[.int .i64 8, .int .i64 4, .int .i64 6]) w := fun w => by kernel_rfl
    subst h0
    rw [← (Option.some.inj h : ((8, 4, 6) : Int × Int × Int) = p)]
    exact e w
  by_cases h1 : i = 1
  · have e : ∀ w : World, (Instr.index 85 (.agg (nmv nmL).toArray) (.int .i64 1)).run Tryd.prog w = .ok (.agg #[.int .i64 7, .int .i64 5, .int .i64 7]) w := fun w => by kernel_rfl
    subst h1
    rw [← (Option.some.inj h : ((7, 5, 7) : Int × Int × Int) = p)]
    exact e w
  by_cases h2 : i = 2
  · have e : ∀ w : World, (Instr.index 85 (.agg (nmv nmL).toArray) (.int .i64 2)).run Tryd.prog w = .ok (.agg #[.int .i64 5, .int .i64 10, .int .i64 34]) w := fun w => by kernel_rfl
    subst h2
    rw [← (Option.some.inj h : ((5, 10, 34) : Int × Int × Int) = p)]
    exact e w
  by_cases h3 : i = 3
  · have e : ∀ w : World, (Instr.index 85 (.agg (nmv nmL).toArray) (.int .i64 3)).run Tryd.prog w = .ok (.agg #[.int .i64 6, .int .i64 11, .int .i64 35]) w := fun w => by kernel_rfl
    subst h3
    rw [← (Option.some.inj h : ((6, 11, 35) : Int × Int × Int) = p)]
    exact e w
  by_cases h4 : i = 4
  · have e : ∀ w : World, (Instr.index 85 (.agg (nmv nmL).toArray) (.int .i64 4)).run Tryd.prog w = .ok (.agg #[.int .i64 9, .int .i64 8, .int .i64 12]) w := fun w => by kernel_rfl
    subst h4
    rw [← (Option.some.inj h : ((9, 8, 12) : Int × Int × Int) = p)]
    exact e w
  by_cases h5 : i = 5
  · have e : ∀ w : World, (Instr.index 85 (.agg (nmv nmL).toArray) (.int .i64 5)).run Tryd.prog w = .ok (.agg #[.int .i64 10, .int .i64 9, .int .i64 13]) w := fun w => by kernel_rfl
    subst h5
    rw [← (Option.some.inj h : ((10, 9, 13) : Int × Int × Int) = p)]
    exact e w
  by_cases h6 : i = 6
  · have e : ∀ w : World, (Instr.index 85 (.agg (nmv nmL).toArray) (.int .i64 6)).run Tryd.prog w = .ok (.agg #[.int .i64 12, .int .i64 14, .int .i64 16]) w := fun w => by kernel_rfl
    subst h6
    rw [← (Option.some.inj h : ((12, 14, 16) : Int × Int × Int) = p)]
    exact e w
  by_cases h7 : i = 7
  · have e : ∀ w : World, (Instr.index 85 (.agg (nmv nmL).toArray) (.int .i64 7)).run Tryd.prog w = .ok (.agg #[.int .i64 13, .int .i64 34, .int .i64 40]) w := fun w => by kernel_rfl
    subst h7
    rw [← (Option.some.inj h : ((13, 34, 40) : Int × Int × Int) = p)]
    exact e w
  by_cases h8 : i = 8
  · have e : ∀ w : World, (Instr.index 85 (.agg (nmv nmL).toArray) (.int .i64 8)).run Tryd.prog w = .ok (.agg #[.int .i64 14, .int .i64 35, .int .i64 40]) w := fun w => by kernel_rfl
    subst h8
    rw [← (Option.some.inj h : ((14, 35, 40) : Int × Int × Int) = p)]
    exact e w
  omega
end Go.Proofs.YtmaolbibbjngcaaDoor
