/-
  A list of spans that a range's rounds write, and the document's SameSpans. Conditions: those of each theorem.
-/
import Derived.Test.YtcjmfoadimpffaaGreatDoorDWa
import Derived.Test.YtcjmfoadimpffaaGreatDoorPkDR
import Derived.Lib.QuietBelow
import Derived.BigQuiet
namespace Go.Proofs.YtcjmfoadimpffaaGreatDoor.Sto
open Go.RowKit Go.Shelf Bod Wid Go.Lib

/-- P outlives what is done to the boxes gb and nb and from hi on -/
def Stays (P : World → Prop) (gb nb hi : Nat) : Prop := ∀ W W' row, P W → W.grownBy W' row → (∀ r, row = some r → r = gb ∨ r = nb ∨ hi ≤ r) → P W'
/-- the list in the box gb, its row at hi or beyond; the number in the box nb -/
structure Rg (P : World → Prop) (gb nb hi : Nat) (l : List (Nat × Nat)) (n : Int) (W : World) : Prop where
  p : P W
  got : ∃ v, W.heap[gb]? = some (.cells #[v] 67 (0, 0)) ∧ W.ownsRow hi 53 2 v l.length (spl l)
  nx : W.heap[nb]? = some (.cells #[.int .i64 n] 3 (0, 0))
section
variable {P : World → Prop} {gb nb hi : Nat} {l : List (Nat × Nat)} {n : Int} {W W' : World}
theorem row_cells {v : Value} {g : Nat} (h : W.ownsRow hi 53 2 v l.length (spl l)) (hg : v.ownBlock = some g) : hi ≤ g ∧ ∃ vs, W.heap[g]? = some (.cells vs 53 (0, 0)) := by
  rcases h.2 with ⟨h0, _⟩ | ⟨g', cap', cur, hv, h1, hgb, _⟩
  · rw [h0] at hg; cases hg
  · rw [hv] at hg; cases hg; exact ⟨h1, _, hgb⟩
theorem Rg.grown {row : Option Nat} (h : Rg P gb nb hi l n W) (hP : Stays P gb nb hi) (hg : W.grownBy W' row) (h1 : ∀ r, row = some r → hi ≤ r ∧ gb ≠ r ∧ nb ≠ r) (h2 : ∀ r vs, row = some r → W.heap[r]? ≠ some (.cells vs 53 (0, 0))) : Rg P gb nb hi l n W' := by
  obtain ⟨v, hb, hr⟩ := h.got
  refine ⟨hP _ _ row h.p hg (fun r e => .inr (.inr (h1 r e).1)), ⟨v, (hg.block _ (Array.getElem?_eq_some_iff.1 hb).1 (fun e => (h1 _ e.symm).2.1 rfl)).trans hb, hr.kept hg ?_⟩, (hg.block _ (Array.getElem?_eq_some_iff.1 h.nx).1 (fun e => (h1 _ e.symm).2.2 rfl)).trans h.nx⟩
  cases hv : v.ownBlock with
  | none => exact .inl rfl
  | some g =>
    obtain ⟨_, vs, hvs⟩ := row_cells hr hv
    exact .inr fun e => h2 g vs e.symm hvs
theorem Rg.below (h : Rg P gb nb hi l n W) (hP : Stays P gb nb hi) (hb : Below W.heap.size W W') : Rg P gb nb hi l n W' := h.grown hP (grown_of_below hb) (fun r e => by cases e) (fun r _ e => by cases e)
theorem rg_ab {α : Type} {B lo : Nat} (f : List α → List (Nat × Nat)) (g : List α → Int) (hP : Stays P gb nb hi) (h1 : gb < B) (h2 : nb < B) (h3 : hi ≤ B) : Ab B lo lo (fun (pre : List α) W => Rg P gb nb hi (f pre) (g pre) W) := fun pre X Y row h hg hr =>
  h.grown hP hg (fun r e => by have := (hr r e).1; omega) (fun r vs e hc => by
    obtain ⟨_, (h3 | ⟨o, ho, hn⟩)⟩ := hr r e
    · omega
    · rw [hc] at ho; cases ho; cases hn)
/-- the number is written -/
theorem Rg.next {B : Nat} (h : Rg P gb nb hi l n W) (hP : Stays P gb nb hi) (hne : gb ≠ nb) (hlt : nb < hi) (m : Int) : Rg P gb nb hi l m (W.setCell ⟨nb, 0, none⟩ (.int .i64 m)) ∧ KpG gb nb W (W.setCell ⟨nb, 0, none⟩ (.int .i64 m)) ∧ KeepsFrom B W (W.setCell ⟨nb, 0, none⟩ (.int .i64 m)) := by
  have g := gcell W nb 0 (.int .i64 m)
  obtain ⟨v, hb, hr⟩ := h.got
  have eb : (W.setCell ⟨nb, 0, none⟩ (.int .i64 m)).heap[gb]? = W.heap[gb]? := g.block _ (Array.getElem?_eq_some_iff.1 hb).1 (fun e => by injection e with e; exact hne e)
  refine ⟨⟨hP _ _ _ h.p g (fun r e => by cases e; exact .inr (.inl rfl)), ⟨v, eb.trans hb, hr.kept g ?_⟩, by simpa using set1 (i := 0) (.int .i64 m) h.nx⟩, ⟨g.size, fun k o hk _ _ h2 _ => (g.block k (Array.getElem?_eq_some_iff.1 hk).1 (fun e => by injection e with e; exact h2 e)).trans hk, .inl (rowB_eq eb)⟩, kf_cells g h.nx⟩
  cases hv : v.ownBlock with
  | none => exact .inl rfl
  | some gg => exact .inr fun e => by cases e; have := (row_cells hr hv).1; omega
/-- one more span -/
theorem Rg.app {B : Nat} {p : Nat × Nat} {v v' : Value} {w1 : World} {o : Obj} (h : Rg P gb nb hi l n W) (hP : Stays P gb nb hi) (hne : gb ≠ nb) (hlg : gb < hi) (hln : nb < hi) (hv : W.heap[gb]? = some (.cells #[v] 67 (0, 0))) (hown : w1.ownsRow hi 53 2 v' (l.length + 1) (spl l ++ [.int .i64 (p.1 : Nat), .int .i64 (p.2 : Nat)])) (hg : (W.alloc o).grownBy w1 v.ownBlock) (hob : v'.ownBlock = v.ownBlock ∨ v'.ownBlock = some (W.alloc o).heap.size) :
    Rg P gb nb hi (l ++ [p]) n (w1.setCell ⟨gb, 0, none⟩ v') ∧ KpG gb nb W (w1.setCell ⟨gb, 0, none⟩ v') ∧ KeepsFrom B W (w1.setCell ⟨gb, 0, none⟩ v') := by
  obtain ⟨v0, hb, hr⟩ := h.got
  rw [hb] at hv
  injection hv with hv
  injection hv with hv _ _
  injection hv with hv
  injection hv with hv _
  subst hv
  have hgbs := (Array.getElem?_eq_some_iff.1 hb).1
  have hBa : Below W.heap.size W (W.alloc o) := (Below.refl _ W).alloc (Nat.le_refl _) _
  have hfar : ∀ g, v0.ownBlock = some g → hi ≤ g ∧ ∃ vs, (W.alloc o).heap[g]? = some (.cells vs 53 (0, 0)) := fun g e => by
    obtain ⟨h1, vs, hvs⟩ := row_cells hr e
    exact ⟨h1, vs, (Below.heap_alloc _ _ _ (Array.getElem?_eq_some_iff.1 hvs).1).trans hvs⟩
  have t0 : w1.heap[gb]? = some (.cells #[v0] 67 (0, 0)) := (hg.block gb (by simp; omega) (fun e => by have := (hfar gb e.symm).1; omega)).trans ((Below.heap_alloc _ _ _ hgbs).trans hb)
  have g2 := gcell w1 gb 0 v'
  have h1 : P (W.alloc o) := hP _ _ none h.p (grown_of_below hBa) (fun r e => by cases e)
  have h2 : P w1 := hP _ _ _ h1 hg (fun r e => .inr (.inr (hfar r e).1))
  have h3 : P (w1.setCell ⟨gb, 0, none⟩ v') := hP _ _ _ h2 g2 (fun r e => by cases e; exact .inl rfl)
  have n1 : w1.heap[nb]? = some (.cells #[.int .i64 n] 3 (0, 0)) := (hg.block nb (by have := (Array.getElem?_eq_some_iff.1 h.nx).1; simp; omega) (fun e => by have := (hfar nb e.symm).1; omega)).trans ((Below.heap_alloc _ _ _ (Array.getElem?_eq_some_iff.1 h.nx).1).trans h.nx)
  have n2 := (g2.block nb (Array.getElem?_eq_some_iff.1 n1).1 (fun e => by injection e with e; exact hne e.symm)).trans n1
  have b2 : (w1.setCell ⟨gb, 0, none⟩ v').heap[gb]? = some (.cells #[v'] 67 (0, 0)) := by simpa using set1 (i := 0) v' t0
  have r2 : (w1.setCell ⟨gb, 0, none⟩ v').ownsRow hi 53 2 v' (l.length + 1) (spl l ++ [.int .i64 (p.1 : Nat), .int .i64 (p.2 : Nat)]) := hown.kept g2 (by
    cases hb' : v'.ownBlock with
    | none => exact .inl rfl
    | some g => exact .inr (fun e => by cases e; have := (hown.lt gb hb').1; omega))
  refine ⟨⟨h3, ⟨v', b2, ?_⟩, n2⟩, ⟨?_, fun k oo hk hc k1 k2 k3 => ?_, ?_⟩, ?_⟩
  · rw [spl_snoc, List.length_append]; exact r2
  · have := hg.size; have := g2.size; simp at *; omega
  · have e1 := (Below.heap_alloc W o _ (Array.getElem?_eq_some_iff.1 hk).1).trans hk
    have e2 := (hg.block k (Array.getElem?_eq_some_iff.1 e1).1 (fun e => k3 (by unfold rowB; rw [show W.cell? ⟨gb, 0, none⟩ = some v0 by simp [World.cell?, hb]]; exact e.symm))).trans e1
    exact (g2.block k (Array.getElem?_eq_some_iff.1 e2).1 (fun e => by injection e with e; exact k1 e)).trans e2
  · have ra : rowB gb W = v0.ownBlock := by unfold rowB; rw [show W.cell? ⟨gb, 0, none⟩ = some v0 by simp [World.cell?, hb]]
    have rb : rowB gb (w1.setCell ⟨gb, 0, none⟩ v') = v'.ownBlock := by unfold rowB; rw [show (w1.setCell ⟨gb, 0, none⟩ v').cell? ⟨gb, 0, none⟩ = some v' by simp [World.cell?, b2]]
    rw [ra, rb]
    rcases hob with e | e
    · exact .inl e
    · refine .inr fun g hg' => ?_
      rw [e] at hg'
      injection hg' with hg'
      simp at hg'
      omega
  · have kf1 : KeepsFrom B (W.alloc o) w1 := ⟨hg.size, fun k o' _ hk hc => (hg.block k (Array.getElem?_eq_some_iff.1 hk).1 (fun e => by
      obtain ⟨_, vs, hvs⟩ := hfar k e.symm
      rw [hvs] at hk; cases hk; cases hc)).trans hk⟩
    exact kf_trans (kf_below hBa) (kf_trans kf1 (kf_cells g2 t0))
end
set_option maxRecDepth 100000 in
set_option maxHeartbeats 1000000 in
theorem rsame_any {w : World} {ys : List (Nat × Nat)} (g c g' c' : Nat) (hy : ys.length ≤ 1073741826) (h : RdY w (.slice (some ⟨g, 0, none⟩) ys.length c) ys) (h' : RdY w (.slice (some ⟨g', 0, none⟩) ys.length c') ys) : Calls Tryz.prog 34 #[.slice (some ⟨g, 0, none⟩) ys.length c, .slice (some ⟨g', 0, none⟩) ys.length c'] w fun e W' => e = .returned (.bool true) ∧ Below w.heap.size w W' := by
  obtain ⟨_, _, e, l1, h1⟩ := h
  cases e
  obtain ⟨_, _, e, l2, h2⟩ := h'
  cases e
  obtain ⟨N, hN⟩ : ∃ N, ys.length = N := ⟨_, rfl⟩
  have HN : Hid (ys.length = N) := hN
  have H1 : Hid (∀ W (k : Nat) (x : Nat × Nat), Below w.heap.size w W → ys[k]? = some x → (W.cell? ⟨g, k * 2, none⟩ = some (.int .i64 (x.1 : Int)) ∧ W.cell? ⟨g, k * 2 + 1, none⟩ = some (.int .i64 (x.2 : Int))) ∧ (W.cell? ⟨g', k * 2, none⟩ = some (.int .i64 (x.1 : Int)) ∧ W.cell? ⟨g', k * 2 + 1, none⟩ = some (.int .i64 (x.2 : Int)))) := fun W k x hW hk => by
    have kp : ∀ {b i : Nat} {v : Value}, b < w.heap.size → w.cell? ⟨b, i, none⟩ = some v → W.cell? ⟨b, i, none⟩ = some v := fun hb hc => (hW.cell (p := ⟨_, _, none⟩) hb).trans hc
    exact ⟨⟨kp l1 (h1 k x hk).1, kp l1 (h1 k x hk).2⟩, kp l2 (h2 k x hk).1, kp l2 (h2 k x hk).2⟩
  have HM : Hid (Tryz.prog.follows .mixedOrders = true) := by show _ = _; kernel_rfl
  rw [hN] at hy ⊢
  clear h1 h2 hN l1 l2
  go_enter Tryz.func34, Tryz.ntmps34
  go_wp2
  go_loopw [5] (fun t wr => ∃ k : Nat, k ≤ N ∧ t = .int .i64 k ∧ Hid (Below w.heap.size w wr)) (fun t _ => N - (Go.RowKit.intOf t).toNat)
  case atStart => exact ⟨0, Nat.zero_le _, rfl, Below.refl _ _⟩
  case round =>
    obtain ⟨k, hk, rfl, HR⟩ := hrel
    by_cases hlt : k < N
    · obtain ⟨⟨x, y⟩, hx⟩ : ∃ x, ys[k]? = some x := ⟨ys[k]'(by rw [HN.out]; exact hlt), List.getElem?_eq_getElem _⟩
      obtain ⟨⟨a0, a1⟩, b0, b1⟩ := H1.out wr k _ HR.out hx
      have f0 := fun d os => cell_regrown a0 d os
      have f1 := fun d os => cell_regrown a1 d os
      have f2 := fun d os => cell_regrown b0 d os
      have f3 := fun d os => cell_regrown b1 d os
      clear hx
      go_upto_region 6 with fail
      refine wp_region_quiet_below HM.out (by kernel_rfl) ?_
      repeat (go_big_quiet_step (fail))
      refine wpQuiet_nil ?_
      intro _ hw'
      obtain ⟨⟨dq, osq⟩, hw''⟩ := hw'
      subst hw''
      have H4 : Hid (Below w.heap.size w (Go.Sort.grow (redrawn wr dq) osq)) := Below.on HR.out (below_regrown wr dq osq)
      generalize Go.Sort.grow (redrawn wr dq) osq = w4 at H4 ⊢
      clear f0 f1 f2 f3 a0 a1 b0 b1
      go_wp2
      exact ⟨⟨k + 1, by omega, by go_num, H4⟩, by simp [Go.RowKit.intOf]; omega⟩
    · go_wp2
      go_ret
      exact ⟨rfl, HR.out⟩
end Go.Proofs.YtcjmfoadimpffaaGreatDoor.Sto
