/-
  The document's own SamePlaces of two lists that are one. Conditions: no more than 2^31 places.
-/
import Derived.Test.YtfjoklbiocniiaaDoorPkOQ
import Derived.Test.YtfjoklbiocniiaaDoorOSmf
namespace Go.Proofs.YtfjoklbiocniiaaDoor
open Go.RowKit Go.Shelf Bod Wid
/-- a slice that reads as these places -/
def RdPl (W : World) (v : Value) (l : List (Nat × Nat)) : Prop := ∃ a c, v = .slice a l.length c ∧ ∀ (k : Nat) x, l[k]? = some x → ∃ g, a = some ⟨g, 0, none⟩ ∧ W.cell? ⟨g, k * 2, none⟩ = some (.int .i64 (x.1 : Int)) ∧ W.cell? ⟨g, k * 2 + 1, none⟩ = some (.int .i64 (x.2 : Int))
theorem pcs_at : ∀ {l : List (Nat × Nat)} {j : Nat} {p : Nat × Nat}, l[j]? = some p → (pcs l)[j * 2]? = some (.int .i64 (p.1 : Int)) ∧ (pcs l)[j * 2 + 1]? = some (.int .i64 (p.2 : Int))
  | [], _, _, h => by simp at h
  | q :: l, 0, p, h => by have : q = p := by simpa using h
                          subst this; simp [pcs]
  | q :: l, j + 1, p, h => by
    have := pcs_at (l := l) (j := j) (p := p) (by simpa using h)
    have e : pcs (q :: l) = .int .i64 (q.1 : Int) :: .int .i64 (q.2 : Int) :: pcs l := by simp [pcs]
    rw [e, show (j + 1) * 2 = j * 2 + 1 + 1 by omega]
    simpa using this
theorem RdPl.of_row {W : World} {base n : Nat} {v : Value} {l : List (Nat × Nat)} (h : W.ownsRow base 28 2 v n (pcs l)) (hl : l.length = n) : RdPl W v l := by
  subst hl
  rcases id h.2 with ⟨h0, h1⟩ | ⟨g, cap, cur, hv, _⟩
  · exact ⟨none, 0, by rw [h0, h1], fun k x hk => by have := (List.getElem?_eq_some_iff.1 hk).1; omega⟩
  · subst hv
    refine ⟨_, _, rfl, fun k x hk => ⟨g, rfl, ?_⟩⟩
    have hk2 := (List.getElem?_eq_some_iff.1 hk).1
    exact ⟨(h.cellAt (k * 2) (by omega)).trans (pcs_at hk).1, (h.cellAt (k * 2 + 1) (by omega)).trans (pcs_at hk).2⟩
theorem RdPl.below {W X : World} {v : Value} {l : List (Nat × Nat)} (h : RdPl W v l) (hX : Below W.heap.size W X) : RdPl X v l := by
  obtain ⟨a, c, e, h⟩ := h
  refine ⟨a, c, e, fun k x hk => ?_⟩
  obtain ⟨g, e, c0, c1⟩ := h k x hk
  exact ⟨g, e, (hX.cell (p := ⟨g, k * 2, none⟩) (World.block_lt_of_cell? W _ c0)).trans c0, (hX.cell (p := ⟨g, k * 2 + 1, none⟩) (World.block_lt_of_cell? W _ c1)).trans c1⟩
set_option maxRecDepth 100000 in
set_option maxHeartbeats 1000000 in
theorem rsp_yes {v1 v2 : Value} (l : List (Nat × Nat)) (hn : l.length ≤ 2147483648) (w : World) (h1 : RdPl w v1 l) (h2 : RdPl w v2 l) :
    Calls Tryd.prog 14 #[v1, v2] w fun e w' => e = .returned (.bool true) ∧ Below w.heap.size w w' := by
  have hne := pl_neq
  obtain ⟨a1, k1, rfl, hc1⟩ := h1
  obtain ⟨a2, k2, rfl, hc2⟩ := h2
  have H1 : Hid (∀ (k : Nat) x, l[k]? = some x → ∃ g, a1 = some ⟨g, 0, none⟩ ∧ w.cell? ⟨g, k * 2, none⟩ = some (.int .i64 (x.1 : Int)) ∧ w.cell? ⟨g, k * 2 + 1, none⟩ = some (.int .i64 (x.2 : Int))) := hc1
  have H2 : Hid (∀ (k : Nat) x, l[k]? = some x → ∃ g, a2 = some ⟨g, 0, none⟩ ∧ w.cell? ⟨g, k * 2, none⟩ = some (.int .i64 (x.1 : Int)) ∧ w.cell? ⟨g, k * 2 + 1, none⟩ = some (.int .i64 (x.2 : Int))) := hc2
  obtain ⟨n, hln⟩ : ∃ n, l.length = n := ⟨_, rfl⟩
  have HN : Hid (l.length = n) := hln
  rw [hln] at hn ⊢
  clear hc1 hc2 hln
  go_enter Tryd.func14, Tryd.ntmps14
  go_wp2
  go_loopw [5] (fun t wr => ∃ k m : Nat, k ≤ n ∧ t = .int .i64 k ∧ wr = w.drewN m) (fun t _ => n - (intOf t).toNat)
  case atStart => exact ⟨0, 0, Nat.zero_le _, rfl, rfl⟩
  case round =>
    obtain ⟨k, m, hk, rfl, rfl⟩ := hrel
    by_cases hlt : k < n
    · obtain ⟨c, hc⟩ : ∃ c, l[k]? = some c := ⟨l[k]'(by rw [HN.out]; exact hlt), List.getElem?_eq_getElem _⟩
      obtain ⟨g1, rfl, x0, x1⟩ := H1.out k c hc
      obtain ⟨g2, rfl, y0, y1⟩ := H2.out k c hc
      have hn1 := hne (c.1 : Int) (c.2 : Int) (c.1 : Int) (c.2 : Int)
      simp only [decide_true, Bool.and_self, Bool.not_true] at hn1
      clear hne H1 H2 hc
      go_wp2
      go_quiet (fail)
      go_wp2
      exact ⟨⟨k + 1, m + nq, by omega, by go_num, rfl⟩, by simp [intOf]; omega⟩
    · go_wp2
      go_ret
      exact ⟨rfl, rfl, rfl, rfl, Nat.le_refl _, fun _ _ => rfl⟩
end Go.Proofs.YtfjoklbiocniiaaDoor
