/-
  The walks of the law's own same and awake: two slices that read as one list of words are one; the answers that the document fixes. Conditions: the two tables of unicode/utf8 lie as their text lays them.
-/
import Derived.Test.YtoijjkbnmicadabDoorWConF
import Derived.Sort.QuietIn
namespace Go.Proofs.YtoijjkbnmicadabDoor
open Go.RowKit Go.Sort Bod Wid

/-- a slice value that reads as a list of words -/
def Rd2 (W : World) (v : Value) (l : List (Nat × Nat)) : Prop :=
  ∃ a cap, v = .slice a l.length cap ∧ (l ≠ [] → ∃ g, a = some ⟨g, 0, none⟩ ∧ g < W.heap.size ∧ ∀ k c, l[k]? = some c → W.cell? ⟨g, k * 2, none⟩ = some (.int .i64 c.1) ∧ W.cell? ⟨g, k * 2 + 1, none⟩ = some (.int .i64 c.2))
theorem Rd2.of_row {W : World} {base : Nat} {v : Value} {l : List (Nat × Nat)} (h : W.ownsRow base 37 2 v l.length (spc l)) : Rd2 W v l := by
  rcases h.2 with ⟨h0, h1⟩ | ⟨g, cap, cur, hv, _⟩
  · have : l = [] := List.length_eq_zero_iff.1 h1
    subst this
    exact ⟨_, _, h0, fun h => absurd rfl h⟩
  · subst hv
    refine ⟨_, _, rfl, fun _ => ⟨g, rfl, (h.lt g rfl).2, fun k c hk => ?_⟩⟩
    have hkl : k < l.length := (List.getElem?_eq_some_iff.1 hk).1
    have hl := spc_len l
    obtain ⟨e0, e1⟩ := spc_get l k c hk
    exact ⟨(h.cellAt (k * 2) (by omega)).trans e0, (h.cellAt (k * 2 + 1) (by omega)).trans e1⟩
theorem Rd2.below {W W' : World} {v : Value} {l : List (Nat × Nat)} (h : Rd2 W v l) (hb : Below W.heap.size W W') : Rd2 W' v l := by
  obtain ⟨a, cap, rfl, g⟩ := h
  refine ⟨a, cap, rfl, fun h0 => ?_⟩
  obtain ⟨b, rfl, hlt, k⟩ := g h0
  refine ⟨b, rfl, Nat.lt_of_lt_of_le hlt hb.size, fun j c hj => ?_⟩
  obtain ⟨e0, e1⟩ := k j c hj
  exact ⟨(hb.cell (p := ⟨b, j * 2, none⟩) hlt).trans e0, (hb.cell (p := ⟨b, j * 2 + 1, none⟩) hlt).trans e1⟩
set_option maxRecDepth 100000 in
set_option maxHeartbeats 1000000 in
/-- two slices that read as one list are one -/
theorem same_core (l : List (Nat × Nat)) (N b1 c1 b2 c2 : Nat) (hN : l.length = N) (hn : N ≤ 140737488355328) (w : World)
    (h1 : ∀ k c, l[k]? = some c → w.cell? ⟨b1, k * 2, none⟩ = some (.int .i64 c.1) ∧ w.cell? ⟨b1, k * 2 + 1, none⟩ = some (.int .i64 c.2))
    (h2 : ∀ k c, l[k]? = some c → w.cell? ⟨b2, k * 2, none⟩ = some (.int .i64 c.1) ∧ w.cell? ⟨b2, k * 2 + 1, none⟩ = some (.int .i64 c.2)) :
    Calls Tryd.prog 15 #[.slice (some ⟨b1, 0, none⟩) N c1, .slice (some ⟨b2, 0, none⟩) N c2] w fun e w' => e = .returned (.bool true) ∧ ∃ m, w' = w.drewN m := by
  have H1 : Hid _ := h1
  have H2 : Hid _ := h2
  have HN : Hid (l.length = N) := hN
  clear h1 h2 hN
  go_enter Tryd.func15, Tryd.ntmps15
  go_wp2
  go_loopw [5] (fun t wr => ∃ k m : Nat, k ≤ N ∧ t = .int .i64 k ∧ wr = w.drewN m) (fun t _ => N - (intOf t).toNat)
  case atStart => exact ⟨0, 0, Nat.zero_le _, rfl, rfl⟩
  case round =>
    obtain ⟨k, m, hk, rfl, rfl⟩ := hrel
    by_cases hlt : k < N
    · obtain ⟨c, hc⟩ : ∃ c, l[k]? = some c := ⟨l[k]'(by rw [HN.out]; exact hlt), List.getElem?_eq_getElem _⟩
      obtain ⟨a0, a1⟩ := H1.out k c hc
      obtain ⟨d0, d1⟩ := H2.out k c hc
      go_wp2
      go_quiet (fail)
      go_wp2
      exact ⟨⟨k + 1, m + nq, by omega, by go_num, rfl⟩, by simp [intOf]; omega⟩
    · go_wp2
      go_ret
      exact ⟨rfl, m, rfl⟩

set_option maxRecDepth 100000 in
set_option maxHeartbeats 1000000 in
theorem same_none (a1 a2 : Option Addr) (c1 c2 : Nat) (w : World) :
    Calls Tryd.prog 15 #[.slice a1 0 c1, .slice a2 0 c2] w fun e w' => e = .returned (.bool true) ∧ Below w.heap.size w w' := by
  go_enter Tryd.func15, Tryd.ntmps15
  go_wp2
  go_loopw [5] (fun t wr => t = .int .i64 0 ∧ wr = w) (fun _ _ => 0)
  case atStart => exact ⟨rfl, rfl⟩
  case round =>
    obtain ⟨rfl, rfl⟩ := hrel
    go_wp2
    go_ret
    exact ⟨rfl, Below.refl _ _⟩

theorem same_any {l : List (Nat × Nat)} {v1 v2 : Value} (hn : l.length ≤ 140737488355328) {w : World} (h1 : Rd2 w v1 l) (h2 : Rd2 w v2 l) :
    Calls Tryd.prog 15 #[v1, v2] w fun e w' => e = .returned (.bool true) ∧ Below w.heap.size w w' := by
  obtain ⟨a1, c1, rfl, g1⟩ := h1
  obtain ⟨a2, c2, rfl, g2⟩ := h2
  by_cases h0 : l = []
  · subst h0; exact same_none a1 a2 c1 c2 w
  · obtain ⟨b1, rfl, _, k1⟩ := g1 h0
    obtain ⟨b2, rfl, _, k2⟩ := g2 h0
    exact (same_core l l.length b1 c1 b2 c2 rfl hn w k1 k2).mono fun e w' ⟨he, m, hw⟩ => ⟨he, hw ▸ ⟨rfl, rfl, rfl, Nat.le_refl _, fun _ _ => rfl⟩⟩

theorem aw_words : words ⟨#[97, 98, 44, 32, 99, 95, 49, 32, 32]⟩ = [(0, 2), (4, 7)] := by decide +kernel
theorem aw_ahead : aheadW (words ⟨#[97, 98, 32, 99, 100]⟩) (⟨#[97, 98, 32, 99, 100]⟩ : ByteArray).size (heldN ⟨#[97, 98, 32, 99, 100]⟩ 2) = 5 := by decide +kernel
theorem aw_behind : behindW (words ⟨#[97, 98, 32, 99, 100]⟩) (heldN ⟨#[97, 98, 32, 99, 100]⟩ 4) = 3 := by decide +kernel
theorem aw_capital : fm (capG (words ⟨#[104, 101, 76, 76, 79, 32, 49, 119, 79, 82, 76, 68, 32, 97, 95, 98]⟩)) ⟨#[104, 101, 76, 76, 79, 32, 49, 119, 79, 82, 76, 68, 32, 97, 95, 98]⟩ = ⟨#[72, 101, 108, 108, 111, 32, 49, 119, 111, 114, 108, 100, 32, 65, 95, 98]⟩ := by
  have : (fs (capG (words ⟨#[104, 101, 76, 76, 79, 32, 49, 119, 79, 82, 76, 68, 32, 97, 95, 98]⟩)) ⟨#[104, 101, 76, 76, 79, 32, 49, 119, 79, 82, 76, 68, 32, 97, 95, 98]⟩ 0 16) = [72, 101, 108, 108, 111, 32, 49, 119, 111, 114, 108, 100, 32, 65, 95, 98] := by decide +kernel
  unfold fm
  rw [show (⟨#[104, 101, 76, 76, 79, 32, 49, 119, 79, 82, 76, 68, 32, 97, 95, 98]⟩ : ByteArray).size = 16 from rfl, this]
set_option maxRecDepth 100000 in
set_option maxHeartbeats 2000000 in
theorem awake_any (w : World) (hT : Lib.Utf8Tabs 0 1 w) (hlo0 : 0 < w.heap.size) (hlo1 : 1 < w.heap.size) :
    Calls Tryd.prog 6 #[] w fun e w' => e = .returned (.bool true) ∧ Below w.heap.size w w' := by
  have cS := spans_any ⟨#[97, 98, 44, 32, 99, 95, 49, 32, 32]⟩ (by decide) (by decide) w hT hlo0 hlo1
  rw [aw_words] at cS
  have CA : Hid (∀ W, Below w.heap.size w W → Calls Tryd.prog 17 #[.string ⟨#[97, 98, 32, 99, 100]⟩, .int .i64 2] W fun e w' => e = .returned (.int .i64 5) ∧ Below w.heap.size w w') := fun W hW => by
    have := ahead_any ⟨#[97, 98, 32, 99, 100]⟩ 2 (by decide) W (tabs_below hT hW)
    rw [aw_ahead] at this
    exact this.mono fun e w' ⟨h1, h2⟩ => ⟨h1, hW.trans (h2.mono hW.size)⟩
  have CB : Hid (∀ W, Below w.heap.size w W → Calls Tryd.prog 18 #[.string ⟨#[97, 98, 32, 99, 100]⟩, .int .i64 4] W fun e w' => e = .returned (.int .i64 3) ∧ Below w.heap.size w w') := fun W hW => by
    have := behind_any ⟨#[97, 98, 32, 99, 100]⟩ 4 (by decide) W (tabs_below hT hW)
    rw [aw_behind] at this
    exact this.mono fun e w' ⟨h1, h2⟩ => ⟨h1, hW.trans (h2.mono hW.size)⟩
  have CC : Hid (∀ W, Below w.heap.size w W → Calls Tryd.prog 13 #[.string ⟨#[104, 101, 76, 76, 79, 32, 49, 119, 79, 82, 76, 68, 32, 97, 95, 98]⟩] W fun e w' => e = .returned (.string ⟨#[72, 101, 108, 108, 111, 32, 49, 119, 111, 114, 108, 100, 32, 65, 95, 98]⟩) ∧ Below w.heap.size w w') := fun W hW => by
    have := capital_any ⟨#[104, 101, 76, 76, 79, 32, 49, 119, 79, 82, 76, 68, 32, 97, 95, 98]⟩ (by decide) (by decide) W (tabs_below hT hW) (Nat.lt_of_lt_of_le hlo0 hW.size) (Nat.lt_of_lt_of_le hlo1 hW.size)
    rw [aw_capital] at this
    exact this.mono fun e w' ⟨h1, h2⟩ => ⟨h1, hW.trans (h2.mono hW.size)⟩
  clear hT hlo0 hlo1
  go_enter Tryd.func6, Tryd.ntmps6
  go_wp2_with (first | (go_at_call 14; refine cS.mono ?_; clear cS; rintro e w1 ⟨v, rfl, hr, hb1⟩; obtain ⟨a, cap, rfl, hg⟩ := Rd2.of_row hr; obtain ⟨g, rfl, _, hk⟩ := hg (by simp); obtain ⟨c2, c3⟩ := hk 1 (4, 7) rfl; clear hr hk hg) | (go_at_call 17; refine (CA.out _ hb1).mono ?_; clear CA; rintro e w2 ⟨rfl, hb2⟩) | (go_at_call 18; refine (CB.out _ hb2).mono ?_; clear CB; rintro e w3 ⟨rfl, hb3⟩) | (go_at_call 13; refine (CC.out _ hb3).mono ?_; clear CC; rintro e w4 ⟨rfl, hb4⟩))
  go_ret
  exact ⟨rfl, hb4⟩
end Go.Proofs.YtoijjkbnmicadabDoor
