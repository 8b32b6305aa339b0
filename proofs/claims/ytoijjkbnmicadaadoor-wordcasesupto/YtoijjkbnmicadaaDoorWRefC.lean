/-
  The walks of the document's own UpperOf and LowerOf of package word: what WMath tells. No conditions.
-/
import Derived.Test.YtoijjkbnmicadaaDoorWRefB
namespace Go.Proofs.YtoijjkbnmicadaaDoor
open Go.RowKit Bod Wid

set_option maxHeartbeats 2000000 in
set_option maxRecDepth 100000 in
theorem rupof_any (c : Int) (w : World) : Calls Tryd.prog 13 #[.int .i32 c] w fun e W' => e = .returned (.int .i32 (upc c)) ∧ Below w.heap.size w W' := by
  obtain ⟨n, hn⟩ : ∃ n, prs.length = n := ⟨_, rfl⟩
  have hn0 : 0 < n := by rw [← hn]; decide +kernel
  have hn1 : n ≤ 1000 := by rw [← hn]; decide +kernel
  have CP : Hid (Calls Tryd.prog 39 #[] w fun e W' => ∃ g cap, e = .returned (.slice (some ⟨g, 0, none⟩) n cap) ∧ Hid ((∀ j, j < n → W'.cell? ⟨g, j * 2, none⟩ = some (.int .i32 (prs.getD j (0, 0)).1) ∧ W'.cell? ⟨g, j * 2 + 1, none⟩ = some (.int .i32 (prs.getD j (0, 0)).2)) ∧ Below w.heap.size w W')) := (rpairs_any w).mono fun e W' ⟨v, h1, h2, h3⟩ => by
    unfold Prs at h2
    rw [hn] at h2
    obtain ⟨g, cap, rfl, _, _⟩ := h2.form hn0
    exact ⟨g, cap, h1, fun j hj => ⟨(h2.cellAt (j * 2) (by omega)).trans (rcells_get prs j (by omega)).1, (h2.cellAt (j * 2 + 1) (by omega)).trans (rcells_get prs j (by omega)).2⟩, h3⟩
  have HN : Hid (prs.length = n) := hn
  clear hn
  go_enter Tryd.func13, Tryd.ntmps13
  go_wp2_with (go_at_call 39; refine CP.out.mono ?_; clear CP; rintro e w1 ⟨g, cap, rfl, HC⟩)
  go_loopw [4] (fun t wr => ∃ i : Nat, t = .int .i64 i ∧ i ≤ n ∧ w1 = wr ∧ Hid (∀ j, j < i → (prs.getD j (0, 0)).1 ≠ c)) (fun t _ => n - (intOf t).toNat)
  case atStart => exact ⟨0, rfl, Nat.zero_le _, rfl, fun j hj => by omega⟩
  case round =>
    obtain ⟨i, rfl, hi, rfl, HI⟩ := hrel
    by_cases hlt : i < n
    · obtain ⟨c0, c1⟩ := HC.out.1 i hlt
      have hmem : prs.getD i (0, 0) ∈ prs := by
        rw [List.getD, List.getElem?_eq_getElem (show i < prs.length by rw [HN.out]; exact hlt)]
        exact List.getElem_mem _
      obtain ⟨q, hq⟩ : ∃ q, prs.getD i (0, 0) = q := ⟨_, rfl⟩
      rw [hq] at c0 c1 hmem
      by_cases he : q.1 = c
      · have hu : upc c = q.2 := by
          have := (pair (a := q.1) (b := q.2) hmem).1
          rw [← he]
          exact this.1
        have hb : (q.1 == c) = true := by simpa using he
        have HU : Hid _ := hu
        clear hu
        go_wp2
        go_ret
        exact ⟨by rw [HU.out]; rfl, HC.out.2⟩
      · have hb : (q.1 == c) = false := by simpa using he
        go_wp2
        exact ⟨⟨i + 1, by go_num, by omega, by first | rfl | trivial, fun j hj => by
          rcases Nat.lt_or_ge j i with h | h
          · exact HI.out j h
          · have : j = i := by omega
            rw [this, hq]; exact he⟩, by simp [intOf]; omega⟩
    · have hu : upc c = c := by
        rcases up_cases c with h | h
        · exact h.1
        · obtain ⟨j, hj, hjj⟩ := List.mem_iff_getElem.1 h
          have := HI.out j (by rw [HN.out] at hj; omega)
          rw [List.getD, List.getElem?_eq_getElem hj, hjj] at this
          exact absurd rfl this
      have hd' : decide (i < n) = false := decide_eq_false hlt
      have HU : Hid _ := hu
      clear hu
      go_wp2
      go_ret
      exact ⟨by rw [HU.out]; rfl, HC.out.2⟩
set_option maxHeartbeats 2000000 in
set_option maxRecDepth 100000 in
theorem rlowof_any (c : Int) (w : World) : Calls Tryd.prog 15 #[.int .i32 c] w fun e W' => e = .returned (.int .i32 (lowc c)) ∧ Below w.heap.size w W' := by
  obtain ⟨n, hn⟩ : ∃ n, prs.length = n := ⟨_, rfl⟩
  have hn0 : 0 < n := by rw [← hn]; decide +kernel
  have hn1 : n ≤ 1000 := by rw [← hn]; decide +kernel
  have CP : Hid (Calls Tryd.prog 39 #[] w fun e W' => ∃ g cap, e = .returned (.slice (some ⟨g, 0, none⟩) n cap) ∧ Hid ((∀ j, j < n → W'.cell? ⟨g, j * 2, none⟩ = some (.int .i32 (prs.getD j (0, 0)).1) ∧ W'.cell? ⟨g, j * 2 + 1, none⟩ = some (.int .i32 (prs.getD j (0, 0)).2)) ∧ Below w.heap.size w W')) := (rpairs_any w).mono fun e W' ⟨v, h1, h2, h3⟩ => by
    unfold Prs at h2
    rw [hn] at h2
    obtain ⟨g, cap, rfl, _, _⟩ := h2.form hn0
    exact ⟨g, cap, h1, fun j hj => ⟨(h2.cellAt (j * 2) (by omega)).trans (rcells_get prs j (by omega)).1, (h2.cellAt (j * 2 + 1) (by omega)).trans (rcells_get prs j (by omega)).2⟩, h3⟩
  have HN : Hid (prs.length = n) := hn
  clear hn
  go_enter Tryd.func15, Tryd.ntmps15
  go_wp2_with (go_at_call 39; refine CP.out.mono ?_; clear CP; rintro e w1 ⟨g, cap, rfl, HC⟩)
  go_loopw [4] (fun t wr => ∃ i : Nat, t = .int .i64 i ∧ i ≤ n ∧ w1 = wr ∧ Hid (∀ j, j < i → (prs.getD j (0, 0)).2 ≠ c)) (fun t _ => n - (intOf t).toNat)
  case atStart => exact ⟨0, rfl, Nat.zero_le _, rfl, fun j hj => by omega⟩
  case round =>
    obtain ⟨i, rfl, hi, rfl, HI⟩ := hrel
    by_cases hlt : i < n
    · obtain ⟨c0, c1⟩ := HC.out.1 i hlt
      have hmem : prs.getD i (0, 0) ∈ prs := by
        rw [List.getD, List.getElem?_eq_getElem (show i < prs.length by rw [HN.out]; exact hlt)]
        exact List.getElem_mem _
      obtain ⟨q, hq⟩ : ∃ q, prs.getD i (0, 0) = q := ⟨_, rfl⟩
      rw [hq] at c0 c1 hmem
      by_cases he : q.2 = c
      · have hu : lowc c = q.1 := by
          have := (pair (a := q.1) (b := q.2) hmem).1
          rw [← he]
          exact this.2.1
        have hb : (q.2 == c) = true := by simpa using he
        have HU : Hid _ := hu
        clear hu
        go_wp2
        go_ret
        exact ⟨by rw [HU.out]; rfl, HC.out.2⟩
      · have hb : (q.2 == c) = false := by simpa using he
        go_wp2
        exact ⟨⟨i + 1, by go_num, by omega, by first | rfl | trivial, fun j hj => by
          rcases Nat.lt_or_ge j i with h | h
          · exact HI.out j h
          · have : j = i := by omega
            rw [this, hq]; exact he⟩, by simp [intOf]; omega⟩
    · have hu : lowc c = c := by
        rcases low_cases c with h | h
        · exact h.1
        · obtain ⟨j, hj, hjj⟩ := List.mem_iff_getElem.1 h
          have := HI.out j (by rw [HN.out] at hj; omega)
          rw [List.getD, List.getElem?_eq_getElem hj, hjj] at this
          exact absurd rfl this
      have hd' : decide (i < n) = false := decide_eq_false hlt
      have HU : Hid _ := hu
      clear hu
      go_wp2
      go_ret
      exact ⟨by rw [HU.out]; rfl, HC.out.2⟩
end Go.Proofs.YtoijjkbnmicadaaDoor
