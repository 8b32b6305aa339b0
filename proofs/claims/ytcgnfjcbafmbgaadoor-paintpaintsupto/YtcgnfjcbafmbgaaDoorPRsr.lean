/-
  The document's own layer 21: sameRow; the law's same, of frames that are one. Conditions: no more than 2^31 cells in a row.
-/
import Derived.Test.YtcgnfjcbafmbgaaDoorPFit
namespace Go.Proofs.YtcgnfjcbafmbgaaDoor
open Go.RowKit Go.Shelf Bod Wid
set_option maxRecDepth 100000 in
set_option maxHeartbeats 1000000 in
theorem rsw_any {v1 v2 : Value} (l l' : List Cel) (hn : l.length ≤ 2147483648) (_hn' : l'.length ≤ 2147483648) (w : World) (h1 : RdCe w v1 l) (h2 : RdCe w v2 l') :
    Calls Tryd.prog 33 #[v1, v2] w fun e w' => e = .returned (.bool (rowE l l')) ∧ Below w.heap.size w w' := by
  have hne := cel_apart
  obtain ⟨a1, k1, rfl, hc1⟩ := h1.get
  obtain ⟨a2, k2, rfl, hc2⟩ := h2.get
  obtain ⟨n, hln⟩ : ∃ n, l.length = n := ⟨_, rfl⟩
  obtain ⟨n', hln'⟩ : ∃ n', l'.length = n' := ⟨_, rfl⟩
  clear h1 h2
  by_cases hl : n = n'
  · subst hl
    have H1 : Hid (∀ j c, l[j]? = some c → ∃ g o, a1 = some ⟨g, o, none⟩ ∧ w.cell? ⟨g, o + j * 2, none⟩ = some (.string c.tx) ∧ w.cell? ⟨g, o + j * 2 + 1, none⟩ = some (.int .i64 c.sp)) := hc1
    have H2 : Hid (∀ j c, l'[j]? = some c → ∃ g o, a2 = some ⟨g, o, none⟩ ∧ w.cell? ⟨g, o + j * 2, none⟩ = some (.string c.tx) ∧ w.cell? ⟨g, o + j * 2 + 1, none⟩ = some (.int .i64 c.sp)) := hc2
    have HN : Hid (l.length = n ∧ l'.length = n) := ⟨hln, hln'⟩
    rw [hln] at hn ⊢
    rw [hln']
    clear hc1 hc2 _hn' hln hln'
    go_enter Tryd.func33, Tryd.ntmps33
    go_wp2
    go_loopw [5] (fun t wr => ∃ k m : Nat, k ≤ n ∧ t = .int .i64 k ∧ wr = w.drewN m ∧ Hid (∀ j x y, j < k → l[j]? = some x → l'[j]? = some y → x.tx = y.tx ∧ x.sp = y.sp)) (fun t _ => n - (intOf t).toNat)
    case atStart => exact ⟨0, 0, Nat.zero_le _, rfl, rfl, fun j x y h => absurd h (Nat.not_lt_zero _)⟩
    case round =>
      obtain ⟨k, m, hk, rfl, rfl, HS⟩ := hrel
      by_cases hlt : k < n
      · obtain ⟨c, hc⟩ : ∃ c, l[k]? = some c := ⟨l[k]'(by rw [HN.out.1]; exact hlt), List.getElem?_eq_getElem _⟩
        obtain ⟨c', hc'⟩ : ∃ c, l'[k]? = some c := ⟨l'[k]'(by rw [HN.out.2]; exact hlt), List.getElem?_eq_getElem _⟩
        obtain ⟨g1, o1, rfl, x0, x1⟩ := H1.out k c hc
        obtain ⟨g2, o2, rfl, y0, y1⟩ := H2.out k c' hc'
        have HC : Hid (l[k]? = some c ∧ l'[k]? = some c') := ⟨hc, hc'⟩
        clear H1 H2 hc hc'
        by_cases hs : c.tx = c'.tx ∧ c.sp = c'.sp
        · have HE : Hid (∀ j x y, j < k + 1 → l[j]? = some x → l'[j]? = some y → x.tx = y.tx ∧ x.sp = y.sp) := fun j x y hj hx hy => by
            by_cases hjk : j < k
            · exact HS.out j x y hjk hx hy
            · obtain rfl : j = k := by omega
              obtain rfl : c = x := Option.some.inj (HC.out.1.symm.trans hx)
              obtain rfl : c' = y := Option.some.inj (HC.out.2.symm.trans hy)
              exact hs
          rw [← hs.1] at y0
          rw [← hs.2] at y1
          have hn1 := hne c.tx c.tx c.sp c.sp
          simp only [decide_true, Bool.and_self, Bool.not_true] at hn1
          clear hne hs HS HC
          go_wp2
          go_quiet (fail)
          go_wp2
          exact ⟨⟨k + 1, m + nq, by omega, by go_num, rfl, HE⟩, by simp [intOf]; omega⟩
        · have hn1 := hne c.tx c'.tx c.sp c'.sp
          have hb : (!(decide (c.tx = c'.tx) && decide (c.sp = c'.sp))) = true := by
            by_cases e1 : c.tx = c'.tx <;> by_cases e2 : c.sp = c'.sp <;> simp [e1, e2]
            exact hs ⟨e1, e2⟩
          simp only [hb] at hn1
          have hf := rowE_at HC.out.1 HC.out.2 hs
          clear hne hs HS HC hb
          go_wp2
          go_quiet (fail)
          go_wp2
          go_ret
          try rw [hf]
          exact ⟨rfl, rfl, rfl, rfl, Nat.le_refl _, fun _ _ => rfl⟩
      · have hf : rowE l l' = true := rowE_all (HN.out.1.trans HN.out.2.symm) fun j x y hx hy => HS.out j x y (by have := (List.getElem?_eq_some_iff.1 hx).1; have := HN.out.1; omega) hx hy
        go_wp2
        go_ret
        try rw [hf]
        exact ⟨rfl, rfl, rfl, rfl, Nat.le_refl _, fun _ _ => rfl⟩
  · have hf := rowE_len (l := l) (m := l') (by omega)
    rw [hln] at hn ⊢
    rw [hln'] at _hn' ⊢
    have hl2 : ¬ (n : Int) = n' := by omega
    have hl3 : decide (n = n') = false := by simp [hl]
    clear hc1 hc2 hln hln' hne
    go_enter Tryd.func33, Tryd.ntmps33
    go_wp2
    go_ret
    try rw [hf]
    exact ⟨rfl, rfl, rfl, rfl, Nat.le_refl _, fun _ _ => rfl⟩
end Go.Proofs.YtcgnfjcbafmbgaaDoor
