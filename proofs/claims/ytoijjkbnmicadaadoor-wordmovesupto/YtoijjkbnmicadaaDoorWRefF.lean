/-
  The walks of the document's own copy of package word: held, Ahead and Behind. Conditions: the text is so short that its lists can be made.
-/
import Derived.Test.YtoijjkbnmicadaaDoorWRefE
import Derived.Test.YtoijjkbnmicadaaDoorWLaw
import Derived.Test.YtoijjkbnmicadaaDoorPkC
namespace Go.Proofs.YtoijjkbnmicadaaDoor
open Go.RowKit Bod Wid

set_option maxRecDepth 100000 in
set_option maxHeartbeats 1000000 in
theorem rheld_any (s : ByteArray) (i : Int) (w : World) : Calls Tryd.prog 47 #[.string s, .int .i64 i] w fun e w' => e = .returned (.int .i64 (heldN s i)) ∧ w = w' := by
  rw [held_eq]
  go_enter Tryd.func47, Tryd.ntmps47
  go_wp2
  go_ret
  exact ⟨rfl, rfl⟩
set_option maxRecDepth 100000 in
set_option maxHeartbeats 1000000 in
theorem rahead_any (s : ByteArray) (i : Int) (hs : s.size ≤ 4398046511000) (w : World) :
    Calls Tryd.prog 20 #[.string s, .int .i64 i] w fun e w' => e = .returned (.int .i64 (aheadW (words s) s.size (heldN s i))) ∧ Below w.heap.size w w' := by
  have cH := rheld_any s i w
  have hle := held_le s i
  have cS : Calls Tryd.prog 16 #[.string s] w fun e w' => ∃ v, e = .returned v ∧ Rd2 w' v (words s) ∧ Below w.heap.size w w' := (rspans_any s hs w).mono fun e w' ⟨v, h1, h2, h3⟩ => ⟨v, h1, Rd2.of_row h2, h3⟩
  generalize heldN s i = a at cH hle ⊢
  have hwl := words_len s
  go_enter Tryd.func20, Tryd.ntmps20
  go_wp2_with (first | (go_at_call 47; refine cH.mono ?_; clear cH; rintro e w0 ⟨rfl, rfl⟩) | (go_at_call 16; refine cS.mono ?_; clear cS; rintro e w1 ⟨lv, rfl, hrd1, hb1⟩; obtain ⟨la, lc, rfl, hg0⟩ := hrd1; have HG : Hid (words s ≠ [] → ∃ g, la = some ⟨g, 0, none⟩ ∧ g < w1.heap.size ∧ ∀ k c, (words s)[k]? = some c → w1.cell? ⟨g, k * 2, none⟩ = some (.int .i64 c.1) ∧ w1.cell? ⟨g, k * 2 + 1, none⟩ = some (.int .i64 c.2)) := hg0; clear hg0))
  go_loopw [6] (fun t wr => ∃ k : Nat, t = .int .i64 k ∧ k ≤ (words s).length ∧ (∀ j q, j < k → (words s)[j]? = some q → q.2 ≤ a) ∧ wr = w1) (fun t _ => (words s).length - (intOf t).toNat)
  case atStart => exact ⟨0, rfl, Nat.zero_le _, fun j q h => by omega, rfl⟩
  case round =>
    obtain ⟨k, rfl, hk, hno, rfl⟩ := hrel
    by_cases hlt : k < (words s).length
    · have hp : (words s)[k]? = some (words s)[k] := List.getElem?_eq_getElem hlt
      generalize (words s)[k] = p at hp
      obtain ⟨g, rfl, hgl, hcells⟩ := HG.out (fun e => by rw [e] at hp; simp at hp)
      obtain ⟨q0, q1⟩ := hcells k p hp
      have hkl : (k : Int) < ((words s).length : Int) := by omega
      by_cases ha : a < p.2
      · have HV : Hid (aheadW (words s) s.size a = p.2) := ahead_next hp ha hno
        have ha' : (a : Int) < p.2 := by omega
        clear hcells HG hno hp
        go_wp2
        go_ret
        exact ⟨ret_int (by rw [HV.out]), hb1⟩
      · have ha' : ¬ ((a : Int) < p.2) := by omega
        have HN : Hid (∀ j q, j < k + 1 → (words s)[j]? = some q → q.2 ≤ a) := fun j q hj hq => by
          by_cases e : j = k
          · subst e; rw [hp] at hq; cases hq; omega
          · exact hno j q (by omega) hq
        clear hcells HG hno hp
        go_wp2
        exact ⟨⟨k + 1, by first | rfl | simp, by omega, HN.out, trivial⟩, by simp [intOf]; omega⟩
    · have hkl : ¬ ((k : Int) < ((words s).length : Int)) := by omega
      have HV : Hid (aheadW (words s) s.size a = s.size) := ahead_none fun q hq => by
        obtain ⟨j, hj⟩ := List.mem_iff_getElem?.1 hq
        exact hno j q (by have := (List.getElem?_eq_some_iff.1 hj).1; omega) hj
      clear HG hno
      go_wp2
      go_ret
      exact ⟨ret_int (by rw [HV.out]), hb1⟩
set_option maxRecDepth 100000 in
set_option maxHeartbeats 1000000 in
theorem rbehind_any (s : ByteArray) (i : Int) (hs : s.size ≤ 4398046511000) (w : World) :
    Calls Tryd.prog 22 #[.string s, .int .i64 i] w fun e w' => e = .returned (.int .i64 (behindW (words s) (heldN s i))) ∧ Below w.heap.size w w' := by
  have cH := rheld_any s i w
  have hle := held_le s i
  have cS : Calls Tryd.prog 16 #[.string s] w fun e w' => ∃ v, e = .returned v ∧ Rd2 w' v (words s) ∧ Below w.heap.size w w' := (rspans_any s hs w).mono fun e w' ⟨v, h1, h2, h3⟩ => ⟨v, h1, Rd2.of_row h2, h3⟩
  generalize heldN s i = a at cH hle ⊢
  have hwl := words_len s
  obtain ⟨n, hn⟩ : ∃ n, (words s).length = n := ⟨_, rfl⟩
  have HN : Hid ((words s).length = n) := hn
  rw [hn] at hwl
  clear hn
  have HR : Hid (∀ v W, Rd2 W v (words s) → ∃ la lc, v = .slice la n lc ∧ (words s ≠ [] → ∃ g, la = some ⟨g, 0, none⟩ ∧ g < W.heap.size ∧ ∀ k c, (words s)[k]? = some c → W.cell? ⟨g, k * 2, none⟩ = some (.int .i64 c.1) ∧ W.cell? ⟨g, k * 2 + 1, none⟩ = some (.int .i64 c.2))) := fun v W h => by
    obtain ⟨la, lc, h1, h2⟩ := h
    rw [HN.out] at h1
    exact ⟨la, lc, h1, h2⟩
  cases n with
  | zero =>
    have HV : Hid (behindW (words s) a = 0) := behind_none fun q hq => by
      have : words s = [] := List.length_eq_zero_iff.1 HN.out
      rw [this] at hq; cases hq
    go_enter Tryd.func22, Tryd.ntmps22
    go_wp2_with (first | (go_at_call 47; refine cH.mono ?_; clear cH; rintro e w0 ⟨rfl, rfl⟩) | (go_at_call 16; refine cS.mono ?_; clear cS; rintro e w1 ⟨lv, rfl, hrd1, hb1⟩; obtain ⟨la, lc, rfl, _⟩ := HR.out _ _ hrd1; clear hrd1))
    go_loopw [6] (fun t wr => t = .int .i64 (-1) ∧ wr = w1) (fun _ _ => 0)
    case atStart => exact ⟨rfl, rfl⟩
    case round =>
      obtain ⟨rfl, rfl⟩ := hrel
      go_wp2
      go_ret
      exact ⟨ret_int (by rw [HV.out]; rfl), hb1⟩
  | succ n =>
    go_enter Tryd.func22, Tryd.ntmps22
    go_wp2_with (first | (go_at_call 47; refine cH.mono ?_; clear cH; rintro e w0 ⟨rfl, rfl⟩) | (go_at_call 16; refine cS.mono ?_; clear cS; rintro e w1 ⟨lv, rfl, hrd1, hb1⟩; obtain ⟨la, lc, rfl, hg0⟩ := HR.out _ _ hrd1; have HG : Hid (words s ≠ [] → ∃ g, la = some ⟨g, 0, none⟩ ∧ g < w1.heap.size ∧ ∀ k c, (words s)[k]? = some c → w1.cell? ⟨g, k * 2, none⟩ = some (.int .i64 c.1) ∧ w1.cell? ⟨g, k * 2 + 1, none⟩ = some (.int .i64 c.2)) := hg0; clear hg0 hrd1 HR))
    go_loopw [6] (fun t wr => ((t = .int .i64 (-1) ∧ ∀ q ∈ words s, a ≤ q.1) ∨ ∃ k : Nat, t = .int .i64 k ∧ k < n + 1 ∧ (∀ j q, k < j → (words s)[j]? = some q → a ≤ q.1)) ∧ wr = w1) (fun t _ => (intOf t + 1).toNat)
    case atStart => exact ⟨.inr ⟨n, by first | rfl | simp, by omega, fun j q hj hq => by have := (List.getElem?_eq_some_iff.1 hq).1; rw [HN.out] at this; omega⟩, rfl⟩
    case round =>
      obtain ⟨(⟨rfl, hno⟩ | ⟨k, rfl, hk, hno⟩), rfl⟩ := hrel
      · have HV : Hid (behindW (words s) a = 0) := behind_none hno
        clear hno HG
        go_wp2
        go_ret
        exact ⟨ret_int (by rw [HV.out]; rfl), hb1⟩
      · have hp : (words s)[k]? = some ((words s)[k]'(by rw [HN.out]; exact hk)) := List.getElem?_eq_getElem _
        generalize (words s)[k]'(by rw [HN.out]; exact hk) = p at hp
        obtain ⟨g, rfl, hgl, hcells⟩ := HG.out (fun e => by rw [e] at hp; simp at hp)
        obtain ⟨q0, q1⟩ := hcells k p hp
        by_cases ha : p.1 < a
        · have HV : Hid (behindW (words s) a = p.1) := behind_prev hp ha hno
          have ha' : (p.1 : Int) < a := by omega
          clear hcells HG hno hp
          go_wp2
          go_ret
          exact ⟨ret_int (by rw [HV.out]), hb1⟩
        · have ha' : ¬ ((p.1 : Int) < a) := by omega
          have HX : Hid (∀ j q, k ≤ j → (words s)[j]? = some q → a ≤ q.1) := fun j q hj hq => by
            by_cases e : j = k
            · subst e; rw [hp] at hq; cases hq; omega
            · exact hno j q (by omega) hq
          clear hcells HG hno hp
          cases k with
          | zero =>
            go_wp2
            exact ⟨⟨.inl ⟨by first | rfl | simp, fun q hq => by obtain ⟨j, hj⟩ := List.mem_iff_getElem?.1 hq; exact HX.out j q (Nat.zero_le _) hj⟩, trivial⟩, by simp [intOf]⟩
          | succ k =>
            go_wp2
            exact ⟨⟨.inr ⟨k, by first | rfl | simp, by omega, fun j q hj hq => HX.out j q (by omega) hq⟩, trivial⟩, by simp [intOf]; omega⟩
end Go.Proofs.YtoijjkbnmicadaaDoor
