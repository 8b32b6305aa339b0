/-
  The walk of the law ClusterShows: for every text of at most 1048576 letters it returns true: what is drawn is valid, its clusters are plain or wide, it takes as many cells as the text, and it is drawn as itself. Conditions: the two tables of unicode/utf8 lie as their text lays them.
-/
import Derived.Test.YtjgeeimkcghmoabDoorCQuiet
import Derived.Test.YtjgeeimkcghmoabDoorZMathB
namespace Go.Proofs.YtjgeeimkcghmoabDoor.clusterShows
open Go.RowKit Bod Wid

set_option maxRecDepth 100000 in
set_option maxHeartbeats 2000000 in
theorem walk (s : ByteArray) (hs : s.size ≤ 1048576) (w : World) (hT : Lib.Utf8Tabs 0 1 w) (hlo0 : 0 < w.heap.size) (hlo1 : 1 < w.heap.size) :
    Calls Tryd.prog 3 #[.string s] w fun e w' => e = .returned (.bool true) ∧ Below w.heap.size w w' := by
  have cC := fixed_any w hT hlo0 hlo1
  have TT : Hid (∀ W, Below w.heap.size w W → Lib.Utf8Tabs 0 1 W ∧ 0 < W.heap.size ∧ 1 < W.heap.size) := fun W hb => ⟨tabs_below hT hb, Nat.lt_of_lt_of_le hlo0 hb.size, Nat.lt_of_lt_of_le hlo1 hb.size⟩
  obtain ⟨d, hd⟩ : ∃ d, shown s = d := ⟨_, rfl⟩
  have hG : Good d (sumN (cl s)) := by rw [← hd]; exact shown_good s
  have hv : Lib.validD d.data.toList = true := by rw [← hd]; exact shown_valid s
  have hdd : (⟨(drawnL d (cl d)).toArray⟩ : ByteArray) = d := by
    have := shown_self s
    rw [hd] at this
    exact this
  have hsd : (⟨(drawnL s (cl s)).toArray⟩ : ByteArray) = d := hd
  have hdz : d.size ≤ 3145728 := by
    have := pre_drawn (s := s) (List.prefix_refl _)
    rw [← hsd]
    simp only [ByteArray.size, List.size_toArray]
    omega
  have hs' : s.size ≤ maxLen := by unfold maxLen; omega
  have hd' : d.size ≤ maxLen := by unfold maxLen; omega
  obtain ⟨N, hN⟩ : ∃ N, (cl d).length = N := ⟨_, rfl⟩
  have hNd : N ≤ d.size := by rw [← hN]; exact cl_len d
  have K : ∀ {f : FuncId} {vs : Array Value} {W : World} {P : Ending → World → Prop}, Below w.heap.size w W → Calls Tryd.prog f vs W (fun e W' => P e W' ∧ Below W.heap.size W W') → Calls Tryd.prog f vs W fun e W' => P e W' ∧ Below w.heap.size w W' := fun hb h => h.mono fun _ _ ⟨h1, h2⟩ => ⟨h1, hb.trans (h2.mono hb.size)⟩
  have C1 : Hid (∀ W, Below w.heap.size w W → Calls Tryd.prog 6 #[.string s] W fun e W' => e = .returned (.string d) ∧ Below w.heap.size w W') := fun W hb => by
    obtain ⟨t1, t2, t3⟩ := TT.out W hb
    have := K hb (drawn_any s hs' (by omega) W t1 t2 t3)
    rwa [hsd] at this
  have C2 : Hid (∀ W, Below w.heap.size w W → Calls Tryd.prog 7 #[.string d] W fun e W' => e = .returned (.bool true) ∧ Below w.heap.size w W') := fun W hb => by
    obtain ⟨t1, t2, t3⟩ := TT.out W hb
    have := K hb (Tryd.utf8_ValidString d W (by omega) t1)
    rwa [hv] at this
  have C3 : Hid (∀ W, Below w.heap.size w W → Calls Tryd.prog 6 #[.string d] W fun e W' => e = .returned (.string d) ∧ Below w.heap.size w W') := fun W hb => by
    obtain ⟨t1, t2, t3⟩ := TT.out W hb
    have := K hb (drawn_any d hd' (by omega) W t1 t2 t3)
    rwa [hdd] at this
  have C4 : Hid (∀ W, Below w.heap.size w W → Calls Tryd.prog 8 #[.string d] W fun e W' => ∃ a cap, e = .returned (.slice a N cap) ∧ Hid (∀ k, k < N → ∃ g x, a = some ⟨g, 0, none⟩ ∧ W'.cell? ⟨g, k * 4 + 2, none⟩ = some (.int .i64 x) ∧ (x = 0 ∨ x = 4)) ∧ Below w.heap.size w W') := fun W hb => by
    obtain ⟨t1, t2, t3⟩ := TT.out W hb
    refine (list_any d hd' (by omega) W t1 t2 t3).mono fun e W' ⟨v, h1, h2, h3⟩ => ?_
    obtain ⟨a, cap, rfl, hr⟩ := Rd4.of_row h2.1
    rw [hN] at h1
    refine ⟨a, cap, h1, fun k hk => ?_, hb.trans (h3.mono hb.size)⟩
    have hc : (cl d)[k]? = some ((cl d)[k]'(by omega)) := List.getElem?_eq_getElem _
    obtain ⟨g, hg, _, hcell⟩ := hr (fun e => by rw [e] at hN; simp at hN; omega)
    exact ⟨g, _, hg, (hcell k _ hc).2.2.1, hG.kls _ (List.getElem_mem _)⟩
  have C5 : Hid (∀ W, Below w.heap.size w W → Calls Tryd.prog 9 #[.string d] W fun e W' => e = .returned (.int .i64 (sumN (cl s))) ∧ Below w.heap.size w W') := fun W hb => by
    obtain ⟨t1, t2, t3⟩ := TT.out W hb
    have := K hb (ccells_any d hd' (by omega) W t1 t2 t3)
    rwa [hG.sum] at this
  have C6 : Hid (∀ W, Below w.heap.size w W → Calls Tryd.prog 9 #[.string s] W fun e W' => e = .returned (.int .i64 (sumN (cl s))) ∧ Below w.heap.size w W') := fun W hb => by
    obtain ⟨t1, t2, t3⟩ := TT.out W hb
    exact K hb (ccells_any s hs' (by omega) W t1 t2 t3)
  clear hT hlo0 hlo1 hG hv hdd hsd hd hN K
  generalize sumN (cl s) = z at C5 C6
  go_enter Tryd.func3, Tryd.ntmps3
  go_wp2_with (first | (go_at_call 5; refine cC.mono ?_; clear cC; rintro e w1 ⟨rfl, hb1⟩; have HB : Hid (Below w.heap.size w w1) := hb1; clear hb1) | (go_at_call 6; refine (C1.out _ HB.out).mono ?_; clear HB C1; rintro e w2 ⟨rfl, hb2⟩; have HB : Hid (Below w.heap.size w w2) := hb2; clear hb2) | (go_at_call 7; refine (C2.out _ HB.out).mono ?_; clear HB C2; rintro e w3 ⟨rfl, hb2⟩; have HB : Hid (Below w.heap.size w w3) := hb2; clear hb2) | (go_at_call 6; refine (C3.out _ HB.out).mono ?_; clear HB C3; rintro e w4 ⟨rfl, hb2⟩; have HB : Hid (Below w.heap.size w w4) := hb2; clear hb2) | (go_at_call 8; refine (C4.out _ HB.out).mono ?_; clear HB C4; rintro e w5 ⟨a, cap, rfl, HC, hb2⟩; have HB : Hid (Below w.heap.size w w5) := hb2; clear hb2))
  go_loopw [5] (fun t wr => ∃ k : Nat, t = .int .i64 k ∧ k ≤ N ∧ w5 = wr) (fun t _ => N - (intOf t).toNat)
  case atStart => exact ⟨0, rfl, Nat.zero_le _, rfl⟩
  case round =>
    obtain ⟨k, rfl, hk, rfl⟩ := hrel
    by_cases hlt : k < N
    · obtain ⟨g, x, rfl, hc, hx⟩ := HC.out k hlt
      rcases hx with rfl | rfl
      · go_wp2
        exact ⟨⟨k + 1, by go_num, by omega, by first | rfl | trivial⟩, by simp [intOf]; omega⟩
      · go_wp2
        exact ⟨⟨k + 1, by go_num, by omega, by first | rfl | trivial⟩, by simp [intOf]; omega⟩
    · go_wp2_with (first | (go_at_call 9; refine (C5.out _ HB.out).mono ?_; clear HB C5; rintro e w6 ⟨rfl, hb2⟩; have HB : Hid (Below w.heap.size w w6) := hb2; clear hb2) | (go_at_call 9; refine (C6.out _ HB.out).mono ?_; clear HB C6; rintro e w7 ⟨rfl, hb2⟩; have HB : Hid (Below w.heap.size w w7) := hb2; clear hb2))
      go_ret
      exact ⟨by simp, HB.out⟩

theorem walk_of {H : Type} (s : ByteArray) (w : World) (hT : Lib.Utf8Tabs 0 1 w) (hlo0 : 0 < w.heap.size) (hlo1 : 1 < w.heap.size) (_hs : s.size ≤ 140737488351232) (hk : Rows.uptoSmall H ([DataW.lit (.string s.data.toList)] ++ []) = true) :
    Calls Tryd.prog 3 #[.string s] w fun e w' => e = .returned (.bool true) ∧ Below w.heap.size w w' := by
  have h : Rows.uptoBulkAll ([DataW.lit (H := H) (.string s.data.toList)] ++ []) ≤ 1048576 := of_decide_eq_true hk
  simp only [List.append_nil, Rows.uptoBulkAll, Rows.uptoBulk] at h
  exact walk s (by rw [Lib.size_eq]; omega) w hT hlo0 hlo1
end Go.Proofs.YtjgeeimkcghmoabDoor.clusterShows
