/-
  The law SeekRopes returns true for every two texts and every list of numbers: every question of the tree of a rope of both is answered as the document says. Its conditions: the texts and numbers hold together at most 1048576 letters and values; the two tables of unicode/utf8 start as the program's text lays them (the card ties that).
-/
import Derived.Test.YtbihilfnnonpnaaGreatDoorRLaw
import Derived.Test.YtbihilfnnonpnaaGreatDoorPkG
import Derived.Test.YtbihilfnnonpnaaGreatDoorUInts
namespace Go.Proofs.YtbihilfnnonpnaaGreatDoor.seekRopes
open Go.RowKit Go.Shelf Bod Wid

abbrev ptr (b : Nat) : Value := .pointer (some ⟨b, 0, none⟩)
set_option maxRecDepth 100000 in
set_option maxHeartbeats 2000000 in
theorem walk (a b : ByteArray) (ha : a.size ≤ 1048576) (hb : b.size ≤ 1048576) (ao : Option Addr) (len cap : Nat) (rs : List Int) (w : World) (hl : len ≤ 1048576) (y : Wholes w ao len rs) (hE : Ev w) :
    Calls Tryz.prog 6 #[.string a, .string b, .slice ao len cap] w fun e w' => e = .returned (.bool true) ∧ Below w.heap.size w w' := by
  have HC : Hid (∀ k, k < len → ∃ g o c, ao = some ⟨g, o, none⟩ ∧ g < w.heap.size ∧ w.cell? ⟨g, o + k, none⟩ = some (.int .i64 c) ∧ -9223372036854775808 ≤ c ∧ c ≤ 9223372036854775807) := fun k hk => by
    obtain ⟨h1, h2, h3⟩ := y
    obtain ⟨g, o, e1, e2, e3⟩ := h3 (by omega)
    refine ⟨g, o, rs[k]'(by omega), e1, e2, ?_, h2 _ (List.getElem_mem _)⟩
    rw [e3 k (by omega), List.getElem?_eq_getElem (by omega)]
    rfl
  obtain ⟨t, ht⟩ : ∃ t, tog [tof a, tof b] = t := ⟨_, rfl⟩
  have tt : t.text = a ++ b := by
    have := (tog_ok _ (Nat.le_refl [tof a, tof b].length) (good_two (tof_good a) (tof_good b))).2
    rw [joT_two, tof_text, tof_text, ht] at this
    exact this
  have hts : t.text.size ≤ 1099511627776 := by rw [tt, size_app]; omega
  have C0 : Hid (Calls Tryz.prog 18 #[] w fun e W' => e = .returned (.bool true) ∧ Hid (Below w.heap.size w W')) := awake_any w hE
  have C1 : Hid (∀ W, Hid (Below w.heap.size w W) → Calls Tryz.prog 8 #[.string a] W fun e W' => ∃ q, e = .returned (ptr q) ∧ Hid (Rp W' (tof a) (ptr q) ∧ Below w.heap.size w W')) := fun W hW => (rnew_any a (by unfold B40; omega) W (hE.below hW)).mono fun e W' h => by
    obtain ⟨q, h1, h2, h3⟩ := MkR.rp h
    exact ⟨q, h1, h2, Below.on hW h3⟩
  have C2 : Hid (∀ W q, Hid (Rp W (tof a) (ptr q) ∧ Below w.heap.size w W) → Calls Tryz.prog 8 #[.string b] W fun e W' => ∃ r, e = .returned (ptr r) ∧ Hid (Rp W' (tof a) (ptr q) ∧ Rp W' (tof b) (ptr r) ∧ Below w.heap.size w W')) := fun W q hW => (rnew_any b (by unfold B40; omega) W (hE.below hW.out.2)).mono fun e W' h => by
    obtain ⟨r, h1, h2, h3⟩ := MkR.rp h
    exact ⟨r, h1, hW.out.1.below h3, h2, Below.on hW.out.2 h3⟩
  have C3 : Hid (∀ W q r, Hid (Rp W (tof a) (ptr q) ∧ Rp W (tof b) (ptr r) ∧ Below w.heap.size w W) → Calls Tryz.prog 9 #[.slice (some ⟨W.heap.size, 0, none⟩) 2 2] (W.alloc (.cells #[ptr q, ptr r] 26)) fun e W' => ∃ c, e = .returned (ptr c) ∧ Hid (Rp W' t (ptr c) ∧ Below w.heap.size w W')) := fun W q r ⟨h1, h2, hW⟩ =>
    (concat_two hE hW h1 h2 (tof_good a) (tof_good b) (by rw [tof_text, tof_text]; unfold B40; omega)).mono fun e W' ⟨c, k1, k2, k3⟩ => ⟨c, k1, ht ▸ k2, Below.on hW k3⟩
  have C4 : Hid (∀ W c, Hid (Rp W t (ptr c) ∧ Below w.heap.size w W) → Calls Tryz.prog 22 #[ptr c] W fun e W' => ∃ T p, e = .returned (.iface T p) ∧ Hid (Nt W' t (.iface T p) ∧ Below w.heap.size w W')) := fun W c ⟨h1, hW⟩ => (rtree_any h1).mono fun e W' h => by
    obtain ⟨v, k1, k2, k3⟩ := h
    have hn := At.nt k2
    obtain ⟨T, p, _, _, _, _, e1, _⟩ := hn.nd
    subst e1
    exact ⟨T, _, k1, hn, Below.on hW k3⟩
  have CA : Hid (∀ W T p (c : Int), -9223372036854775808 ≤ c ∧ c ≤ 9223372036854775807 → Hid (Nt W t (.iface T p) ∧ Below w.heap.size w W) → Calls Tryz.prog 21 #[.iface T p, .string (a ++ b), .int .i64 c] W fun e W' => e = .returned (.bool true) ∧ Hid (Nt W' t (.iface T p) ∧ Below w.heap.size w W')) := fun W T p c hc ⟨h1, hW⟩ => by
    have := asked_any (.inr h1) hts c hc (hE.below hW)
    rw [tt] at this
    exact this.mono fun e W' ⟨k1, k2⟩ => ⟨k1, h1.below k2, Below.on hW k2⟩
  obtain ⟨s, hab⟩ : ∃ s, a ++ b = s := ⟨_, rfl⟩
  have hsz : s.size ≤ 2097152 := by rw [← hab, size_app]; omega
  rw [hab] at CA
  clear y hE tt hts
  go_enter Tryz.func6, Tryz.ntmps6
  go_wp2_with (first | (go_at_call 18; refine C0.out.mono ?_; clear C0; rintro e w0 ⟨rfl, H⟩) | (go_at_call 8; refine (C1.out _ H).mono ?_; clear C1 H; rintro e w1 ⟨q, rfl, H⟩) | (go_at_call 8; refine (C2.out _ _ H).mono ?_; clear C2 H; rintro e w2 ⟨r, rfl, H⟩) | (go_at_call 9; refine (C3.out _ _ _ H).mono ?_; clear C3 H; rintro e w3 ⟨c, rfl, H⟩) | (go_at_call 22; refine (C4.out _ _ H).mono ?_; clear C4 H; rintro e w4 ⟨T, p, rfl, H⟩))
  go_loopw [8] (fun t8 wr => ∃ k : Nat, t8 = .int .i64 k ∧ k ≤ len ∧ Hid (Nt wr t (.iface T p) ∧ Below w.heap.size w wr)) (fun t8 _ => len - (intOf t8).toNat)
  case atStart => exact ⟨0, rfl, Nat.zero_le _, H⟩
  case round =>
    clear H
    obtain ⟨k, rfl, hk, H⟩ := hrel
    by_cases c : k < len
    · obtain ⟨g, o, x, rfl, hg, hc0, hx⟩ := HC.out k c
      have d0 : wr.cell? ⟨g, o + k, none⟩ = some (.int .i64 x) := (H.out.2.cell (p := ⟨g, _, none⟩) hg).trans hc0
      clear hc0
      go_wp2_with (go_at_call 21; refine (CA.out _ _ _ _ hx H).mono ?_; clear CA H; rintro e w5 ⟨rfl, H⟩)
      exact ⟨⟨k + 1, by go_num, by omega, H⟩, by simp [intOf]; omega⟩
    · have h1 : -9223372036854775808 ≤ ((a.size : Nat) : Int) ∧ ((a.size : Nat) : Int) ≤ 9223372036854775807 := by omega
      have h2 : -9223372036854775808 ≤ ((s.size : Nat) : Int) ∧ ((s.size : Nat) : Int) ≤ 9223372036854775807 := by omega
      have C5 : Hid _ := fun W T p => CA.out W T p _ h1
      have C6 : Hid _ := fun W T p => CA.out W T p _ h2
      clear h1 h2 CA
      go_wp2_with (first | (go_at_call 21; refine (C5.out _ _ _ H).mono ?_; clear C5 H; rintro e w5 ⟨rfl, H⟩) | (go_at_call 21; refine (C6.out _ _ _ H).mono ?_; clear C6 H; rintro e w6 ⟨rfl, H⟩))
      go_ret
      exact ⟨rfl, H.out.2⟩
theorem walk_of {H : Type} {d : DataW H} (a b : ByteArray) (ao : Option Addr) (len cap : Nat) (w : World) (hT : Lib.Utf8Tabs 1 2 w) (hlo0 : 1 < w.heap.size) (hlo1 : 2 < w.heap.size) (_ha : a.size ≤ 140737488351232) (_hb : b.size ≤ 140737488351232) (rs : List Int) (y : Wholes w ao len rs) (u : len ≤ Rows.uptoBulk d) (hk : Rows.uptoSmall H ([DataW.lit (.string a.data.toList), DataW.lit (.string b.data.toList), d] ++ []) = true) :
    Calls Tryz.prog 6 #[.string a, .string b, .slice ao len cap] w fun e w' => e = .returned (.bool true) ∧ Below w.heap.size w w' := by
  have h : Rows.uptoBulkAll ([DataW.lit (H := H) (.string a.data.toList), DataW.lit (.string b.data.toList), d] ++ []) ≤ 1048576 := of_decide_eq_true hk
  simp only [List.append_nil, Rows.uptoBulkAll, Rows.uptoBulk] at h
  exact walk a b (by rw [Lib.size_eq]; omega) (by rw [Lib.size_eq]; omega) ao len cap rs w (by omega) y ⟨hT, hlo0, hlo1⟩
end Go.Proofs.YtbihilfnnonpnaaGreatDoor.seekRopes
