/-
  The law SeekTrees returns true for every list of pieces, of picks and of numbers: every question of a tree by hand is answered as the document says. Its conditions: the pieces, picks and numbers hold together at most 1048576 letters and values; the two tables of unicode/utf8 start as the program's text lays them (the card ties that).
-/
import Derived.Test.YtbihilfnnonpnaaGreatDoorPkO
import Derived.Test.YtbihilfnnonpnaaGreatDoorPkG
namespace Go.Proofs.YtbihilfnnonpnaaGreatDoor.seekTrees
open Go.RowKit Go.Shelf Bod Wid

/-- some tree of the text lies there -/
def Tq (w : World) (s : ByteArray) (v : Value) (W : World) : Prop := (∃ t : Tr, t.text = s ∧ Nt W t v) ∧ Below w.heap.size w W
set_option maxRecDepth 100000 in
set_option maxHeartbeats 2000000 in
theorem walk (a0 : Option Addr) (len cap : Nat) (ss : List ByteArray) (a1 : Option Addr) (l1 c1 : Nat) (ps : List Int) (a2 : Option Addr) (l2 c2 : Nat) (rs : List Int) (w : World) (hS : Texts w a0 len ss) (hl : len ≤ 1048576) (hz : ∀ s ∈ ss, s.size ≤ 1048576) (y1 : Wholes w a1 l1 ps) (hl1 : l1 ≤ 1048576) (y2 : Wholes w a2 l2 rs) (hl2 : l2 ≤ 1048576) (hE : Ev w) :
    Calls Tryz.prog 5 #[.slice a0 len cap, .slice a1 l1 c1, .slice a2 l2 c2] w fun e w' => e = .returned (.bool true) ∧ Below w.heap.size w w' := by
  have HC : Hid (∀ k, k < l2 → ∃ g o c, a2 = some ⟨g, o, none⟩ ∧ g < w.heap.size ∧ w.cell? ⟨g, o + k, none⟩ = some (.int .i64 c) ∧ -9223372036854775808 ≤ c ∧ c ≤ 9223372036854775807) := wh_at y2
  have hjo : (jo ss).size ≤ 1099511627776 := by have := pc_bd ss hz; rw [hS.1] at this; omega
  have C0 : Hid (Calls Tryz.prog 18 #[] w fun e W' => e = .returned (.bool true) ∧ Hid (Below w.heap.size w W')) := awake_any w hE
  have C1 : Hid (∀ W, Hid (Below w.heap.size w W) → Calls Tryz.prog 19 #[.slice a0 len cap, .slice a1 l1 c1] W fun e W' => ∃ T p, e = .returned (.iface T p) ∧ Hid (Tq w (jo ss) (.iface T p) W')) := fun W hW => (build_any a0 len cap ss a1 l1 c1 ps w W hW hS hl hz y1 hl1 (hE.below hW)).mono fun e W' ⟨T, p, t, h1, h2, h3, h4⟩ => ⟨T, p, h1, ⟨t, h3, h2⟩, Below.on hW h4⟩
  have C2 : Hid (∀ W v, Hid (Tq w (jo ss) v W) → Calls Tryz.prog 20 #[.slice a0 len cap] W fun e W' => e = .returned (.string (jo ss)) ∧ Hid (Tq w (jo ss) v W')) := fun W v hW => (pjoined_any a0 len cap ss w W hW.out.2 hS hl hz).mono fun e W' ⟨h1, h2⟩ => ⟨h1, h2 ▸ hW⟩
  have CA : Hid (∀ W T p (c : Int), -9223372036854775808 ≤ c ∧ c ≤ 9223372036854775807 → Hid (Tq w (jo ss) (.iface T p) W) → Calls Tryz.prog 21 #[.iface T p, .string (jo ss), .int .i64 c] W fun e W' => e = .returned (.bool true) ∧ Hid (Tq w (jo ss) (.iface T p) W')) := fun W T p c hc ⟨⟨t, ht, h1⟩, hW⟩ => by
    have := asked_any (.inr h1) (by rw [ht]; exact hjo) c hc (hE.below hW)
    rw [ht] at this
    exact this.mono fun e W' ⟨k1, k2⟩ => ⟨k1, ⟨t, ht, h1.below k2⟩, Below.on hW k2⟩
  generalize jo ss = s at *
  clear hS hz y1 y2 hE
  go_enter Tryz.func5, Tryz.ntmps5
  go_wp2_with (first | (go_at_call 18; refine C0.out.mono ?_; clear C0; rintro e w0 ⟨rfl, H⟩) | (go_at_call 19; refine (C1.out _ H).mono ?_; clear C1 H; rintro e w1 ⟨T, p, rfl, H⟩) | (go_at_call 20; refine (C2.out _ _ H).mono ?_; clear C2 H; rintro e w2 ⟨rfl, H⟩))
  go_loopw [9] (fun t9 wr => ∃ k : Nat, t9 = .int .i64 k ∧ k ≤ l2 ∧ Hid (Tq w s (.iface T p) wr)) (fun t9 _ => l2 - (intOf t9).toNat)
  case atStart => exact ⟨0, rfl, Nat.zero_le _, H⟩
  case round =>
    clear H
    obtain ⟨k, rfl, hk, H⟩ := hrel
    by_cases c : k < l2
    · obtain ⟨g, o, x, rfl, hg, hc0, hx⟩ := HC.out k c
      have d0 : wr.cell? ⟨g, o + k, none⟩ = some (.int .i64 x) := (H.out.2.cell (p := ⟨g, _, none⟩) hg).trans hc0
      clear hc0
      go_wp2_with (go_at_call 21; refine (CA.out _ _ _ _ hx H).mono ?_; clear CA H; rintro e w5 ⟨rfl, H⟩)
      exact ⟨⟨k + 1, by go_num, by omega, H⟩, by simp [intOf]; omega⟩
    · have C5 : Hid _ := fun W T p => CA.out W T p ((s.size : Nat) : Int) (by omega)
      have C6 : Hid _ := fun W T p => CA.out W T p 0 (by omega)
      have C7 : Hid _ := fun W T p => CA.out W T p (-1) (by omega)
      have C8 : Hid _ := fun W T p => CA.out W T p (((s.size : Nat) : Int) + 1) (by omega)
      clear CA
      go_wp2_with (first | (go_at_call 21; refine (C5.out _ _ _ H).mono ?_; clear C5 H; rintro e w5 ⟨rfl, H⟩) | (go_at_call 21; refine (C6.out _ _ _ H).mono ?_; clear C6 H; rintro e w6 ⟨rfl, H⟩) | (go_at_call 21; refine (C7.out _ _ _ H).mono ?_; clear C7 H; rintro e w7 ⟨rfl, H⟩) | (go_at_call 21; refine (C8.out _ _ _ H).mono ?_; clear C8 H; rintro e w8 ⟨rfl, H⟩))
      go_ret
      exact ⟨rfl, H.out.2⟩
theorem walk_of {H : Type} {d d1 d2 : DataW H} (a0 : Option Addr) (len cap : Nat) (a1 : Option Addr) (l1 c1 : Nat) (a2 : Option Addr) (l2 c2 : Nat) (w : World) (hT : Lib.Utf8Tabs 1 2 w) (hlo0 : 1 < w.heap.size) (hlo1 : 2 < w.heap.size) (ss : List ByteArray) (hS : Texts w a0 len ss) (hu : len ≤ Rows.uptoBulk d ∧ ∀ s ∈ ss, s.size ≤ Rows.uptoBulk d) (ps : List Int) (y1 : Wholes w a1 l1 ps) (u1 : l1 ≤ Rows.uptoBulk d1) (rs : List Int) (y2 : Wholes w a2 l2 rs) (u2 : l2 ≤ Rows.uptoBulk d2) (hk : Rows.uptoSmall H ([d, d1, d2] ++ []) = true) :
    Calls Tryz.prog 5 #[.slice a0 len cap, .slice a1 l1 c1, .slice a2 l2 c2] w fun e w' => e = .returned (.bool true) ∧ Below w.heap.size w w' := by
  have h : Rows.uptoBulkAll ([d, d1, d2] ++ []) ≤ 1048576 := of_decide_eq_true hk
  simp only [List.append_nil, Rows.uptoBulkAll] at h
  exact walk a0 len cap ss a1 l1 c1 ps a2 l2 c2 rs w hS (by omega) (fun s hs => by have := hu.2 s hs; omega) y1 (by omega) y2 (by omega) ⟨hT, hlo0, hlo1⟩
end Go.Proofs.YtbihilfnnonpnaaGreatDoor.seekTrees
