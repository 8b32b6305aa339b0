/-
  The law SeekKnots returns true for every list of pieces and of picks: Plain is a leaf, Pair a knot of its parts with the sum of the text. Its conditions: the pieces and picks hold together at most 1048576 letters and values; the two tables of unicode/utf8 start as the program's text lays them (the card ties that).
-/
import Derived.Test.YtbihilfnnonpnaaDoorPkO
import Derived.Test.YtbihilfnnonpnaaDoorPkG
import Derived.Test.YtbihilfnnonpnaaDoorSText
namespace Go.Proofs.YtbihilfnnonpnaaDoor.seekKnots
open Go.RowKit Go.Shelf Bod Wid

def Tq (w : World) (s : ByteArray) (v : Value) (W : World) : Prop := (∃ t : Tr, t.text = s ∧ Nt W t v) ∧ Below w.heap.size w W
set_option maxRecDepth 100000 in
set_option maxHeartbeats 2000000 in
theorem walk (a0 : Option Addr) (len cap : Nat) (ss : List ByteArray) (a1 : Option Addr) (l1 c1 : Nat) (ps : List Int) (w : World) (hS : Texts w a0 len ss) (hl : len ≤ 1048576) (hz : ∀ s ∈ ss, s.size ≤ 1048576) (y1 : Wholes w a1 l1 ps) (hl1 : l1 ≤ 1048576) (hE : Ev w) :
    Calls Tryd.prog 4 #[.slice a0 len cap, .slice a1 l1 c1] w fun e w' => e = .returned (.bool true) ∧ Below w.heap.size w w' := by
  have HC : Hid (∀ k s, ss[k]? = some s → ∃ g o, a0 = some ⟨g, o, none⟩ ∧ g < w.heap.size ∧ w.cell? ⟨g, o + k, none⟩ = some (.string s)) := pc_at hS
  have hjo : (jo ss).size ≤ 1099511627776 := by have := pc_bd ss hz; rw [hS.1] at this; omega
  have HLN : Hid (ss.length = len) := hS.1
  have HZ : Hid (∀ s ∈ ss, s.size ≤ 1048576) := hz
  have C0 : Hid (Calls Tryd.prog 5 #[] w fun e W' => e = .returned (.bool true) ∧ Hid (Below w.heap.size w W')) := awake_any w hE
  have C1 : Hid (∀ W, Hid (Below w.heap.size w W) → Calls Tryd.prog 10 #[.slice a0 len cap, .slice a1 l1 c1] W fun e W' => ∃ T p, e = .returned (.iface T p) ∧ Hid (Tq w (jo ss) (.iface T p) W')) := fun W hW => (build_any a0 len cap ss a1 l1 c1 ps w W hW hS hl hz y1 hl1 (hE.below hW)).mono fun e W' ⟨T, p, t, h1, h2, h3, h4⟩ => ⟨T, p, h1, ⟨t, h3, h2⟩, Below.on hW h4⟩
  have C2 : Hid (∀ W T p, Hid (Tq w (jo ss) (.iface T p) W) → Calls Tryd.prog 9 #[.iface T p] W fun e W' => e = .returned (.tuple #[.string (jo ss), .bool true]) ∧ Hid (Below w.heap.size w W')) := fun W T p ⟨⟨t, ht, h1⟩, hW⟩ => by
    have := text_any h1 (by rw [ht]; exact hjo) (hE.below hW)
    rw [ht] at this
    exact this.mono fun e W' ⟨k1, k2⟩ => ⟨k1, Below.on hW k2⟩
  have C3 : Hid (∀ W, Hid (Below w.heap.size w W) → Calls Tryd.prog 11 #[.slice a0 len cap] W fun e W' => e = .returned (.string (jo ss)) ∧ Hid (Below w.heap.size w W')) := fun W hW => (pjoined_any a0 len cap ss w W hW hS hl hz).mono fun e W' ⟨h1, h2⟩ => ⟨h1, h2 ▸ hW⟩
  have C4 : Hid (∀ s W, s.size ≤ 1048576 → Hid (Below w.heap.size w W) → Calls Tryd.prog 8 #[.string s] W fun e W' => ∃ T a fP fT, e = .returned (.iface T (.pointer (some a))) ∧ Mt T a "Parts" fP ∧ Mt T a "Text" fT ∧ Hid (∀ X, Hid (Below w.heap.size w X ∧ Below W'.heap.size W' X) → Calls Tryd.prog fP #[.pointer (some a)] X fun e Y => e = .returned (.tuple #[.nilIface, .nilIface, .bool false]) ∧ Hid (Below w.heap.size w Y ∧ Below W'.heap.size W' Y)) ∧ Hid (∀ X, Hid (Below w.heap.size w X ∧ Below W'.heap.size W' X) → Calls Tryd.prog fT #[.pointer (some a)] X fun e Y => e = .returned (.string s) ∧ Hid (Below w.heap.size w Y)) ∧ Hid (Below w.heap.size w W' ∧ Below W'.heap.size W' W')) := fun s W hs hW => (plain_any s (by omega) W (hE.below hW)).mono fun e W' ⟨T, p, h1, h2, h3⟩ => by
    obtain ⟨T', a, fS, fP, fT, e1, ms⟩ := h2
    cases e1
    exact ⟨T, a, fP, fT, h1, ms.mp, ms.mt, fun X hX => (ms.cp X hX.out.2).mono fun e Y ⟨k1, k2⟩ => ⟨k1, Below.on hX.out.1 k2, Below.on hX.out.2 k2⟩, fun X hX => (ms.ct X hX.out.2).mono fun e Y ⟨k1, k2⟩ => ⟨k1, Below.on hX.out.1 k2⟩, Below.on hW h3, Below.refl _ _⟩
  have C5 : Hid (∀ W, Hid (Below w.heap.size w W) → Calls Tryd.prog 8 #[.string ⟨#[97]⟩] W fun e W' => ∃ T p, e = .returned (.iface T p) ∧ Hid (Nt W' (.leaf ⟨#[97]⟩) (.iface T p) ∧ Below w.heap.size w W')) := fun W hW => (plain_any ⟨#[97]⟩ (by decide) W (hE.below hW)).mono fun e W' ⟨T, p, h1, h2, h3⟩ => ⟨T, p, h1, h2, Below.on hW h3⟩
  have C6 : Hid (∀ W T p, Hid (Nt W (.leaf ⟨#[97]⟩) (.iface T p) ∧ Below w.heap.size w W) → Calls Tryd.prog 7 #[.nilIface, .iface T p] W fun e W' => ∃ U a fP x y, e = .returned (.iface U (.pointer (some a))) ∧ Mt U a "Parts" fP ∧ Hid (Calls Tryd.prog fP #[.pointer (some a)] W' fun e Y => e = .returned (.tuple #[x, y, .bool true]) ∧ Hid (Below w.heap.size w Y))) := fun W T p hW => (pair_any (l := .leaf noB) (.inl ⟨rfl, rfl⟩) (.inr hW.out.1) (by decide) (hE.below hW.out.2)).mono fun e W' ⟨U, q, h1, h2, h3⟩ => by
    obtain ⟨U', a, fS, fP, fT, x, y, e1, ms, _⟩ := h2
    cases e1
    exact ⟨U, a, fP, x, y, h1, ms.mp, (ms.cp W' (Below.refl _ _)).mono fun e Y ⟨k1, k2⟩ => ⟨k1, Below.on (Below.on hW.out.2 h3) k2⟩⟩
  generalize jo ss = s0 at *
  clear hS hz y1 hE
  go_enter Tryd.func4, Tryd.ntmps4
  go_wp2_with (first | (go_at_call 5; refine C0.out.mono ?_; clear C0; rintro e w0 ⟨rfl, H⟩) | (go_at_call 10; refine (C1.out _ H).mono ?_; clear C1 H; rintro e w1 ⟨T, p, rfl, H⟩) | (go_at_call 9; refine (C2.out _ _ _ H).mono ?_; clear C2 H; rintro e w2 ⟨rfl, H⟩) | (go_at_call 11; refine (C3.out _ H).mono ?_; clear C3 H; rintro e w3 ⟨rfl, H⟩))
  go_loopw [7] (fun t7 wr => ∃ k : Nat, t7 = .int .i64 k ∧ k ≤ len ∧ Hid (Below w.heap.size w wr)) (fun t7 _ => len - (intOf t7).toNat)
  case atStart => exact ⟨0, rfl, Nat.zero_le _, H⟩
  case round =>
    clear H
    obtain ⟨k, rfl, hk, H⟩ := hrel
    by_cases c : k < len
    · obtain ⟨s, hs⟩ : ∃ s, ss[k]? = some s := ⟨ss[k]'(by rw [HLN.out]; exact c), List.getElem?_eq_getElem _⟩
      obtain ⟨g, o, rfl, hg, hc0⟩ := HC.out k s hs
      have HCL : Hid (∀ X, Below w.heap.size w X → X.cell? ⟨g, o + k, none⟩ = some (.string s)) := fun X hX => (hX.cell (p := ⟨g, _, none⟩) hg).trans hc0
      have d0 : wr.cell? ⟨g, o + k, none⟩ = some (.string s) := HCL.out _ H.out
      have zs := HZ.out s (List.mem_of_getElem? hs)
      have i1 : (0 : Int) ≤ (k : Int) := by omega
      have i2 : (k : Int) < (len : Int) := by omega
      clear hs hc0 C5 C6
      go_wp2_with (first | (go_at_call 8; refine (C4.out _ _ zs H).mono ?_; clear C4 H; rintro e w4 ⟨T4, a4, fP, fT, rfl, ⟨m1, m2⟩, ⟨m3, m4⟩, CP, CT, H⟩; have he4 := fun W => eq_nil T4 (.pointer (some a4)) W) | (go_at_fn fP; refine (CP.out _ H).mono ?_; clear CP H; rintro e w5 ⟨rfl, H⟩; have d5 : w5.cell? ⟨g, o + k, none⟩ = some (.string s) := HCL.out _ H.out.1))
      have H5 : Hid (Below w.heap.size w w5.drew ∧ Below w4.heap.size w4 w5.drew) := ⟨H.out.1.drew, H.out.2.drew⟩
      go_region_held3 (fun w' => w'.cell? ⟨g, o + k, none⟩ = some (.string s)) (go_keep) (first | (go_at_fn fT; refine (CT.out _ H5).mono ?_; clear CT; rintro e w6 ⟨rfl, H6⟩; have d6 : w6.cell? ⟨g, o + k, none⟩ = some (.string s) := HCL.out _ H6.out))
      all_goals go_wp2
      all_goals exact ⟨⟨k + 1, by go_num, by omega, H6⟩, by simp [intOf]; omega⟩
    · clear C4
      go_wp2_with (first | (go_at_call 8; refine (C5.out _ H).mono ?_; clear C5 H; rintro e w4 ⟨T4, p4, rfl, H⟩) | (go_at_call 7; refine (C6.out _ _ _ H).mono ?_; clear C6 H; rintro e w5 ⟨T5, a5, fP, x5, y5, rfl, ⟨m1, m2⟩, CP6⟩; have he5 := fun W => eq_nil T5 (.pointer (some a5)) W) | (go_at_fn fP; refine CP6.out.mono ?_; clear CP6; rintro e w6 ⟨rfl, H⟩))
      go_ret
      exact ⟨rfl, H.out⟩
theorem walk_of {H : Type} {d d1 : DataW H} (a0 : Option Addr) (len cap : Nat) (a1 : Option Addr) (l1 c1 : Nat) (w : World) (hT : Lib.Utf8Tabs 1 2 w) (hlo0 : 1 < w.heap.size) (hlo1 : 2 < w.heap.size) (ss : List ByteArray) (hS : Texts w a0 len ss) (hu : len ≤ Rows.uptoBulk d ∧ ∀ s ∈ ss, s.size ≤ Rows.uptoBulk d) (ps : List Int) (y1 : Wholes w a1 l1 ps) (u1 : l1 ≤ Rows.uptoBulk d1) (hk : Rows.uptoSmall H ([d, d1] ++ []) = true) :
    Calls Tryd.prog 4 #[.slice a0 len cap, .slice a1 l1 c1] w fun e w' => e = .returned (.bool true) ∧ Below w.heap.size w w' := by
  have h : Rows.uptoBulkAll ([d, d1] ++ []) ≤ 1048576 := of_decide_eq_true hk
  simp only [List.append_nil, Rows.uptoBulkAll] at h
  exact walk a0 len cap ss a1 l1 c1 ps w hS (by omega) (fun s hs => by have := hu.2 s hs; omega) y1 (by omega) ⟨hT, hlo0, hlo1⟩
end Go.Proofs.YtbihilfnnonpnaaDoor.seekKnots
