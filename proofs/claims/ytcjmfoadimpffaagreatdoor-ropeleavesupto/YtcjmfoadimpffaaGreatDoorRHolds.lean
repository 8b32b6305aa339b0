/-
  Package rope's Leaves as a value, and the law's examples (holds). Conditions: the two tables of unicode/utf8 lie as their text lays them.
-/
import Derived.Test.YtcjmfoadimpffaaGreatDoorRRep
import Derived.Test.YtcjmfoadimpffaaGreatDoorShelfB
namespace Go.Proofs.YtcjmfoadimpffaaGreatDoor
open Go.RowKit Go.Shelf Bod Wid

set_option maxRecDepth 100000 in
set_option maxHeartbeats 1000000 in
theorem leaves_any {w : World} {t : Tr} {v : Value} (h : Rp w t v) : Calls Tryz.prog 13 #[v] w fun e W' => ∃ c x, e = .returned (.func (.func 49) #[] #[.pointer (some ⟨c, 0, none⟩)]) ∧ W'.heap[c]? = some (.cells #[x] 89 (0, 0)) ∧ At W' t x ∧ Below w.heap.size w W' := by
  have K1 : Hid (Calls Tryz.prog 44 #[v] w fun e W' => ∃ T p, e = .returned (.iface T p) ∧ Hid (At W' t (.iface T p) ∧ Below w.heap.size w W')) := (rtree_any h).mono fun e W' ⟨v, h1, h2, h3⟩ => by
    obtain ⟨T, a, _, _, _, _, rfl, -⟩ := h2.nd
    exact ⟨T, _, h1, h2, h3⟩
  clear h
  go_enter Tryz.func13, Tryz.ntmps13
  go_wp2_with (go_at_call 44; refine K1.out.mono ?_; clear K1; rintro e w1 ⟨T, p, rfl, h1⟩)
  go_ret
  have hb := (Below.refl _ w1).alloc (Nat.le_refl _) (.cells #[.iface T p] 89)
  exact ⟨_, _, rfl, World.alloc_heap_new w1 _, h1.out.1.below hb, Below.on h1.out.2 hb⟩
def lt65 : ByteArray := ⟨(Lib.repeatL [97] 65).toArray⟩
theorem lt65_size : lt65.size = 65 := by decide +kernel
theorem lt65_fe : fe lt65 = 33 := by decide +kernel
theorem lt65_h : (tof lt65).h = 1 := by
  unfold tof
  have e := cuts_on (s := lt65) (by rw [lt65_fe, lt65_size]; decide)
  have z : (lt65.extract (fe lt65) lt65.size).size = 32 := by rw [size_extract _ _ _ (Nat.le_refl _), lt65_fe, lt65_size]
  rw [cuts_end (s := lt65.extract (fe lt65) lt65.size) (by have : fe (lt65.extract (fe lt65) lt65.size) = (lt65.extract (fe lt65) lt65.size).size := if_pos (by omega); omega)] at e
  rw [e]
  have := (tol_avl _ (Nat.le_refl [lt65.extract 0 (fe lt65), lt65.extract (fe lt65) lt65.size].length)).2
  rw [this]
  show hh 2 = 1
  rw [hh_two (by decide)]
  have e1 : hh 1 = 0 := by rw [hh]; rfl
  show max (hh 1) (hh 1) + 1 = 1
  rw [e1]
  rfl
set_option maxRecDepth 100000 in
set_option maxHeartbeats 1000000 in
theorem letters_any (w : World) : Calls Tryz.prog 40 #[.int .i64 65] w fun e W' => e = .returned (.string lt65) ∧ Below w.heap.size w W' := by
  have C : Hid (Calls Tryz.prog 80 #[.string ⟨#[97]⟩, .int .i64 65] w fun e W' => e = .returned (.string lt65) ∧ Below w.heap.size w W') := Tryz.strings_Repeat ⟨#[97]⟩ 65 w (by decide) (by decide)
  go_enter Tryz.func40, Tryz.ntmps40
  go_wp2_with (go_at_call 80; refine C.out.mono ?_; clear C; rintro e w1 ⟨rfl, h1⟩)
  go_ret
  exact ⟨rfl, h1⟩
def abc : ByteArray := ⟨#[97, 98, 99]⟩
theorem abc_text : (tof abc).text = abc := tof_text abc
theorem abc_rep : (rep (tof abc) 1 (1 + 1) ⟨#[88, 89]⟩).text = ⟨#[97, 88, 89, 99]⟩ := by
  rw [(rep_ok _ (tof_good abc) (by rw [abc_text]; decide) (by rw [abc_text]; decide)).2, abc_text]
  decide +kernel
theorem func_nil (f : Fn) (x y : Array Value) (W : World) : (binOp .eql 33 (.func f x y) .nilFunc).run Tryz.prog W = .ok (.bool false) W := by kernel_rfl
theorem MkR.rp {w W : World} {t : Tr} {e : Ending} (h : MkR w t e W) : ∃ b, e = .returned (.pointer (some ⟨b, 0, none⟩)) ∧ Rp W t (.pointer (some ⟨b, 0, none⟩)) ∧ Below w.heap.size w W := by
  obtain ⟨b, x, h1, h2, h3, h4⟩ := h
  exact ⟨b, h1, Rp.of h2 h3, h4⟩
set_option maxRecDepth 100000 in
set_option maxHeartbeats 1000000 in
theorem holds_any (w : World) (hE : Ev w) : Calls Tryz.prog 9 #[] w fun e W' => e = .returned (.bool true) ∧ Below w.heap.size w W' := by
  have C1 : Hid (Calls Tryz.prog 40 #[.int .i64 65] w fun e W' => e = .returned (.string lt65) ∧ Hid (Below w.heap.size w W')) := letters_any w
  have C2 : Hid (∀ W, Hid (Below w.heap.size w W) → Calls Tryz.prog 10 #[.string lt65] W fun e W' => ∃ b, e = .returned (.pointer (some ⟨b, 0, none⟩)) ∧ Hid (Rp W' (tof lt65) (.pointer (some ⟨b, 0, none⟩)) ∧ Below w.heap.size w W')) := fun W hW => (rnew_any lt65 (by rw [lt65_size]; decide) W (hE.below hW)).mono fun e W' h => by
    obtain ⟨b, h1, h2, h3⟩ := MkR.rp h
    exact ⟨b, h1, h2, Below.on hW h3⟩
  have C3 : Hid (∀ W b, Hid (Rp W (tof lt65) (.pointer (some ⟨b, 0, none⟩)) ∧ Below w.heap.size w W) → Calls Tryz.prog 13 #[.pointer (some ⟨b, 0, none⟩)] W fun e W' => ∃ c, e = .returned (.func (.func 49) #[] #[.pointer (some ⟨c, 0, none⟩)]) ∧ Hid (Rp W' (tof lt65) (.pointer (some ⟨b, 0, none⟩)) ∧ Below w.heap.size w W')) := fun W b ⟨h1, hW⟩ => (leaves_any h1).mono fun e W' ⟨c, x, k1, _, _, k2⟩ => ⟨c, k1, h1.below k2, Below.on hW k2⟩
  have C4 : Hid (∀ W b, Hid (Rp W (tof lt65) (.pointer (some ⟨b, 0, none⟩)) ∧ Below w.heap.size w W) → Calls Tryz.prog 16 #[.pointer (some ⟨b, 0, none⟩)] W fun e W' => e = .returned (.int .i64 1) ∧ Hid (Rp W' (tof lt65) (.pointer (some ⟨b, 0, none⟩)) ∧ Below w.heap.size w W')) := fun W b ⟨h1, hW⟩ => (rheight_any h1).mono fun e W' ⟨k1, k2⟩ => ⟨by rw [k1, lt65_h]; rfl, h1.below k2, Below.on hW k2⟩
  have C5 : Hid (∀ W b, Hid (Rp W (tof lt65) (.pointer (some ⟨b, 0, none⟩)) ∧ Below w.heap.size w W) → Calls Tryz.prog 41 #[.pointer (some ⟨b, 0, none⟩)] W fun e W' => e = .returned (.int .i64 65) ∧ Hid (Below w.heap.size w W')) := fun W b ⟨h1, hW⟩ => (rlen_any h1).mono fun e W' ⟨k1, k2⟩ => ⟨by rw [k1, tof_text, lt65_size]; rfl, Below.on hW k2⟩
  have D1 : Hid (∀ W, Hid (Below w.heap.size w W) → Calls Tryz.prog 10 #[.string ⟨#[97, 98, 99]⟩] W fun e W' => ∃ b, e = .returned (.pointer (some ⟨b, 0, none⟩)) ∧ Hid (Rp W' (tof abc) (.pointer (some ⟨b, 0, none⟩)) ∧ Below w.heap.size w W')) := fun W hW => (rnew_any abc (by decide) W (hE.below hW)).mono fun e W' h => by
    obtain ⟨b, h1, h2, h3⟩ := MkR.rp h
    exact ⟨b, h1, h2, Below.on hW h3⟩
  have D2 : Hid (∀ W b, Hid (Rp W (tof abc) (.pointer (some ⟨b, 0, none⟩)) ∧ Below w.heap.size w W) → Calls Tryz.prog 12 #[.pointer (some ⟨b, 0, none⟩), .int .i64 1, .int .i64 1, .string ⟨#[88, 89]⟩] W fun e W' => ∃ c, e = .returned (.tuple #[.pointer (some ⟨c, 0, none⟩), .string ⟨#[98]⟩, .int .i64 0]) ∧ Hid (Rp W' (rep (tof abc) 1 (1 + 1) ⟨#[88, 89]⟩) (.pointer (some ⟨c, 0, none⟩)) ∧ Below w.heap.size w W')) := fun W b ⟨h1, hW⟩ =>
    (Go.Proofs.YtcjmfoadimpffaaGreatDoor.rrep_ok h1 (tof_good abc) 1 1 ⟨#[88, 89]⟩ (by rw [abc_text]; decide) (by rw [abc_text]; decide) (hE.below hW)).mono fun e W' ⟨c, k1, k2, k3⟩ => ⟨c, by rw [k1, abc_text, show abc.extract 1 (1 + 1) = ⟨#[98]⟩ by decide +kernel], k2, Below.on hW k3⟩
  have D3 : Hid (∀ W b, Hid (Rp W (rep (tof abc) 1 (1 + 1) ⟨#[88, 89]⟩) (.pointer (some ⟨b, 0, none⟩)) ∧ Below w.heap.size w W) → Calls Tryz.prog 17 #[.pointer (some ⟨b, 0, none⟩)] W fun e W' => e = .returned (.string ⟨#[97, 88, 89, 99]⟩) ∧ Hid (Below w.heap.size w W')) := fun W b ⟨h1, hW⟩ => (rtext_any h1 (by rw [abc_rep]; decide)).mono fun e W' ⟨k1, k2⟩ => ⟨by rw [k1, abc_rep], Below.on hW k2⟩
  have D4 : Hid (∀ W b, Hid (Rp W (tof abc) (.pointer (some ⟨b, 0, none⟩)) ∧ Below w.heap.size w W) → Calls Tryz.prog 12 #[.pointer (some ⟨b, 0, none⟩), .int .i64 2, .int .i64 2, .string ⟨#[]⟩] W fun e W' => e = .returned (.tuple #[.pointer none, .string noB, .int .i64 1]) ∧ Hid (Below w.heap.size w W')) := fun W b ⟨h1, hW⟩ => (rrep_no h1 (by rw [abc_text]; decide) 2 2 ⟨#[]⟩ (by omega) (by rw [abc_text]; decide)).mono fun e W' ⟨k1, k2⟩ => ⟨k1, Below.on hW k2⟩
  have hfn := fun x y W => func_nil (.func 49) x y W
  have hD1 := D1
  clear hE
  go_enter Tryz.func9, Tryz.ntmps9
  go_wp2_with (first | (go_at_call 40; refine C1.out.mono ?_; clear C1; rintro e w1 ⟨rfl, h1⟩) | (go_at_call 10; refine (C2.out _ h1).mono ?_; clear C2 h1; rintro e w2 ⟨b2, rfl, h1⟩) | (go_at_call 13; refine (C3.out _ _ h1).mono ?_; clear C3 h1; rintro e w3 ⟨c3, rfl, h1⟩) | (go_at_call 16; refine (C4.out _ _ h1).mono ?_; clear C4 h1; rintro e w4 ⟨rfl, h1⟩) | (go_at_call 41; refine (C5.out _ _ h1).mono ?_; clear C5 h1; rintro e w5 ⟨rfl, h1⟩) | (go_at_call 10; refine (D1.out _ h1).mono ?_; clear D1 h1; rintro e w6 ⟨b6, rfl, h1⟩) | (go_at_call 12; refine (D2.out _ _ h1).mono ?_; clear D2 h1; rintro e w7 ⟨b7, rfl, h1⟩) | (go_at_call 17; refine (D3.out _ _ h1).mono ?_; clear D3 h1; rintro e w8 ⟨rfl, h1⟩) | (go_at_call 10; refine (hD1.out _ h1).mono ?_; clear hD1 h1; rintro e w9 ⟨b9, rfl, h1⟩) | (go_at_call 12; refine (D4.out _ _ h1).mono ?_; clear D4 h1; rintro e w10 ⟨rfl, h1⟩))
  go_ret
  exact ⟨rfl, h1.out⟩
end Go.Proofs.YtcjmfoadimpffaaGreatDoor
