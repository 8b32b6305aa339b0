/-
  The law SeekNil returns true for every number: a nil tree is that of the empty text, alone and as a part. Its conditions: the two tables of unicode/utf8 start as the program's text lays them (the card ties that).
-/
import Derived.Test.YtbihilfnnonpnaaDoorPkG
namespace Go.Proofs.YtbihilfnnonpnaaDoor.seekNil
open Go.RowKit Go.Shelf Bod Wid

def LF : ByteArray := ⟨#[10]⟩
theorem tx1 : (Tr.knot (.leaf noB) (.leaf noB)).text = noB := by kernel_rfl
theorem tx2 : (Tr.knot (.leaf noB) (.leaf LF)).text = LF := by kernel_rfl
set_option maxRecDepth 100000 in
set_option maxHeartbeats 2000000 in
theorem walk (n : Int) (hn : -9223372036854775808 ≤ n ∧ n ≤ 9223372036854775807) (w : World) (hE : Ev w) :
    Calls Tryd.prog 3 #[.int .i64 n] w fun e w' => e = .returned (.bool true) ∧ Below w.heap.size w w' := by
  have C0 : Hid (Calls Tryd.prog 5 #[] w fun e W' => e = .returned (.bool true) ∧ Hid (Below w.heap.size w W')) := awake_any w hE
  have A1 : Hid (∀ W, Hid (Below w.heap.size w W) → Calls Tryd.prog 6 #[.nilIface, .string ⟨#[]⟩, .int .i64 n] W fun e W' => e = .returned (.bool true) ∧ Hid (Below w.heap.size w W')) := fun W hW => (asked_any (t := .leaf noB) (.inl ⟨rfl, rfl⟩) (by decide) n hn (hE.below hW)).mono fun e W' ⟨h1, h2⟩ => ⟨h1, Below.on hW h2⟩
  have P1 : Hid (∀ W, Hid (Below w.heap.size w W) → Calls Tryd.prog 7 #[.nilIface, .nilIface] W fun e W' => ∃ T p, e = .returned (.iface T p) ∧ Hid (Nt W' (.knot (.leaf noB) (.leaf noB)) (.iface T p) ∧ Below w.heap.size w W')) := fun W hW => (pair_any (l := .leaf noB) (r := .leaf noB) (.inl ⟨rfl, rfl⟩) (.inl ⟨rfl, rfl⟩) (by decide) (hE.below hW)).mono fun e W' ⟨T, p, h1, h2, h3⟩ => ⟨T, p, h1, h2, Below.on hW h3⟩
  have A2 : Hid (∀ W T p, Hid (Nt W (.knot (.leaf noB) (.leaf noB)) (.iface T p) ∧ Below w.heap.size w W) → Calls Tryd.prog 6 #[.iface T p, .string ⟨#[]⟩, .int .i64 n] W fun e W' => e = .returned (.bool true) ∧ Hid (Below w.heap.size w W')) := fun W T p hW => by
    have := asked_any (.inr hW.out.1) (by rw [tx1]; decide) n hn (hE.below hW.out.2)
    rw [tx1] at this
    exact this.mono fun e W' ⟨h1, h2⟩ => ⟨h1, Below.on hW.out.2 h2⟩
  have P2 : Hid (∀ W, Hid (Below w.heap.size w W) → Calls Tryd.prog 8 #[.string ⟨#[10]⟩] W fun e W' => ∃ T p, e = .returned (.iface T p) ∧ Hid (Nt W' (.leaf LF) (.iface T p) ∧ Below w.heap.size w W')) := fun W hW => (plain_any LF (by decide) W (hE.below hW)).mono fun e W' ⟨T, p, h1, h2, h3⟩ => ⟨T, p, h1, h2, Below.on hW h3⟩
  have P3 : Hid (∀ W T p, Hid (Nt W (.leaf LF) (.iface T p) ∧ Below w.heap.size w W) → Calls Tryd.prog 7 #[.nilIface, .iface T p] W fun e W' => ∃ U q, e = .returned (.iface U q) ∧ Hid (Nt W' (.knot (.leaf noB) (.leaf LF)) (.iface U q) ∧ Below w.heap.size w W')) := fun W T p hW => (pair_any (l := .leaf noB) (.inl ⟨rfl, rfl⟩) (.inr hW.out.1) (by decide) (hE.below hW.out.2)).mono fun e W' ⟨U, q, h1, h2, h3⟩ => ⟨U, q, h1, h2, Below.on hW.out.2 h3⟩
  have A3 : Hid (∀ W T p, Hid (Nt W (.knot (.leaf noB) (.leaf LF)) (.iface T p) ∧ Below w.heap.size w W) → Calls Tryd.prog 6 #[.iface T p, .string ⟨#[10]⟩, .int .i64 n] W fun e W' => e = .returned (.bool true) ∧ Hid (Below w.heap.size w W')) := fun W T p hW => by
    have := asked_any (.inr hW.out.1) (by rw [tx2]; decide) n hn (hE.below hW.out.2)
    rw [tx2] at this
    exact this.mono fun e W' ⟨h1, h2⟩ => ⟨h1, Below.on hW.out.2 h2⟩
  clear hE
  go_enter Tryd.func3, Tryd.ntmps3
  go_wp2_with (first | (go_at_call 5; refine C0.out.mono ?_; clear C0; rintro e w0 ⟨rfl, H⟩) | (go_at_call 6; refine (A1.out _ H).mono ?_; clear A1 H; rintro e w1 ⟨rfl, H⟩) | (go_at_call 7; refine (P1.out _ H).mono ?_; clear P1 H; rintro e w2 ⟨T, p, rfl, H⟩) | (go_at_call 6; refine (A2.out _ _ _ H).mono ?_; clear A2 H; rintro e w3 ⟨rfl, H⟩) | (go_at_call 8; refine (P2.out _ H).mono ?_; clear P2 H; rintro e w4 ⟨T', p', rfl, H⟩) | (go_at_call 7; refine (P3.out _ _ _ H).mono ?_; clear P3 H; rintro e w5 ⟨U, q, rfl, H⟩) | (go_at_call 6; refine (A3.out _ _ _ H).mono ?_; clear A3 H; rintro e w6 ⟨rfl, H⟩))
  go_ret
  exact ⟨rfl, H.out⟩
theorem walk_of (n : Int) (w : World) (hT : Lib.Utf8Tabs 1 2 w) (hlo0 : 1 < w.heap.size) (hlo1 : 2 < w.heap.size) (hn : -9223372036854775808 ≤ n ∧ n ≤ 9223372036854775807) :
    Calls Tryd.prog 3 #[.int .i64 n] w fun e w' => e = .returned (.bool true) ∧ Below w.heap.size w w' := walk n hn w ⟨hT, hlo0, hlo1⟩
end Go.Proofs.YtbihilfnnonpnaaDoor.seekNil
