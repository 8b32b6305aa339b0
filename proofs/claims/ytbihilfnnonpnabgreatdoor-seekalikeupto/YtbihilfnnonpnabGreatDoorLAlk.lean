/-
  The law SeekAlike returns true for every list of pieces and every two lists of picks: whatever the shapes of two trees of one text are, they are answered alike. Its conditions: the pieces and picks hold together at most 1048576 letters and values; the two tables of unicode/utf8 start as the program's text lays them (the card ties that).
-/
import Derived.Test.YtbihilfnnonpnabGreatDoorPkO
import Derived.Test.YtbihilfnnonpnabGreatDoorPkG
import Derived.Test.YtbihilfnnonpnabGreatDoorRTog
namespace Go.Proofs.YtbihilfnnonpnabGreatDoor.seekAlike
open Go.RowKit Go.Shelf Bod Wid

abbrev ptr (b : Nat) : Value := .pointer (some ⟨b, 0, none⟩)
set_option maxRecDepth 100000 in
set_option maxHeartbeats 2000000 in
theorem alike_any {w : World} {t u : Tr} {v x : Value} (h : Nt w t v) (g : Nt w u x) (e : u.text = t.text) (hs : t.text.size ≤ 1099511627776) (n : Int) (hn : -9223372036854775808 ≤ n ∧ n ≤ 9223372036854775807) (hE : Ev w) :
    Calls Tryz.prog 14 #[v, x, .int .i64 n] w fun e W' => e = .returned (.bool true) ∧ Below w.heap.size w W' := by
  have C1 : Hid (∀ W, Hid (Below w.heap.size w W) → Calls Tryz.prog 31 #[v, .int .i64 n] W fun e W' => e = .returned (.tuple #[.int .i64 (fcl t.text n).1, .int .i64 (fcl t.text n).2]) ∧ Hid (Below w.heap.size w W')) := fun W hW => (scluster_any (.inr (h.below hW)) (hs) n (hE.below hW)).mono fun e W' ⟨h1, h2⟩ => ⟨h1, Below.on hW h2⟩
  have C2 : Hid (∀ W, Hid (Below w.heap.size w W) → Calls Tryz.prog 31 #[x, .int .i64 n] W fun e W' => e = .returned (.tuple #[.int .i64 (fcl t.text n).1, .int .i64 (fcl t.text n).2]) ∧ Hid (Below w.heap.size w W')) := fun W hW => by
    have := scluster_any (.inr (g.below hW)) (by rw [e]; exact hs) n (hE.below hW)
    rw [e] at this
    exact this.mono fun e W' ⟨h1, h2⟩ => ⟨h1, Below.on hW h2⟩
  have C3 : Hid (∀ W, Hid (Below w.heap.size w W) → Calls Tryz.prog 32 #[v, .int .i64 n] W fun e W' => e = .returned (.tuple #[.int .i64 (fli t.text n).1, .int .i64 (fli t.text n).2]) ∧ Hid (Below w.heap.size w W')) := fun W hW => (sline_any (.inr (h.below hW)) (hs) n hn (hE.below hW)).mono fun e W' ⟨h1, h2⟩ => ⟨h1, Below.on hW h2⟩
  have C4 : Hid (∀ W, Hid (Below w.heap.size w W) → Calls Tryz.prog 32 #[x, .int .i64 n] W fun e W' => e = .returned (.tuple #[.int .i64 (fli t.text n).1, .int .i64 (fli t.text n).2]) ∧ Hid (Below w.heap.size w W')) := fun W hW => by
    have := sline_any (.inr (g.below hW)) (by rw [e]; exact hs) n hn (hE.below hW)
    rw [e] at this
    exact this.mono fun e W' ⟨h1, h2⟩ => ⟨h1, Below.on hW h2⟩
  have C5 : Hid (∀ W, Hid (Below w.heap.size w W) → Calls Tryz.prog 33 #[v, .int .i64 n] W fun e W' => e = .returned (.tuple #[.int .i64 (fnd .N t.text n).1, .int .i64 (fnd .N t.text n).2]) ∧ Hid (Below w.heap.size w W')) := fun W hW => (scell_any (.inr (h.below hW)) (hs) n (hE.below hW)).mono fun e W' ⟨h1, h2⟩ => ⟨h1, Below.on hW h2⟩
  have C6 : Hid (∀ W, Hid (Below w.heap.size w W) → Calls Tryz.prog 33 #[x, .int .i64 n] W fun e W' => e = .returned (.tuple #[.int .i64 (fnd .N t.text n).1, .int .i64 (fnd .N t.text n).2]) ∧ Hid (Below w.heap.size w W')) := fun W hW => by
    have := scell_any (.inr (g.below hW)) (by rw [e]; exact hs) n (hE.below hW)
    rw [e] at this
    exact this.mono fun e W' ⟨h1, h2⟩ => ⟨h1, Below.on hW h2⟩
  have C7 : Hid (∀ W, Hid (Below w.heap.size w W) → Calls Tryz.prog 34 #[v, .int .i64 n] W fun e W' => e = .returned (.int .i64 (cn .C t.text (hld t.text n))) ∧ Hid (Below w.heap.size w W')) := fun W hW => (sclusters_any (.inr (h.below hW)) (hs) n hn (hE.below hW)).mono fun e W' ⟨h1, h2⟩ => ⟨h1, Below.on hW h2⟩
  have C8 : Hid (∀ W, Hid (Below w.heap.size w W) → Calls Tryz.prog 34 #[x, .int .i64 n] W fun e W' => e = .returned (.int .i64 (cn .C t.text (hld t.text n))) ∧ Hid (Below w.heap.size w W')) := fun W hW => by
    have := sclusters_any (.inr (g.below hW)) (by rw [e]; exact hs) n hn (hE.below hW)
    rw [e] at this
    exact this.mono fun e W' ⟨h1, h2⟩ => ⟨h1, Below.on hW h2⟩
  have C9 : Hid (∀ W, Hid (Below w.heap.size w W) → Calls Tryz.prog 35 #[v, .int .i64 n] W fun e W' => e = .returned (.int .i64 (nlt t.text (hld t.text n))) ∧ Hid (Below w.heap.size w W')) := fun W hW => (slines_any (.inr (h.below hW)) (hs) n hn (hE.below hW)).mono fun e W' ⟨h1, h2⟩ => ⟨h1, Below.on hW h2⟩
  have C10 : Hid (∀ W, Hid (Below w.heap.size w W) → Calls Tryz.prog 35 #[x, .int .i64 n] W fun e W' => e = .returned (.int .i64 (nlt t.text (hld t.text n))) ∧ Hid (Below w.heap.size w W')) := fun W hW => by
    have := slines_any (.inr (g.below hW)) (by rw [e]; exact hs) n hn (hE.below hW)
    rw [e] at this
    exact this.mono fun e W' ⟨h1, h2⟩ => ⟨h1, Below.on hW h2⟩
  have C11 : Hid (∀ W, Hid (Below w.heap.size w W) → Calls Tryz.prog 36 #[v, .int .i64 n] W fun e W' => e = .returned (.int .i64 (ceL (hld t.text n) (cl t.text))) ∧ Hid (Below w.heap.size w W')) := fun W hW => (scells_any (.inr (h.below hW)) (hs) n hn (hE.below hW)).mono fun e W' ⟨h1, h2⟩ => ⟨h1, Below.on hW h2⟩
  have C12 : Hid (∀ W, Hid (Below w.heap.size w W) → Calls Tryz.prog 36 #[x, .int .i64 n] W fun e W' => e = .returned (.int .i64 (ceL (hld t.text n) (cl t.text))) ∧ Hid (Below w.heap.size w W')) := fun W hW => by
    have := scells_any (.inr (g.below hW)) (by rw [e]; exact hs) n hn (hE.below hW)
    rw [e] at this
    exact this.mono fun e W' ⟨h1, h2⟩ => ⟨h1, Below.on hW h2⟩
  generalize (fcl t.text n).1 = y1 at C1 C2
  generalize (fcl t.text n).2 = z1 at C1 C2
  generalize (fli t.text n).1 = y2 at C3 C4
  generalize (fli t.text n).2 = z2 at C3 C4
  generalize (fnd .N t.text n).1 = y3 at C5 C6
  generalize (fnd .N t.text n).2 = z3 at C5 C6
  generalize cn .C t.text (hld t.text n) = x1 at C7 C8
  generalize ((nlt t.text (hld t.text n) : Nat) : Int) = x2 at C9 C10
  generalize ceL (hld t.text n) (cl t.text) = x3 at C11 C12
  have H : Hid (Below w.heap.size w w) := Below.refl _ w
  obtain ⟨T1, d1, _, _, _, _, rfl, -⟩ := h.nd
  obtain ⟨T2, d2, _, _, _, _, rfl, -⟩ := g.nd
  clear h g e hE hs
  go_enter Tryz.func14, Tryz.ntmps14
  go_wp2_with (first | (go_at_call 31; refine (C1.out _ H).mono ?_; clear C1 H; rintro e w1 ⟨rfl, H⟩) | (go_at_call 31; refine (C2.out _ H).mono ?_; clear C2 H; rintro e w2 ⟨rfl, H⟩) | (go_at_call 32; refine (C3.out _ H).mono ?_; clear C3 H; rintro e w3 ⟨rfl, H⟩) | (go_at_call 32; refine (C4.out _ H).mono ?_; clear C4 H; rintro e w4 ⟨rfl, H⟩) | (go_at_call 33; refine (C5.out _ H).mono ?_; clear C5 H; rintro e w5 ⟨rfl, H⟩) | (go_at_call 33; refine (C6.out _ H).mono ?_; clear C6 H; rintro e w6 ⟨rfl, H⟩) | (go_at_call 34; refine (C7.out _ H).mono ?_; clear C7 H; rintro e w7 ⟨rfl, H⟩) | (go_at_call 34; refine (C8.out _ H).mono ?_; clear C8 H; rintro e w8 ⟨rfl, H⟩) | (go_at_call 35; refine (C9.out _ H).mono ?_; clear C9 H; rintro e w9 ⟨rfl, H⟩) | (go_at_call 35; refine (C10.out _ H).mono ?_; clear C10 H; rintro e w10 ⟨rfl, H⟩) | (go_at_call 36; refine (C11.out _ H).mono ?_; clear C11 H; rintro e w11 ⟨rfl, H⟩) | (go_at_call 36; refine (C12.out _ H).mono ?_; clear C12 H; rintro e w12 ⟨rfl, H⟩))
  go_ret
  exact ⟨rfl, H.out⟩
/-- four trees of one text -/
structure Q4 (w : World) (s : ByteArray) (a b c d : Value) (W : World) : Prop where
  ta : ∃ t : Tr, t.text = s ∧ Nt W t a
  tb : ∃ t : Tr, t.text = s ∧ Nt W t b
  tc : ∃ t : Tr, t.text = s ∧ Nt W t c
  td : ∃ t : Tr, t.text = s ∧ Nt W t d
  bel : Below w.heap.size w W
theorem nx {s : ByteArray} {v : Value} {W X : World} (h : ∃ t : Tr, t.text = s ∧ Nt W t v) (hb : Below W.heap.size W X) : ∃ t : Tr, t.text = s ∧ Nt X t v := by
  obtain ⟨t, h1, h2⟩ := h
  exact ⟨t, h1, h2.below hb⟩
theorem Q4.below {w : World} {s : ByteArray} {a b c d : Value} {W X : World} (h : Q4 w s a b c d W) (hb : Below W.heap.size W X) : Q4 w s a b c d X := ⟨nx h.ta hb, nx h.tb hb, nx h.tc hb, nx h.td hb, Below.on h.bel hb⟩
set_option maxRecDepth 100000 in
set_option maxHeartbeats 2000000 in
theorem walk (a0 : Option Addr) (len cap : Nat) (ss : List ByteArray) (a1 : Option Addr) (l1 c1 : Nat) (ps : List Int) (a2 : Option Addr) (l2 c2 : Nat) (rs : List Int) (w : World) (hS : Texts w a0 len ss) (hl : len ≤ 1048576) (hz : ∀ s ∈ ss, s.size ≤ 1048576) (y1 : Wholes w a1 l1 ps) (hl1 : l1 ≤ 1048576) (y2 : Wholes w a2 l2 rs) (hl2 : l2 ≤ 1048576) (hE : Ev w) :
    Calls Tryz.prog 3 #[.slice a0 len cap, .slice a1 l1 c1, .slice a2 l2 c2] w fun e w' => e = .returned (.bool true) ∧ Below w.heap.size w w' := by
  have hjo : (jo ss).size ≤ 1099511627776 := by have := pc_bd ss hz; rw [hS.1] at this; omega
  have C0 : Hid (Calls Tryz.prog 8 #[] w fun e W' => e = .returned (.bool true) ∧ Hid (Below w.heap.size w W')) := awake_any w hE
  have C1 : Hid (∀ W, Hid (Below w.heap.size w W) → Calls Tryz.prog 9 #[.slice a0 len cap] W fun e W' => e = .returned (.string (jo ss)) ∧ Hid (Below w.heap.size w W')) := fun W hW => (pjoined_any a0 len cap ss w W hW hS hl hz).mono fun e W' ⟨h1, h2⟩ => ⟨h1, h2 ▸ hW⟩
  have C2 : Hid (∀ W, Hid (Below w.heap.size w W) → Calls Tryz.prog 10 #[.slice a0 len cap, .slice a1 l1 c1] W fun e W' => ∃ T p, e = .returned (.iface T p) ∧ Hid ((∃ t : Tr, t.text = jo ss ∧ Nt W' t (.iface T p)) ∧ Below w.heap.size w W')) := fun W hW => (build_any a0 len cap ss a1 l1 c1 ps w W hW hS hl hz y1 hl1 (hE.below hW)).mono fun e W' ⟨T, p, t, h1, h2, h3, h4⟩ => ⟨T, p, h1, ⟨t, h3, h2⟩, Below.on hW h4⟩
  have C3 : Hid (∀ W v, Hid ((∃ t : Tr, t.text = jo ss ∧ Nt W t v) ∧ Below w.heap.size w W) → Calls Tryz.prog 10 #[.slice a0 len cap, .slice a2 l2 c2] W fun e W' => ∃ T p, e = .returned (.iface T p) ∧ Hid ((∃ t : Tr, t.text = jo ss ∧ Nt W' t v) ∧ (∃ t : Tr, t.text = jo ss ∧ Nt W' t (.iface T p)) ∧ Below w.heap.size w W')) := fun W v hW => (build_any a0 len cap ss a2 l2 c2 rs w W hW.out.2 hS hl hz y2 hl2 (hE.below hW.out.2)).mono fun e W' ⟨T, p, t, h1, h2, h3, h4⟩ => ⟨T, p, h1, nx hW.out.1 h4, ⟨t, h3, h2⟩, Below.on hW.out.2 h4⟩
  have C4 : Hid (∀ W v x, Hid ((∃ t : Tr, t.text = jo ss ∧ Nt W t v) ∧ (∃ t : Tr, t.text = jo ss ∧ Nt W t x) ∧ Below w.heap.size w W) → Calls Tryz.prog 11 #[.string (jo ss)] W fun e W' => ∃ q, e = .returned (ptr q) ∧ Hid (Rp W' (tof (jo ss)) (ptr q) ∧ (∃ t : Tr, t.text = jo ss ∧ Nt W' t v) ∧ (∃ t : Tr, t.text = jo ss ∧ Nt W' t x) ∧ Below w.heap.size w W')) := fun W v x hW => (rnew_any (jo ss) (by unfold B40; omega) W (hE.below hW.out.2.2)).mono fun e W' h => by
    obtain ⟨b, z, h1, h2, h3, h4⟩ := h
    exact ⟨b, h1, .inr ⟨b, z, rfl, h2, .inr h3⟩, nx hW.out.1 h4, nx hW.out.2.1 h4, Below.on hW.out.2.2 h4⟩
  have C5 : Hid (∀ W v x q, Hid (Rp W (tof (jo ss)) (ptr q) ∧ (∃ t : Tr, t.text = jo ss ∧ Nt W t v) ∧ (∃ t : Tr, t.text = jo ss ∧ Nt W t x) ∧ Below w.heap.size w W) → Calls Tryz.prog 12 #[ptr q] W fun e W' => ∃ T p, e = .returned (.iface T p) ∧ Hid ((∃ t : Tr, t.text = jo ss ∧ Nt W' t (.iface T p)) ∧ (∃ t : Tr, t.text = jo ss ∧ Nt W' t v) ∧ (∃ t : Tr, t.text = jo ss ∧ Nt W' t x) ∧ Below w.heap.size w W')) := fun W v x q hW => (rtree_any hW.out.1).mono fun e W' h => by
    obtain ⟨z, k1, k2, k3⟩ := h
    have hn := At.nt k2
    obtain ⟨T, p, _, _, _, _, e1, _⟩ := hn.nd
    subst e1
    exact ⟨T, _, k1, ⟨_, tof_text _, hn⟩, nx hW.out.2.1 k3, nx hW.out.2.2.1 k3, Below.on hW.out.2.2.2 k3⟩
  have C6 : Hid (∀ W v x y, Hid ((∃ t : Tr, t.text = jo ss ∧ Nt W t y) ∧ (∃ t : Tr, t.text = jo ss ∧ Nt W t v) ∧ (∃ t : Tr, t.text = jo ss ∧ Nt W t x) ∧ Below w.heap.size w W) → Calls Tryz.prog 13 #[.string (jo ss)] W fun e W' => ∃ T p, e = .returned (.iface T p) ∧ Hid (Q4 w (jo ss) v x y (.iface T p) W')) := fun W v x y hW => (plain_any (jo ss) hjo W (hE.below hW.out.2.2.2)).mono fun e W' ⟨T, p, h1, h2, h3⟩ => ⟨T, p, h1, nx hW.out.2.1 h3, nx hW.out.2.2.1 h3, nx hW.out.1 h3, ⟨_, rfl, h2⟩, Below.on hW.out.2.2.2 h3⟩
  have CA : Hid (∀ W v x (n : Int), -9223372036854775808 ≤ n ∧ n ≤ 9223372036854775807 → (∃ t : Tr, t.text = jo ss ∧ Nt W t v) → (∃ t : Tr, t.text = jo ss ∧ Nt W t x) → Below w.heap.size w W → Calls Tryz.prog 14 #[v, x, .int .i64 n] W fun e W' => e = .returned (.bool true) ∧ Below W.heap.size W W') := fun W v x n hn ⟨t, ht, h1⟩ ⟨u, hu, h2⟩ hW => alike_any h1 h2 (hu.trans ht.symm) (by rw [ht]; exact hjo) n hn (hE.below hW)
  generalize jo ss = s at *
  clear hS hz y1 y2 hE
  go_enter Tryz.func3, Tryz.ntmps3
  go_wp2_with (first | (go_at_call 8; refine C0.out.mono ?_; clear C0; rintro e w0 ⟨rfl, H⟩) | (go_at_call 9; refine (C1.out _ H).mono ?_; clear C1 H; rintro e w1 ⟨rfl, H⟩) | (go_at_call 10; refine (C2.out _ H).mono ?_; clear C2 H; rintro e w2 ⟨T1, p1, rfl, H⟩) | (go_at_call 10; refine (C3.out _ _ H).mono ?_; clear C3 H; rintro e w3 ⟨T2, p2, rfl, H⟩) | (go_at_call 11; refine (C4.out _ _ _ H).mono ?_; clear C4 H; rintro e w4 ⟨q, rfl, H⟩) | (go_at_call 12; refine (C5.out _ _ _ _ H).mono ?_; clear C5 H; rintro e w5 ⟨T3, p3, rfl, H⟩) | (go_at_call 13; refine (C6.out _ _ _ _ H).mono ?_; clear C6 H; rintro e w6 ⟨T4, p4, rfl, H⟩))
  go_loopw [12] (fun t12 wr => ∃ n : Int, t12 = .int .i64 n ∧ -1 ≤ n ∧ n ≤ 48 ∧ Hid (Q4 w s (.iface T1 p1) (.iface T2 p2) (.iface T3 p3) (.iface T4 p4) wr)) (fun t12 _ => (48 - intOf t12).toNat)
  case atStart => exact ⟨-1, rfl, by omega, by omega, H⟩
  case round =>
    clear H
    obtain ⟨n, rfl, h1, h2, H⟩ := hrel
    have D1 : Hid (∀ W, Hid (Q4 w s (.iface T1 p1) (.iface T2 p2) (.iface T3 p3) (.iface T4 p4) W) → Calls Tryz.prog 14 #[.iface T1 p1, .iface T2 p2, .int .i64 n] W fun e W' => e = .returned (.bool true) ∧ Hid (Q4 w s (.iface T1 p1) (.iface T2 p2) (.iface T3 p3) (.iface T4 p4) W')) := fun W h => (CA.out W _ _ n (by omega) h.out.ta h.out.tb h.out.bel).mono fun e W' ⟨k1, k2⟩ => ⟨k1, h.out.below k2⟩
    have D2 : Hid (∀ W, Hid (Q4 w s (.iface T1 p1) (.iface T2 p2) (.iface T3 p3) (.iface T4 p4) W) → Calls Tryz.prog 14 #[.iface T1 p1, .iface T4 p4, .int .i64 n] W fun e W' => e = .returned (.bool true) ∧ Hid (Q4 w s (.iface T1 p1) (.iface T2 p2) (.iface T3 p3) (.iface T4 p4) W')) := fun W h => (CA.out W _ _ n (by omega) h.out.ta h.out.td h.out.bel).mono fun e W' ⟨k1, k2⟩ => ⟨k1, h.out.below k2⟩
    have D3 : Hid (∀ W, Hid (Q4 w s (.iface T1 p1) (.iface T2 p2) (.iface T3 p3) (.iface T4 p4) W) → Calls Tryz.prog 14 #[.iface T1 p1, .iface T3 p3, .int .i64 n] W fun e W' => e = .returned (.bool true) ∧ Hid (Q4 w s (.iface T1 p1) (.iface T2 p2) (.iface T3 p3) (.iface T4 p4) W')) := fun W h => (CA.out W _ _ n (by omega) h.out.ta h.out.tc h.out.bel).mono fun e W' ⟨k1, k2⟩ => ⟨k1, h.out.below k2⟩
    clear CA
    by_cases c1 : n ≤ (s.size : Int) + 1
    · by_cases c2 : n < 48
      · go_wp2_with (first | (go_at_call 14; refine (D1.out _ H).mono ?_; clear D1 H; rintro e w7 ⟨rfl, H⟩) | (go_at_call 14; refine (D2.out _ H).mono ?_; clear D2 H; rintro e w8 ⟨rfl, H⟩) | (go_at_call 14; refine (D3.out _ H).mono ?_; clear D3 H; rintro e w9 ⟨rfl, H⟩))
        exact ⟨⟨n + 1, by go_num, by omega, by omega, H⟩, by simp [intOf]; omega⟩
      · go_wp2
        go_ret
        exact ⟨rfl, H.out.bel⟩
    · go_wp2
      go_ret
      exact ⟨rfl, H.out.bel⟩
theorem walk_of {H : Type} {d d1 d2 : DataW H} (a0 : Option Addr) (len cap : Nat) (a1 : Option Addr) (l1 c1 : Nat) (a2 : Option Addr) (l2 c2 : Nat) (w : World) (hT : Lib.Utf8Tabs 1 2 w) (hlo0 : 1 < w.heap.size) (hlo1 : 2 < w.heap.size) (ss : List ByteArray) (hS : Texts w a0 len ss) (hu : len ≤ Rows.uptoBulk d ∧ ∀ s ∈ ss, s.size ≤ Rows.uptoBulk d) (ps : List Int) (y1 : Wholes w a1 l1 ps) (u1 : l1 ≤ Rows.uptoBulk d1) (rs : List Int) (y2 : Wholes w a2 l2 rs) (u2 : l2 ≤ Rows.uptoBulk d2) (hk : Rows.uptoSmall H ([d, d1, d2] ++ []) = true) :
    Calls Tryz.prog 3 #[.slice a0 len cap, .slice a1 l1 c1, .slice a2 l2 c2] w fun e w' => e = .returned (.bool true) ∧ Below w.heap.size w w' := by
  have h : Rows.uptoBulkAll ([d, d1, d2] ++ []) ≤ 1048576 := of_decide_eq_true hk
  simp only [List.append_nil, Rows.uptoBulkAll] at h
  exact walk a0 len cap ss a1 l1 c1 ps a2 l2 c2 rs w hS (by omega) (fun s hs => by have := hu.2 s hs; omega) y1 (by omega) y2 (by omega) ⟨hT, hlo0, hlo1⟩
end Go.Proofs.YtbihilfnnonpnabGreatDoor.seekAlike
