/-
  How package rope lays two trees together in balance. Conditions: those of each theorem.
-/
import Derived.Test.YtplieccalmkloaaGreatDoorPkK
namespace Go.Proofs.YtplieccalmkloaaGreatDoor
open Go.RowKit Go.Shelf Bod Wid

abbrev B40 : Nat := 1099511627776
theorem Pos.h_le {t : Tr} (h : Pos t) : t.h < t.text.size := by have := h.size; have := h_lv t; omega
theorem pos_knot {l r : Tr} (h : Pos l) (k : Pos r) : Pos (.knot l r) := fun x hx => (List.mem_append.1 hx).elim (h x) (k x)
/-- a knot of two trees, ahead of which w grew to W -/
theorem kn {w W : World} {l r : Tr} {x y : Value} (hE : Ev w) (hW : Below w.heap.size w W) (h1 : At W l x) (h2 : At W r y) (p1 : Pos l) (p2 : Pos r) (hs : l.text.size + r.text.size ≤ B40) :
    Calls Tryz.prog 155 #[x, y] W fun e W' => ∃ v, e = .returned v ∧ At W' (.knot l r) v ∧ Below W.heap.size W W' := by
  have := p1.h_le
  have := p2.h_le
  unfold B40 at hs
  exact knotOf_any h1 h2 hs (by omega) (by omega) (hE.below hW)
theorem hgt_on {w : World} {t : Tr} {v : Value} (h : At w t v) : ∀ W, Below w.heap.size w W → Calls Tryz.prog 166 #[v] W fun e W' => e = .returned (.int .i64 t.h) ∧ W = W' := fun _ hW => height_any (h.below hW)
/-- what a call that makes a tree leaves -/
abbrev Mk (w : World) (t : Tr) (e : Ending) (W' : World) : Prop := ∃ v, e = .returned v ∧ At W' t v ∧ Below w.heap.size w W'
set_option maxRecDepth 100000 in
set_option maxHeartbeats 2000000 in
theorem turnR_any {w : World} {o i r : Tr} {x y : Value} (hl : At w (.knot o i) x) (hr : At w r y) (pl : Pos (.knot o i)) (pr : Pos r) (hs : (Tr.knot o i).text.size + r.text.size ≤ B40) (hE : Ev w) :
    Calls Tryz.prog 216 #[x, y] w (Mk w (trR (.knot o i) r)) := by
  have hs' : o.text.size + i.text.size + r.text.size ≤ B40 := by rw [← size_app]; exact hs
  have po := pl.l
  have pi := pl.r
  obtain ⟨T, a, fS, fP, fT, p, rfl, -, ⟨m1, m2⟩, -, -, P1, -, x1, x2, rfl, a1, a2⟩ := hl.nd
  have H1 : Hid (∀ W, Below w.heap.size w W → Calls Tryz.prog 166 #[x1] W fun e W' => e = .returned (.int .i64 o.h) ∧ W = W') := hgt_on a1
  have H2 : Hid (∀ W, Below w.heap.size w W → Calls Tryz.prog 166 #[x2] W fun e W' => e = .returned (.int .i64 i.h) ∧ W = W') := hgt_on a2
  by_cases c : i.h ≤ o.h
  · rw [trR_le c]
    have c' : (i.h : Int) ≤ o.h := by omega
    have K1 : Hid (∀ W, Below w.heap.size w W → Calls Tryz.prog 155 #[x2, y] W fun e W' => ∃ v, e = .returned v ∧ Hid (At W' (.knot i r) v ∧ Below w.heap.size w W')) := fun W hW =>
      (kn hE hW (a2.below hW) (hr.below hW) pi pr (by omega)).mono fun e W' ⟨v, h1, h2, h3⟩ => ⟨v, h1, h2, Below.on hW h3⟩
    have K2 : Hid (∀ W v, Hid (At W (.knot i r) v ∧ Below w.heap.size w W) → Calls Tryz.prog 155 #[x1, v] W (Mk w (.knot o (.knot i r)))) := fun W v ⟨h1, hW⟩ =>
      (kn hE hW (a1.below hW) h1 po (pos_knot pi pr) (by show _ + (i.text ++ r.text).size ≤ _; rw [size_app]; omega)).mono fun e W' ⟨v, h1, h2, h3⟩ => ⟨v, h1, h2, Below.on hW h3⟩
    clear hl hr pl pr hs hE po pi a1 a2 hs'
    go_enter Tryz.func216, Tryz.ntmps216
    go_wp2_with (first | (go_at_fn fP; refine (P1.out _ (Below.refl _ w)).mono ?_; clear P1; rintro e w1 ⟨rfl, hb1⟩; have HB1 : Hid (Below w.heap.size w w1) := hb1; clear hb1) | (go_at_call 166; refine (H2.out _ HB1.out).mono ?_; clear H2; rintro e w2 ⟨rfl, rfl⟩) | (go_at_call 166; refine (H1.out _ HB1.out).mono ?_; clear H1; rintro e w2 ⟨rfl, rfl⟩) | (go_at_call 155; refine (K1.out _ HB1.out).mono ?_; clear K1; rintro e w3 ⟨v3, rfl, h3⟩) | (go_at_call 155; refine (K2.out _ _ h3).mono ?_; clear K2; rintro e w4 ⟨v4, rfl, h4⟩))
    go_ret
    exact ⟨_, rfl, h4⟩
  · cases i with
    | leaf s => exact absurd (Nat.zero_le _) c
    | knot n f =>
      rw [trR_gt c]
      have c' : ¬ ((Tr.knot n f).h : Int) ≤ o.h := by omega
      obtain ⟨U, b, gS, gP, gT, q, rfl, -, ⟨m3, m4⟩, -, -, P2, -, x3, x4, rfl, a3, a4⟩ := a2.nd
      have pn := pi.l
      have pf := pi.r
      have hs2 : o.text.size + (n.text.size + f.text.size) + r.text.size ≤ B40 := by rw [← size_app n.text]; exact hs'
      have K1 : Hid (∀ W, Below w.heap.size w W → Calls Tryz.prog 155 #[x1, x3] W fun e W' => ∃ v, e = .returned v ∧ Hid (At W' (.knot o n) v ∧ Below w.heap.size w W')) := fun W hW =>
        (kn hE hW (a1.below hW) (a3.below hW) po pn (by omega)).mono fun e W' ⟨v, h1, h2, h3⟩ => ⟨v, h1, h2, Below.on hW h3⟩
      have K2 : Hid (∀ W u, Hid (At W (.knot o n) u ∧ Below w.heap.size w W) → Calls Tryz.prog 155 #[x4, y] W fun e W' => ∃ v, e = .returned v ∧ Hid (At W' (.knot o n) u ∧ At W' (.knot f r) v ∧ Below w.heap.size w W')) := fun W u ⟨h1, hW⟩ =>
        (kn hE hW (a4.below hW) (hr.below hW) pf pr (by omega)).mono fun e W' ⟨v, k1, k2, k3⟩ => ⟨v, k1, h1.below k3, k2, Below.on hW k3⟩
      have K3 : Hid (∀ W u v, Hid (At W (.knot o n) u ∧ At W (.knot f r) v ∧ Below w.heap.size w W) → Calls Tryz.prog 155 #[u, v] W (Mk w (.knot (.knot o n) (.knot f r)))) := fun W u v ⟨h1, h2, hW⟩ =>
        (kn hE hW h1 h2 (pos_knot po pn) (pos_knot pf pr) (by show (o.text ++ n.text).size + (f.text ++ r.text).size ≤ _; rw [size_app, size_app]; omega)).mono fun e W' ⟨v, k1, k2, k3⟩ => ⟨v, k1, k2, Below.on hW k3⟩
      have P2 : Hid (∀ W, Below w.heap.size w W → Calls Tryz.prog gP #[.pointer (some b)] W fun e W' => e = .returned (.tuple #[x3, x4, .bool true]) ∧ Below w.heap.size w W') := fun W hW => (P2.out W hW).mono fun e W' ⟨h1, h2⟩ => ⟨h1, Below.on hW h2⟩
      clear hl hr pl pr hs hE po pi a1 a2 a3 a4 hs' hs2 pn pf
      go_enter Tryz.func216, Tryz.ntmps216
      go_wp2_with (first | (go_at_fn fP; refine (P1.out _ (Below.refl _ w)).mono ?_; clear P1; rintro e w1 ⟨rfl, hb1⟩; have HB1 : Hid (Below w.heap.size w w1) := hb1; clear hb1) | (go_at_call 166; refine (H2.out _ HB1.out).mono ?_; clear H2; rintro e w2 ⟨rfl, rfl⟩) | (go_at_call 166; refine (H1.out _ HB1.out).mono ?_; clear H1; rintro e w2 ⟨rfl, rfl⟩) | (go_at_fn gP; refine (P2.out _ HB1.out).mono ?_; clear P2 HB1; rintro e w3 ⟨rfl, hb3⟩; have HB3 : Hid (Below w.heap.size w w3) := hb3; clear hb3) | (go_at_call 155; refine (K1.out _ HB3.out).mono ?_; clear K1; rintro e w4 ⟨v4, rfl, h4⟩) | (go_at_call 155; refine (K2.out _ _ h4).mono ?_; clear K2; rintro e w5 ⟨v5, rfl, h5⟩) | (go_at_call 155; refine (K3.out _ _ _ h5).mono ?_; clear K3; rintro e w6 ⟨v6, rfl, h6⟩))
      go_ret
      exact ⟨_, rfl, h6⟩
set_option maxRecDepth 100000 in
set_option maxHeartbeats 2000000 in
theorem turnL_any {w : World} {l i o : Tr} {x y : Value} (hl : At w l x) (hr : At w (.knot i o) y) (pl : Pos l) (pr : Pos (.knot i o)) (hs : l.text.size + (Tr.knot i o).text.size ≤ B40) (hE : Ev w) :
    Calls Tryz.prog 217 #[x, y] w (Mk w (trL l (.knot i o))) := by
  have hs' : l.text.size + (i.text.size + o.text.size) ≤ B40 := by rw [← size_app]; exact hs
  have pi := pr.l
  have po := pr.r
  obtain ⟨T, a, fS, fP, fT, p, rfl, -, ⟨m1, m2⟩, -, -, P1, -, x1, x2, rfl, a1, a2⟩ := hr.nd
  have H1 : Hid (∀ W, Below w.heap.size w W → Calls Tryz.prog 166 #[x1] W fun e W' => e = .returned (.int .i64 i.h) ∧ W = W') := hgt_on a1
  have H2 : Hid (∀ W, Below w.heap.size w W → Calls Tryz.prog 166 #[x2] W fun e W' => e = .returned (.int .i64 o.h) ∧ W = W') := hgt_on a2
  by_cases c : i.h ≤ o.h
  · rw [trL_le c]
    have c' : (i.h : Int) ≤ o.h := by omega
    have K1 : Hid (∀ W, Below w.heap.size w W → Calls Tryz.prog 155 #[x, x1] W fun e W' => ∃ v, e = .returned v ∧ Hid (At W' (.knot l i) v ∧ Below w.heap.size w W')) := fun W hW =>
      (kn hE hW (hl.below hW) (a1.below hW) pl pi (by omega)).mono fun e W' ⟨v, h1, h2, h3⟩ => ⟨v, h1, h2, Below.on hW h3⟩
    have K2 : Hid (∀ W v, Hid (At W (.knot l i) v ∧ Below w.heap.size w W) → Calls Tryz.prog 155 #[v, x2] W (Mk w (.knot (.knot l i) o))) := fun W v ⟨h1, hW⟩ =>
      (kn hE hW h1 (a2.below hW) (pos_knot pl pi) po (by show (l.text ++ i.text).size + _ ≤ _; rw [size_app]; omega)).mono fun e W' ⟨v, h1, h2, h3⟩ => ⟨v, h1, h2, Below.on hW h3⟩
    clear hl hr pl pr hs hE po pi a1 a2 hs'
    go_enter Tryz.func217, Tryz.ntmps217
    go_wp2_with (first | (go_at_fn fP; refine (P1.out _ (Below.refl _ w)).mono ?_; clear P1; rintro e w1 ⟨rfl, hb1⟩; have HB1 : Hid (Below w.heap.size w w1) := hb1; clear hb1) | (go_at_call 166; refine (H1.out _ HB1.out).mono ?_; clear H1; rintro e w2 ⟨rfl, rfl⟩) | (go_at_call 166; refine (H2.out _ HB1.out).mono ?_; clear H2; rintro e w2 ⟨rfl, rfl⟩) | (go_at_call 155; refine (K1.out _ HB1.out).mono ?_; clear K1; rintro e w3 ⟨v3, rfl, h3⟩) | (go_at_call 155; refine (K2.out _ _ h3).mono ?_; clear K2; rintro e w4 ⟨v4, rfl, h4⟩))
    go_ret
    exact ⟨_, rfl, h4⟩
  · cases i with
    | leaf s => exact absurd (Nat.zero_le _) c
    | knot n f =>
      rw [trL_gt c]
      have c' : ¬ ((Tr.knot n f).h : Int) ≤ o.h := by omega
      obtain ⟨U, b, gS, gP, gT, q, rfl, -, ⟨m3, m4⟩, -, -, P2, -, x3, x4, rfl, a3, a4⟩ := a1.nd
      have pn := pi.l
      have pf := pi.r
      have hs2 : l.text.size + (n.text.size + f.text.size + o.text.size) ≤ B40 := by rw [← size_app n.text]; exact hs'
      have K1 : Hid (∀ W, Below w.heap.size w W → Calls Tryz.prog 155 #[x, x3] W fun e W' => ∃ v, e = .returned v ∧ Hid (At W' (.knot l n) v ∧ Below w.heap.size w W')) := fun W hW =>
        (kn hE hW (hl.below hW) (a3.below hW) pl pn (by omega)).mono fun e W' ⟨v, h1, h2, h3⟩ => ⟨v, h1, h2, Below.on hW h3⟩
      have K2 : Hid (∀ W u, Hid (At W (.knot l n) u ∧ Below w.heap.size w W) → Calls Tryz.prog 155 #[x4, x2] W fun e W' => ∃ v, e = .returned v ∧ Hid (At W' (.knot l n) u ∧ At W' (.knot f o) v ∧ Below w.heap.size w W')) := fun W u ⟨h1, hW⟩ =>
        (kn hE hW (a4.below hW) (a2.below hW) pf po (by omega)).mono fun e W' ⟨v, k1, k2, k3⟩ => ⟨v, k1, h1.below k3, k2, Below.on hW k3⟩
      have K3 : Hid (∀ W u v, Hid (At W (.knot l n) u ∧ At W (.knot f o) v ∧ Below w.heap.size w W) → Calls Tryz.prog 155 #[u, v] W (Mk w (.knot (.knot l n) (.knot f o)))) := fun W u v ⟨h1, h2, hW⟩ =>
        (kn hE hW h1 h2 (pos_knot pl pn) (pos_knot pf po) (by show (l.text ++ n.text).size + (f.text ++ o.text).size ≤ _; rw [size_app, size_app]; omega)).mono fun e W' ⟨v, k1, k2, k3⟩ => ⟨v, k1, k2, Below.on hW k3⟩
      have P2 : Hid (∀ W, Below w.heap.size w W → Calls Tryz.prog gP #[.pointer (some b)] W fun e W' => e = .returned (.tuple #[x3, x4, .bool true]) ∧ Below w.heap.size w W') := fun W hW => (P2.out W hW).mono fun e W' ⟨h1, h2⟩ => ⟨h1, Below.on hW h2⟩
      clear hl hr pl pr hs hE po pi a1 a2 a3 a4 hs' hs2 pn pf
      go_enter Tryz.func217, Tryz.ntmps217
      go_wp2_with (first | (go_at_fn fP; refine (P1.out _ (Below.refl _ w)).mono ?_; clear P1; rintro e w1 ⟨rfl, hb1⟩; have HB1 : Hid (Below w.heap.size w w1) := hb1; clear hb1) | (go_at_call 166; refine (H1.out _ HB1.out).mono ?_; clear H1; rintro e w2 ⟨rfl, rfl⟩) | (go_at_call 166; refine (H2.out _ HB1.out).mono ?_; clear H2; rintro e w2 ⟨rfl, rfl⟩) | (go_at_fn gP; refine (P2.out _ HB1.out).mono ?_; clear P2 HB1; rintro e w3 ⟨rfl, hb3⟩; have HB3 : Hid (Below w.heap.size w w3) := hb3; clear hb3) | (go_at_call 155; refine (K1.out _ HB3.out).mono ?_; clear K1; rintro e w4 ⟨v4, rfl, h4⟩) | (go_at_call 155; refine (K2.out _ _ h4).mono ?_; clear K2; rintro e w5 ⟨v5, rfl, h5⟩) | (go_at_call 155; refine (K3.out _ _ _ h5).mono ?_; clear K3; rintro e w6 ⟨v6, rfl, h6⟩))
      go_ret
      exact ⟨_, rfl, h6⟩
set_option maxRecDepth 100000 in
set_option maxHeartbeats 2000000 in
theorem balanced_any {w : World} {l r : Tr} {x y : Value} (hl : At w l x) (hr : At w r y) (pl : Pos l) (pr : Pos r) (hs : l.text.size + r.text.size ≤ B40) (hE : Ev w) :
    Calls Tryz.prog 215 #[x, y] w (Mk w (bal l r)) := by
  have q1 := pl.h_le
  have q2 := pr.h_le
  unfold B40 at hs
  have H1 : Hid (Calls Tryz.prog 166 #[x] w fun e W' => e = .returned (.int .i64 l.h) ∧ w = W') := height_any hl
  have H2 : Hid (Calls Tryz.prog 166 #[y] w fun e W' => e = .returned (.int .i64 r.h) ∧ w = W') := height_any hr
  have b1 : l.h ≤ 1099511627776 := by omega
  have b2 : r.h ≤ 1099511627776 := by omega
  by_cases c : r.h + 1 < l.h
  · have K : Hid (Calls Tryz.prog 216 #[x, y] w (Mk w (bal l r))) := by
      show Calls _ _ _ _ _
      rw [bal_R c]
      cases l with
      | leaf s => simp [Tr.h] at c
      | knot o i => exact turnR_any hl hr pl pr hs hE
    have c' : (r.h : Int) + 1 < l.h := by omega
    clear hl hr pl pr hs hE q1 q2
    go_enter Tryz.func215, Tryz.ntmps215
    go_wp2_with (first | (go_at_call 166; refine H1.out.mono ?_; clear H1; rintro e w2 ⟨rfl, rfl⟩) | (go_at_call 166; refine H2.out.mono ?_; clear H2; rintro e w2 ⟨rfl, rfl⟩) | (go_at_call 216; refine K.out.mono ?_; clear K; rintro e w4 ⟨v4, rfl, h4⟩))
    go_ret
    exact ⟨_, rfl, h4⟩
  · have c' : ¬ (r.h : Int) + 1 < l.h := by omega
    have H3 : Hid (Calls Tryz.prog 166 #[x] w fun e W' => e = .returned (.int .i64 l.h) ∧ w = W') := H1
    have H4 : Hid (Calls Tryz.prog 166 #[y] w fun e W' => e = .returned (.int .i64 r.h) ∧ w = W') := H2
    by_cases d : l.h + 1 < r.h
    · have K : Hid (Calls Tryz.prog 217 #[x, y] w (Mk w (bal l r))) := by
        show Calls _ _ _ _ _
        rw [bal_L d]
        cases r with
        | leaf s => simp [Tr.h] at d
        | knot o i => exact turnL_any hl hr pl pr hs hE
      have d' : (l.h : Int) + 1 < r.h := by omega
      clear hl hr pl pr hs hE q1 q2
      go_enter Tryz.func215, Tryz.ntmps215
      go_wp2_with (first | (go_at_call 166; refine H1.out.mono ?_; clear H1; rintro e w2 ⟨rfl, rfl⟩) | (go_at_call 166; refine H2.out.mono ?_; clear H2; rintro e w2 ⟨rfl, rfl⟩) | (go_at_call 166; refine H4.out.mono ?_; clear H4; rintro e w2 ⟨rfl, rfl⟩) | (go_at_call 166; refine H3.out.mono ?_; clear H3; rintro e w2 ⟨rfl, rfl⟩) | (go_at_call 217; refine K.out.mono ?_; clear K; rintro e w4 ⟨v4, rfl, h4⟩))
      go_ret
      exact ⟨_, rfl, h4⟩
    · have K : Hid (Calls Tryz.prog 155 #[x, y] w (Mk w (bal l r))) := by
        show Calls _ _ _ _ _
        rw [bal_M c d]
        exact kn hE (Below.refl _ w) hl hr pl pr hs
      have d' : ¬ (l.h : Int) + 1 < r.h := by omega
      clear hl hr pl pr hs hE q1 q2
      go_enter Tryz.func215, Tryz.ntmps215
      go_wp2_with (first | (go_at_call 166; refine H1.out.mono ?_; clear H1; rintro e w2 ⟨rfl, rfl⟩) | (go_at_call 166; refine H2.out.mono ?_; clear H2; rintro e w2 ⟨rfl, rfl⟩) | (go_at_call 166; refine H4.out.mono ?_; clear H4; rintro e w2 ⟨rfl, rfl⟩) | (go_at_call 166; refine H3.out.mono ?_; clear H3; rintro e w2 ⟨rfl, rfl⟩) | (go_at_call 155; refine K.out.mono ?_; clear K; rintro e w4 ⟨v4, rfl, h4⟩))
      go_ret
      exact ⟨_, rfl, h4⟩
end Go.Proofs.YtplieccalmkloaaGreatDoor
namespace Go.Proofs.YtplieccalmkloaaGreatDoor
open Go.RowKit Go.Shelf Bod Wid

theorem fby0 (m : Sum) (W : World) : (Instr.field 125 (sv m) 0).run Tryz.prog W = .ok (.int .i64 m.by') W := by kernel_rfl
theorem fby {m : Sum} {n : Nat} (h : m.by' = (n : Int)) : ∀ W, (Instr.field 125 (sv m) 0).run Tryz.prog W = .ok (.int .i64 n) W := fun W => by rw [← h]; exact fby0 m W
theorem Pos.size_pos {t : Tr} (h : Pos t) : 0 < t.text.size := Nat.pos_of_ne_zero h.ne
set_option maxRecDepth 100000 in
set_option maxHeartbeats 4000000 in
theorem link_pos : ∀ (n : Nat) {w : World} {l r : Tr} {x y : Value}, l.h + r.h ≤ n → At w l x → At w r y → Pos l → Pos r → Avl l → Avl r → l.text.size + r.text.size ≤ B40 → Ev w →
    Calls Tryz.prog 213 #[x, y] w (Mk w (lnk l r))
  | n, w, l, r, x, y, hn, hl, hr, pl, pr, al, ar, hs, hE => by
    have q1 := pl.h_le
    have q2 := pr.h_le
    have q3 := pl.size_pos
    have q4 := pr.size_pos
    unfold B40 at hs
    obtain ⟨nl, e1⟩ : ∃ k, l.text.size = k := ⟨_, rfl⟩
    obtain ⟨nr, e2⟩ : ∃ k, r.text.size = k := ⟨_, rfl⟩
    obtain ⟨T, a, fS, fP, fT, p, rfl, ⟨m1, m2⟩, ⟨m3, m4⟩, -, S1, P1, -, v1⟩ := hl.nd
    obtain ⟨U, b, gS, gP, gT, q, rfl, ⟨m5, m6⟩, ⟨m7, m8⟩, -, S2, P2, -, v2⟩ := hr.nd
    have H1 : Hid (∀ W, Below w.heap.size w W → Calls Tryz.prog 166 #[.iface T (.pointer (some a))] W fun e W' => e = .returned (.int .i64 l.h) ∧ W = W') := hgt_on hl
    have H2 : Hid (∀ W, Below w.heap.size w W → Calls Tryz.prog 166 #[.iface U (.pointer (some b))] W fun e W' => e = .returned (.int .i64 r.h) ∧ W = W') := hgt_on hr
    have S1 : Hid (∀ W, Below w.heap.size w W → Calls Tryz.prog fS #[.pointer (some a)] W fun e W' => e = .returned (sv (smr l.text)) ∧ Below w.heap.size w W') := fun W hW => (S1.out W hW).mono fun e W' ⟨h1, h2⟩ => ⟨h1, Below.on hW h2⟩
    have S2 : Hid (∀ W, Below w.heap.size w W → Calls Tryz.prog gS #[.pointer (some b)] W fun e W' => e = .returned (sv (smr r.text)) ∧ Below w.heap.size w W') := fun W hW => (S2.out W hW).mono fun e W' ⟨h1, h2⟩ => ⟨h1, Below.on hW h2⟩
    obtain ⟨ml, hml⟩ : ∃ m, smr l.text = m := ⟨_, rfl⟩
    obtain ⟨mr, hmr⟩ : ∃ m, smr r.text = m := ⟨_, rfl⟩
    have y1 := fby (m := ml) (n := nl) (by rw [← hml, ← e1]; rfl)
    have y2 := fby (m := mr) (n := nr) (by rw [← hmr, ← e2]; rfl)
    have z1 : ¬ (nl : Int) = 0 := by omega
    have z2 : ¬ (nr : Int) = 0 := by omega
    rw [hml] at S1
    rw [hmr] at S2
    have b1 : l.h ≤ 1099511627776 := by omega
    have b2 : r.h ≤ 1099511627776 := by omega
    by_cases c : r.h + 1 < l.h
    · cases n with
      | zero => omega
      | succ n =>
        obtain ⟨o, i, ho, hi2, hk⟩ : ∃ o i, l.lp = o ∧ l.rp = i ∧ l = .knot o i := ⟨_, _, rfl, rfl, knot_of (by omega)⟩
        have hih := rp_h (t := l) (by omega)
        have hlk0 := lnk_hi pl.ne pr.ne c
        have tx : l.text = o.text ++ i.text := by rw [hk]; rfl
        have pl' : Pos (.knot o i) := by rw [← hk]; exact pl
        have al' : Avl (.knot o i) := by rw [← hk]; exact al
        have v1' : Pv w (.knot o i) p := by rw [← hk]; exact v1
        rw [hi2] at hih hlk0
        rw [ho] at hlk0
        clear hk ho hi2 v1
        obtain ⟨x1, x2, rfl, a1, a2⟩ := v1'
        have hsz : l.text.size + r.text.size ≤ 1099511627776 := hs
        rw [tx, size_app] at hsz
        have K1 : Hid (∀ W, Below w.heap.size w W → Calls Tryz.prog 213 #[x2, .iface U (.pointer (some b))] W fun e W' => ∃ v, e = .returned v ∧ Hid (At W' (lnk i r) v ∧ Below w.heap.size w W')) := fun W hW =>
          (link_pos n (by omega) (a2.below hW) (hr.below hW) pl'.r pr al'.2.1 ar (by unfold B40; omega) (hE.below hW)).mono fun e W' ⟨v, h1, h2, h3⟩ => ⟨v, h1, h2, Below.on hW h3⟩
        have hlk := lnk_ok _ (Nat.le_refl _) pl'.r pr al'.2.1 ar
        have hpk : Pos (lnk i r) := fun z hz => by rw [hlk.2.2.2] at hz; exact (List.mem_append.1 hz).elim (pl'.r z) (pr z)
        have htk : (lnk i r).text.size = i.text.size + r.text.size := by rw [text_lv, hlk.2.2.2, jo_size, ← text_lv, ← text_lv]
        have K2 : Hid (∀ W v, Hid (At W (lnk i r) v ∧ Below w.heap.size w W) → Calls Tryz.prog 215 #[x1, v] W (Mk w (lnk l r))) := fun W v ⟨h1, hW⟩ => by
          rw [hlk0]
          exact (balanced_any (a1.below hW) h1 pl'.l hpk (by unfold B40; omega) (hE.below hW)).mono fun e W' ⟨v, h1, h2, h3⟩ => ⟨v, h1, h2, Below.on hW h3⟩
        have c' : 1 < (l.h : Int) - r.h := by omega
        have P1 : Hid (∀ W, Below w.heap.size w W → Calls Tryz.prog fP #[.pointer (some a)] W fun e W' => e = .returned (.tuple #[x1, x2, .bool true]) ∧ Below w.heap.size w W') := fun W hW => (P1.out W hW).mono fun e W' ⟨h1, h2⟩ => ⟨h1, Below.on hW h2⟩
        clear hl hr pl pr hs hE q1 q2 q3 q4 e1 e2 hml hmr al ar v2 a1 a2 hn hsz hlk hpk htk P2 tx pl' al' hih hlk0
        go_enter Tryz.func213, Tryz.ntmps213
        go_wp2_with (first | (go_at_fn fS; refine (S1.out _ (Below.refl _ w)).mono ?_; clear S1; rintro e w1 ⟨rfl, hb1⟩; have HB : Hid (Below w.heap.size w w1) := hb1; clear hb1) | (go_at_fn gS; refine (S2.out _ HB.out).mono ?_; clear S2 HB; rintro e w1 ⟨rfl, hb1⟩; have HB : Hid (Below w.heap.size w w1) := hb1; clear hb1) | (go_at_call 166; refine (H1.out _ HB.out).mono ?_; clear H1; rintro e w2 ⟨rfl, rfl⟩) | (go_at_call 166; refine (H2.out _ HB.out).mono ?_; clear H2; rintro e w2 ⟨rfl, rfl⟩) | (go_at_fn fP; refine (P1.out _ HB.out).mono ?_; clear P1 HB; rintro e w3 ⟨rfl, hb1⟩; have HB : Hid (Below w.heap.size w w3) := hb1; clear hb1) | (go_at_call 213; refine (K1.out _ HB.out).mono ?_; clear K1; rintro e w4 ⟨v4, rfl, h4⟩) | (go_at_call 215; refine (K2.out _ _ h4).mono ?_; clear K2; rintro e w5 ⟨v5, rfl, h5⟩))
        go_ret
        exact ⟨_, rfl, h5⟩
    · by_cases d : l.h + 1 < r.h
      · cases n with
        | zero => omega
        | succ n =>
          obtain ⟨i, o, ho, hi2, hk⟩ : ∃ i o, r.lp = i ∧ r.rp = o ∧ r = .knot i o := ⟨_, _, rfl, rfl, knot_of (by omega)⟩
          have hih := lp_h (t := r) (by omega)
          have hlk0 := lnk_lo pl.ne pr.ne d
          have tx : r.text = i.text ++ o.text := by rw [hk]; rfl
          have pr' : Pos (.knot i o) := by rw [← hk]; exact pr
          have ar' : Avl (.knot i o) := by rw [← hk]; exact ar
          have v2' : Pv w (.knot i o) q := by rw [← hk]; exact v2
          rw [hi2] at hlk0
          rw [ho] at hih hlk0
          clear hk ho hi2 v2
          obtain ⟨x1, x2, rfl, a1, a2⟩ := v2'
          have hsz : l.text.size + r.text.size ≤ 1099511627776 := hs
          rw [tx, size_app] at hsz
          have K1 : Hid (∀ W, Below w.heap.size w W → Calls Tryz.prog 213 #[.iface T (.pointer (some a)), x1] W fun e W' => ∃ v, e = .returned v ∧ Hid (At W' (lnk l i) v ∧ Below w.heap.size w W')) := fun W hW =>
            (link_pos n (by omega) (hl.below hW) (a1.below hW) pl pr'.l al ar'.1 (by unfold B40; omega) (hE.below hW)).mono fun e W' ⟨v, h1, h2, h3⟩ => ⟨v, h1, h2, Below.on hW h3⟩
          have hlk := lnk_ok _ (Nat.le_refl _) pl pr'.l al ar'.1
          have hpk : Pos (lnk l i) := fun z hz => by rw [hlk.2.2.2] at hz; exact (List.mem_append.1 hz).elim (pl z) (pr'.l z)
          have htk : (lnk l i).text.size = l.text.size + i.text.size := by rw [text_lv, hlk.2.2.2, jo_size, ← text_lv, ← text_lv]
          have K2 : Hid (∀ W v, Hid (At W (lnk l i) v ∧ Below w.heap.size w W) → Calls Tryz.prog 215 #[v, x2] W (Mk w (lnk l r))) := fun W v ⟨h1, hW⟩ => by
            rw [hlk0]
            exact (balanced_any h1 (a2.below hW) hpk pr'.r (by unfold B40; omega) (hE.below hW)).mono fun e W' ⟨v, h1, h2, h3⟩ => ⟨v, h1, h2, Below.on hW h3⟩
          have c' : ¬ 1 < (l.h : Int) - r.h := by omega
          have d' : (l.h : Int) - r.h < -1 := by omega
          have P2 : Hid (∀ W, Below w.heap.size w W → Calls Tryz.prog gP #[.pointer (some b)] W fun e W' => e = .returned (.tuple #[x1, x2, .bool true]) ∧ Below w.heap.size w W') := fun W hW => (P2.out W hW).mono fun e W' ⟨h1, h2⟩ => ⟨h1, Below.on hW h2⟩
          clear hl hr pl pr hs hE q1 q2 q3 q4 e1 e2 hml hmr al ar v1 a1 a2 hn hsz hlk hpk htk P1 tx pr' ar' hih hlk0
          go_enter Tryz.func213, Tryz.ntmps213
          go_wp2_with (first | (go_at_fn fS; refine (S1.out _ (Below.refl _ w)).mono ?_; clear S1; rintro e w1 ⟨rfl, hb1⟩; have HB : Hid (Below w.heap.size w w1) := hb1; clear hb1) | (go_at_fn gS; refine (S2.out _ HB.out).mono ?_; clear S2 HB; rintro e w1 ⟨rfl, hb1⟩; have HB : Hid (Below w.heap.size w w1) := hb1; clear hb1) | (go_at_call 166; refine (H1.out _ HB.out).mono ?_; clear H1; rintro e w2 ⟨rfl, rfl⟩) | (go_at_call 166; refine (H2.out _ HB.out).mono ?_; clear H2; rintro e w2 ⟨rfl, rfl⟩) | (go_at_fn gP; refine (P2.out _ HB.out).mono ?_; clear P2 HB; rintro e w3 ⟨rfl, hb1⟩; have HB : Hid (Below w.heap.size w w3) := hb1; clear hb1) | (go_at_call 213; refine (K1.out _ HB.out).mono ?_; clear K1; rintro e w4 ⟨v4, rfl, h4⟩) | (go_at_call 215; refine (K2.out _ _ h4).mono ?_; clear K2; rintro e w5 ⟨v5, rfl, h5⟩))
          go_ret
          exact ⟨_, rfl, h5⟩
      · have K1 : Hid (∀ W, Below w.heap.size w W → Calls Tryz.prog 155 #[.iface T (.pointer (some a)), .iface U (.pointer (some b))] W (Mk w (lnk l r))) := fun W hW => by
          rw [lnk_eq pl.ne pr.ne c d]
          exact (kn hE hW (hl.below hW) (hr.below hW) pl pr hs).mono fun e W' ⟨v, h1, h2, h3⟩ => ⟨v, h1, h2, Below.on hW h3⟩
        have c' : ¬ 1 < (l.h : Int) - r.h := by omega
        have d' : ¬ (l.h : Int) - r.h < -1 := by omega
        clear hl hr pl pr hs hE q1 q2 q3 q4 e1 e2 hml hmr al ar v1 v2 hn P1 P2
        go_enter Tryz.func213, Tryz.ntmps213
        go_wp2_with (first | (go_at_fn fS; refine (S1.out _ (Below.refl _ w)).mono ?_; clear S1; rintro e w1 ⟨rfl, hb1⟩; have HB : Hid (Below w.heap.size w w1) := hb1; clear hb1) | (go_at_fn gS; refine (S2.out _ HB.out).mono ?_; clear S2 HB; rintro e w1 ⟨rfl, hb1⟩; have HB : Hid (Below w.heap.size w w1) := hb1; clear hb1) | (go_at_call 166; refine (H1.out _ HB.out).mono ?_; clear H1; rintro e w2 ⟨rfl, rfl⟩) | (go_at_call 166; refine (H2.out _ HB.out).mono ?_; clear H2; rintro e w2 ⟨rfl, rfl⟩) | (go_at_call 155; refine (K1.out _ HB.out).mono ?_; clear K1; rintro e w4 ⟨v4, rfl, h4⟩))
        go_ret
        exact ⟨_, rfl, h4⟩
set_option maxRecDepth 100000 in
set_option maxHeartbeats 4000000 in
/-- link, of any two fine trees -/
theorem link_any {w : World} {l r : Tr} {x y : Value} (hl : At w l x) (hr : At w r y) (fl : Fine l) (fr : Fine r) (al : Avl l) (ar : Avl r) (hs : l.text.size + r.text.size ≤ B40) (hE : Ev w) :
    Calls Tryz.prog 213 #[x, y] w (Mk w (lnk l r)) := by
  by_cases z : l.text.size = 0
  · rw [lnk_l z]
    obtain ⟨T, a, fS, fP, fT, p, rfl, ⟨m1, m2⟩, -, -, S1, -, -, -⟩ := hl.nd
    obtain ⟨ml, hml⟩ : ∃ m, smr l.text = m := ⟨_, rfl⟩
    have y1 := fby (m := ml) (n := 0) (by rw [← hml]; show (l.text.size : Int) = _; omega)
    rw [hml] at S1
    have HR : Hid (∀ W, Below w.heap.size w W → At W r y) := fun W hW => hr.below hW
    clear hl hr fl fr al ar hs hE hml z
    go_enter Tryz.func213, Tryz.ntmps213
    go_wp2_with (go_at_fn fS; refine (S1.out _ (Below.refl _ w)).mono ?_; clear S1; rintro e w1 ⟨rfl, hb1⟩; have HB : Hid (Below w.heap.size w w1) := hb1; clear hb1)
    go_ret
    exact ⟨_, rfl, HR.out _ HB.out, HB.out⟩
  by_cases z' : r.text.size = 0
  · rw [lnk_r z z']
    obtain ⟨nl, e1⟩ : ∃ k, l.text.size = k := ⟨_, rfl⟩
    have HL : Hid (∀ W, Below w.heap.size w W → At W l x) := fun W hW => hl.below hW
    obtain ⟨T, a, fS, fP, fT, p, rfl, ⟨m1, m2⟩, -, -, S1, -, -, -⟩ := hl.nd
    obtain ⟨U, b, gS, gP, gT, q, rfl, ⟨m5, m6⟩, -, -, S2, -, -, -⟩ := hr.nd
    obtain ⟨ml, hml⟩ : ∃ m, smr l.text = m := ⟨_, rfl⟩
    obtain ⟨mr, hmr⟩ : ∃ m, smr r.text = m := ⟨_, rfl⟩
    have y1 := fby (m := ml) (n := nl) (by rw [← hml, ← e1]; rfl)
    have y2 := fby (m := mr) (n := 0) (by rw [← hmr]; show (r.text.size : Int) = _; omega)
    have z1 : ¬ (nl : Int) = 0 := by omega
    have S2 : Hid (∀ W, Below w.heap.size w W → Calls Tryz.prog gS #[.pointer (some b)] W fun e W' => e = .returned (sv (smr r.text)) ∧ Below w.heap.size w W') := fun W hW => (S2.out W hW).mono fun e W' ⟨h1, h2⟩ => ⟨h1, Below.on hW h2⟩
    rw [hml] at S1
    rw [hmr] at S2
    clear hl hr fl fr al ar hs hE hml hmr z z' e1
    go_enter Tryz.func213, Tryz.ntmps213
    go_wp2_with (first | (go_at_fn fS; refine (S1.out _ (Below.refl _ w)).mono ?_; clear S1; rintro e w1 ⟨rfl, hb1⟩; have HB : Hid (Below w.heap.size w w1) := hb1; clear hb1) | (go_at_fn gS; refine (S2.out _ HB.out).mono ?_; clear S2 HB; rintro e w1 ⟨rfl, hb1⟩; have HB : Hid (Below w.heap.size w w1) := hb1; clear hb1))
    go_ret
    exact ⟨_, rfl, HL.out _ HB.out, HB.out⟩
  exact link_pos _ (Nat.le_refl _) hl hr (fl.ls_lv z).1 (fr.ls_lv z').1 al ar hs hE
end Go.Proofs.YtplieccalmkloaaGreatDoor
