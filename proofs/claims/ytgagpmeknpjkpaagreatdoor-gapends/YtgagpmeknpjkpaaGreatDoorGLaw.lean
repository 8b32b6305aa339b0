/-
  The laws' own steps, fixed and lawful walked. Conditions: the two tables of unicode/utf8 lie as their text lays them.
-/
import Derived.Test.YtgagpmeknpjkpaaGreatDoorGWorkB
import Derived.Test.YtgagpmeknpjkpaaGreatDoorCPlaces
import Derived.Test.YtgagpmeknpjkpaaGreatDoorCIter
namespace Go.Proofs.YtgagpmeknpjkpaaGreatDoor
open Go.RowKit Bod Wid

theorem func_some (f : Fn) (a b : Array Value) (w : World) : (binOp .neq 69 (.func f a b) .nilFunc).run Tryz.prog w = .ok (.bool true) w := by kernel_rfl
theorem ex_n1 : IsNext ⟨#[97]⟩ 0 1 := ⟨by decide +kernel, .inl (by decide), fun j h1 h2 => by omega⟩
theorem ex_s1 : IsSnap ⟨#[97]⟩ 1 1 := IsSnap.self (by decide +kernel)
set_option maxRecDepth 100000 in
set_option maxHeartbeats 1000000 in
theorem steps_any (w : World) (hT : Lib.Utf8Tabs 1 2 w) :
    Calls Tryz.prog 21 #[] w fun e w' => e = .returned (.bool true) ∧ Below w.heap.size w w' := by
  have cN : Calls Tryz.prog 44 #[.string ⟨#[97]⟩, .int .i64 0] w fun e w' => e = .returned (.int .i64 1) ∧ Below w.heap.size w w' :=
    (cnext_any ⟨#[97]⟩ 0 (by decide +kernel) w hT).mono fun e w' ⟨m, h1, h2, h3⟩ => ⟨by rw [h1, h2.uniq ex_n1]; rfl, h3⟩
  have CS : Hid (∀ W, Below w.heap.size w W → Calls Tryz.prog 45 #[.string ⟨#[97]⟩, .int .i64 1] W fun e w' => e = .returned (.int .i64 1) ∧ Below w.heap.size w w') := fun W hW =>
    (csnap_any ⟨#[97]⟩ 1 (by decide +kernel) W (tabs_below hT hW) (by decide)).mono fun e w' ⟨m, h1, h2, h3⟩ => ⟨by rw [h1, h2.uniq ex_s1]; rfl, hW.trans (h3.mono hW.size)⟩
  have hfn := func_some
  go_enter Tryz.func21, Tryz.ntmps21
  go_wp2_with (first | (go_at_call 44; refine cN.mono ?_; clear cN; rintro e w1 ⟨rfl, hb1⟩; have HB : Hid (Below w.heap.size w w1) := hb1; clear hb1) | (go_at_call 45; refine (CS.out _ HB.out).mono ?_; clear CS HB; rintro e w2 ⟨rfl, hb2⟩; have HB : Hid (Below w.heap.size w w2) := hb2; clear hb2) | (go_at_call 46; refine (walk_any _ _).mono ?_; rintro e w3 ⟨rfl, rfl⟩))
  go_ret
  exact ⟨rfl, HB.out.alloc HB.out.size _⟩

/-- the value v is the buffer g, all of it beyond n0; below n0 the world is as w -/
def Own (n0 : Nat) (w : World) (v : Value) (g : Gp) (W : World) : Prop := ∃ b r m, v = .pointer (some ⟨b, 0, none⟩) ∧ n0 ≤ b ∧ (∀ k, r = some k → n0 ≤ k) ∧ PB W b r g m ∧ Below n0 w W
theorem Own.bel {n0 : Nat} {w W : World} {v : Value} {g : Gp} (h : Own n0 w v g W) : Below n0 w W := by
  obtain ⟨_, _, _, _, _, _, _, h⟩ := h; exact h
theorem ch_below {n0 b : Nat} {r : Option Nat} {w W W' : World} (hb : Below n0 w W) (hn : n0 ≤ w.heap.size) (hc : Ch b r W W') (h1 : n0 ≤ b) (h2 : ∀ k, r = some k → n0 ≤ k) : Below n0 w W' :=
  ⟨hc.1.trans hb.os, hc.2.1.trans hb.tape, hc.2.2.1.trans hb.output, Nat.le_trans hb.size hc.2.2.2.1, fun k hk => by
    rw [hc.2.2.2.2 k (by have := hb.size; omega) (by omega) (fun e => by have := h2 k e; omega)]
    exact hb.block k hk⟩
theorem own_step {n0 : Nat} {w W W' : World} {v : Value} {g : Gp} (h : Own n0 w v g W) (hb : Below W.heap.size W W') (hn : n0 ≤ w.heap.size) : Own n0 w v g W' := by
  obtain ⟨b, r, m, e, h1, h2, h3, h4⟩ := h
  have : n0 ≤ W.heap.size := Nat.le_trans hn h4.size
  exact ⟨b, r, m, e, h1, h2, h3.below hb, h4.trans (hb.mono this)⟩
theorem own_is {n0 : Nat} {w W : World} {v : Value} {g : Gp} (h : Own n0 w v g W) : ∃ b r m, Is W v (some (b, r)) g m ∧ n0 ≤ b ∧ (∀ k, r = some k → n0 ≤ k) ∧ Below n0 w W := by
  obtain ⟨b, r, m, e, h1, h2, h3, h4⟩ := h
  exact ⟨b, r, m, ⟨e, h3⟩, h1, h2, h4⟩
theorem own_wk {n0 b : Nat} {r : Option Nat} {m : Nat} {w W W' : World} {v : Value} {g' : Gp} {err : Int} (hn : n0 ≤ w.heap.size) (h1 : n0 ≤ b) (h2 : ∀ k, r = some k → n0 ≤ k) (h4 : Below n0 w W) (k : Wk W v (some (b, r)) m g' err W') : Own n0 w v g' W' := by
  obtain ⟨o2, n2, i1, i2, ⟨r2, rfl, i3⟩, _⟩ := k
  refine ⟨b, r2, n2, i1.1, h1, fun k hk => ?_, i1.2, ch_below h4 hn i2 h1 h2⟩
  rcases i3 with rfl | ⟨j, rfl, hj⟩
  · exact h2 k hk
  · cases hk; have := h4.size; omega
theorem own_rep {n0 : Nat} {w W : World} {v : Value} {g : Gp} (h : Own n0 w v g W) (hn : n0 ≤ w.heap.size) (a c : Int) (ha : -9223372036854775808 ≤ a ∧ a ≤ 9223372036854775807) (put : ByteArray) :
    Calls Tryz.prog 22 #[v, .int .i64 a, .int .i64 c, .string put] W fun x w' => x = .returned (.tuple #[.string (gRep g a c put).2.1, .int .i64 (gRep g a c put).2.2]) ∧ Own n0 w v (gRep g a c put).1 w' := by
  obtain ⟨b, r, m, i, h1, h2, h4⟩ := own_is h
  exact (rep_is i a c ha put).mono fun x w' ⟨e, k⟩ => ⟨e, own_wk hn h1 h2 h4 k⟩
theorem own_ins {n0 : Nat} {w W : World} {v : Value} {g : Gp} (h : Own n0 w v g W) (hn : n0 ≤ w.heap.size) (a : Int) (ha : -9223372036854775808 ≤ a ∧ a ≤ 9223372036854775807) (put : ByteArray) :
    Calls Tryz.prog 20 #[v, .int .i64 a, .string put] W fun x w' => x = .returned (.int .i64 (gRep g a 0 put).2.2) ∧ Own n0 w v (gRep g a 0 put).1 w' := by
  obtain ⟨b, r, m, i, h1, h2, h4⟩ := own_is h
  exact (ins_is i a ha put).mono fun x w' ⟨e, k⟩ => ⟨e, own_wk hn h1 h2 h4 k⟩
theorem own_nb {n0 : Nat} {w W W' : World} {g : Gp} (hn : n0 ≤ w.heap.size) (hb : Below n0 w W) (h : Nb W g W') : Own n0 w (.pointer (some ⟨W.heap.size, 0, none⟩)) g W' := by
  obtain ⟨r, n, h1, h2, h3⟩ := h
  have hs : n0 ≤ W.heap.size := Nat.le_trans hn hb.size
  exact ⟨W.heap.size, r, n, rfl, hs, fun k hk => by have := h3 k hk; omega, h1, hb.trans (h2.mono hs)⟩
theorem fx1 : gNew ⟨#[104, 101, 108, 108, 111]⟩ 10 = some ⟨⟨#[104, 101, 108, 108, 111]⟩, 5, 10⟩ := by rfl
theorem fx2 : gRep ⟨⟨#[104, 101, 108, 108, 111]⟩, 5, 10⟩ 1 3 ⟨#[69, 89]⟩ = (⟨⟨#[104, 69, 89, 111]⟩, 3, 10⟩, ⟨#[101, 108, 108]⟩, 0) := by rfl
theorem fx3 : gRep ⟨⟨#[104, 69, 89, 111]⟩, 3, 10⟩ 4 0 ⟨#[48, 49, 50, 51, 52, 53, 54]⟩ = (⟨⟨#[104, 69, 89, 111]⟩, 3, 10⟩, eBA, 2) := by rfl
theorem fx4 : (⟨#[104, 69, 89, 111]⟩ : ByteArray).extract 0 3 = ⟨#[104, 69, 89]⟩ := by rfl
theorem fx5 : (⟨#[104, 69, 89, 111]⟩ : ByteArray).extract 3 4 = ⟨#[111]⟩ := by rfl
set_option maxRecDepth 100000 in
set_option maxHeartbeats 2000000 in
theorem fixed_any (w : World) (hT : Lib.Utf8Tabs 1 2 w) : Calls Tryz.prog 6 #[] w fun e w' => e = .returned (.bool true) ∧ Below w.heap.size w w' := by
  have cS := steps_any w hT
  obtain ⟨n0, hn0⟩ : ∃ n0, w.heap.size = n0 := ⟨_, rfl⟩
  have hn : n0 ≤ w.heap.size := by omega
  have CN : Hid (∀ W, Below n0 w W → Calls Tryz.prog 7 #[.string ⟨#[104, 101, 108, 108, 111]⟩, .int .i64 10] W fun e w' => ∃ b, e = .returned (.tuple #[.pointer (some ⟨b, 0, none⟩), .int .i64 0]) ∧ Own n0 w (.pointer (some ⟨b, 0, none⟩)) ⟨⟨#[104, 101, 108, 108, 111]⟩, 5, 10⟩ w') := fun W hW => by
    have := new_any ⟨#[104, 101, 108, 108, 111]⟩ 10 W
    rw [fx1] at this
    exact this.mono fun e w' ⟨h1, h2⟩ => ⟨_, h1, own_nb hn hW h2⟩
  have CR : Hid (∀ W v, Own n0 w v ⟨⟨#[104, 101, 108, 108, 111]⟩, 5, 10⟩ W → Calls Tryz.prog 22 #[v, .int .i64 1, .int .i64 3, .string ⟨#[69, 89]⟩] W fun e w' => e = .returned (.tuple #[.string ⟨#[101, 108, 108]⟩, .int .i64 0]) ∧ Own n0 w v ⟨⟨#[104, 69, 89, 111]⟩, 3, 10⟩ w') := fun W v hW => by
    have := own_rep hW hn 1 3 (by decide) ⟨#[69, 89]⟩
    rw [fx2] at this
    exact this
  have CI : Hid (∀ W v, Own n0 w v ⟨⟨#[104, 69, 89, 111]⟩, 3, 10⟩ W → Calls Tryz.prog 20 #[v, .int .i64 4, .string ⟨#[48, 49, 50, 51, 52, 53, 54]⟩] W fun e w' => e = .returned (.int .i64 2) ∧ Own n0 w v ⟨⟨#[104, 69, 89, 111]⟩, 3, 10⟩ w') := fun W v hW => by
    have := own_ins hW hn 4 (by decide) ⟨#[48, 49, 50, 51, 52, 53, 54]⟩
    rw [fx3] at this
    exact this
  have CH : Hid (∀ W v, Own n0 w v ⟨⟨#[104, 69, 89, 111]⟩, 3, 10⟩ W → Calls Tryz.prog 23 #[v] W fun e w' => e = .returned (.tuple #[.string ⟨#[104, 69, 89]⟩, .string ⟨#[111]⟩]) ∧ Own n0 w v ⟨⟨#[104, 69, 89, 111]⟩, 3, 10⟩ w') := fun W v hW => by
    obtain ⟨b, r, m, i, h1, h2, h4⟩ := own_is hW
    have := halves_is i
    exact this.mono fun x w' ⟨e, k⟩ => ⟨e, own_step hW k hn⟩
  have CT : Hid (∀ W v, Own n0 w v ⟨⟨#[104, 69, 89, 111]⟩, 3, 10⟩ W → Calls Tryz.prog 19 #[v] W fun e w' => e = .returned (.string ⟨#[104, 69, 89, 111]⟩) ∧ Own n0 w v ⟨⟨#[104, 69, 89, 111]⟩, 3, 10⟩ w') := fun W v hW => by
    obtain ⟨b, r, m, i, h1, h2, h4⟩ := own_is hW
    exact (text_is i).mono fun x w' ⟨e, k⟩ => ⟨e, own_step hW k hn⟩
  have CP : Hid (∀ W v, Own n0 w v ⟨⟨#[104, 69, 89, 111]⟩, 3, 10⟩ W → Calls Tryz.prog 17 #[v] W fun e w' => e = .returned (.int .i64 3) ∧ Own n0 w v ⟨⟨#[104, 69, 89, 111]⟩, 3, 10⟩ w') := fun W v hW => by
    obtain ⟨b, r, m, i, h1, h2, h4⟩ := own_is hW
    exact (place_is i).mono fun x w' ⟨e, k⟩ => ⟨e, own_step hW k hn⟩
  rw [hn0] at cS ⊢
  clear hT
  go_enter Tryz.func6, Tryz.ntmps6
  go_wp2_with (first | (go_at_call 21; refine cS.mono ?_; clear cS; rintro e w1 ⟨rfl, hb1⟩) | (go_at_call 7; refine (CN.out _ hb1).mono ?_; clear CN; rintro e w2 ⟨b, rfl, hO⟩; have HO : Hid (Own n0 w (.pointer (some ⟨b, 0, none⟩)) ⟨⟨#[104, 101, 108, 108, 111]⟩, 5, 10⟩ w2) := hO; clear hO) | (go_at_call 22; refine (CR.out _ _ HO.out).mono ?_; clear CR HO; rintro e w3 ⟨rfl, hO⟩; have HO : Hid (Own n0 w (.pointer (some ⟨b, 0, none⟩)) ⟨⟨#[104, 69, 89, 111]⟩, 3, 10⟩ w3) := hO; clear hO) | (go_at_call 20; refine (CI.out _ _ HO.out).mono ?_; clear CI HO; rintro e w4 ⟨rfl, hO⟩; have HO : Hid (Own n0 w (.pointer (some ⟨b, 0, none⟩)) ⟨⟨#[104, 69, 89, 111]⟩, 3, 10⟩ w4) := hO; clear hO) | (go_at_call 23; refine (CH.out _ _ HO.out).mono ?_; clear CH HO; rintro e w5 ⟨rfl, hO⟩; have HO : Hid (Own n0 w (.pointer (some ⟨b, 0, none⟩)) ⟨⟨#[104, 69, 89, 111]⟩, 3, 10⟩ w5) := hO; clear hO) | (go_at_call 19; refine (CT.out _ _ HO.out).mono ?_; clear CT HO; rintro e w6 ⟨rfl, hO⟩; have HO : Hid (Own n0 w (.pointer (some ⟨b, 0, none⟩)) ⟨⟨#[104, 69, 89, 111]⟩, 3, 10⟩ w6) := hO; clear hO) | (go_at_call 17; refine (CP.out _ _ HO.out).mono ?_; clear CP HO; rintro e w7 ⟨rfl, hO⟩; have HO : Hid (Own n0 w (.pointer (some ⟨b, 0, none⟩)) ⟨⟨#[104, 69, 89, 111]⟩, 3, 10⟩ w7) := hO; clear hO))
  go_ret
  exact ⟨rfl, HO.out.bel⟩

set_option maxRecDepth 100000 in
set_option maxHeartbeats 1000000 in
theorem lawful_is {w : World} {v : Value} {b : Nat} {r : Option Nat} {g : Gp} {n : Nat} (h : Is w v (some (b, r)) g n) :
    Calls Tryz.prog 26 #[v] w fun x w' => x = .returned (.bool true) ∧ Below w.heap.size w w' := by
  have hc := h.2.cap
  have hf := h.2.full
  have ho := h.2.ok.2
  have CC : Hid (∀ W, Below w.heap.size w W → Calls Tryz.prog 16 #[v] W fun x w' => x = .returned (.int .i64 n) ∧ Below w.heap.size w w') := fun W hW => (cap_is (h.below hW)).mono fun x w' ⟨e, k⟩ => ⟨e, hW.trans (k.mono hW.size)⟩
  have CL : Hid (∀ W, Below w.heap.size w W → Calls Tryz.prog 15 #[v] W fun x w' => x = .returned (.int .i64 g.s.size) ∧ Below w.heap.size w w') := fun W hW => (len_is (h.below hW)).mono fun x w' ⟨e, k⟩ => ⟨e, hW.trans (k.mono hW.size)⟩
  have HB : Hid (Below w.heap.size w w) := Below.refl _ _
  obtain ⟨R, hR⟩ : ∃ R : Nat, max (g.s.size : Int) 64 = R := ⟨max g.s.size 64, by omega⟩
  have h1 : (g.s.size : Int) ≤ n := by omega
  have h2 : (n : Int) ≤ 2 * R := by omega
  have k1 : IntKind.i64.wrap (2 * (R : Int)) = 2 * R := by rw [IntKind.wrap_i64]; omega
  clear h hc hf ho
  go_enter Tryz.func26, Tryz.ntmps26
  go_wp2_with (first | (go_at_call 16; refine (CC.out _ HB.out).mono ?_; clear HB; rintro e w1 ⟨rfl, hb⟩; have HB : Hid (Below w.heap.size w w1) := hb; clear hb) | (go_at_call 15; refine (CL.out _ HB.out).mono ?_; clear HB; rintro e w1 ⟨rfl, hb⟩; have HB : Hid (Below w.heap.size w w1) := hb; clear hb))
  go_ret
  exact ⟨rfl, HB.out⟩
end Go.Proofs.YtgagpmeknpjkpaaGreatDoor
