/-
  The law RopeNone returns true for every text put and all numbers: a nil rope and the zero rope are empty ropes. Its conditions: the text holds at most 1048576 letters; the two tables of unicode/utf8 start as the program's text lays them (the card ties that).
-/
import Derived.Test.YtlonnglebknhbaaGreatDoorRRight
import Derived.Test.YtlonnglebknhbaaGreatDoorRLaw
import Derived.Test.YtlonnglebknhbaaGreatDoorRMeas
namespace Go.Proofs.YtlonnglebknhbaaGreatDoor.ropeNone
open Go.RowKit Go.Shelf Bod Wid

abbrev ptr (b : Nat) : Value := .pointer (some ⟨b, 0, none⟩)
/-- the row of the nil rope and the zero rope -/
structure Q (w : World) (g : Nat) (W : World) : Prop where
  z : W.heap[g]? = some (.cells #[.nilIface] 68 (0, 0))
  r : W.heap[g + 1]? = some (.cells #[.pointer none, ptr g] 24 (0, 0))
  b : Below w.heap.size w W
theorem Q.below {w W X : World} {g : Nat} (h : Q w g W) (hb : Below W.heap.size W X) : Q w g X := ⟨(hb.block _ (Array.getElem?_eq_some_iff.1 h.z).1).trans h.z, (hb.block _ (Array.getElem?_eq_some_iff.1 h.r).1).trans h.r, Below.on h.b hb⟩
theorem Q.cell {w W : World} {g k : Nat} (h : Q w g W) (hk : k < 2) : ∃ p, W.cell? ⟨g + 1, k, none⟩ = some (.pointer p) ∧ Rp W (.leaf noB) (.pointer p) := by
  match k, hk with
  | 0, _ => exact ⟨none, by unfold World.cell?; rw [h.r]; rfl, .inl ⟨rfl, rfl⟩⟩
  | 1, _ => exact ⟨some ⟨g, 0, none⟩, by unfold World.cell?; rw [h.r]; rfl, .inr ⟨g, .nilIface, rfl, h.z, .inl ⟨rfl, rfl⟩⟩⟩
theorem Q.mk0 {w W : World} (h : Below w.heap.size w W) : Q w W.heap.size ((W.alloc (.cells #[.nilIface] 68)).alloc (.cells #[.pointer none, ptr W.heap.size] 24)) := by
  have h1 := push2' W.heap (.cells #[.nilIface] 68 (0, 0)) (.cells #[.pointer none, ptr W.heap.size] 24 (0, 0))
  exact ⟨h1.1, h1.2, (h.alloc h.size _).alloc (by simp; have := h.size; omega) _⟩
/-- three ropes in a row -/
theorem three_ropes {W : World} {r x : Value} {A B : Tr} (ha : Rp W A r) (hb : Rp W B x) : RdP (W.alloc (.cells #[r, x, r] 24)) (.slice (some ⟨W.heap.size, 0, none⟩) 3 3) [A, B, A] := by
  have hB := (Below.refl _ W).alloc (Nat.le_refl _) (.cells #[r, x, r] 24)
  refine ⟨_, 3, rfl, by simp, fun _ => ⟨W.heap.size, 0, rfl, by simp, fun k t hk => ?_⟩⟩
  have hc : ∀ i u, (#[r, x, r] : Array Value)[i]? = some u → (W.alloc (.cells #[r, x, r] 24)).cell? ⟨W.heap.size, i, none⟩ = some u := fun i u h => by
    unfold World.cell?
    rw [World.alloc_heap_new]
    simpa using h
  match k, hk with
  | 0, hk => cases hk; exact ⟨_, hc 0 _ rfl, ha.below hB⟩
  | 1, hk => cases hk; exact ⟨_, hc 1 _ rfl, hb.below hB⟩
  | 2, hk => cases hk; exact ⟨_, hc 2 _ rfl, ha.below hB⟩
  | k + 3, hk => simp at hk
set_option maxRecDepth 100000 in
set_option maxHeartbeats 2000000 in
theorem walk (put : ByteArray) (i c : Int) (hp : put.size ≤ 1048576) (hi : -9223372036854775808 ≤ i ∧ i ≤ 9223372036854775807) (hc : -9223372036854775808 ≤ c ∧ c ≤ 9223372036854775807) (w : World) (hE : Ev w) :
    Calls Tryz.prog 6 #[.string put, .int .i64 i, .int .i64 c] w fun e w' => e = .returned (.bool true) ∧ Below w.heap.size w w' := by
  have C0 : Hid (Calls Tryz.prog 9 #[] w fun e W' => e = .returned (.bool true) ∧ Hid (Below w.heap.size w W')) := (holds_any w hE).mono fun e W' ⟨h1, h2⟩ => ⟨h1, h2⟩
  obtain ⟨s1, s2, s3, s4⟩ := spl_ok (n := 0) good_no (Nat.zero_le _)
  obtain ⟨q1, q2⟩ := rep_ok (n := 0) (m := 0 + 0) put good_no (Nat.zero_le _) (Nat.zero_le _)
  have s2 : (spl (.leaf noB) 0).1.text = noB := by rw [s2]; exact noB_of (by simp [Tr.text, noB])
  have s4 : (spl (.leaf noB) 0).2.text = noB := by rw [s4]; exact noB_of (by rw [size_extract _ _ _ (Nat.le_refl _)]; rfl)
  have q2 : (rep (.leaf noB) 0 (0 + 0) put).text = put := by
    rw [q2]
    have e1 : (Tr.leaf noB).text.extract 0 0 = noB := noB_of (by simp [Tr.text, noB])
    have e2 : (Tr.leaf noB).text.extract (0 + 0) (Tr.leaf noB).text.size = noB := noB_of (by rw [size_extract _ _ _ (Nat.le_refl _)]; rfl)
    rw [e1, e2, app_noB, noB_app]
  have g3 : ∀ t ∈ [Tr.leaf noB, rep (.leaf noB) 0 (0 + 0) put, Tr.leaf noB], Good t := fun t ht => by
    simp only [List.mem_cons, List.not_mem_nil, or_false] at ht
    rcases ht with rfl | rfl | rfl
    · exact good_no
    · exact q1
    · exact good_no
  have j3 : joT [Tr.leaf noB, rep (.leaf noB) 0 (0 + 0) put, Tr.leaf noB] = put := by
    show noB ++ ((rep (.leaf noB) 0 (0 + 0) put).text ++ (noB ++ noB)) = put
    rw [q2, app_noB, app_noB, noB_app]
  obtain ⟨t1, t2⟩ := tog_ok _ (Nat.le_refl _) g3
  rw [j3] at t2
  obtain ⟨TG, hTG⟩ : ∃ T, tog [Tr.leaf noB, rep (.leaf noB) 0 (0 + 0) put, Tr.leaf noB] = T := ⟨_, rfl⟩
  rw [hTG] at t1 t2
  have K1 : Hid (∀ g W r, Hid (Q w g W ∧ Rp W (.leaf noB) r) → Calls Tryz.prog 14 #[r, .string ⟨#[]⟩] W fun e W' => e = .returned (.bool true) ∧ Hid (Q w g W' ∧ Rp W' (.leaf noB) r)) := fun g W r ⟨h1, h2⟩ => (right_any h2 good_no (by decide) (hE.below h1.b)).mono fun e W' ⟨k1, k2⟩ => ⟨k1, h1.below k2, h2.below k2⟩
  have K2 : Hid (∀ g W r, Hid (Q w g W ∧ Rp W (.leaf noB) r) → Calls Tryz.prog 19 #[r, .int .i64 0] W fun e W' => ∃ a b, e = .returned (.tuple #[ptr a, ptr b, .int .i64 0]) ∧ Hid (Q w g W' ∧ Rp W' (.leaf noB) r ∧ Rp W' (spl (.leaf noB) 0).1 (ptr a) ∧ Rp W' (spl (.leaf noB) 0).2 (ptr b))) := fun g W r ⟨h1, h2⟩ => (rsplit_ok h2 good_no 0 (by decide) (Nat.zero_le _) (hE.below h1.b)).mono fun e W' ⟨a, b, k1, k2, k3, k4⟩ => ⟨a, b, k1, h1.below k4, h2.below k4, k2, k3⟩
  have K3 : Hid (∀ g W r a b, Hid (Q w g W ∧ Rp W (.leaf noB) r ∧ Rp W (spl (.leaf noB) 0).1 (ptr a) ∧ Rp W (spl (.leaf noB) 0).2 (ptr b)) → Calls Tryz.prog 14 #[ptr a, .string ⟨#[]⟩] W fun e W' => e = .returned (.bool true) ∧ Hid (Q w g W' ∧ Rp W' (.leaf noB) r ∧ Rp W' (spl (.leaf noB) 0).2 (ptr b))) := fun g W r a b ⟨h1, h2, h3, h4⟩ => by
    have := right_any h3 s1 (by rw [s2]; decide) (hE.below h1.b)
    rw [s2] at this
    exact this.mono fun e W' ⟨k1, k2⟩ => ⟨k1, h1.below k2, h2.below k2, h4.below k2⟩
  have K4 : Hid (∀ g W r b, Hid (Q w g W ∧ Rp W (.leaf noB) r ∧ Rp W (spl (.leaf noB) 0).2 (ptr b)) → Calls Tryz.prog 14 #[ptr b, .string ⟨#[]⟩] W fun e W' => e = .returned (.bool true) ∧ Hid (Q w g W' ∧ Rp W' (.leaf noB) r)) := fun g W r b ⟨h1, h2, h3⟩ => by
    have := right_any h3 s3 (by rw [s4]; decide) (hE.below h1.b)
    rw [s4] at this
    exact this.mono fun e W' ⟨k1, k2⟩ => ⟨k1, h1.below k2, h2.below k2⟩
  have K5 : Hid (∀ g W r, Hid (Q w g W ∧ Rp W (.leaf noB) r) → Calls Tryz.prog 15 #[r, .int .i64 0, .int .i64 0] W fun e W' => e = .returned (.tuple #[.string ⟨#[]⟩, .int .i64 0]) ∧ Hid (Q w g W' ∧ Rp W' (.leaf noB) r)) := fun g W r ⟨h1, h2⟩ => (rslice_any h2 (by decide) 0 0).mono fun e W' ⟨k1, k2⟩ => ⟨by rw [k1]; rfl, h1.below k2, h2.below k2⟩
  have K6 : Hid (∀ g W r, Hid (Q w g W ∧ Rp W (.leaf noB) r) → Calls Tryz.prog 17 #[r, .int .i64 0, .int .i64 0] W fun e W' => e = .returned (.tuple #[sv ⟨0, 0, 0, 0, 0, ⟨#[]⟩, ⟨#[]⟩⟩, .int .i64 0]) ∧ Hid (Q w g (W'.alloc (.cells #[.int .i64 0, .int .i64 0, .int .i64 0, .int .i64 0, .int .i64 0, .string ⟨#[]⟩, .string ⟨#[]⟩] 45)) ∧ Rp (W'.alloc (.cells #[.int .i64 0, .int .i64 0, .int .i64 0, .int .i64 0, .int .i64 0, .string ⟨#[]⟩, .string ⟨#[]⟩] 45)) (.leaf noB) r)) := fun g W r ⟨h1, h2⟩ => (rmeas_any h2 (by decide) 0 0 (hE.below h1.b)).mono fun e W' ⟨k1, k2⟩ => by
    have hb := (Below.refl _ W').alloc (Nat.le_refl _) (.cells #[.int .i64 0, .int .i64 0, .int .i64 0, .int .i64 0, .int .i64 0, .string ⟨#[]⟩, .string ⟨#[]⟩] 45)
    refine ⟨?_, (h1.below k2).below hb, (h2.below k2).below hb⟩
    rw [k1]
    have e1 : msR (Tr.leaf noB).text 0 0 = (smr noB, 0) := by unfold msR; rw [if_pos (by decide)]; rfl
    rw [e1]
    have e2 : smr noB = sm0 := smr_nil noB_size
    rw [e2]
    rfl
  have K7 : Hid (∀ g W r, Hid (Q w g W ∧ Rp W (.leaf noB) r) → Calls Tryz.prog 12 #[r, .int .i64 0, .int .i64 0, .string put] W fun e W' => ∃ x, e = .returned (.tuple #[ptr x, .string ⟨#[]⟩, .int .i64 0]) ∧ Hid (Q w g W' ∧ Rp W' (.leaf noB) r ∧ Rp W' (rep (.leaf noB) 0 (0 + 0) put) (ptr x))) := fun g W r ⟨h1, h2⟩ => (Go.Proofs.YtlonnglebknhbaaGreatDoor.rrep_ok h2 good_no 0 0 put (by show 0 + put.size ≤ B40; unfold B40; omega) (Nat.zero_le _) (hE.below h1.b)).mono fun e W' ⟨x, k1, k2, k3⟩ => ⟨x, by rw [k1]; rfl, h1.below k3, h2.below k3, k2⟩
  have K8 : Hid (∀ g W r x, Hid (Q w g W ∧ Rp W (.leaf noB) r ∧ Rp W (rep (.leaf noB) 0 (0 + 0) put) (ptr x)) → Calls Tryz.prog 14 #[ptr x, .string put] W fun e W' => e = .returned (.bool true) ∧ Hid (Q w g W' ∧ Rp W' (.leaf noB) r ∧ Rp W' (rep (.leaf noB) 0 (0 + 0) put) (ptr x))) := fun g W r x ⟨h1, h2, h3⟩ => by
    have := right_any h3 q1 (by rw [q2]; omega) (hE.below h1.b)
    rw [q2] at this
    exact this.mono fun e W' ⟨k1, k2⟩ => ⟨k1, h1.below k2, h2.below k2, h3.below k2⟩
  have K10 : Hid (∀ g W r x, Hid (Q w g W ∧ Rp W (.leaf noB) r ∧ Rp W (rep (.leaf noB) 0 (0 + 0) put) (ptr x)) → Calls Tryz.prog 21 #[.slice (some ⟨W.heap.size, 0, none⟩) 3 3] (W.alloc (.cells #[r, ptr x, r] 24)) fun e W' => ∃ y, e = .returned (ptr y) ∧ Hid (Q w g W' ∧ Rp W' TG (ptr y))) := fun g W r x ⟨h1, h2, h3⟩ => by
    have hb := (Below.refl _ W).alloc (Nat.le_refl _) (.cells #[r, ptr x, r] 24)
    refine (rconcat_any (by show 3 ≤ B40; unfold B40; omega) (three_ropes h2 h3) g3 (by rw [j3]; unfold B40; omega) (hE.below (h1.below hb).b)).mono fun e W' h => ?_
    obtain ⟨y, k1, k2, k3⟩ := MkR.rp h
    exact ⟨y, k1, (h1.below hb).below k3, hTG ▸ k2⟩
  have K11 : Hid (∀ g W y, Hid (Q w g W ∧ Rp W TG (ptr y)) → Calls Tryz.prog 14 #[ptr y, .string put] W fun e W' => e = .returned (.bool true) ∧ Hid (Q w g W')) := fun g W y ⟨h1, h2⟩ => by
    have := right_any h2 t1 (by rw [t2]; omega) (hE.below h1.b)
    rw [t2] at this
    exact this.mono fun e W' ⟨k1, k2⟩ => ⟨k1, h1.below k2⟩
  have K9 : Hid (∀ g W r x, Hid (Q w g W ∧ Rp W (.leaf noB) r ∧ Rp W (rep (.leaf noB) 0 (0 + 0) put) (ptr x)) → Calls Tryz.prog 12 #[r, .int .i64 i, .int .i64 c, .string put] W fun e W' => ∃ p q, e = .returned (.tuple #[p, q, .int .i64 (if i = 0 ∧ c = 0 then 0 else 1)]) ∧ Hid (Q w g W' ∧ Rp W' (.leaf noB) r ∧ Rp W' (rep (.leaf noB) 0 (0 + 0) put) (ptr x))) := fun g W r x ⟨h1, h2, h3⟩ => by
    by_cases h0 : i = 0 ∧ c = 0
    · rw [if_pos h0, h0.1, h0.2]
      exact (Go.Proofs.YtlonnglebknhbaaGreatDoor.rrep_ok h2 good_no 0 0 put (by show 0 + put.size ≤ B40; unfold B40; omega) (Nat.zero_le _) (hE.below h1.b)).mono fun e W' ⟨x, k1, k2, k3⟩ => ⟨_, _, k1, h1.below k3, h2.below k3, h3.below k3⟩
    · rw [if_neg h0]
      exact (rrep_no h2 (by decide) i c put hi (by show _ ∨ _ ∨ ((0 : Nat) : Int) < _; omega)).mono fun e W' ⟨k1, k2⟩ => ⟨_, _, k1, h1.below k2, h2.below k2, h3.below k2⟩
  have HQ : Hid (∀ W, Hid (Below w.heap.size w W) → Q w W.heap.size ((W.alloc (.cells #[.nilIface] 68)).alloc (.cells #[.pointer none, ptr W.heap.size] 24))) := fun W h => Q.mk0 h
  generalize spl (.leaf noB) 0 = SP at *
  generalize rep (.leaf noB) 0 (0 + 0) put = RE at *
  clear hE s1 s2 s3 s4 q1 q2 g3 j3 t1 t2 hTG
  have hcs : (i = 0 ∧ c = 0) ∨ (i = 0 ∧ ¬ c = 0) ∨ ¬ i = 0 := by omega
  go_enter Tryz.func6, Tryz.ntmps6
  go_wp2_with (go_at_call 9; refine C0.out.mono ?_; clear C0; rintro e w1 ⟨rfl, h1⟩; have H1 := HQ.out _ h1; clear HQ)
  go_loopw [29] (fun t29 wr => ∃ k : Nat, t29 = .int .i64 k ∧ k ≤ 2 ∧ Hid (Q w w1.heap.size wr)) (fun t29 _ => 2 - (intOf t29).toNat)
  case atStart => exact ⟨0, rfl, Nat.zero_le _, H1⟩
  case round =>
    clear H1 h1
    obtain ⟨k, rfl, hk, HQ⟩ := hrel
    by_cases d : k < 2
    · obtain ⟨po, cr, hr⟩ := HQ.out.cell d
      have H : Hid (Q w w1.heap.size wr ∧ Rp wr (.leaf noB) (.pointer po)) := ⟨HQ.out, hr⟩
      clear HQ hr
      rcases hcs with ⟨rfl, rfl⟩ | ⟨rfl, c2⟩ | c1
      · rw [if_pos ⟨rfl, rfl⟩] at K9
        go_wp2_with (first | (go_at_call 14; refine (K1.out _ _ _ H).mono ?_; clear K1 H; rintro e w2 ⟨rfl, H⟩) | (go_at_call 19; refine (K2.out _ _ _ H).mono ?_; clear K2 H; rintro e w3 ⟨a, b, rfl, H⟩) | (go_at_call 14; refine (K3.out _ _ _ _ _ H).mono ?_; clear K3 H; rintro e w4 ⟨rfl, H⟩) | (go_at_call 14; refine (K4.out _ _ _ _ H).mono ?_; clear K4 H; rintro e w5 ⟨rfl, H⟩) | (go_at_call 15; refine (K5.out _ _ _ H).mono ?_; clear K5 H; rintro e w6 ⟨rfl, H⟩) | (go_at_call 17; refine (K6.out _ _ _ H).mono ?_; clear K6 H; rintro e w7 ⟨rfl, H⟩) | (go_at_call 12; refine (K7.out _ _ _ H).mono ?_; clear K7 H; rintro e w8 ⟨x, rfl, H⟩) | (go_at_call 14; refine (K8.out _ _ _ _ H).mono ?_; clear K8 H; rintro e w9 ⟨rfl, H⟩) | (go_at_call 12; refine (K9.out _ _ _ _ H).mono ?_; clear K9 H; rintro e w10 ⟨p, q, rfl, H⟩) | (go_at_call 21; refine (K10.out _ _ _ _ H).mono ?_; clear K10 H; rintro e w11 ⟨y, rfl, H⟩) | (go_at_call 14; refine (K11.out _ _ _ H).mono ?_; clear K11 H; rintro e w12 ⟨rfl, H⟩))
        exact ⟨⟨k + 1, by go_num, by omega, H⟩, by simp [intOf]; omega⟩
      · rw [if_neg (by omega)] at K9
        go_wp2_with (first | (go_at_call 14; refine (K1.out _ _ _ H).mono ?_; clear K1 H; rintro e w2 ⟨rfl, H⟩) | (go_at_call 19; refine (K2.out _ _ _ H).mono ?_; clear K2 H; rintro e w3 ⟨a, b, rfl, H⟩) | (go_at_call 14; refine (K3.out _ _ _ _ _ H).mono ?_; clear K3 H; rintro e w4 ⟨rfl, H⟩) | (go_at_call 14; refine (K4.out _ _ _ _ H).mono ?_; clear K4 H; rintro e w5 ⟨rfl, H⟩) | (go_at_call 15; refine (K5.out _ _ _ H).mono ?_; clear K5 H; rintro e w6 ⟨rfl, H⟩) | (go_at_call 17; refine (K6.out _ _ _ H).mono ?_; clear K6 H; rintro e w7 ⟨rfl, H⟩) | (go_at_call 12; refine (K7.out _ _ _ H).mono ?_; clear K7 H; rintro e w8 ⟨x, rfl, H⟩) | (go_at_call 14; refine (K8.out _ _ _ _ H).mono ?_; clear K8 H; rintro e w9 ⟨rfl, H⟩) | (go_at_call 12; refine (K9.out _ _ _ _ H).mono ?_; clear K9 H; rintro e w10 ⟨p, q, rfl, H⟩) | (go_at_call 21; refine (K10.out _ _ _ _ H).mono ?_; clear K10 H; rintro e w11 ⟨y, rfl, H⟩) | (go_at_call 14; refine (K11.out _ _ _ H).mono ?_; clear K11 H; rintro e w12 ⟨rfl, H⟩))
        exact ⟨⟨k + 1, by go_num, by omega, H⟩, by simp [intOf]; omega⟩
      · rw [if_neg (by omega)] at K9
        go_wp2_with (first | (go_at_call 14; refine (K1.out _ _ _ H).mono ?_; clear K1 H; rintro e w2 ⟨rfl, H⟩) | (go_at_call 19; refine (K2.out _ _ _ H).mono ?_; clear K2 H; rintro e w3 ⟨a, b, rfl, H⟩) | (go_at_call 14; refine (K3.out _ _ _ _ _ H).mono ?_; clear K3 H; rintro e w4 ⟨rfl, H⟩) | (go_at_call 14; refine (K4.out _ _ _ _ H).mono ?_; clear K4 H; rintro e w5 ⟨rfl, H⟩) | (go_at_call 15; refine (K5.out _ _ _ H).mono ?_; clear K5 H; rintro e w6 ⟨rfl, H⟩) | (go_at_call 17; refine (K6.out _ _ _ H).mono ?_; clear K6 H; rintro e w7 ⟨rfl, H⟩) | (go_at_call 12; refine (K7.out _ _ _ H).mono ?_; clear K7 H; rintro e w8 ⟨x, rfl, H⟩) | (go_at_call 14; refine (K8.out _ _ _ _ H).mono ?_; clear K8 H; rintro e w9 ⟨rfl, H⟩) | (go_at_call 12; refine (K9.out _ _ _ _ H).mono ?_; clear K9 H; rintro e w10 ⟨p, q, rfl, H⟩) | (go_at_call 21; refine (K10.out _ _ _ _ H).mono ?_; clear K10 H; rintro e w11 ⟨y, rfl, H⟩) | (go_at_call 14; refine (K11.out _ _ _ H).mono ?_; clear K11 H; rintro e w12 ⟨rfl, H⟩))
        exact ⟨⟨k + 1, by go_num, by omega, H⟩, by simp [intOf]; omega⟩
    · clear K1 K2 K3 K4 K5 K6 K7 K8 K9 K10 K11
      go_wp2
      go_ret
      exact ⟨rfl, HQ.out.b⟩
theorem walk_of {H : Type} (put : ByteArray) (i c : Int) (w : World) (hT : Lib.Utf8Tabs 1 2 w) (hlo0 : 1 < w.heap.size) (hlo1 : 2 < w.heap.size) (_hs : put.size ≤ 140737488351232) (hi : -9223372036854775808 ≤ i ∧ i ≤ 9223372036854775807) (hc : -9223372036854775808 ≤ c ∧ c ≤ 9223372036854775807) (hk : Rows.uptoSmall H ([DataW.lit (.string put.data.toList), DataW.lit (.int .i64 i), DataW.lit (.int .i64 c)] ++ []) = true) :
    Calls Tryz.prog 6 #[.string put, .int .i64 i, .int .i64 c] w fun e w' => e = .returned (.bool true) ∧ Below w.heap.size w w' := by
  have h : Rows.uptoBulkAll ([DataW.lit (H := H) (.string put.data.toList), DataW.lit (.int .i64 i), DataW.lit (.int .i64 c)] ++ []) ≤ 1048576 := of_decide_eq_true hk
  simp only [List.append_nil, Rows.uptoBulkAll, Rows.uptoBulk] at h
  exact walk put i c (by rw [Lib.size_eq]; omega) hi hc w ⟨hT, hlo0, hlo1⟩
end Go.Proofs.YtlonnglebknhbaaGreatDoor.ropeNone
