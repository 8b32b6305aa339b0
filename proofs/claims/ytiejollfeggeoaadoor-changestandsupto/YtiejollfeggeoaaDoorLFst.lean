/-
  The walk of the law ChangeStands: each edit can be done, the cursor lies in what comes out, what is killed is what is cut. Conditions: those of walk_of.
-/
import Derived.Test.YtiejollfeggeoaaDoorFApp
import Derived.Test.YtiejollfeggeoaaDoorFStc
import Derived.Deep.DeepCutAuto
namespace Go.Proofs.YtiejollfeggeoaaDoor.changeStands
open Go.RowKit Go.Shelf Bod Wid

theorem not_emp {s : ByteArray} (h : ¬ s = ⟨#[]⟩) : s.toList.isEmpty = false := by
  rw [Lib.toList_data]
  cases e : s.data.toList with
  | nil => exact absurd (by apply ByteArray.ext; apply Array.ext'; rw [e]) h
  | cons _ _ => rfl
theorem not_nil {s : ByteArray} (h : ¬ s = ⟨#[]⟩) : ¬ s.toList = [] := fun e => by
  have := not_emp h
  rw [e] at this
  cases this
set_option maxRecDepth 100000 in
set_option maxHeartbeats 2000000 in
theorem walk (hM : Tryd.prog.follows .mixedOrders = true) (s : ByteArray) (hs : s.size ≤ 1048576) (x : Ak) (hx : x.fit) (w : World) (hT : Tw w) :
    Calls Tryd.prog 4 #[.string s, akv x] w fun e W' => e = .returned (.bool true) ∧ Below w.heap.size w W' := by
  have C0 : Hid (∀ W, Bx w x [] W → Calls Tryd.prog 7 #[] W fun e W' => e = .returned (.bool true) ∧ Hid (Bx w x [] W')) := fun W hW => (awake_any hM W (hT.below hW.bel)).mono fun e W' ⟨k1, k2⟩ => ⟨k1, hW.below k2⟩
  have HB : Hid (Bx w x [] (w.alloc (.cells #[.int .i64 x.k, .int .i64 x.c, .int .i64 x.i, .int .i64 x.r] 31))) := bx0 w x
  have hfine := of_fine s x.k x.c x.i x.r
  have CO0 := fun W (hW : Below w.heap.size w W) => Of_any hM s (by omega) x.k x.c x.i x.r hx.2.2.1.2 hx.2.2.2.2 ⟨#[112, 97, 115, 115, 101, 100, 32, 111, 118, 101, 114]⟩ 113 W (hT.below hW)
  have CD0 := fun W (hW : Below w.heap.size w W) => Does_any hM x.k W (hT.below hW)
  obtain ⟨d, e, hde⟩ : ∃ d e, ofP s x.k x.c x.i x.r = (d, e) := ⟨_, _, rfl⟩
  obtain ⟨q0, q1, q2, q3, q4, q5⟩ := d
  rw [hde] at hfine
  rw [hde] at CO0
  unfold rsv chc at CO0
  simp only at CO0
  have CO : Hid (∀ W, Below w.heap.size w W → Calls Tryd.prog 10 #[.agg #[.int .i64 x.k, .int .i64 x.c, .string ⟨#[112, 97, 115, 115, 101, 100, 32, 111, 118, 101, 114]⟩, .int .u8 113], .string s, .int .i64 x.i, .int .i64 x.r] W fun e' W' => e' = .returned (.tuple #[.agg #[.int .i64 q0, .int .i64 q1, .string q2, .int .i64 q3, .string q4, .bool q5], .int .i64 e]) ∧ Below W.heap.size W W') := CO0
  obtain ⟨dk, hdk⟩ : ∃ dk, doesP x.k = dk := ⟨_, rfl⟩
  rw [hdk] at CD0 hfine
  have CD : Hid (∀ W L, Bx w x L W → Calls Tryd.prog 12 #[.int .i64 x.k] W fun e' W' => e' = .returned (.bool dk) ∧ Hid (Bx w x L W')) := fun W L hW => (CD0 W hW.bel).mono fun e' W' ⟨k1, k2⟩ => ⟨k1, hW.below k2⟩
  have CA : Hid (q0 + q1 ≤ s.size ∧ q2.size ≤ 1099511627776 → ∀ W L, Bx w x L W → Calls Tryd.prog 8 #[.string s, .agg #[.int .i64 q0, .int .i64 q1, .string q2]] W fun e' W' => e' = .returned (.tuple #[.string (doneP s q0 q1 q2), .int .i64 0]) ∧ Hid (Bx w x L W')) := fun hf W L hW => by
    have h := Apply_any s (by omega) q0 q1 (by omega) (by omega) q2 hf.2 W
    unfold appP at h
    rw [if_pos (by unfold fitP; simp; omega)] at h
    exact h.mono fun e' W' ⟨k1, k2⟩ => ⟨k1, hW.below k2⟩
  have CI : Hid (q0 + q1 ≤ s.size → ∀ W L, Bx w x L W → Calls Tryd.prog 13 #[.string s, .agg #[.int .i64 q0, .int .i64 q1, .string q2]] W fun e' W' => e' = .returned (.bool true) ∧ Hid (Bx w x L W')) := fun hf W L hW => (inside_any s q0 q1 q2 hf (by omega) W).mono fun e' W' ⟨k1, k2⟩ => ⟨k1, hW.below k2⟩
  have CB : Hid (∀ (i : Nat), i ≤ s.size → cbZ s i = true → ∀ W L, Bx w x L W → Calls Tryd.prog 14 #[.string s, .int .i64 i] W fun e' W' => e' = .returned (.bool true) ∧ Hid (Bx w x L W')) := fun i hi hc W L hW => by
    have h := cbound_any s i (by unfold maxLen; omega) W (hT.below hW.bel).t (by omega)
    rw [hc] at h
    exact h.mono fun e' W' ⟨k1, k2⟩ => ⟨k1, hW.below k2⟩
  have HM : Hid (Tryd.prog.follows .mixedOrders = true) := hM
  have HF : Hid _ := hfine
  clear CO0 CD0 hfine hde hdk hT hM
  unfold akv
  go_enter Tryd.func4, Tryd.ntmps4
  go_upto_region 3 with (go_at_call 7; refine (C0.out _ HB.out).mono ?_; clear C0 HB; rintro e' w1 ⟨rfl, HB⟩)
  go_cut [5, 6] (fun v5 v6 wx => ∃ b, v5 = .pointer (some ⟨b, 0, none⟩) ∧ v6 = .int .i64 e ∧ Hid (Bx w x [(b, ⟨q0, q1, q2, q3, q4, q5⟩)] wx))
  case first =>
    clear CD CA CI CB HF hx
    refine nameS fun A hA => ?_
    refine region_inv HM.out (by kernel_rfl) (fun v a' w' => ∃ y : Nat → Value, a' = ⟨frS A.tmps y, []⟩ ∧ Hid (DS w x s ⟨q0, q1, q2, q3, q4, q5⟩ e v y w')) ?start ?step ?fin
    case start =>
      refine ⟨fun _ => undef, ?_, ⟨HB.out.below (Below.refl _ _).drew, fun i e => ?_, fun e => ?_⟩⟩
      · subst hA
        simp [frS]
      · rw [List.getD_eq_getElem?_getD, List.getElem?_replicate] at e
        split at e <;> simp at e
      · rw [List.getD_eq_getElem?_getD, List.getElem?_replicate] at e
        split at e <;> simp at e
    case step =>
      intro i o v a' w' ho hv hni hop hI
      obtain ⟨y, rfl, HI⟩ := hI
      clear HB
      have hv : v.length = 14 := hv
      rcases i with _ | _ | _ | _ | _ | _ | _ | _ | _ | _ | _ | _ | _ | _ | i
      · obtain rfl := Option.some.inj ho
        obtain ⟨c0, c1, c2, c3⟩ := HI.out.b.get
        subst hA
        simp only [frS, List.setIfInBounds_toArray, List.set_cons_succ, List.set_cons_zero]
        go_wp2
        exact ⟨updS y 0 (.agg #[.int .i64 x.k, .int .i64 x.c, .int .i64 x.i, .int .i64 x.r]), by simp [updS], HI.out.set (Below.refl _ _) (by decide) rfl⟩
      · obtain rfl := Option.some.inj ho
        have e0 : y 0 = _ := HI.out.h 0 (open_waits hop (by kernel_rfl))
        subst hA
        simp only [frS, List.setIfInBounds_toArray, List.set_cons_succ, List.set_cons_zero]
        simp only [e0]
        go_wp2_with (go_at_call 11; refine (command_any x _).mono ?_; rintro e' w5 ⟨rfl, hb5⟩)
        exact ⟨updS y 1 (.agg #[.int .i64 x.k, .int .i64 x.c, .string ⟨#[112, 97, 115, 115, 101, 100, 32, 111, 118, 101, 114]⟩, .int .u8 113]), by simp [updS, e0], HI.out.set hb5 (by decide) rfl⟩
      · obtain rfl := Option.some.inj ho
        subst hA
        simp only [frS, List.setIfInBounds_toArray, List.set_cons_succ, List.set_cons_zero]
        go_wp2
        exact ⟨updS y 2 (.string s), by simp [updS], HI.out.set (Below.refl _ _) (by decide) rfl⟩
      · obtain rfl := Option.some.inj ho
        subst hA
        simp only [frS, List.setIfInBounds_toArray, List.set_cons_succ, List.set_cons_zero]
        go_wp2
        exact ⟨updS y 3 (.pointer (some ⟨w.heap.size, 2, none⟩)), by simp [updS], HI.out.set (Below.refl _ _) (by decide) rfl⟩
      · obtain rfl := Option.some.inj ho
        have e3 : y 3 = _ := HI.out.h 3 (open_waits hop (by kernel_rfl))
        obtain ⟨c0, c1, c2, c3⟩ := HI.out.b.get
        subst hA
        simp only [frS, List.setIfInBounds_toArray, List.set_cons_succ, List.set_cons_zero]
        simp only [e3]
        go_wp2
        exact ⟨updS y 4 (.int .i64 x.i), by simp [updS, e3], HI.out.set (Below.refl _ _) (by decide) rfl⟩
      · obtain rfl := Option.some.inj ho
        subst hA
        simp only [frS, List.setIfInBounds_toArray, List.set_cons_succ, List.set_cons_zero]
        go_wp2
        exact ⟨updS y 5 (.pointer (some ⟨w.heap.size, 3, none⟩)), by simp [updS], HI.out.set (Below.refl _ _) (by decide) rfl⟩
      · obtain rfl := Option.some.inj ho
        have e5 : y 5 = _ := HI.out.h 5 (open_waits hop (by kernel_rfl))
        obtain ⟨c0, c1, c2, c3⟩ := HI.out.b.get
        subst hA
        simp only [frS, List.setIfInBounds_toArray, List.set_cons_succ, List.set_cons_zero]
        simp only [e5]
        go_wp2
        exact ⟨updS y 6 (.int .i64 x.r), by simp [updS, e5], HI.out.set (Below.refl _ _) (by decide) rfl⟩
      · obtain rfl := Option.some.inj ho
        have e1 : y 1 = _ := HI.out.h 1 (open_waits hop (by kernel_rfl))
        have e2 : y 2 = _ := HI.out.h 2 (open_waits hop (by kernel_rfl))
        have e4 : y 4 = _ := HI.out.h 4 (open_waits hop (by kernel_rfl))
        have e6 : y 6 = _ := HI.out.h 6 (open_waits hop (by kernel_rfl))
        subst hA
        simp only [frS, List.setIfInBounds_toArray, List.set_cons_succ, List.set_cons_zero]
        simp only [e1, e2, e4, e6]
        go_wp2_with (go_at_call 10; refine (CO.out _ HI.out.b.bel).mono ?_; rintro e' w5 ⟨rfl, hb5⟩)
        exact ⟨updS y 7 (.tuple #[.agg #[.int .i64 q0, .int .i64 q1, .string q2, .int .i64 q3, .string q4, .bool q5], .int .i64 e]), by simp [updS, e1, e2, e4, e6], HI.out.set hb5 (by decide) rfl⟩
      · obtain rfl := Option.some.inj ho
        have e7 : y 7 = _ := HI.out.h 7 (open_waits hop (by kernel_rfl))
        subst hA
        simp only [frS, List.setIfInBounds_toArray, List.set_cons_succ, List.set_cons_zero]
        simp only [e7]
        go_wp2
        exact ⟨updS y 8 (.tuple #[.agg #[.int .i64 q0, .int .i64 q1, .string q2, .int .i64 q3, .string q4, .bool q5], .int .i64 e]), by simp [updS, e7], HI.out.set (Below.refl _ _) (by decide) rfl⟩
      · obtain rfl := Option.some.inj ho
        have e8 : y 8 = _ := HI.out.h 8 (open_waits hop (by kernel_rfl))
        subst hA
        simp only [frS, List.setIfInBounds_toArray, List.set_cons_succ, List.set_cons_zero]
        simp only [e8]
        go_wp2
        exact ⟨updS y 9 (.agg #[.int .i64 q0, .int .i64 q1, .string q2, .int .i64 q3, .string q4, .bool q5]), by simp [updS, e8], HI.out.set (Below.refl _ _) (by decide) rfl⟩
      · obtain rfl := Option.some.inj ho
        have e8 : y 8 = _ := HI.out.h 8 (open_waits hop (by kernel_rfl))
        subst hA
        simp only [frS, List.setIfInBounds_toArray, List.set_cons_succ, List.set_cons_zero]
        simp only [e8]
        go_wp2
        exact ⟨updS y 10 (.int .i64 e), by simp [updS, e8], HI.out.set (Below.refl _ _) (by decide) rfl⟩
      · obtain rfl := Option.some.inj ho
        have hfl : ∀ hop : v.getD 12 false = true, False := fun h12 => by
          have := HI.out.w h12
          rw [List.getD_eq_getElem?_getD] at hni this
          rw [List.getElem?_eq_getElem (by omega)] at hni this
          simp at hni this
          rw [hni] at this; cases this
        have hfl' : v.getD 12 false = false := by cases h : v.getD 12 false with | false => rfl | true => exact (hfl h).elim
        have HNW : Hid (DS w x s ⟨q0, q1, q2, q3, q4, q5⟩ e (v.set 11 true) (updS y 11 (.pointer (some ⟨w'.heap.size, 0, none⟩))) (w'.alloc (.cells #[.int .i64 0, .int .i64 0, .string ⟨#[]⟩, .int .i64 0, .string ⟨#[]⟩, .bool false] 33))) := HI.out.set ((Below.refl _ w').alloc (Nat.le_refl _) _) (by decide) ⟨w'.heap.size, rfl, (Array.getElem?_eq_some_iff.1 HI.out.b.ask).1, by rw [hfl']; exact World.alloc_heap_new w' _⟩
        clear hfl hfl'
        subst hA
        simp only [frS, List.setIfInBounds_toArray, List.set_cons_succ, List.set_cons_zero]
        go_wp2
        exact ⟨_, by simp [updS], HNW⟩
      · obtain rfl := Option.some.inj ho
        have e9 : y 9 = _ := HI.out.h 9 (open_waits hop (by kernel_rfl))
        have hfl : v.getD 12 false = false := by
          rw [List.getD_eq_getElem?_getD] at hni ⊢
          rw [List.getElem?_eq_getElem (by omega)] at hni ⊢
          exact hni
        obtain ⟨b, e11, hlt, hz⟩ : ∃ b, y 11 = .pointer (some ⟨b, 0, none⟩) ∧ w.heap.size < b ∧ w'.heap[b]? = some (.cells (chc (if v.getD 12 false then _ else chz)) 33 (0, 0)) := HI.out.h 11 (open_waits hop (by kernel_rfl))
        rw [hfl] at hz
        simp only [Bool.false_eq_true, if_false] at hz
        obtain ⟨⟨z0, z1, z2, z3, z4, z5⟩, f0, f1, f2, f3, f4, f5, hl⟩ := cbox hz
        have HFN : Hid (DS w x s ⟨q0, q1, q2, q3, q4, q5⟩ e (v.set 12 true) y _) := HI.out.store hv (open_waits hop (by kernel_rfl)) hlt e11 hz
        clear hz hlt hfl
        subst hA
        simp only [frS, List.setIfInBounds_toArray, List.set_cons_succ, List.set_cons_zero]
        simp only [e9, e11]
        go_wp2
        exact ⟨y, by simp [e9, e11], HFN⟩
      · obtain rfl := Option.some.inj ho
        have e10 : y 10 = _ := HI.out.h 10 (open_waits hop (by kernel_rfl))
        subst hA
        simp only [frS, List.setIfInBounds_toArray, List.set_cons_succ, List.set_cons_zero]
        simp only [e10]
        go_wp2
        exact ⟨updS y 13 (.int .i64 e), by simp [updS, e10], HI.out.set (Below.refl _ _) (by decide) rfl⟩
      · simp at ho
    case fin =>
      intro v a' w' hv hall hI
      obtain ⟨y, rfl, HI⟩ := hI
      have hv : v.length = 14 := hv
      have e13 : y 13 = .int .i64 e := HI.out.h 13 (of_all hall (by omega))
      obtain ⟨b, e11, hlt, hz⟩ : ∃ b, y 11 = .pointer (some ⟨b, 0, none⟩) ∧ w.heap.size < b ∧ w'.heap[b]? = some (.cells (chc (if v.getD 12 false then _ else chz)) 33 (0, 0)) := HI.out.h 11 (of_all hall (by omega))
      rw [of_all hall (by omega), if_pos rfl] at hz
      have HQ : Hid (Bx w x [(b, ⟨q0, q1, q2, q3, q4, q5⟩)] w') := ⟨HI.out.b.bel, HI.out.b.ask, fun p hp => by
        simp at hp
        subst hp
        exact hz⟩
      clear hz hlt HI hall
      subst hA
      simp only [frS, List.setIfInBounds_toArray, List.set_cons_succ, List.set_cons_zero, e11, e13]
      go_wp2_with fail
      go_meet
      exact ⟨b, rfl, rfl, HQ⟩
  case rest =>
    obtain ⟨b, rfl, rfl, HC⟩ := hcut
    clear CO HB
    have KB := HF.out
    clear HF
    rcases KB with ⟨he, hd⟩ | ⟨hd, ⟨he, h78⟩ | ⟨he, hG⟩⟩
    · have he1 := congrArg Prod.fst he
      have he2 := congrArg Prod.snd he
      unfold chz at he1
      simp only [Chg.mk.injEq] at he1 he2
      obtain ⟨rfl, rfl, rfl, rfl, rfl, rfl⟩ := he1
      subst he2
      subst hd
      clear he CA CI CB
      obtain ⟨m0, m1, m2, m3, m4, m5⟩ := HC.out.at' (b := b) (c := ⟨0, 0, ⟨#[]⟩, 0, ⟨#[]⟩, false⟩) (by simp)
      simp only at m0 m1 m2 m3 m4 m5
      obtain ⟨c0, -⟩ := HC.out.get
      go_wp2_with (go_at_call 12; refine (CD.out _ _ HC.out).mono ?_; clear CD HC m0 m1 m2 m3 m4 m5 c0; rintro e' w2 ⟨rfl, HC⟩)
      go_ret
      exact ⟨rfl, HC.out.bel⟩
    · unfold chz at he
      simp only [Chg.mk.injEq] at he h78
      obtain ⟨rfl, rfl, rfl, rfl, rfl, rfl⟩ := he
      subst hd
      clear CA CI CB
      rcases h78 with rfl | rfl
      · obtain ⟨m0, m1, m2, m3, m4, m5⟩ := HC.out.at' (b := b) (c := ⟨0, 0, ⟨#[]⟩, 0, ⟨#[]⟩, false⟩) (by simp)
        simp only at m0 m1 m2 m3 m4 m5
        obtain ⟨c0, -⟩ := HC.out.get
        go_wp2_with (go_at_call 12; refine (CD.out _ _ HC.out).mono ?_; clear CD HC m0 m1 m2 m3 m4 m5 c0; rintro e' w2 ⟨rfl, HC⟩)
        go_ret
        exact ⟨rfl, HC.out.bel⟩
      · obtain ⟨m0, m1, m2, m3, m4, m5⟩ := HC.out.at' (b := b) (c := ⟨0, 0, ⟨#[]⟩, 0, ⟨#[]⟩, false⟩) (by simp)
        simp only at m0 m1 m2 m3 m4 m5
        obtain ⟨c0, -⟩ := HC.out.get
        go_wp2_with (go_at_call 12; refine (CD.out _ _ HC.out).mono ?_; clear CD HC m0 m1 m2 m3 m4 m5 c0; rintro e' w2 ⟨rfl, HC⟩)
        go_ret
        exact ⟨rfl, HC.out.bel⟩
    · simp only at he
      subst he
      subst hd
      obtain ⟨g1, g2, g3, g4, g5, g6, g7⟩ := hG
      simp only at g1 g2 g3 g4 g5 g6 g7
      have CA1 : Hid _ := CA.out ⟨g1, by omega⟩
      have CI1 : Hid _ := CI.out g1
      clear CA CI
      by_cases hk : x.k = 21
      · obtain ⟨rfl, rfl, rfl, hq4, rfl⟩ := g4 hk
        clear g5 g6 g7 g4 CB
        rw [hk] at CD
        have n1 := not_emp hq4
        have n2 := not_nil hq4
        have hz : doneP s 0 0 ⟨#[]⟩ = s := by
          unfold doneP
          apply ByteArray.ext
          apply Array.ext'
          simp
        rw [hz] at CA1
        have h3 : (q3 : Int) ≤ s.size := by have h0 : (⟨#[]⟩ : ByteArray).size = 0 := rfl; omega
        clear hz
        obtain ⟨m0, m1, m2, m3, m4, m5⟩ := HC.out.at' (b := b) (c := ⟨0, 0, ⟨#[]⟩, q3, q4, false⟩) (by simp)
        simp only at m0 m1 m2 m3 m4 m5
        obtain ⟨c0, -⟩ := HC.out.get
        go_wp2_with (first | (go_at_call 8; refine (CA1.out _ _ HC.out).mono ?_; clear CA1 HC m0 m1 m2 m3 m4 m5 c0; rintro e' w2 ⟨rfl, HC⟩; obtain ⟨m0, m1, m2, m3, m4, m5⟩ := HC.out.at' (b := b) (c := ⟨0, 0, ⟨#[]⟩, q3, q4, false⟩) (by simp); simp only at m0 m1 m2 m3 m4 m5; obtain ⟨c0, -⟩ := HC.out.get) | (go_at_call 13; refine (CI1.out _ _ HC.out).mono ?_; clear CI1 HC m0 m1 m2 m3 m4 m5 c0; rintro e' w3 ⟨rfl, HC⟩; obtain ⟨m0, m1, m2, m3, m4, m5⟩ := HC.out.at' (b := b) (c := ⟨0, 0, ⟨#[]⟩, q3, q4, false⟩) (by simp); simp only at m0 m1 m2 m3 m4 m5; obtain ⟨c0, -⟩ := HC.out.get) | (go_at_call 12; refine (CD.out _ _ HC.out).mono ?_; clear CD HC m0 m1 m2 m3 m4 m5 c0; rintro e' w4 ⟨rfl, HC⟩; obtain ⟨m0, m1, m2, m3, m4, m5⟩ := HC.out.at' (b := b) (c := ⟨0, 0, ⟨#[]⟩, q3, q4, false⟩) (by simp); simp only at m0 m1 m2 m3 m4 m5; obtain ⟨c0, -⟩ := HC.out.get))
        go_ret
        exact ⟨by simp, HC.out.bel⟩
      · have hcb := g7 hk
        have hkl := g6 hk
        have hkk := g5 hk
        have CB1 : Hid _ := CB.out q0 (by omega) hcb.1
        have CB2 : Hid _ := CB.out (q0 + q1) g1 hcb.2
        have hzs : (doneP s q0 q1 q2).size = q0 + q2.size + (s.size - (q0 + q1)) := by
          unfold doneP
          rw [size_app, size_app, size_extract s 0 q0 (by omega), size_extract s (q0 + q1) s.size (Nat.le_refl _)]
          omega
        obtain ⟨z, hz⟩ : ∃ z, doneP s q0 q1 q2 = z := ⟨_, rfl⟩
        rw [hz] at CA1 hzs
        obtain ⟨R, hR⟩ : ∃ R, q0 + q1 = R := ⟨_, rfl⟩
        have h3 : (q3 : Int) ≤ z.size := by omega
        have h4 : (q0 : Int) + q1 = R := by omega
        have h5 : (R : Int) ≤ s.size := by omega
        have h6 : (q0 : Int) ≤ R := by omega
        rw [hR] at CB2 hkk
        clear hz hcb g4 g5 g6 g7 CB hzs
        by_cases hq : q4 = ⟨#[]⟩
        · subst hq
          have hno : x.k < 16 ∨ 20 < x.k := by
            rcases Int.lt_or_le x.k 16 with h | h
            · exact .inl h
            · rcases Int.lt_or_le 20 x.k with h' | h'
              · exact .inr h'
              · exact absurd rfl (hkl.1 ⟨h, h'⟩)
          clear hkl hkk
          rcases hno with hno | hno
          · skip
            obtain ⟨m0, m1, m2, m3, m4, m5⟩ := HC.out.at' (b := b) (c := ⟨q0, q1, q2, q3, ⟨#[]⟩, q5⟩) (by simp)
            simp only at m0 m1 m2 m3 m4 m5
            obtain ⟨c0, -⟩ := HC.out.get
            go_wp2_with (first | (go_at_call 8; refine (CA1.out _ _ HC.out).mono ?_; clear CA1 HC m0 m1 m2 m3 m4 m5 c0; rintro e' w2 ⟨rfl, HC⟩; obtain ⟨m0, m1, m2, m3, m4, m5⟩ := HC.out.at' (b := b) (c := ⟨q0, q1, q2, q3, ⟨#[]⟩, q5⟩) (by simp); simp only at m0 m1 m2 m3 m4 m5; obtain ⟨c0, -⟩ := HC.out.get) | (go_at_call 13; refine (CI1.out _ _ HC.out).mono ?_; clear CI1 HC m0 m1 m2 m3 m4 m5 c0; rintro e' w3 ⟨rfl, HC⟩; obtain ⟨m0, m1, m2, m3, m4, m5⟩ := HC.out.at' (b := b) (c := ⟨q0, q1, q2, q3, ⟨#[]⟩, q5⟩) (by simp); simp only at m0 m1 m2 m3 m4 m5; obtain ⟨c0, -⟩ := HC.out.get) | (go_at_call 12; refine (CD.out _ _ HC.out).mono ?_; clear CD HC m0 m1 m2 m3 m4 m5 c0; rintro e' w4 ⟨rfl, HC⟩; obtain ⟨m0, m1, m2, m3, m4, m5⟩ := HC.out.at' (b := b) (c := ⟨q0, q1, q2, q3, ⟨#[]⟩, q5⟩) (by simp); simp only at m0 m1 m2 m3 m4 m5; obtain ⟨c0, -⟩ := HC.out.get) | (go_at_call 14; refine (CB1.out _ _ HC.out).mono ?_; clear CB1 HC m0 m1 m2 m3 m4 m5 c0; rintro e' w5 ⟨rfl, HC⟩; obtain ⟨m0, m1, m2, m3, m4, m5⟩ := HC.out.at' (b := b) (c := ⟨q0, q1, q2, q3, ⟨#[]⟩, q5⟩) (by simp); simp only at m0 m1 m2 m3 m4 m5; obtain ⟨c0, -⟩ := HC.out.get) | (go_at_call 14; refine (CB2.out _ _ HC.out).mono ?_; clear CB2 HC m0 m1 m2 m3 m4 m5 c0; rintro e' w6 ⟨rfl, HC⟩; obtain ⟨m0, m1, m2, m3, m4, m5⟩ := HC.out.at' (b := b) (c := ⟨q0, q1, q2, q3, ⟨#[]⟩, q5⟩) (by simp); simp only at m0 m1 m2 m3 m4 m5; obtain ⟨c0, -⟩ := HC.out.get))
            go_ret
            exact ⟨by simp, HC.out.bel⟩
          · skip
            obtain ⟨m0, m1, m2, m3, m4, m5⟩ := HC.out.at' (b := b) (c := ⟨q0, q1, q2, q3, ⟨#[]⟩, q5⟩) (by simp)
            simp only at m0 m1 m2 m3 m4 m5
            obtain ⟨c0, -⟩ := HC.out.get
            go_wp2_with (first | (go_at_call 8; refine (CA1.out _ _ HC.out).mono ?_; clear CA1 HC m0 m1 m2 m3 m4 m5 c0; rintro e' w2 ⟨rfl, HC⟩; obtain ⟨m0, m1, m2, m3, m4, m5⟩ := HC.out.at' (b := b) (c := ⟨q0, q1, q2, q3, ⟨#[]⟩, q5⟩) (by simp); simp only at m0 m1 m2 m3 m4 m5; obtain ⟨c0, -⟩ := HC.out.get) | (go_at_call 13; refine (CI1.out _ _ HC.out).mono ?_; clear CI1 HC m0 m1 m2 m3 m4 m5 c0; rintro e' w3 ⟨rfl, HC⟩; obtain ⟨m0, m1, m2, m3, m4, m5⟩ := HC.out.at' (b := b) (c := ⟨q0, q1, q2, q3, ⟨#[]⟩, q5⟩) (by simp); simp only at m0 m1 m2 m3 m4 m5; obtain ⟨c0, -⟩ := HC.out.get) | (go_at_call 12; refine (CD.out _ _ HC.out).mono ?_; clear CD HC m0 m1 m2 m3 m4 m5 c0; rintro e' w4 ⟨rfl, HC⟩; obtain ⟨m0, m1, m2, m3, m4, m5⟩ := HC.out.at' (b := b) (c := ⟨q0, q1, q2, q3, ⟨#[]⟩, q5⟩) (by simp); simp only at m0 m1 m2 m3 m4 m5; obtain ⟨c0, -⟩ := HC.out.get) | (go_at_call 14; refine (CB1.out _ _ HC.out).mono ?_; clear CB1 HC m0 m1 m2 m3 m4 m5 c0; rintro e' w5 ⟨rfl, HC⟩; obtain ⟨m0, m1, m2, m3, m4, m5⟩ := HC.out.at' (b := b) (c := ⟨q0, q1, q2, q3, ⟨#[]⟩, q5⟩) (by simp); simp only at m0 m1 m2 m3 m4 m5; obtain ⟨c0, -⟩ := HC.out.get) | (go_at_call 14; refine (CB2.out _ _ HC.out).mono ?_; clear CB2 HC m0 m1 m2 m3 m4 m5 c0; rintro e' w6 ⟨rfl, HC⟩; obtain ⟨m0, m1, m2, m3, m4, m5⟩ := HC.out.at' (b := b) (c := ⟨q0, q1, q2, q3, ⟨#[]⟩, q5⟩) (by simp); simp only at m0 m1 m2 m3 m4 m5; obtain ⟨c0, -⟩ := HC.out.get))
            go_ret
            exact ⟨by simp; omega, HC.out.bel⟩
        · obtain ⟨hk1, hk2⟩ := hkl.2 hq
          rcases hkk with hkk | ⟨hke, rfl⟩
          · exact absurd hkk hq
          subst hke
          have n1 := not_emp hq
          have n2 := not_nil hq
          clear hkl
          obtain ⟨m0, m1, m2, m3, m4, m5⟩ := HC.out.at' (b := b) (c := ⟨q0, q1, ⟨#[]⟩, q3, s.extract q0 R, q5⟩) (by simp)
          simp only at m0 m1 m2 m3 m4 m5
          obtain ⟨c0, -⟩ := HC.out.get
          go_wp2_with (first | (go_at_call 8; refine (CA1.out _ _ HC.out).mono ?_; clear CA1 HC m0 m1 m2 m3 m4 m5 c0; rintro e' w2 ⟨rfl, HC⟩; obtain ⟨m0, m1, m2, m3, m4, m5⟩ := HC.out.at' (b := b) (c := ⟨q0, q1, ⟨#[]⟩, q3, s.extract q0 R, q5⟩) (by simp); simp only at m0 m1 m2 m3 m4 m5; obtain ⟨c0, -⟩ := HC.out.get) | (go_at_call 13; refine (CI1.out _ _ HC.out).mono ?_; clear CI1 HC m0 m1 m2 m3 m4 m5 c0; rintro e' w3 ⟨rfl, HC⟩; obtain ⟨m0, m1, m2, m3, m4, m5⟩ := HC.out.at' (b := b) (c := ⟨q0, q1, ⟨#[]⟩, q3, s.extract q0 R, q5⟩) (by simp); simp only at m0 m1 m2 m3 m4 m5; obtain ⟨c0, -⟩ := HC.out.get) | (go_at_call 12; refine (CD.out _ _ HC.out).mono ?_; clear CD HC m0 m1 m2 m3 m4 m5 c0; rintro e' w4 ⟨rfl, HC⟩; obtain ⟨m0, m1, m2, m3, m4, m5⟩ := HC.out.at' (b := b) (c := ⟨q0, q1, ⟨#[]⟩, q3, s.extract q0 R, q5⟩) (by simp); simp only at m0 m1 m2 m3 m4 m5; obtain ⟨c0, -⟩ := HC.out.get) | (go_at_call 14; refine (CB1.out _ _ HC.out).mono ?_; clear CB1 HC m0 m1 m2 m3 m4 m5 c0; rintro e' w5 ⟨rfl, HC⟩; obtain ⟨m0, m1, m2, m3, m4, m5⟩ := HC.out.at' (b := b) (c := ⟨q0, q1, ⟨#[]⟩, q3, s.extract q0 R, q5⟩) (by simp); simp only at m0 m1 m2 m3 m4 m5; obtain ⟨c0, -⟩ := HC.out.get) | (go_at_call 14; refine (CB2.out _ _ HC.out).mono ?_; clear CB2 HC m0 m1 m2 m3 m4 m5 c0; rintro e' w6 ⟨rfl, HC⟩; obtain ⟨m0, m1, m2, m3, m4, m5⟩ := HC.out.at' (b := b) (c := ⟨q0, q1, ⟨#[]⟩, q3, s.extract q0 R, q5⟩) (by simp); simp only at m0 m1 m2 m3 m4 m5; obtain ⟨c0, -⟩ := HC.out.get))
          go_ret
          exact ⟨by simp, HC.out.bel⟩
theorem walk_of {H : Type} {d : DataW H} (s : ByteArray) (x : Ak) (w : World) (hT : Lib.Utf8Tabs 1 2 w) (hlo0 : 1 < w.heap.size) (hlo1 : 2 < w.heap.size) (_hs : s.size ≤ 140737488351232) (hx : x.fit) (hk : Rows.uptoSmall H ([DataW.lit (.string s.data.toList), d] ++ []) = true) :
    Calls Tryd.prog 4 #[.string s, akv x] w fun e w' => e = .returned (.bool true) ∧ Below w.heap.size w w' := by
  have h : Rows.uptoBulkAll ([DataW.lit (H := H) (.string s.data.toList), d] ++ []) ≤ 1048576 := of_decide_eq_true hk
  simp only [List.append_nil, Rows.uptoBulkAll, Rows.uptoBulk] at h
  exact walk (by kernel_rfl) s (by rw [Lib.size_eq]; omega) x hx w ⟨hT, hlo0, hlo1⟩
end Go.Proofs.YtiejollfeggeoaaDoor.changeStands
