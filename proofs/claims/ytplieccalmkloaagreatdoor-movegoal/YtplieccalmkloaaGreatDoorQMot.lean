/-
  Package move's table of motions, motionOf and Motion. No conditions.
-/
import Derived.Test.YtplieccalmkloaaGreatDoorPkVW
import Derived.Test.YtplieccalmkloaaGreatDoorKBase
import Derived.Test.YtplieccalmkloaaGreatDoorPkK
import Derived.Deep.Cut
namespace Go.Proofs.YtplieccalmkloaaGreatDoor.Sto
open Go.RowKit Go.Great Go.Shelf Wid

/-- the motions: kind, function, whether it goes by a column -/
def mot : List (Int × Nat × Bool) := [(4, 78, false), (5, 79, false), (6, 80, false), (7, 81, false), (8, 82, false), (9, 83, false), (10, 84, true), (11, 85, true), (12, 86, false), (13, 87, false)]
def mrow (p : Int × Nat × Bool) : Value := .agg #[.int .i64 p.1, .func (.func p.2.1) #[] #[], .bool p.2.2]
def mcells : Array Value := (mot.flatMap fun p => [Value.int .i64 p.1, .func (.func p.2.1) #[] #[], .bool p.2.2]).toArray
def mzero : Array Value := ((List.replicate 10 [Value.int .i64 0, .nilFunc, .bool false]).flatten).toArray
set_option maxRecDepth 100000 in
set_option maxHeartbeats 2000000 in
theorem motions_any (w : World) : Calls Tryz.prog 43 #[] w fun e w' => e = .returned (.agg mcells) ∧ Below w.heap.size w w' := by
  refine calls_of_wp Tryz.func43 rfl ?_
  apply wp_seq_k; intro K0 hK0
  apply wp_region_lit
  refine wpList_allocTo rfl (some 0) rfl (.pointer (some ⟨w.heap.size, 0, none⟩)) (.cells mzero 91) (by as_aux_lemma => kernel_rfl) ?_
  apply wpList_nil
  refine hK0 _ _ ?_
  clear hK0
  apply wp_seq_k; intro K1 hK1
  apply wp_region_lit
  refine wpList_buildTo rfl 61 _ rfl (some 1) rfl #[.int .i64 4, .func (.func 78) #[] #[], .bool false] (by as_aux_lemma => kernel_rfl) ?_
  refine wpList_buildTo rfl 61 _ rfl (some 2) rfl #[.int .i64 5, .func (.func 79) #[] #[], .bool false] (by as_aux_lemma => kernel_rfl) ?_
  refine wpList_buildTo rfl 61 _ rfl (some 3) rfl #[.int .i64 6, .func (.func 80) #[] #[], .bool false] (by as_aux_lemma => kernel_rfl) ?_
  refine wpList_buildTo rfl 61 _ rfl (some 4) rfl #[.int .i64 7, .func (.func 81) #[] #[], .bool false] (by as_aux_lemma => kernel_rfl) ?_
  refine wpList_buildTo rfl 61 _ rfl (some 5) rfl #[.int .i64 8, .func (.func 82) #[] #[], .bool false] (by as_aux_lemma => kernel_rfl) ?_
  refine wpList_buildTo rfl 61 _ rfl (some 6) rfl #[.int .i64 9, .func (.func 83) #[] #[], .bool false] (by as_aux_lemma => kernel_rfl) ?_
  refine wpList_buildTo rfl 61 _ rfl (some 7) rfl #[.int .i64 10, .func (.func 84) #[] #[], .bool true] (by as_aux_lemma => kernel_rfl) ?_
  refine wpList_buildTo rfl 61 _ rfl (some 8) rfl #[.int .i64 11, .func (.func 85) #[] #[], .bool true] (by as_aux_lemma => kernel_rfl) ?_
  refine wpList_buildTo rfl 61 _ rfl (some 9) rfl #[.int .i64 12, .func (.func 86) #[] #[], .bool false] (by as_aux_lemma => kernel_rfl) ?_
  refine wpList_buildTo rfl 61 _ rfl (some 10) rfl #[.int .i64 13, .func (.func 87) #[] #[], .bool false] (by as_aux_lemma => kernel_rfl) ?_
  refine wpList_buildTo rfl 91 _ rfl (some 11) rfl mcells (by as_aux_lemma => kernel_rfl) ?_
  refine wpList_store_rowTo rfl 91 _ _ rfl rfl w.heap.size mcells (by as_aux_lemma => kernel_rfl) (by as_aux_lemma => kernel_rfl) 91 mzero Array.getElem?_push_size (by as_aux_lemma => kernel_rfl) (by as_aux_lemma => kernel_rfl) (by as_aux_lemma => kernel_rfl) ?_
  apply wpList_nil
  refine hK1 _ _ ?_
  clear hK1
  rw [setRow_alloc]
  refine wp_ret (bodyPost_ret (res_arr (t := 91) (e := 61) (n := 10) (d := 0) (i := ((Tryz.prog.info? 91).getD default)) (by as_aux_lemma => kernel_rfl) (by as_aux_lemma => kernel_rfl) (by as_aux_lemma => kernel_rfl) _ w _ (by as_aux_lemma => kernel_rfl) (by as_aux_lemma => kernel_rfl)) (by as_aux_lemma => kernel_rfl) ⟨rfl, (Below.refl _ w).alloc (Nat.le_refl _) _⟩)

theorem ix10 (w : World) : ∀ (i : Nat) (p : Int × Nat × Bool), mot[i]? = some p → (Instr.index 91 (.agg mcells) (.int .i64 i)).run Tryz.prog w = .ok (mrow p) w := by
  intro i p h
  have hi : i < 10 := (List.getElem?_eq_some_iff.1 h).1
  by_cases h0 : i = 0
  · have e : ∀ w : World, (Instr.index 91 (.agg mcells) (.int .i64 0)).run Tryz.prog w = .ok (mrow (4, 78, false)) w := fun w => by kernel_rfl
    subst h0
    rw [← (Option.some.inj h : ((4 : Int), (78 : Nat), false) = p)]
    exact e w
  by_cases h1 : i = 1
  · have e : ∀ w : World, (Instr.index 91 (.agg mcells) (.int .i64 1)).run Tryz.prog w = .ok (mrow (5, 79, false)) w := fun w => by kernel_rfl
    subst h1
    rw [← (Option.some.inj h : ((5 : Int), (79 : Nat), false) = p)]
    exact e w
  by_cases h2 : i = 2
  · have e : ∀ w : World, (Instr.index 91 (.agg mcells) (.int .i64 2)).run Tryz.prog w = .ok (mrow (6, 80, false)) w := fun w => by kernel_rfl
    subst h2
    rw [← (Option.some.inj h : ((6 : Int), (80 : Nat), false) = p)]
    exact e w
  by_cases h3 : i = 3
  · have e : ∀ w : World, (Instr.index 91 (.agg mcells) (.int .i64 3)).run Tryz.prog w = .ok (mrow (7, 81, false)) w := fun w => by kernel_rfl
    subst h3
    rw [← (Option.some.inj h : ((7 : Int), (81 : Nat), false) = p)]
    exact e w
  by_cases h4 : i = 4
  · have e : ∀ w : World, (Instr.index 91 (.agg mcells) (.int .i64 4)).run Tryz.prog w = .ok (mrow (8, 82, false)) w := fun w => by kernel_rfl
    subst h4
    rw [← (Option.some.inj h : ((8 : Int), (82 : Nat), false) = p)]
    exact e w
  by_cases h5 : i = 5
  · have e : ∀ w : World, (Instr.index 91 (.agg mcells) (.int .i64 5)).run Tryz.prog w = .ok (mrow (9, 83, false)) w := fun w => by kernel_rfl
    subst h5
    rw [← (Option.some.inj h : ((9 : Int), (83 : Nat), false) = p)]
    exact e w
  by_cases h6 : i = 6
  · have e : ∀ w : World, (Instr.index 91 (.agg mcells) (.int .i64 6)).run Tryz.prog w = .ok (mrow (10, 84, true)) w := fun w => by kernel_rfl
    subst h6
    rw [← (Option.some.inj h : ((10 : Int), (84 : Nat), true) = p)]
    exact e w
  by_cases h7 : i = 7
  · have e : ∀ w : World, (Instr.index 91 (.agg mcells) (.int .i64 7)).run Tryz.prog w = .ok (mrow (11, 85, true)) w := fun w => by kernel_rfl
    subst h7
    rw [← (Option.some.inj h : ((11 : Int), (85 : Nat), true) = p)]
    exact e w
  by_cases h8 : i = 8
  · have e : ∀ w : World, (Instr.index 91 (.agg mcells) (.int .i64 8)).run Tryz.prog w = .ok (mrow (12, 86, false)) w := fun w => by kernel_rfl
    subst h8
    rw [← (Option.some.inj h : ((12 : Int), (86 : Nat), false) = p)]
    exact e w
  by_cases h9 : i = 9
  · have e : ∀ w : World, (Instr.index 91 (.agg mcells) (.int .i64 9)).run Tryz.prog w = .ok (mrow (13, 87, false)) w := fun w => by kernel_rfl
    subst h9
    rw [← (Option.some.inj h : ((13 : Int), (87 : Nat), false) = p)]
    exact e w
  omega
/-- the answer's box of motionOf -/
structure Mob (w : World) (W : World) : Prop where
  bel : Below w.heap.size w W
  r : W.heap[w.heap.size]? = some (.cells #[.int .i64 0, .nilFunc, .bool false] 61 (0, 0))
theorem Mob.below {w W X : World} (h : Mob w W) (hb : Below W.heap.size W X) : Mob w X :=
  ⟨Below.on h.bel hb, (hb.block _ (Array.getElem?_eq_some_iff.1 h.r).1).trans h.r⟩
theorem Mob.get {w W : World} (h : Mob w W) : (W.cell? ⟨w.heap.size, 0, none⟩ = some (.int .i64 0) ∧ W.cell? ⟨w.heap.size, 1, none⟩ = some .nilFunc ∧ W.cell? ⟨w.heap.size, 2, none⟩ = some (.bool false)) ∧ W.frozen? ⟨w.heap.size, 0, none⟩ = false ∧ W.frozen? ⟨w.heap.size, 1, none⟩ = false ∧ W.frozen? ⟨w.heap.size, 2, none⟩ = false ∧ w.heap.size < W.heap.size :=
  ⟨⟨by simp [World.cell?, h.r], by simp [World.cell?, h.r], by simp [World.cell?, h.r]⟩, by simp [World.frozen?, h.r], by simp [World.frozen?, h.r], by simp [World.frozen?, h.r], (Array.getElem?_eq_some_iff.1 h.r).1⟩
theorem Mob.set {w W : World} (h : Mob w W) (a b c : Value) : Below w.heap.size w (((W.setCell ⟨w.heap.size, 0, none⟩ a).setCell ⟨w.heap.size, 1, none⟩ b).setCell ⟨w.heap.size, 2, none⟩ c) ∧ (((W.setCell ⟨w.heap.size, 0, none⟩ a).setCell ⟨w.heap.size, 1, none⟩ b).setCell ⟨w.heap.size, 2, none⟩ c).heap[w.heap.size]? = some (.cells #[a, b, c] 61 (0, 0)) := by
  have s1 := set1 (i := 0) a h.r
  have s2 := set1 (i := 1) b s1
  have s3 := set1 (i := 2) c s2
  exact ⟨((h.bel.setCell (p := ⟨w.heap.size, 0, none⟩) (by simp) _).setCell (p := ⟨w.heap.size, 1, none⟩) (by simp) _).setCell (p := ⟨w.heap.size, 2, none⟩) (by simp) _, by simpa using s3⟩
def mfind (k : Int) : Option (Int × Nat × Bool) := mot.find? fun p => decide (p.1 = k)
/-- motionOf's answer as a value -/
def mres (k : Int) : Value := match mfind k with
  | some p => .tuple #[mrow p, .bool true]
  | none => .tuple #[.agg #[.int .i64 0, .nilFunc, .bool false], .bool false]
theorem cells3 {W : World} {b : Nat} {x y z : Value} {t : TypeId} (h : W.heap[b]? = some (.cells #[x, y, z] t (0, 0))) : W.cell? ⟨b, 0, none⟩ = some x ∧ W.cell? ⟨b, 1, none⟩ = some y ∧ W.cell? ⟨b, 2, none⟩ = some z := by simp [World.cell?, h]
set_option maxRecDepth 100000 in
set_option maxHeartbeats 1000000 in
theorem motionOf_any (k : Int) (w : World) : Calls Tryz.prog 21 #[.int .i64 k] w fun e w' => e = .returned (mres k) ∧ Below w.heap.size w w' := by
  obtain ⟨W0, hW0⟩ : ∃ W0, w.alloc (.cells #[.int .i64 0, .nilFunc, .bool false] 61) = W0 := ⟨_, rfl⟩
  have HM : Hid (Mob w W0) := by show Mob _ _; rw [← hW0]; exact ⟨(Below.refl _ w).alloc (Nat.le_refl _) _, World.alloc_heap_new _ _⟩
  have C0 : Hid (Calls Tryz.prog 43 #[] W0 fun e w' => e = .returned (.agg mcells) ∧ Hid (Mob w w')) := (motions_any W0).mono fun e W' ⟨q1, q2⟩ => ⟨q1, HM.out.below q2⟩
  have hI := ix10
  obtain ⟨R, hR⟩ : ∃ R, mres k = R := ⟨_, rfl⟩
  have HR : Hid (mres k = R) := hR
  rw [hR]
  clear hR HM
  generalize mcells = A at C0 hI
  go_enter Tryz.func21, Tryz.ntmps21
  go_wp2_with (go_at_call 43; refine C0.out.mono ?_; clear C0 hW0; rintro e w0 ⟨rfl, HM⟩)
  go_loopw [7] (fun t wr => ∃ i : Nat, t = .int .i64 i ∧ i ≤ 10 ∧ Hid (∀ j p, j < i → mot[j]? = some p → p.1 ≠ k) ∧ Hid (Mob w wr)) (fun t _ => 10 - (intOf t).toNat)
  case atStart => exact ⟨0, rfl, Nat.zero_le _, (fun j p h => by omega), HM⟩
  case round =>
    clear HM
    obtain ⟨i, rfl, hi, HN, HM⟩ := hrel
    by_cases hlt : i < 10
    · obtain ⟨p, hp⟩ : ∃ p, mot[i]? = some p := ⟨mot[i]'hlt, List.getElem?_eq_getElem hlt⟩
      have hJ := hI wr i p hp
      have HP : Hid (mot[i]? = some p) := hp
      have hlt' : (i : Int) < 10 := by omega
      clear hI hp
      obtain ⟨k1, f1, b1⟩ := p
      unfold mrow at hJ
      simp only at hJ
      have HA : Hid (Mob w (wr.alloc (.cells #[.int .i64 k1, .func (.func f1) #[] #[], .bool b1] 61))) := HM.out.below ((Below.refl _ wr).alloc (Nat.le_refl _) _)
      have HX : Hid ((wr.alloc (.cells #[.int .i64 k1, .func (.func f1) #[] #[], .bool b1] 61)).heap[wr.heap.size]? = some (.cells #[.int .i64 k1, .func (.func f1) #[] #[], .bool b1] 61 (0, 0))) := World.alloc_heap_new _ _
      by_cases h1 : k1 = k
      · subst h1
        have HF : Hid (R = .tuple #[.agg #[.int .i64 k1, .func (.func f1) #[] #[], .bool b1], .bool true]) := by
          show R = _
          rw [← HR.out]
          unfold mres mfind
          have : mot.find? (fun p => decide (p.1 = k1)) = some (k1, f1, b1) := by
            rw [List.find?_eq_some_iff_getElem]
            refine ⟨by simp, i, hlt, ?_, fun j hj => ?_⟩
            · have := HP.out; rw [List.getElem?_eq_getElem hlt] at this; exact Option.some.inj this
            · have := HN.out j (mot[j]'(by have : mot.length = 10 := rfl; omega)) hj (List.getElem?_eq_getElem _)
              simpa using this
          rw [this]; rfl
        clear HN HP HR
        go_upto_region 4 with fail
        generalize wr.alloc (.cells #[.int .i64 k1, .func (.func f1) #[] #[], .bool b1] 61) = W1 at HA HX ⊢
        obtain ⟨x0, x1, x2⟩ := cells3 HX.out
        obtain ⟨⟨y0, y1, y2⟩, g0, g1, g2, hl⟩ := HA.out.get
        clear HX HM hJ
        go_wp2
        obtain ⟨hS, hT⟩ := HA.out.set (.int .i64 k1) (.func (.func f1) #[] #[]) (.bool b1)
        obtain ⟨z0, z1, z2⟩ := cells3 hT
        rw [HF.out]
        exact bodyPost_ret (v := .tuple #[.agg #[.int .i64 k1, .func (.func f1) #[] #[], .bool b1], .bool true]) (by simp [results, Tryz.results21, go_sem, z0, z1, z2]) rfl ⟨rfl, hS⟩
      · have h1' : (k1 == k) = false := by simp [h1]
        have h1'' : decide (k1 = k) = false := by simp [h1]
        go_upto_region 4 with fail
        generalize wr.alloc (.cells #[.int .i64 k1, .func (.func f1) #[] #[], .bool b1] 61) = W1 at HA HX ⊢
        obtain ⟨x0, x1, x2⟩ := cells3 HX.out
        clear HX HM hJ
        go_wp2
        exact ⟨⟨i + 1, by go_num, by omega, (fun j q hj hq => by
          by_cases e : j = i
          · subst e; rw [HP.out] at hq; cases hq; exact h1
          · exact HN.out j q (by omega) hq), HA⟩, by simp [intOf]; omega⟩
    · have hge : ¬ ((i : Int) < 10) := by omega
      have HF : Hid (R = .tuple #[.agg #[.int .i64 0, .nilFunc, .bool false], .bool false]) := by
        show R = _
        rw [← HR.out]
        unfold mres mfind
        have : mot.find? (fun p => decide (p.1 = k)) = none := by
          rw [List.find?_eq_none]
          intro q hq
          obtain ⟨j, hj⟩ := List.mem_iff_getElem?.1 hq
          have hj' : j < 10 := (List.getElem?_eq_some_iff.1 hj).1
          simpa using HN.out j q (by omega) hj
        rw [this]
      obtain ⟨⟨y0, y1, y2⟩, f0, f1, f2, hl⟩ := HM.out.get
      clear HN HR hI
      go_wp2
      obtain ⟨hS, hT⟩ := HM.out.set (.int .i64 0) .nilFunc (.bool false)
      obtain ⟨z0, z1, z2⟩ := cells3 hT
      rw [HF.out]
      exact bodyPost_ret (v := .tuple #[.agg #[.int .i64 0, .nilFunc, .bool false], .bool false]) (by simp [results, Tryz.results21, go_sem, z0, z1, z2]) rfl ⟨rfl, hS⟩
theorem mres_cases (k : Int) : (∃ f b, mres k = .tuple #[.agg #[.int .i64 k, .func (.func f) #[] #[], .bool b], .bool true] ∧ (k, f, b) ∈ mot ∧ (4 ≤ k ∧ k ≤ 13)) ∨ (mres k = .tuple #[.agg #[.int .i64 0, .nilFunc, .bool false], .bool false] ∧ ¬ (4 ≤ k ∧ k ≤ 13)) := by
  unfold mres
  by_cases h : 4 ≤ k ∧ k ≤ 13
  · refine .inl ?_
    have : k = 4 ∨ k = 5 ∨ k = 6 ∨ k = 7 ∨ k = 8 ∨ k = 9 ∨ k = 10 ∨ k = 11 ∨ k = 12 ∨ k = 13 := by omega
    rcases this with rfl | rfl | rfl | rfl | rfl | rfl | rfl | rfl | rfl | rfl <;> exact ⟨_, _, rfl, by simp [mot], h⟩
  · have e : mfind k = none := by
      unfold mfind
      rw [List.find?_eq_none]
      intro p hp
      simp only [mot, List.mem_cons, List.not_mem_nil, or_false] at hp
      rcases hp with rfl | rfl | rfl | rfl | rfl | rfl | rfl | rfl | rfl | rfl <;> simp <;> omega
    rw [e]
    exact .inr ⟨rfl, h⟩
set_option maxRecDepth 100000 in
set_option maxHeartbeats 1000000 in
theorem Motion_any (k : Int) (w : World) : Calls Tryz.prog 19 #[.int .i64 k] w fun e w' => e = .returned (.bool (decide (4 ≤ k ∧ k ≤ 13))) ∧ Below w.heap.size w w' := by
  have C := motionOf_any k w
  rcases mres_cases k with ⟨f, b, h1, -, h2⟩ | ⟨h1, h2⟩
  · rw [h1] at C
    rw [decide_eq_true h2]
    have C0 : Hid (Calls Tryz.prog 21 #[.int .i64 k] w fun e w' => e = .returned (.tuple #[.agg #[.int .i64 k, .func (.func f) #[] #[], .bool b], .bool true]) ∧ Hid (Below w.heap.size w w')) := C
    clear C h1 h2
    go_enter Tryz.func19, Tryz.ntmps19
    go_wp2_with (go_at_call 21; refine C0.out.mono ?_; clear C0; rintro e w0 ⟨rfl, HB⟩)
    go_ret
    exact ⟨rfl, HB.out.alloc HB.out.size _⟩
  · rw [h1] at C
    rw [decide_eq_false h2]
    have C0 : Hid (Calls Tryz.prog 21 #[.int .i64 k] w fun e w' => e = .returned (.tuple #[.agg #[.int .i64 0, .nilFunc, .bool false], .bool false]) ∧ Hid (Below w.heap.size w w')) := C
    clear C h1 h2
    go_enter Tryz.func19, Tryz.ntmps19
    go_wp2_with (go_at_call 21; refine C0.out.mono ?_; clear C0; rintro e w0 ⟨rfl, HB⟩)
    go_ret
    exact ⟨rfl, HB.out.alloc HB.out.size _⟩
end Go.Proofs.YtplieccalmkloaaGreatDoor.Sto
