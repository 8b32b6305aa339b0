/-
  The walks of package word's begins, held, Ahead and Behind: what WMathG tells. Conditions: the two tables of unicode/utf8 lie as their text lays them; the text can be read.
-/
import Derived.Test.YtiejollfeggeoaaDoorUAt
import Derived.Test.YtiejollfeggeoaaDoorWConA
import Derived.Test.YtiejollfeggeoaaDoorPkC
import Derived.Test.YtiejollfeggeoaaDoorCPlaces
namespace Go.Proofs.YtiejollfeggeoaaDoor
open Go.RowKit Bod Wid

set_option maxRecDepth 100000 in
set_option maxHeartbeats 1000000 in
theorem wbegins_all (s : ByteArray) (i : Int) (hs : s.size ≤ maxLen) (w : World) (hT : Lib.Utf8Tabs 1 2 w) :
    Calls Tryd.prog 27 #[.string s, .int .i64 i] w fun e w' => e = .returned (.bool (atB s i && wch (atC s i))) ∧ Below w.heap.size w w' := by
  have cA := at_any s i hs w hT
  have CW : Hid (∀ c W, Below w.heap.size w W → Calls Tryd.prog 40 #[.int .i32 c] W fun e w' => e = .returned (.bool (wch c)) ∧ Below w.heap.size w w') := fun c W hW => (isword_any c W).mono fun e w' ⟨h1, h2⟩ => ⟨h1, hW.trans (h2.mono hW.size)⟩
  generalize atC s i = c at cA ⊢
  generalize atS s i = z at cA
  cases hb : atB s i with
  | true =>
    rw [hb] at cA
    rw [Bool.true_and]
    go_enter Tryd.func27, Tryd.ntmps27
    go_wp2_with (first | (go_at_call 23; refine cA.mono ?_; clear cA; rintro e w1 ⟨rfl, hb1⟩; have HA : Hid (Below w.heap.size w (w1.alloc (.cells #[.int .i32 c, .int .i64 z] 59))) := hb1.alloc hb1.size _) | (go_at_call 40; refine (CW.out _ _ HA.out).mono ?_; clear CW; rintro e w2 ⟨rfl, hb2⟩))
    go_ret
    exact ⟨rfl, hb2⟩
  | false =>
    rw [hb] at cA
    rw [Bool.false_and]
    go_enter Tryd.func27, Tryd.ntmps27
    go_wp2_with (go_at_call 23; refine cA.mono ?_; clear cA; rintro e w1 ⟨rfl, hb1⟩)
    go_ret
    exact ⟨rfl, hb1.alloc hb1.size _⟩
theorem atB_B {s : ByteArray} {a : Nat} (h : B s a) : (atB s a && wch (atC s a)) = wat s a := by
  unfold atC atB wat
  rw [bd_B h]
  by_cases ha : a < s.size
  · rw [decide_eq_true ha, decide_eq_true (show (a : Int) < s.size by omega)]; rfl
  · rw [decide_eq_false ha, decide_eq_false (show ¬ (a : Int) < s.size by omega)]; rfl
theorem wbegins_any (s : ByteArray) (a : Nat) (hs : s.size ≤ maxLen) (hc : cbZ s a = true) (w : World) (hT : Lib.Utf8Tabs 1 2 w) :
    Calls Tryd.prog 27 #[.string s, .int .i64 a] w fun e w' => e = .returned (.bool (wat s a)) ∧ Below w.heap.size w w' := by
  obtain ⟨m, e, hB⟩ := cb_B hc
  have : a = m := by omega
  subst this
  have := wbegins_all s a hs w hT
  rwa [atB_B hB] at this
/-- an offset as it counts -/
def heldN (s : ByteArray) (i : Int) : Nat := (min (max i 0) s.size).toNat
theorem held_eq (s : ByteArray) (i : Int) : ((heldN s i : Nat) : Int) = min (max i 0) s.size := by unfold heldN; omega
theorem held_le (s : ByteArray) (i : Int) : heldN s i ≤ s.size := by have := held_eq s i; omega
set_option maxRecDepth 100000 in
set_option maxHeartbeats 1000000 in
theorem wheld_any (s : ByteArray) (i : Int) (w : World) : Calls Tryd.prog 74 #[.string s, .int .i64 i] w fun e w' => e = .returned (.int .i64 (heldN s i)) ∧ w = w' := by
  rw [held_eq]
  go_enter Tryd.func74, Tryd.ntmps74
  go_wp2
  go_ret
  exact ⟨rfl, rfl⟩

set_option maxRecDepth 100000 in
set_option maxHeartbeats 2000000 in
/-- the two loops of Ahead, from a boundary on -/
theorem ahead_any (s : ByteArray) (i : Int) (hs : s.size ≤ maxLen) (w : World) (hT : Lib.Utf8Tabs 1 2 w) :
    Calls Tryd.prog 46 #[.string s, .int .i64 i] w fun e w' => e = .returned (.int .i64 (aheadW (words s) s.size (heldN s i))) ∧ Below w.heap.size w w' := by
  have hs' := hs
  unfold maxLen at hs
  have cH := wheld_any s i w
  have hle := held_le s i
  generalize heldN s i = a0 at cH hle ⊢
  have CB : Hid (∀ W, Below w.heap.size w W → Calls Tryd.prog 14 #[.string s, .int .i64 a0] W fun e w' => e = .returned (.bool (cbZ s a0)) ∧ Below w.heap.size w w') := fun W hW => (cbound_any s a0 hs' W (tabs_below hT hW) (by omega)).mono fun e w' ⟨h1, h2⟩ => ⟨h1, hW.trans (h2.mono hW.size)⟩
  have CP : Hid (∀ W, Below w.heap.size w W → Calls Tryd.prog 44 #[.string s, .int .i64 a0] W fun e w' => ∃ m : Nat, e = .returned (.int .i64 m) ∧ IsPrev s a0 m ∧ Below w.heap.size w w') := fun W hW => (cprev_any s a0 hs' W (tabs_below hT hW) (by omega)).mono fun e w' ⟨m, h1, h3, h2⟩ => ⟨m, h1, h3, hW.trans (h2.mono hW.size)⟩
  have CE : Hid (∀ (a : Nat) W, cbZ s a = true → Below w.heap.size w W → Calls Tryd.prog 27 #[.string s, .int .i64 a] W fun e w' => e = .returned (.bool (wat s a)) ∧ Below w.heap.size w w') := fun a W hc hW => (wbegins_any s a hs' hc W (tabs_below hT hW)).mono fun e w' ⟨h1, h2⟩ => ⟨h1, hW.trans (h2.mono hW.size)⟩
  have CN : Hid (∀ (a m : Nat) W, IsNext s a m → Below w.heap.size w W → Calls Tryd.prog 32 #[.string s, .int .i64 a] W fun e w' => e = .returned (.int .i64 m) ∧ Below w.heap.size w w') := fun a m W hn hW => (cnext_any s a hs' W (tabs_below hT hW)).mono fun e w' ⟨m', h1, h3, h2⟩ => ⟨by rw [h1, h3.uniq hn], hW.trans (h2.mono hW.size)⟩
  have HS : Hid (cbZ s a0 = true → ∃ pre post, Fr s a0 pre post ∧ firstW s post = aheadW (words s) s.size a0) := fun hc => by
    obtain ⟨pre, post, hf⟩ := fr_of hc
    exact ⟨pre, post, hf, (ahead_first hf).symm⟩
  have HP : Hid (∀ m : Nat, cbZ s a0 = false → IsPrev s a0 m → ∃ pre post, Fr s m pre post ∧ firstW s post = aheadW (words s) s.size a0) := fun m hc hp => by
    obtain ⟨pre, post, hf⟩ := fr_of hp.cb
    exact ⟨pre, post, hf, by rw [ahead_in hc hp]; exact (ahead_first hf).symm⟩
  generalize aheadW (words s) s.size a0 = V at HS HP ⊢
  cases hc : cbZ s a0 with
  | true =>
    rw [hc] at CB
    obtain ⟨pre0, post0, hf0, hv0⟩ := HS.out hc
    have HF0 : Hid (Fr s a0 pre0 post0) := hf0
    have HV0 : Hid (firstW s post0 = V) := hv0
    clear HS HP CP hc hf0 hv0
    go_enter Tryd.func46, Tryd.ntmps46
    go_wp2_with (first | (go_at_call 74; refine cH.mono ?_; clear cH; rintro e w0 ⟨rfl, rfl⟩) | (go_at_call 14; refine (CB.out _ (Below.refl _ _)).mono ?_; clear CB; rintro e w1 ⟨rfl, hb1⟩))
    go_loopw [1] (fun t wr => ∃ (a : Nat) (pre post : List Clu), t = .int .i64 a ∧ Fr s a pre post ∧ firstW s post = V ∧ Below w.heap.size w wr) (fun t _ => s.size - (intOf t).toNat)
    case atStart => exact ⟨a0, pre0, post0, rfl, HF0.out, HV0.out, hb1⟩
    case round =>
      obtain ⟨a, pre, post, rfl, hf, hv, hB⟩ := hrel
      have hcb := hf.cb
      cases post with
      | nil =>
          have hge : ¬ ((a : Int) < s.size) := by have := hf.done.1; omega
          have HF : Hid (Fr s a pre []) := hf
          have HV2 : Hid (lastTo (wcl s) a [] = V) := by rw [← hv]; exact (first_nil s a hf.done.1).symm
          clear hf hv
          go_wp2
          go_loopw [1] (fun t wr => ∃ (a : Nat) (pre post : List Clu), t = .int .i64 a ∧ Fr s a pre post ∧ lastTo (wcl s) a post = V ∧ Below w.heap.size w wr) (fun t _ => s.size - (intOf t).toNat)
          case atStart => exact ⟨a, pre, [], rfl, HF.out, HV2.out, hB⟩
          case round =>
            clear HF HV2
            obtain ⟨b, pre2, post2, rfl, hf2, hv2, hB2⟩ := hrel
            have hcb2 := hf2.cb
            cases post2 with
            | nil =>
              have cE := CE.out b wr hcb2.1 hB2
              rw [hf2.done.2] at cE
              have HU : Hid (b = V) := hv2
              clear hf2 hv2 CE CN
              go_wp2_with (go_at_call 27; refine cE.mono ?_; clear cE; rintro e w2 ⟨rfl, hb2⟩)
              go_ret
              exact ⟨ret_int (by rw [HU.out]), hb2⟩
            | cons d r2 =>
              obtain ⟨n1, n2, n3, n4, n5⟩ := hf2.next
              have cE := CE.out b wr hcb2.1 hB2
              rw [n5] at cE
              cases hw2 : wcl s d with
              | false =>
                rw [hw2] at cE
                have HU : Hid (b = V) := by show b = V; rw [← hv2]; simp [lastTo, hw2]
                clear hf2 hv2 CE CN n1 n2
                go_wp2_with (go_at_call 27; refine cE.mono ?_; clear cE; rintro e w2 ⟨rfl, hb2⟩)
                go_ret
                exact ⟨ret_int (by rw [HU.out]), hb2⟩
              | true =>
                rw [hw2] at cE
                have HF2 : Hid (Fr s d.to (pre2 ++ [d]) r2) := n2
                have HU : Hid (lastTo (wcl s) d.to r2 = V) := by show _ = V; rw [← hv2]; simp [lastTo, hw2]
                have CM : Hid (∀ W, Below w.heap.size w W → Calls Tryd.prog 32 #[.string s, .int .i64 b] W fun e w' => e = .returned (.int .i64 d.to) ∧ Below w.heap.size w w') := fun W hW => CN.out b d.to W n1 hW
                clear hf2 hv2 CE CN n1 n2 hw2
                go_wp2_with (first | (go_at_call 27; refine cE.mono ?_; clear cE; rintro e w2 ⟨rfl, hb2⟩) | (go_at_call 32; refine (CM.out _ hb2).mono ?_; clear CM; rintro e w3 ⟨rfl, hb3⟩))
                exact ⟨⟨d.to, pre2 ++ [d], r2, rfl, HF2.out, HU.out, hb3⟩, by simp [intOf]; omega⟩
      | cons c r =>
          obtain ⟨n1, n2, n3, n4, n5⟩ := hf.next
          have hlt : (a : Int) < s.size := by omega
          have cE := CE.out a wr hcb.1 hB
          rw [n5] at cE
          cases hw : wcl s c with
          | false =>
            rw [hw] at cE
            have HF : Hid (Fr s c.to (pre ++ [c]) r) := n2
            have HU : Hid (firstW s r = V) := by rw [← hv]; exact (first_not hw).symm
            have CM : Hid (∀ W, Below w.heap.size w W → Calls Tryd.prog 32 #[.string s, .int .i64 a] W fun e w' => e = .returned (.int .i64 c.to) ∧ Below w.heap.size w w') := fun W hW => CN.out a c.to W n1 hW
            clear hf hv CE CN n1 n2 hw
            go_wp2_with (first | (go_at_call 27; refine cE.mono ?_; clear cE; rintro e w1 ⟨rfl, hb1⟩) | (go_at_call 32; refine (CM.out _ hb1).mono ?_; clear CM; rintro e w2 ⟨rfl, hb2⟩))
            exact ⟨⟨c.to, pre ++ [c], r, rfl, HF.out, HU.out, hb2⟩, by simp [intOf]; omega⟩
          | true =>
            rw [hw] at cE
            have HF : Hid (Fr s a pre (c :: r)) := hf
            have HV2 : Hid (lastTo (wcl s) a (c :: r) = V) := by rw [← hv]; exact (first_in a hw).symm
            clear hf hv n1 n2 hw
            go_wp2_with (go_at_call 27; refine cE.mono ?_; clear cE; rintro e w1 ⟨rfl, hb1⟩)
            go_loopw [1] (fun t wr => ∃ (a : Nat) (pre post : List Clu), t = .int .i64 a ∧ Fr s a pre post ∧ lastTo (wcl s) a post = V ∧ Below w.heap.size w wr) (fun t _ => s.size - (intOf t).toNat)
            case atStart => exact ⟨a, pre, (c :: r), rfl, HF.out, HV2.out, hb1⟩
            case round =>
              clear HF HV2
              obtain ⟨b, pre2, post2, rfl, hf2, hv2, hB2⟩ := hrel
              have hcb2 := hf2.cb
              cases post2 with
              | nil =>
                have cE := CE.out b wr hcb2.1 hB2
                rw [hf2.done.2] at cE
                have HU : Hid (b = V) := hv2
                clear hf2 hv2 CE CN
                go_wp2_with (go_at_call 27; refine cE.mono ?_; clear cE; rintro e w2 ⟨rfl, hb2⟩)
                go_ret
                exact ⟨ret_int (by rw [HU.out]), hb2⟩
              | cons d r2 =>
                obtain ⟨n1, n2, n3, n4, n5⟩ := hf2.next
                have cE := CE.out b wr hcb2.1 hB2
                rw [n5] at cE
                cases hw2 : wcl s d with
                | false =>
                  rw [hw2] at cE
                  have HU : Hid (b = V) := by show b = V; rw [← hv2]; simp [lastTo, hw2]
                  clear hf2 hv2 CE CN n1 n2
                  go_wp2_with (go_at_call 27; refine cE.mono ?_; clear cE; rintro e w2 ⟨rfl, hb2⟩)
                  go_ret
                  exact ⟨ret_int (by rw [HU.out]), hb2⟩
                | true =>
                  rw [hw2] at cE
                  have HF2 : Hid (Fr s d.to (pre2 ++ [d]) r2) := n2
                  have HU : Hid (lastTo (wcl s) d.to r2 = V) := by show _ = V; rw [← hv2]; simp [lastTo, hw2]
                  have CM : Hid (∀ W, Below w.heap.size w W → Calls Tryd.prog 32 #[.string s, .int .i64 b] W fun e w' => e = .returned (.int .i64 d.to) ∧ Below w.heap.size w w') := fun W hW => CN.out b d.to W n1 hW
                  clear hf2 hv2 CE CN n1 n2 hw2
                  go_wp2_with (first | (go_at_call 27; refine cE.mono ?_; clear cE; rintro e w2 ⟨rfl, hb2⟩) | (go_at_call 32; refine (CM.out _ hb2).mono ?_; clear CM; rintro e w3 ⟨rfl, hb3⟩))
                  exact ⟨⟨d.to, pre2 ++ [d], r2, rfl, HF2.out, HU.out, hb3⟩, by simp [intOf]; omega⟩

  | false =>
    rw [hc] at CB
    have HP' : Hid (∀ m : Nat, IsPrev s a0 m → ∃ pre post, Fr s m pre post ∧ firstW s post = V) := fun m hp => HP.out m hc hp
    clear HS HP hc
    go_enter Tryd.func46, Tryd.ntmps46
    go_wp2_with (first | (go_at_call 74; refine cH.mono ?_; clear cH; rintro e w0 ⟨rfl, rfl⟩) | (go_at_call 14; refine (CB.out _ (Below.refl _ _)).mono ?_; clear CB; rintro e w1 ⟨rfl, hb1⟩) | (go_at_call 44; refine (CP.out _ hb1).mono ?_; clear CP; rintro e w2 ⟨a1, rfl, hp1, hb2⟩; obtain ⟨pre0, post0, hf0, hv0⟩ := HP'.out a1 hp1; have HF0 : Hid (Fr s a1 pre0 post0) := hf0; have HV0 : Hid (firstW s post0 = V) := hv0; clear HP' hf0 hv0 hp1))
    go_loopw [1] (fun t wr => ∃ (a : Nat) (pre post : List Clu), t = .int .i64 a ∧ Fr s a pre post ∧ firstW s post = V ∧ Below w.heap.size w wr) (fun t _ => s.size - (intOf t).toNat)
    case atStart => exact ⟨a1, pre0, post0, rfl, HF0.out, HV0.out, hb2⟩
    case round =>
      obtain ⟨a, pre, post, rfl, hf, hv, hB⟩ := hrel
      have hcb := hf.cb
      cases post with
      | nil =>
          have hge : ¬ ((a : Int) < s.size) := by have := hf.done.1; omega
          have HF : Hid (Fr s a pre []) := hf
          have HV2 : Hid (lastTo (wcl s) a [] = V) := by rw [← hv]; exact (first_nil s a hf.done.1).symm
          clear hf hv
          go_wp2
          go_loopw [1] (fun t wr => ∃ (a : Nat) (pre post : List Clu), t = .int .i64 a ∧ Fr s a pre post ∧ lastTo (wcl s) a post = V ∧ Below w.heap.size w wr) (fun t _ => s.size - (intOf t).toNat)
          case atStart => exact ⟨a, pre, [], rfl, HF.out, HV2.out, hB⟩
          case round =>
            clear HF HV2
            obtain ⟨b, pre2, post2, rfl, hf2, hv2, hB2⟩ := hrel
            have hcb2 := hf2.cb
            cases post2 with
            | nil =>
              have cE := CE.out b wr hcb2.1 hB2
              rw [hf2.done.2] at cE
              have HU : Hid (b = V) := hv2
              clear hf2 hv2 CE CN
              go_wp2_with (go_at_call 27; refine cE.mono ?_; clear cE; rintro e w2 ⟨rfl, hb2⟩)
              go_ret
              exact ⟨ret_int (by rw [HU.out]), hb2⟩
            | cons d r2 =>
              obtain ⟨n1, n2, n3, n4, n5⟩ := hf2.next
              have cE := CE.out b wr hcb2.1 hB2
              rw [n5] at cE
              cases hw2 : wcl s d with
              | false =>
                rw [hw2] at cE
                have HU : Hid (b = V) := by show b = V; rw [← hv2]; simp [lastTo, hw2]
                clear hf2 hv2 CE CN n1 n2
                go_wp2_with (go_at_call 27; refine cE.mono ?_; clear cE; rintro e w2 ⟨rfl, hb2⟩)
                go_ret
                exact ⟨ret_int (by rw [HU.out]), hb2⟩
              | true =>
                rw [hw2] at cE
                have HF2 : Hid (Fr s d.to (pre2 ++ [d]) r2) := n2
                have HU : Hid (lastTo (wcl s) d.to r2 = V) := by show _ = V; rw [← hv2]; simp [lastTo, hw2]
                have CM : Hid (∀ W, Below w.heap.size w W → Calls Tryd.prog 32 #[.string s, .int .i64 b] W fun e w' => e = .returned (.int .i64 d.to) ∧ Below w.heap.size w w') := fun W hW => CN.out b d.to W n1 hW
                clear hf2 hv2 CE CN n1 n2 hw2
                go_wp2_with (first | (go_at_call 27; refine cE.mono ?_; clear cE; rintro e w2 ⟨rfl, hb2⟩) | (go_at_call 32; refine (CM.out _ hb2).mono ?_; clear CM; rintro e w3 ⟨rfl, hb3⟩))
                exact ⟨⟨d.to, pre2 ++ [d], r2, rfl, HF2.out, HU.out, hb3⟩, by simp [intOf]; omega⟩
      | cons c r =>
          obtain ⟨n1, n2, n3, n4, n5⟩ := hf.next
          have hlt : (a : Int) < s.size := by omega
          have cE := CE.out a wr hcb.1 hB
          rw [n5] at cE
          cases hw : wcl s c with
          | false =>
            rw [hw] at cE
            have HF : Hid (Fr s c.to (pre ++ [c]) r) := n2
            have HU : Hid (firstW s r = V) := by rw [← hv]; exact (first_not hw).symm
            have CM : Hid (∀ W, Below w.heap.size w W → Calls Tryd.prog 32 #[.string s, .int .i64 a] W fun e w' => e = .returned (.int .i64 c.to) ∧ Below w.heap.size w w') := fun W hW => CN.out a c.to W n1 hW
            clear hf hv CE CN n1 n2 hw
            go_wp2_with (first | (go_at_call 27; refine cE.mono ?_; clear cE; rintro e w1 ⟨rfl, hb1⟩) | (go_at_call 32; refine (CM.out _ hb1).mono ?_; clear CM; rintro e w2 ⟨rfl, hb2⟩))
            exact ⟨⟨c.to, pre ++ [c], r, rfl, HF.out, HU.out, hb2⟩, by simp [intOf]; omega⟩
          | true =>
            rw [hw] at cE
            have HF : Hid (Fr s a pre (c :: r)) := hf
            have HV2 : Hid (lastTo (wcl s) a (c :: r) = V) := by rw [← hv]; exact (first_in a hw).symm
            clear hf hv n1 n2 hw
            go_wp2_with (go_at_call 27; refine cE.mono ?_; clear cE; rintro e w1 ⟨rfl, hb1⟩)
            go_loopw [1] (fun t wr => ∃ (a : Nat) (pre post : List Clu), t = .int .i64 a ∧ Fr s a pre post ∧ lastTo (wcl s) a post = V ∧ Below w.heap.size w wr) (fun t _ => s.size - (intOf t).toNat)
            case atStart => exact ⟨a, pre, (c :: r), rfl, HF.out, HV2.out, hb1⟩
            case round =>
              clear HF HV2
              obtain ⟨b, pre2, post2, rfl, hf2, hv2, hB2⟩ := hrel
              have hcb2 := hf2.cb
              cases post2 with
              | nil =>
                have cE := CE.out b wr hcb2.1 hB2
                rw [hf2.done.2] at cE
                have HU : Hid (b = V) := hv2
                clear hf2 hv2 CE CN
                go_wp2_with (go_at_call 27; refine cE.mono ?_; clear cE; rintro e w2 ⟨rfl, hb2⟩)
                go_ret
                exact ⟨ret_int (by rw [HU.out]), hb2⟩
              | cons d r2 =>
                obtain ⟨n1, n2, n3, n4, n5⟩ := hf2.next
                have cE := CE.out b wr hcb2.1 hB2
                rw [n5] at cE
                cases hw2 : wcl s d with
                | false =>
                  rw [hw2] at cE
                  have HU : Hid (b = V) := by show b = V; rw [← hv2]; simp [lastTo, hw2]
                  clear hf2 hv2 CE CN n1 n2
                  go_wp2_with (go_at_call 27; refine cE.mono ?_; clear cE; rintro e w2 ⟨rfl, hb2⟩)
                  go_ret
                  exact ⟨ret_int (by rw [HU.out]), hb2⟩
                | true =>
                  rw [hw2] at cE
                  have HF2 : Hid (Fr s d.to (pre2 ++ [d]) r2) := n2
                  have HU : Hid (lastTo (wcl s) d.to r2 = V) := by show _ = V; rw [← hv2]; simp [lastTo, hw2]
                  have CM : Hid (∀ W, Below w.heap.size w W → Calls Tryd.prog 32 #[.string s, .int .i64 b] W fun e w' => e = .returned (.int .i64 d.to) ∧ Below w.heap.size w w') := fun W hW => CN.out b d.to W n1 hW
                  clear hf2 hv2 CE CN n1 n2 hw2
                  go_wp2_with (first | (go_at_call 27; refine cE.mono ?_; clear cE; rintro e w2 ⟨rfl, hb2⟩) | (go_at_call 32; refine (CM.out _ hb2).mono ?_; clear CM; rintro e w3 ⟨rfl, hb3⟩))
                  exact ⟨⟨d.to, pre2 ++ [d], r2, rfl, HF2.out, HU.out, hb3⟩, by simp [intOf]; omega⟩

/-- where the run of word clusters at the end of pre begins; a, if there is none -/
def runW (s : ByteArray) (a : Nat) (pre : List Clu) : Nat := match pre.getLast? with
  | some c => if wcl s c then lastW s pre else a
  | none => a
theorem run_stop {s : ByteArray} {a : Nat} {q : List Clu} {d : Clu} (h : wcl s d = false) : runW s a (q ++ [d]) = a := by simp [runW, h]
theorem Bh.le {s : ByteArray} {a : Nat} {pre : List Clu} (h : Bh s a pre) : a ≤ s.size := by
  obtain ⟨⟨m, post, hf, hm⟩, _, _⟩ := h
  have := hf.cb.2
  omega
theorem run_last {s : ByteArray} {a : Nat} {q : List Clu} {d : Clu} (h : wcl s d = true) : runW s a (q ++ [d]) = lastW s (q ++ [d]) := by simp [runW, h]
theorem run_go {s : ByteArray} {a : Nat} {q : List Clu} {d : Clu} (hb : Bh s a (q ++ [d])) (h : wcl s d = true) : runW s a (q ++ [d]) = runW s d.fr q := by
  obtain ⟨⟨m, post, hf, hm⟩, _, _⟩ := hb
  rw [run_last h]
  rcases List.eq_nil_or_concat q with e | ⟨p, c, e⟩
  · subst e
    rw [last_new hf.l h (.inl rfl)]
    rfl
  · rw [List.concat_eq_append] at e
    subst e
    cases hc : wcl s c with
    | true => rw [last_on hf.l h hc, run_last hc]
    | false => rw [last_new hf.l h (.inr ⟨p, c, rfl, hc⟩), run_stop hc]

set_option maxRecDepth 100000 in
set_option maxHeartbeats 2000000 in
theorem behind_any (s : ByteArray) (i : Int) (hs : s.size ≤ maxLen) (w : World) (hT : Lib.Utf8Tabs 1 2 w) :
    Calls Tryd.prog 47 #[.string s, .int .i64 i] w fun e w' => e = .returned (.int .i64 (behindW (words s) (heldN s i))) ∧ Below w.heap.size w w' := by
  have hs' := hs
  unfold maxLen at hs
  have cH := wheld_any s i w
  have hle := held_le s i
  generalize heldN s i = a0 at cH hle ⊢
  have CE : Hid (∀ (a : Nat) W, cbZ s a = true → Below w.heap.size w W → Calls Tryd.prog 27 #[.string s, .int .i64 a] W fun e w' => e = .returned (.bool (wat s a)) ∧ Below w.heap.size w w') := fun a W hc hW => (wbegins_any s a hs' hc W (tabs_below hT hW)).mono fun e w' ⟨h1, h2⟩ => ⟨h1, hW.trans (h2.mono hW.size)⟩
  have CP : Hid (∀ (a m : Nat) W, a ≤ s.size → IsPrev s a m → Below w.heap.size w W → Calls Tryd.prog 44 #[.string s, .int .i64 a] W fun e w' => e = .returned (.int .i64 m) ∧ Below w.heap.size w w') := fun a m W ha hn hW => (cprev_any s a hs' W (tabs_below hT hW) (by omega)).mono fun e w' ⟨m', h1, h3, h2⟩ => ⟨by rw [h1, h3.uniq hn], hW.trans (h2.mono hW.size)⟩
  obtain ⟨pre0, hb0⟩ := bh_of hle
  have HV0 : Hid (lastW s pre0 = behindW (words s) a0) := (behind_last hb0).symm
  have HF0 : Hid (Bh s a0 pre0) := hb0
  generalize behindW (words s) a0 = V at HV0 ⊢
  clear hb0
  go_enter Tryd.func47, Tryd.ntmps47
  go_wp2_with (go_at_call 74; refine cH.mono ?_; clear cH; rintro e w0 ⟨rfl, rfl⟩)
  go_loopw [1] (fun t wr => ∃ (a : Nat) (pre : List Clu), t = .int .i64 a ∧ Bh s a pre ∧ lastW s pre = V ∧ Below w.heap.size w wr) (fun t _ => (intOf t).toNat)
  case atStart => exact ⟨a0, pre0, rfl, HF0.out, HV0.out, Below.refl _ _⟩
  case round =>
    obtain ⟨a, pre, rfl, hf, hv, hB⟩ := hrel
    rcases List.eq_nil_or_concat pre with e1 | ⟨q, c, e1⟩
    · subst e1
      have h0 := hf.none rfl
      subst h0
      have HU : Hid ((0 : Nat) = V) := hv
      clear hf hv CE CP
      go_wp2
      go_loopw [1] (fun t wr => t = .int .i64 0 ∧ Below w.heap.size w wr) (fun _ _ => 0)
      case atStart => exact ⟨rfl, hB⟩
      case round =>
        obtain ⟨rfl, hB2⟩ := hrel
        go_wp2
        go_ret
        exact ⟨ret_int (by rw [← HU.out]; rfl), hB2⟩
    · rw [List.concat_eq_append] at e1
      subst e1
      obtain ⟨m1, ⟨post, m2⟩, m3, m4, m5⟩ := hf.prev
      have hale := hf.le
      have hpos : (0 : Int) < a := by omega
      have cP := CP.out a c.fr wr (by omega) m1 hB
      have CEd : Hid (∀ W, Below w.heap.size w W → Calls Tryd.prog 27 #[.string s, .int .i64 c.fr] W fun e w' => e = .returned (.bool (wcl s c)) ∧ Below w.heap.size w w') := fun W hW => by
        have := CE.out c.fr W m1.cb hW
        rwa [m5] at this
      cases hw : wcl s c with
      | false =>
        rw [hw] at CEd
        have HF : Hid (Bh s c.fr q) := bh_fr m2
        have HU : Hid (lastW s q = V) := by
          show _ = V
          rw [← hv]
          obtain ⟨⟨m, post, hff, hm⟩, _, _⟩ := hf
          exact (last_not hff.l hw).symm
        have CQ : Hid (∀ W, Below w.heap.size w W → Calls Tryd.prog 44 #[.string s, .int .i64 a] W fun e w' => e = .returned (.int .i64 c.fr) ∧ Below w.heap.size w w') := fun W hW => CP.out a c.fr W (by omega) m1 hW
        clear hf hv CE CP m1 m2 hw
        go_wp2_with (first | (go_at_call 44; refine cP.mono ?_; clear cP; rintro e w2 ⟨rfl, hb2⟩) | (go_at_call 27; refine (CEd.out _ hb2).mono ?_; clear CEd; rintro e w3 ⟨rfl, hb3⟩) | (go_at_call 44; refine (CQ.out _ hb3).mono ?_; clear CQ; rintro e w4 ⟨rfl, hb4⟩))
        exact ⟨⟨c.fr, q, rfl, HF.out, HU.out, hb4⟩, by simp [intOf]; omega⟩
      | true =>
        rw [hw] at CEd
        have HF : Hid (Bh s a (q ++ [c])) := hf
        have HV2 : Hid (runW s a (q ++ [c]) = V) := by show _ = V; rw [← hv]; exact run_last hw
        clear hf hv m1 m2 hw
        go_wp2_with (first | (go_at_call 44; refine cP.mono ?_; clear cP; rintro e w2 ⟨rfl, hb2⟩) | (go_at_call 27; refine (CEd.out _ hb2).mono ?_; clear CEd; rintro e w3 ⟨rfl, hb3⟩))
        go_loopw [1] (fun t wr => ∃ (a : Nat) (pre : List Clu), t = .int .i64 a ∧ Bh s a pre ∧ runW s a pre = V ∧ Below w.heap.size w wr) (fun t _ => (intOf t).toNat)
        case atStart => exact ⟨a, q ++ [c], rfl, HF.out, HV2.out, hb3⟩
        case round =>
          clear HF HV2
          obtain ⟨b, pre2, rfl, hf2, hv2, hB2⟩ := hrel
          rcases List.eq_nil_or_concat pre2 with e2 | ⟨q2, d, e2⟩
          · subst e2
            have h0 := hf2.none rfl
            subst h0
            have HU : Hid ((0 : Nat) = V) := hv2
            clear hf2 hv2 CE CP
            go_wp2
            go_ret
            exact ⟨ret_int (by rw [HU.out]), hB2⟩
          · rw [List.concat_eq_append] at e2
            subst e2
            obtain ⟨m1, ⟨post2, m2⟩, m3, m4, m5⟩ := hf2.prev
            have hble := hf2.le
            have hpos : (0 : Int) < b := by omega
            have cP := CP.out b d.fr wr (by omega) m1 hB2
            have CEd : Hid (∀ W, Below w.heap.size w W → Calls Tryd.prog 27 #[.string s, .int .i64 d.fr] W fun e w' => e = .returned (.bool (wcl s d)) ∧ Below w.heap.size w w') := fun W hW => by
              have := CE.out d.fr W m1.cb hW
              rwa [m5] at this
            cases hw2 : wcl s d with
            | false =>
              rw [hw2] at CEd
              have HU : Hid (b = V) := by show b = V; rw [← hv2]; exact (run_stop hw2).symm
              clear hf2 hv2 CE CP m1 m2 hw2
              go_wp2_with (first | (go_at_call 44; refine cP.mono ?_; clear cP; rintro e w2 ⟨rfl, hb2⟩) | (go_at_call 27; refine (CEd.out _ hb2).mono ?_; clear CEd; rintro e w3 ⟨rfl, hb3⟩))
              go_ret
              exact ⟨ret_int (by rw [HU.out]), hb3⟩
            | true =>
              rw [hw2] at CEd
              have HF2 : Hid (Bh s d.fr q2) := bh_fr m2
              have HU : Hid (runW s d.fr q2 = V) := by show _ = V; rw [← hv2]; exact (run_go hf2 hw2).symm
              have CQ : Hid (∀ W, Below w.heap.size w W → Calls Tryd.prog 44 #[.string s, .int .i64 b] W fun e w' => e = .returned (.int .i64 d.fr) ∧ Below w.heap.size w w') := fun W hW => CP.out b d.fr W (by omega) m1 hW
              clear hf2 hv2 CE CP m1 m2 hw2
              go_wp2_with (first | (go_at_call 44; refine cP.mono ?_; clear cP; rintro e w2 ⟨rfl, hb2⟩) | (go_at_call 27; refine (CEd.out _ hb2).mono ?_; clear CEd; rintro e w3 ⟨rfl, hb3⟩) | (go_at_call 44; refine (CQ.out _ hb3).mono ?_; clear CQ; rintro e w4 ⟨rfl, hb4⟩))
              exact ⟨⟨d.fr, q2, rfl, HF2.out, HU.out, hb4⟩, by simp [intOf]; omega⟩

end Go.Proofs.YtiejollfeggeoaaDoor
