/-
  The walk of the law MoveEnds: over a nil store all is as of an empty text. Conditions: the two tables of unicode/utf8 lie as their text lays them.
-/
import Derived.Test.YtenkmidlipjobaaGreatDoorPkQB
import Derived.Test.YtenkmidlipjobaaGreatDoorPkQR
namespace Go.Proofs.YtenkmidlipjobaaGreatDoor.Sto
open Go.RowKit Go.Shelf Bod Wid

theorem sp_boxE {W : World} {x y : Int} {X : World} (h : Below (W.alloc (.cells #[.int .i64 x, .int .i64 y] 32)).heap.size (W.alloc (.cells #[.int .i64 x, .int .i64 y] 32)) X) : X.cell? ⟨W.heap.size, 0, none⟩ = some (.int .i64 x) ∧ X.cell? ⟨W.heap.size, 1, none⟩ = some (.int .i64 y) := by
  have e := World.alloc_heap_new W (.cells #[.int .i64 x, .int .i64 y] 32)
  have := (h.block _ (Array.getElem?_eq_some_iff.1 e).1).trans e
  simp [World.cell?, this]
theorem sv_nil {w : World} (hE : Ev w) : Sv w (.pointer none) ⟨#[]⟩ := ⟨⟨none, k0, .gap none Gap.g0 0, .inl ⟨rfl, rfl, rfl⟩, ⟨rfl, rfl, rfl⟩, rfl⟩, hE⟩
theorem col_nil (i : Int) : colF ⟨#[]⟩ (snp ⟨#[]⟩ i) = 0 := by
  have h := col_bd (snp_is ⟨#[]⟩ i).cb
  have e : (ByteArray.mk #[]).size = 0 := rfl
  rw [e] at h
  omega
theorem plc_nil (l c : Int) : plcF ⟨#[]⟩ (hl ⟨#[]⟩ l) c = 0 := by
  have h := (plc_cb (s := ⟨#[]⟩) (c := c) (hl_in ⟨#[]⟩ l)).2.2
  have e : (ByteArray.mk #[]).size = 0 := rfl
  rw [e] at h
  omega
set_option maxRecDepth 100000 in
set_option maxHeartbeats 4000000 in
theorem ends_walk (kk i gl n l : Int) (hi : i ≤ 9223372036854775807) (hg : gl ≤ 9223372036854775807) (w : World) (hE : Ev w) :
    Calls Tryz.prog 7 #[.int .i64 kk, .int .i64 i, .int .i64 gl, .int .i64 n, .int .i64 l] w fun e W' => e = .returned (.bool true) ∧ Below w.heap.size w W' := by
  have hM : Tryz.prog.follows .mixedOrders = true := by kernel_rfl
  have CA : Hid (Calls Tryz.prog 9 #[] w fun e W' => e = .returned (.bool true) ∧ Hid (Below w.heap.size w W')) := goes_any hM w hE
  have HM : Hid (Tryz.prog.follows .mixedOrders = true) := hM
  have HZ : Hid (Ev w ∧ i ≤ 9223372036854775807 ∧ gl ≤ 9223372036854775807) := ⟨hE, hi, hg⟩
  clear hE hM hi hg
  go_enter Tryz.func7, Tryz.ntmps7
  go_wp2_with (go_at_call 9; refine CA.out.mono ?_; clear CA; rintro e w1 ⟨rfl, HB⟩)
  have HA : Hid (Below w.heap.size w (w1.alloc (.cells #[.int .i64 kk, .int .i64 10, .int .i64 5, .int .i64 9] 25))) := HB.out.alloc HB.out.size _
  have HK : Hid (∀ W, Below (w1.alloc (.cells #[.int .i64 kk, .int .i64 10, .int .i64 5, .int .i64 9] 25)).heap.size (w1.alloc (.cells #[.int .i64 kk, .int .i64 10, .int .i64 5, .int .i64 9] 25)) W → ∀ j : Nat, j < 4 → ∃ k : Int, W.cell? ⟨w1.heap.size, j, none⟩ = some (.int .i64 k)) := fun W hW j hj => by
    have e := World.alloc_heap_new w1 (.cells #[.int .i64 kk, .int .i64 10, .int .i64 5, .int .i64 9] 25)
    have := (hW.block _ (Array.getElem?_eq_some_iff.1 e).1).trans e
    have hj' : j = 0 ∨ j = 1 ∨ j = 2 ∨ j = 3 := by omega
    rcases hj' with rfl | rfl | rfl | rfl
    · exact ⟨kk, by simp [World.cell?, this]⟩
    · exact ⟨10, by simp [World.cell?, this]⟩
    · exact ⟨5, by simp [World.cell?, this]⟩
    · exact ⟨9, by simp [World.cell?, this]⟩
  obtain ⟨bk, hbk⟩ : ∃ bk, w1.heap.size = bk := ⟨_, rfl⟩
  rw [hbk] at HK ⊢
  generalize w1.alloc (.cells #[.int .i64 kk, .int .i64 10, .int .i64 5, .int .i64 9] 25) = X at HA HK ⊢
  have HY : Hid (Below X.heap.size X X) := Below.refl _ _
  have HV : Hid (∀ W, Below X.heap.size X W → Sv W (.pointer none) ⟨#[]⟩) := fun W hW => sv_nil (HZ.out.1.below (Below.on HA.out hW))
  clear HB hbk
  go_loopw [29] (fun t wr => ∃ j : Nat, t = .int .i64 j ∧ j ≤ 4 ∧ Hid (Below X.heap.size X wr)) (fun t _ => 4 - (Go.RowKit.intOf t).toNat)
  case atStart => exact ⟨0, rfl, by omega, HY⟩
  case round =>
    clear HY
    obtain ⟨j, rfl, hj, HR⟩ := hrel
    by_cases hlt : j < 4
    · have hlt' : (j : Int) < 4 := by omega
      obtain ⟨k, x0⟩ := HK.out wr HR.out j hlt
      have C1 : Hid (∀ W, Hid (Below X.heap.size X W) → Calls Tryz.prog 11 #[.pointer none, .int .i64 k, .int .i64 i, .int .i64 gl, .int .i64 n] W fun e W' => e = .returned (.tuple #[.int .i64 (goP ⟨#[]⟩ k i gl n).1, .int .i64 (goP ⟨#[]⟩ k i gl n).2.1, .int .i64 (goP ⟨#[]⟩ k i gl n).2.2]) ∧ Hid (Below X.heap.size X W')) := fun W hW => (Go_any HM.out (HV.out W hW.out) k i gl n HZ.out.2.1 HZ.out.2.2).mono fun e W' ⟨q1, q2⟩ => ⟨q1, Below.on hW.out q2⟩
      have C2 : Hid (∀ W, Hid (Below X.heap.size X W) → Calls Tryz.prog 12 #[.string ⟨#[]⟩, .int .i64 k, .int .i64 i, .int .i64 gl, .int .i64 n] W fun e W' => e = .returned (.tuple #[.int .i64 (goP ⟨#[]⟩ k i gl n).1, .int .i64 (goP ⟨#[]⟩ k i gl n).2.1, .int .i64 (goP ⟨#[]⟩ k i gl n).2.2]) ∧ Hid (Below X.heap.size X W')) := fun W hW => (rGo_any ⟨#[]⟩ (by decide) k i gl n W).mono fun e W' ⟨q1, q2⟩ => ⟨q1, Below.on hW.out q2⟩
      have C5 : Hid (∀ W, Hid (Below X.heap.size X W) → Calls Tryz.prog 15 #[.pointer none, .int .i64 k, .int .i64 i, .int .i64 n] W fun e W' => e = .returned (spV ⟨#[]⟩ k i n) ∧ Hid (Below X.heap.size X W')) := fun W hW => (Span_any HM.out (HV.out W hW.out) k i n HZ.out.2.1).mono fun e W' ⟨q1, q2⟩ => ⟨q1, Below.on hW.out q2⟩
      have C6 : Hid (∀ W, Calls Tryz.prog 16 #[.string ⟨#[]⟩, .int .i64 k, .int .i64 i, .int .i64 n] W fun e W' => e = .returned (spV ⟨#[]⟩ k i n) ∧ Hid (Below W.heap.size W W')) := fun W => rSpan_any ⟨#[]⟩ (by decide) k i n W
      unfold spV at C5 C6
      generalize goP ⟨#[]⟩ k i gl n = R at C1 C2
      generalize spP ⟨#[]⟩ k i n = P at C5 C6
      obtain ⟨r1, r2, r3⟩ := R
      obtain ⟨⟨p1, p2⟩, p3⟩ := P
      simp only at C1 C2 C5 C6
      go_upto_region 10 with (first
        | (go_at_call 11; refine (C1.out _ HR).mono ?_; clear C1 HR x0; rintro e w3 ⟨rfl, HR⟩)
        | (go_at_call 12; refine (C2.out _ HR).mono ?_; clear C2 HR; rintro e w4 ⟨rfl, HR⟩)
        | (go_at_call 15; refine (C5.out _ HR).mono ?_; clear C5 HR; rintro e w7 ⟨rfl, HR⟩))
      have HA1 : Hid (Below X.heap.size X (w7.alloc (.cells #[.int .i64 p1, .int .i64 p2] 32))) := HR.out.alloc HR.out.size _
      have HC : Hid (∀ W, Below (w7.alloc (.cells #[.int .i64 p1, .int .i64 p2] 32)).heap.size (w7.alloc (.cells #[.int .i64 p1, .int .i64 p2] 32)) W → W.cell? ⟨w7.heap.size, 0, none⟩ = some (.int .i64 p1) ∧ W.cell? ⟨w7.heap.size, 1, none⟩ = some (.int .i64 p2)) := fun W hW => sp_boxE hW
      generalize w7.alloc (.cells #[.int .i64 p1, .int .i64 p2] 32) = W1 at HA1 HC ⊢
      go_upto_region 11 with (go_at_call 16; refine (C6.out _).mono ?_; clear C6; rintro e w8 ⟨rfl, HB⟩)
      have HD : Hid (Below W1.heap.size W1 (w8.alloc (.cells #[.int .i64 p1, .int .i64 p2] 32))) := HB.out.alloc HB.out.size _
      obtain ⟨y0, y1⟩ := sp_boxE (W := w8) (x := p1) (y := p2) (Below.refl _ _)
      obtain ⟨z0, z1⟩ := HC.out _ HD.out
      have HF : Hid (Below X.heap.size X (w8.alloc (.cells #[.int .i64 p1, .int .i64 p2] 32))) := Below.on HA1.out HD.out
      generalize w8.alloc (.cells #[.int .i64 p1, .int .i64 p2] 32) = W2 at HD HF y0 y1 z0 z1 ⊢
      clear HC HA1 HB HR HD
      go_wp2
      exact ⟨⟨j + 1, by go_num, by omega, HF⟩, by simp [Go.RowKit.intOf]; omega⟩
    · obtain rfl : j = 4 := by omega
      have C7 : Hid (∀ W, Hid (Below X.heap.size X W) → Calls Tryz.prog 18 #[.pointer none, .int .i64 i] W fun e W' => e = .returned (.int .i64 0) ∧ Hid (Below X.heap.size X W')) := fun W hW => (Column_any HM.out (HV.out W hW.out) i HZ.out.2.1).mono fun e W' ⟨q1, q2⟩ => ⟨by rw [q1, col_nil], Below.on hW.out q2⟩
      have C8 : Hid (∀ W, Hid (Below X.heap.size X W) → Calls Tryz.prog 20 #[.pointer none, .int .i64 l, .int .i64 gl] W fun e W' => e = .returned (.int .i64 0) ∧ Hid (Below X.heap.size X W')) := fun W hW => (Place_any HM.out (HV.out W hW.out) l gl HZ.out.2.2).mono fun e W' ⟨q1, q2⟩ => ⟨by rw [q1, plc_nil]; rfl, Below.on hW.out q2⟩
      go_wp2_with (first
        | (go_at_call 18; refine (C7.out _ HR).mono ?_; clear C7 HR; rintro e w5 ⟨rfl, HR⟩)
        | (go_at_call 20; refine (C8.out _ HR).mono ?_; clear C8 HR; rintro e w6 ⟨rfl, HR⟩))
      go_ret
      exact ⟨rfl, Below.on HA.out HR.out⟩
end Go.Proofs.YtenkmidlipjobaaGreatDoor.Sto
namespace Go.Proofs.YtenkmidlipjobaaGreatDoor.moveEnds
open Go.RowKit Go.Shelf Sto
theorem walk_of (kk i gl n l : Int) (w : World) (hT : Lib.Utf8Tabs 0 1 w) (hlo0 : 0 < w.heap.size) (hlo1 : 1 < w.heap.size) (_h0 : -9223372036854775808 ≤ kk ∧ kk ≤ 9223372036854775807) (h1 : -9223372036854775808 ≤ i ∧ i ≤ 9223372036854775807) (h2 : -9223372036854775808 ≤ gl ∧ gl ≤ 9223372036854775807) (_h3 : -9223372036854775808 ≤ n ∧ n ≤ 9223372036854775807) (_h4 : -9223372036854775808 ≤ l ∧ l ≤ 9223372036854775807) :
    Calls Tryz.prog 7 #[.int .i64 kk, .int .i64 i, .int .i64 gl, .int .i64 n, .int .i64 l] w fun e W' => e = .returned (.bool true) ∧ Below w.heap.size w W' :=
  ends_walk kk i gl n l h1.2 h2.2 w ⟨hT, hlo0, hlo1⟩
end Go.Proofs.YtenkmidlipjobaaGreatDoor.moveEnds
