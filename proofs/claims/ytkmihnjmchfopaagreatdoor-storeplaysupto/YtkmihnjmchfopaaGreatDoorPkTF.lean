/-
  The laws' looks, works and asks, over any relations. Conditions: those of each theorem.
-/
import Derived.Below
import Derived.Test.YtkmihnjmchfopaaGreatDoorKBase
import Derived.Deep.RegionHeld3
import Derived.Test.YtkmihnjmchfopaaGreatDoorPkP
namespace Go.Proofs.YtkmihnjmchfopaaGreatDoor.Sto
open Go.RowKit Go.Shelf

/-- the seven looks of either side, over any R that later worlds keep -/
structure Lo (b rb : Nat) (R : World → Prop) (lo hi kd bk lm mv fo ed z : Int) (s : ByteArray) : Prop where
  thr : ∀ W, R W → Calls Tryz.prog 30 #[.pointer (some ⟨b, 0, none⟩)] W fun e W' => e = .returned (.tuple #[.int .i64 lo, .int .i64 hi]) ∧ R W'
  rthr : ∀ W, R W → Calls Tryz.prog 61 #[.pointer (some ⟨rb, 0, none⟩)] W fun e W' => e = .returned (.tuple #[.int .i64 lo, .int .i64 hi]) ∧ R W'
  kind : ∀ W, R W → Calls Tryz.prog 31 #[.pointer (some ⟨b, 0, none⟩)] W fun e W' => e = .returned (.int .i64 kd) ∧ R W'
  rkind : ∀ W, R W → Calls Tryz.prog 62 #[.pointer (some ⟨rb, 0, none⟩)] W fun e W' => e = .returned (.int .i64 kd) ∧ R W'
  back : ∀ W, R W → Calls Tryz.prog 56 #[.pointer (some ⟨b, 0, none⟩)] W fun e W' => e = .returned (.int .i64 bk) ∧ R W'
  rback : ∀ W, R W → Calls Tryz.prog 63 #[.pointer (some ⟨rb, 0, none⟩)] W fun e W' => e = .returned (.int .i64 bk) ∧ R W'
  lim : ∀ W, R W → Calls Tryz.prog 64 #[.pointer (some ⟨b, 0, none⟩)] W fun e W' => e = .returned (.int .i64 lm) ∧ R W'
  rlim : ∀ W, R W → Calls Tryz.prog 65 #[.pointer (some ⟨rb, 0, none⟩)] W fun e W' => e = .returned (.int .i64 lm) ∧ R W'
  cnt : ∀ W, R W → Calls Tryz.prog 29 #[.pointer (some ⟨b, 0, none⟩)] W fun e W' => e = .returned (.agg #[.int .i64 mv, .int .i64 fo, .int .i64 ed]) ∧ R W'
  rcnt : ∀ W, R W → Calls Tryz.prog 66 #[.pointer (some ⟨rb, 0, none⟩)] W fun e W' => e = .returned (.agg #[.int .i64 mv, .int .i64 fo, .int .i64 ed]) ∧ R W'
  len : ∀ W, R W → Calls Tryz.prog 67 #[.pointer (some ⟨b, 0, none⟩)] W fun e W' => e = .returned (.int .i64 z) ∧ R W'
  rlen : ∀ W, R W → Calls Tryz.prog 68 #[.pointer (some ⟨rb, 0, none⟩)] W fun e W' => e = .returned (.int .i64 z) ∧ R W'
  text : ∀ W, R W → Calls Tryz.prog 58 #[.pointer (some ⟨b, 0, none⟩)] W fun e W' => e = .returned (.string s) ∧ R W'
  rtext : ∀ W, R W → Calls Tryz.prog 69 #[.pointer (some ⟨rb, 0, none⟩)] W fun e W' => e = .returned (.string s) ∧ R W'
set_option maxRecDepth 100000 in
set_option maxHeartbeats 4000000 in
theorem looks_of {b rb : Nat} {R : World → Prop} {lo hi kd bk lm mv fo ed z : Int} {s : ByteArray} (h : Lo b rb R lo hi kd bk lm mv fo ed z s) (W : World) (hW : R W) :
    Calls Tryz.prog 22 #[.pointer (some ⟨b, 0, none⟩), .pointer (some ⟨rb, 0, none⟩)] W fun e W' => e = .returned (.bool true) ∧ R W' := by
  have H : Hid (Lo b rb R lo hi kd bk lm mv fo ed z s) := h
  have HW : Hid (R W) := hW
  clear h hW
  go_enter Tryz.func22, Tryz.ntmps22
  go_wp2_with (first
    | (go_at_call 30; refine (H.out.thr _ HW.out).mono ?_; clear HW; rintro e w1 ⟨rfl, hq⟩; have HW : Hid (R w1) := hq; clear hq)
    | (go_at_call 61; refine (H.out.rthr _ HW.out).mono ?_; clear HW; rintro e w2 ⟨rfl, hq⟩; have HW : Hid (R w2) := hq; clear hq)
    | (go_at_call 31; refine (H.out.kind _ HW.out).mono ?_; clear HW; rintro e w3 ⟨rfl, hq⟩; have HW : Hid (R w3) := hq; clear hq)
    | (go_at_call 62; refine (H.out.rkind _ HW.out).mono ?_; clear HW; rintro e w4 ⟨rfl, hq⟩; have HW : Hid (R w4) := hq; clear hq)
    | (go_at_call 56; refine (H.out.back _ HW.out).mono ?_; clear HW; rintro e w5 ⟨rfl, hq⟩; have HW : Hid (R w5) := hq; clear hq)
    | (go_at_call 63; refine (H.out.rback _ HW.out).mono ?_; clear HW; rintro e w6 ⟨rfl, hq⟩; have HW : Hid (R w6) := hq; clear hq)
    | (go_at_call 64; refine (H.out.lim _ HW.out).mono ?_; clear HW; rintro e w7 ⟨rfl, hq⟩; have HW : Hid (R w7) := hq; clear hq)
    | (go_at_call 65; refine (H.out.rlim _ HW.out).mono ?_; clear HW; rintro e w8 ⟨rfl, hq⟩; have HW : Hid (R w8) := hq; clear hq)
    | (go_at_call 29; refine (H.out.cnt _ HW.out).mono ?_; clear HW; rintro e w9 ⟨rfl, hq⟩; have HW : Hid (R w9) := hq; clear hq)
    | (go_at_call 66; refine (H.out.rcnt _ HW.out).mono ?_; clear HW; rintro e w10 ⟨rfl, hq⟩; have HW : Hid (R w10) := hq; clear hq)
    | (go_at_call 67; refine (H.out.len _ HW.out).mono ?_; clear HW; rintro e w11 ⟨rfl, hq⟩; have HW : Hid (R w11) := hq; clear hq)
    | (go_at_call 68; refine (H.out.rlen _ HW.out).mono ?_; clear HW; rintro e w12 ⟨rfl, hq⟩; have HW : Hid (R w12) := hq; clear hq)
    | (go_at_call 58; refine (H.out.text _ HW.out).mono ?_; clear HW; rintro e w13 ⟨rfl, hq⟩; have HW : Hid (R w13) := hq; clear hq)
    | (go_at_call 69; refine (H.out.rtext _ HW.out).mono ?_; clear HW; rintro e w14 ⟨rfl, hq⟩; have HW : Hid (R w14) := hq; clear hq))
  go_ret
  exact ⟨rfl, HW.out⟩
end Go.Proofs.YtkmihnjmchfopaaGreatDoor.Sto
namespace Go.Proofs.YtkmihnjmchfopaaGreatDoor.Sto
open Go.RowKit Go.Shelf

/-- the call's own box reads so -/
def Obx (W : World) (i : Nat) (k a c : Int) (put : ByteArray) : Prop := W.cell? ⟨i, 0, none⟩ = some (.int .i64 k) ∧ W.cell? ⟨i, 1, none⟩ = some (.int .i64 a) ∧ W.cell? ⟨i, 2, none⟩ = some (.int .i64 c) ∧ W.cell? ⟨i, 3, none⟩ = some (.string put)
section
variable {W W0 : World} {R0 R1 R2 : World → Prop} {v u : Value} {a c r : Int} {put o : ByteArray}
set_option maxRecDepth 100000 in
set_option maxHeartbeats 4000000 in
theorem works_1 (hW0 : W.alloc (.cells #[.int .i64 1, .int .i64 a, .int .i64 c, .string put] 59) = W0) (h0 : R0 W0) (hd : ∀ W, R0 W → R0 W.drew) (hx : ∀ W1, R0 W1 ∨ R1 W1 ∨ R2 W1 → Obx W1 W.heap.size 1 a c put)
    (C1 : ∀ W, R0 W → Calls Tryz.prog 57 #[v, .int .i64 a, .string put] W fun e W' => e = .returned (.int .i64 r) ∧ R1 W') (C2 : ∀ W, R1 W → Calls Tryz.prog 115 #[u, .int .i64 a, .string put] W fun e W' => e = .returned (.int .i64 r) ∧ R2 W') :
    Calls Tryz.prog 70 #[v, u, .agg #[.int .i64 1, .int .i64 a, .int .i64 c, .string put]] W fun e W' => e = .returned (.bool true) ∧ R2 W' := by
  have HP : Hid (R0 W0) := h0
  have HX : Hid (∀ W1, R0 W1 ∨ R1 W1 ∨ R2 W1 → Obx W1 W.heap.size 1 a c put) := hx
  have D1 : Hid (∀ W, R0 W → Calls Tryz.prog 57 #[v, .int .i64 a, .string put] W fun e W' => e = .returned (.int .i64 r) ∧ R1 W') := C1
  have D2 : Hid (∀ W, R1 W → Calls Tryz.prog 115 #[u, .int .i64 a, .string put] W fun e W' => e = .returned (.int .i64 r) ∧ R2 W') := C2
  have HD : Hid (∀ W, R0 W → R0 W.drew) := hd
  obtain ⟨z0, z1, z2, z3⟩ := HX.out _ (.inl h0)
  clear C1 C2 h0 hd hx
  go_enter Tryz.func70, Tryz.ntmps70
  go_wp2
  go_region_held3 (fun w' => w'.cell? ⟨W.heap.size, 1, none⟩ = some (.int .i64 a) ∧ w'.cell? ⟨W.heap.size, 3, none⟩ = some (.string put)) (first | exact ⟨(HX.out _ (.inl HP.out)).2.1, (HX.out _ (.inl HP.out)).2.2.2⟩ | exact ⟨(HX.out _ (.inl (HD.out _ HP.out))).2.1, (HX.out _ (.inl (HD.out _ HP.out))).2.2.2⟩ | exact ⟨(HX.out _ (.inr (.inl HP.out))).2.1, (HX.out _ (.inr (.inl HP.out))).2.2.2⟩ | exact ⟨(HX.out _ (.inr (.inr HP.out))).2.1, (HX.out _ (.inr (.inr HP.out))).2.2.2⟩) (first | (go_at_call 57; refine (D1.out _ (HD.out _ HP.out)).mono ?_; clear D1; rintro e w2 ⟨rfl, hq⟩; have HP1 : Hid (R1 w2) := hq; clear hq HP; have HP := HP1; clear HP1) | (go_at_call 115; refine (D2.out _ HP.out).mono ?_; clear D2; rintro e w3 ⟨rfl, hq⟩; have HP1 : Hid (R2 w3) := hq; clear hq HP; have HP := HP1; clear HP1))
  go_wp2
  go_ret
  exact ⟨rfl, HP.out⟩
set_option maxRecDepth 100000 in
set_option maxHeartbeats 4000000 in
theorem works_2 (hW0 : W.alloc (.cells #[.int .i64 2, .int .i64 a, .int .i64 c, .string put] 59) = W0) (h0 : R0 W0) (hd : ∀ W, R0 W → R0 W.drew) (hx : ∀ W1, R0 W1 ∨ R1 W1 ∨ R2 W1 → Obx W1 W.heap.size 2 a c put)
    (C1 : ∀ W, R0 W → Calls Tryz.prog 59 #[v, .int .i64 a, .int .i64 c] W fun e W' => e = .returned (.tuple #[.string o, .int .i64 r]) ∧ R1 W') (C2 : ∀ W, R1 W → Calls Tryz.prog 116 #[u, .int .i64 a, .int .i64 c] W fun e W' => e = .returned (.tuple #[.string o, .int .i64 r]) ∧ R2 W') :
    Calls Tryz.prog 70 #[v, u, .agg #[.int .i64 2, .int .i64 a, .int .i64 c, .string put]] W fun e W' => e = .returned (.bool true) ∧ R2 W' := by
  have HP : Hid (R0 W0) := h0
  have HX : Hid (∀ W1, R0 W1 ∨ R1 W1 ∨ R2 W1 → Obx W1 W.heap.size 2 a c put) := hx
  have D1 : Hid (∀ W, R0 W → Calls Tryz.prog 59 #[v, .int .i64 a, .int .i64 c] W fun e W' => e = .returned (.tuple #[.string o, .int .i64 r]) ∧ R1 W') := C1
  have D2 : Hid (∀ W, R1 W → Calls Tryz.prog 116 #[u, .int .i64 a, .int .i64 c] W fun e W' => e = .returned (.tuple #[.string o, .int .i64 r]) ∧ R2 W') := C2
  have HD : Hid (∀ W, R0 W → R0 W.drew) := hd
  obtain ⟨z0, z1, z2, z3⟩ := HX.out _ (.inl h0)
  clear C1 C2 h0 hd hx
  go_enter Tryz.func70, Tryz.ntmps70
  go_wp2_with (first | (go_at_call 59; refine (D1.out _ HP.out).mono ?_; clear D1 HP z0 z1 z2 z3; rintro e w2 ⟨rfl, hq⟩; have HP : Hid (R1 w2) := hq; obtain ⟨z0, z1, z2, z3⟩ := HX.out _ (.inr (.inl hq)); clear hq) | (go_at_call 116; refine (D2.out _ HP.out).mono ?_; clear D2 HP; rintro e w3 ⟨rfl, hq⟩; have HP : Hid (R2 w3) := hq; clear hq))
  go_ret
  exact ⟨rfl, HP.out⟩
set_option maxRecDepth 100000 in
set_option maxHeartbeats 4000000 in
theorem works_3 (hW0 : W.alloc (.cells #[.int .i64 3, .int .i64 a, .int .i64 c, .string put] 59) = W0) (h0 : R0 W0) (hd : ∀ W, R0 W → R0 W.drew) (hx : ∀ W1, R0 W1 ∨ R1 W1 ∨ R2 W1 → Obx W1 W.heap.size 3 a c put)
    (C1 : ∀ W, R0 W → Calls Tryz.prog 78 #[v, .int .i64 a, .int .i64 c, .string put] W fun e W' => e = .returned (.tuple #[.string o, .int .i64 r]) ∧ R1 W') (C2 : ∀ W, R1 W → Calls Tryz.prog 117 #[u, .int .i64 a, .int .i64 c, .string put] W fun e W' => e = .returned (.tuple #[.string o, .int .i64 r]) ∧ R2 W') :
    Calls Tryz.prog 70 #[v, u, .agg #[.int .i64 3, .int .i64 a, .int .i64 c, .string put]] W fun e W' => e = .returned (.bool true) ∧ R2 W' := by
  have HP : Hid (R0 W0) := h0
  have HX : Hid (∀ W1, R0 W1 ∨ R1 W1 ∨ R2 W1 → Obx W1 W.heap.size 3 a c put) := hx
  have D1 : Hid (∀ W, R0 W → Calls Tryz.prog 78 #[v, .int .i64 a, .int .i64 c, .string put] W fun e W' => e = .returned (.tuple #[.string o, .int .i64 r]) ∧ R1 W') := C1
  have D2 : Hid (∀ W, R1 W → Calls Tryz.prog 117 #[u, .int .i64 a, .int .i64 c, .string put] W fun e W' => e = .returned (.tuple #[.string o, .int .i64 r]) ∧ R2 W') := C2
  have HD : Hid (∀ W, R0 W → R0 W.drew) := hd
  obtain ⟨z0, z1, z2, z3⟩ := HX.out _ (.inl h0)
  clear C1 C2 h0 hd hx
  go_enter Tryz.func70, Tryz.ntmps70
  go_wp2_with (first | (go_at_call 78; refine (D1.out _ HP.out).mono ?_; clear D1 HP z0 z1 z2 z3; rintro e w2 ⟨rfl, hq⟩; have HP : Hid (R1 w2) := hq; obtain ⟨z0, z1, z2, z3⟩ := HX.out _ (.inr (.inl hq)); clear hq) | (go_at_call 117; refine (D2.out _ HP.out).mono ?_; clear D2 HP; rintro e w3 ⟨rfl, hq⟩; have HP : Hid (R2 w3) := hq; clear hq))
  go_ret
  exact ⟨rfl, HP.out⟩
set_option maxRecDepth 100000 in
set_option maxHeartbeats 4000000 in
theorem works_4 (hW0 : W.alloc (.cells #[.int .i64 4, .int .i64 a, .int .i64 c, .string put] 59) = W0) (h0 : R0 W0) (hd : ∀ W, R0 W → R0 W.drew) (hx : ∀ W1, R0 W1 ∨ R1 W1 ∨ R2 W1 → Obx W1 W.heap.size 4 a c put)
    (C1 : ∀ W, R0 W → Calls Tryz.prog 34 #[v, .string put] W fun e W' => e = .returned (.int .i64 r) ∧ R1 W') (C2 : ∀ W, R1 W → Calls Tryz.prog 118 #[u, .string put] W fun e W' => e = .returned (.int .i64 r) ∧ R2 W') :
    Calls Tryz.prog 70 #[v, u, .agg #[.int .i64 4, .int .i64 a, .int .i64 c, .string put]] W fun e W' => e = .returned (.bool true) ∧ R2 W' := by
  have HP : Hid (R0 W0) := h0
  have HX : Hid (∀ W1, R0 W1 ∨ R1 W1 ∨ R2 W1 → Obx W1 W.heap.size 4 a c put) := hx
  have D1 : Hid (∀ W, R0 W → Calls Tryz.prog 34 #[v, .string put] W fun e W' => e = .returned (.int .i64 r) ∧ R1 W') := C1
  have D2 : Hid (∀ W, R1 W → Calls Tryz.prog 118 #[u, .string put] W fun e W' => e = .returned (.int .i64 r) ∧ R2 W') := C2
  have HD : Hid (∀ W, R0 W → R0 W.drew) := hd
  obtain ⟨z0, z1, z2, z3⟩ := HX.out _ (.inl h0)
  clear C1 C2 h0 hd hx
  go_enter Tryz.func70, Tryz.ntmps70
  go_wp2
  go_region_held3 (fun w' => w'.cell? ⟨W.heap.size, 3, none⟩ = some (.string put)) (first | exact (HX.out _ (.inl HP.out)).2.2.2 | exact (HX.out _ (.inl (HD.out _ HP.out))).2.2.2 | exact (HX.out _ (.inr (.inl HP.out))).2.2.2 | exact (HX.out _ (.inr (.inr HP.out))).2.2.2) (first | (go_at_call 34; refine (D1.out _ (HD.out _ HP.out)).mono ?_; clear D1; rintro e w2 ⟨rfl, hq⟩; have HP1 : Hid (R1 w2) := hq; clear hq HP; have HP := HP1; clear HP1) | (go_at_call 118; refine (D2.out _ HP.out).mono ?_; clear D2; rintro e w3 ⟨rfl, hq⟩; have HP1 : Hid (R2 w3) := hq; clear hq HP; have HP := HP1; clear HP1))
  go_wp2
  go_ret
  exact ⟨rfl, HP.out⟩
set_option maxRecDepth 100000 in
set_option maxHeartbeats 4000000 in
theorem works_5 (hW0 : W.alloc (.cells #[.int .i64 5, .int .i64 a, .int .i64 c, .string put] 59) = W0) (h0 : R0 W0) (hd : ∀ W, R0 W → R0 W.drew) (hx : ∀ W1, R0 W1 ∨ R1 W1 ∨ R2 W1 → Obx W1 W.heap.size 5 a c put)
    (C1 : ∀ W, R0 W → Calls Tryz.prog 27 #[v, .int .i64 a] W fun e W' => e = .returned (.int .i64 r) ∧ R1 W') (C2 : ∀ W, R1 W → Calls Tryz.prog 119 #[u, .int .i64 a] W fun e W' => e = .returned (.int .i64 r) ∧ R2 W') :
    Calls Tryz.prog 70 #[v, u, .agg #[.int .i64 5, .int .i64 a, .int .i64 c, .string put]] W fun e W' => e = .returned (.bool true) ∧ R2 W' := by
  have HP : Hid (R0 W0) := h0
  have HX : Hid (∀ W1, R0 W1 ∨ R1 W1 ∨ R2 W1 → Obx W1 W.heap.size 5 a c put) := hx
  have D1 : Hid (∀ W, R0 W → Calls Tryz.prog 27 #[v, .int .i64 a] W fun e W' => e = .returned (.int .i64 r) ∧ R1 W') := C1
  have D2 : Hid (∀ W, R1 W → Calls Tryz.prog 119 #[u, .int .i64 a] W fun e W' => e = .returned (.int .i64 r) ∧ R2 W') := C2
  have HD : Hid (∀ W, R0 W → R0 W.drew) := hd
  obtain ⟨z0, z1, z2, z3⟩ := HX.out _ (.inl h0)
  clear C1 C2 h0 hd hx
  go_enter Tryz.func70, Tryz.ntmps70
  go_wp2
  go_region_held3 (fun w' => w'.cell? ⟨W.heap.size, 1, none⟩ = some (.int .i64 a)) (first | exact (HX.out _ (.inl HP.out)).2.1 | exact (HX.out _ (.inl (HD.out _ HP.out))).2.1 | exact (HX.out _ (.inr (.inl HP.out))).2.1 | exact (HX.out _ (.inr (.inr HP.out))).2.1) (first | (go_at_call 27; refine (D1.out _ (HD.out _ HP.out)).mono ?_; clear D1; rintro e w2 ⟨rfl, hq⟩; have HP1 : Hid (R1 w2) := hq; clear hq HP; have HP := HP1; clear HP1) | (go_at_call 119; refine (D2.out _ HP.out).mono ?_; clear D2; rintro e w3 ⟨rfl, hq⟩; have HP1 : Hid (R2 w3) := hq; clear hq HP; have HP := HP1; clear HP1))
  go_wp2
  go_ret
  exact ⟨rfl, HP.out⟩
set_option maxRecDepth 100000 in
set_option maxHeartbeats 4000000 in
theorem works_0 {k : Int} (h1 : ¬ k = 1) (h2 : ¬ k = 2) (h3 : ¬ k = 3) (h4 : ¬ k = 4) (h5 : ¬ k = 5) (hW0 : W.alloc (.cells #[.int .i64 k, .int .i64 a, .int .i64 c, .string put] 59) = W0) (h0 : R0 W0) (hx : Obx W0 W.heap.size k a c put) :
    Calls Tryz.prog 70 #[v, u, .agg #[.int .i64 k, .int .i64 a, .int .i64 c, .string put]] W fun e W' => e = .returned (.bool true) ∧ R0 W' := by
  have HP : Hid (R0 W0) := h0
  obtain ⟨z0, z1, z2, z3⟩ := hx
  clear h0
  go_enter Tryz.func70, Tryz.ntmps70
  go_wp2
  go_ret
  exact ⟨rfl, HP.out⟩
end
end Go.Proofs.YtkmihnjmchfopaaGreatDoor.Sto
namespace Go.Proofs.YtkmihnjmchfopaaGreatDoor.Sto
open Go.RowKit Go.Shelf Bod Wid

/-- both answer alike, from X on -/
structure As (X : World) (v u : Value) (a c : Int) (s1 : ByteArray) (e1 : Int) (m1 : Sum) (e2 : Int) (bb : Bool) (mn mp ms : Nat) : Prop where
  sl : ∀ W, Below X.heap.size X W → Calls Tryz.prog 79 #[v, .int .i64 a, .int .i64 c] W fun e W' => e = .returned (.tuple #[.string s1, .int .i64 e1]) ∧ Below W.heap.size W W'
  rsl : ∀ W, Below X.heap.size X W → Calls Tryz.prog 120 #[u, .int .i64 a, .int .i64 c] W fun e W' => e = .returned (.tuple #[.string s1, .int .i64 e1]) ∧ Below W.heap.size W W'
  me : ∀ W, Below X.heap.size X W → Calls Tryz.prog 80 #[v, .int .i64 a, .int .i64 c] W fun e W' => e = .returned (.tuple #[sv m1, .int .i64 e2]) ∧ Below W.heap.size W W'
  rme : ∀ W, Below X.heap.size X W → Calls Tryz.prog 121 #[u, .int .i64 a, .int .i64 c] W fun e W' => e = .returned (.tuple #[sv m1, .int .i64 e2]) ∧ Below W.heap.size W W'
  bd : ∀ W, Below X.heap.size X W → Calls Tryz.prog 84 #[v, .int .i64 a] W fun e W' => e = .returned (.bool bb) ∧ Below W.heap.size W W'
  rbd : ∀ W, Below X.heap.size X W → Calls Tryz.prog 122 #[u, .int .i64 a] W fun e W' => e = .returned (.bool bb) ∧ Below W.heap.size W W'
  nx : ∀ W, Below X.heap.size X W → Calls Tryz.prog 81 #[v, .int .i64 a] W fun e W' => e = .returned (.int .i64 mn) ∧ Below W.heap.size W W'
  rnx : ∀ W, Below X.heap.size X W → Calls Tryz.prog 123 #[u, .int .i64 a] W fun e W' => e = .returned (.int .i64 mn) ∧ Below W.heap.size W W'
  pv : ∀ W, Below X.heap.size X W → Calls Tryz.prog 82 #[v, .int .i64 a] W fun e W' => e = .returned (.int .i64 mp) ∧ Below W.heap.size W W'
  rpv : ∀ W, Below X.heap.size X W → Calls Tryz.prog 124 #[u, .int .i64 a] W fun e W' => e = .returned (.int .i64 mp) ∧ Below W.heap.size W W'
  sn : ∀ W, Below X.heap.size X W → Calls Tryz.prog 83 #[v, .int .i64 a] W fun e W' => e = .returned (.int .i64 ms) ∧ Below W.heap.size W W'
  rsn : ∀ W, Below X.heap.size X W → Calls Tryz.prog 125 #[u, .int .i64 a] W fun e W' => e = .returned (.int .i64 ms) ∧ Below W.heap.size W W'
theorem cell_lt9 {W : World} {p : Addr} {v : Value} (h : W.cell? p = some v) : p.block < W.heap.size := by
  unfold World.cell? at h
  cases ho : W.heap[p.block]? with
  | none => simp [ho] at h
  | some o => exact (Array.getElem?_eq_some_iff.1 ho).1
set_option maxRecDepth 100000 in
set_option maxHeartbeats 4000000 in
theorem asks_of {W : World} {v u : Value} {a c : Int} {s1 : ByteArray} {e1 : Int} {m1 : Sum} {e2 : Int} {bb : Bool} {mn mp ms : Nat} (h : As W v u a c s1 e1 m1 e2 bb mn mp ms) (k : Int) (put : ByteArray) :
    Calls Tryz.prog 71 #[v, u, .agg #[.int .i64 k, .int .i64 a, .int .i64 c, .string put]] W fun e W' => e = .returned (.bool true) ∧ Below W.heap.size W W' := by
  obtain ⟨W0, hW0⟩ : ∃ W0, W.alloc (.cells #[.int .i64 k, .int .i64 a, .int .i64 c, .string put] 59) = W0 := ⟨_, rfl⟩
  have hB : Below W.heap.size W W0 := by rw [← hW0]; exact (Below.refl _ W).alloc (Nat.le_refl _) _
  have hbx : W0.heap[W.heap.size]? = some (.cells #[.int .i64 k, .int .i64 a, .int .i64 c, .string put] 59 (0, 0)) := by rw [← hW0]; exact World.alloc_heap_new W _
  have hbl : W.heap.size < W0.heap.size := (Array.getElem?_eq_some_iff.1 hbx).1
  have st : ∀ {W1 W2 : World}, Below W0.heap.size W0 W1 → Below W1.heap.size W1 W2 → Below W0.heap.size W0 W2 := fun a b => a.trans (b.mono a.size)
  have HX : Hid (∀ W1, Below W0.heap.size W0 W1 → W1.cell? ⟨W.heap.size, 0, none⟩ = some (.int .i64 k) ∧ W1.cell? ⟨W.heap.size, 1, none⟩ = some (.int .i64 a) ∧ W1.cell? ⟨W.heap.size, 2, none⟩ = some (.int .i64 c) ∧ W1.cell? ⟨W.heap.size, 3, none⟩ = some (.string put)) := fun W1 h1 => (box4 ((h1.block _ hbl).trans hbx)).1
  have HEnd : Hid (∀ W1, Below W0.heap.size W0 W1 → Below W.heap.size W W1) := fun W1 h1 => hB.trans (h1.mono hB.size)
  have HB0 : Hid (Below W0.heap.size W0 W0) := Below.refl _ _
  have HM : Hid (Tryz.prog.follows .mixedOrders = true) := by show _ = _; kernel_rfl
  obtain ⟨z0, z1, z2, z3⟩ := HX.out _ HB0.out
  by_cases h6 : k = 6
  · have C1 : Hid (∀ W1, Below W0.heap.size W0 W1 → Calls Tryz.prog 79 #[v, .int .i64 a, .int .i64 c] W1 fun e W' => e = .returned (.tuple #[.string s1, .int .i64 e1]) ∧ Below W0.heap.size W0 W') := fun W1 h1 => (h.sl W1 (HEnd.out _ h1)).mono fun e W' ⟨q1, q2⟩ => ⟨q1, st h1 q2⟩
    have C2 : Hid (∀ W1, Below W0.heap.size W0 W1 → Calls Tryz.prog 120 #[u, .int .i64 a, .int .i64 c] W1 fun e W' => e = .returned (.tuple #[.string s1, .int .i64 e1]) ∧ Below W0.heap.size W0 W') := fun W1 h1 => (h.rsl W1 (HEnd.out _ h1)).mono fun e W' ⟨q1, q2⟩ => ⟨q1, st h1 q2⟩
    subst h6
    clear h hB hbx hbl st
    go_enter Tryz.func71, Tryz.ntmps71
    go_wp2_with (first
      | (go_at_call 79; refine (C1.out _ HB0.out).mono ?_; clear C1 z0 z1 z2 z3 hW0; rintro e w2 ⟨rfl, hb⟩; have HB2 : Hid (Below W0.heap.size W0 w2) := hb; obtain ⟨z0, z1, z2, z3⟩ := HX.out _ hb; clear hb)
      | (go_at_call 120; refine (C2.out _ HB2.out).mono ?_; clear C2 HB2 z0 z1 z2 z3; rintro e w3 ⟨rfl, hb⟩; have HB3 : Hid (Below W0.heap.size W0 w3) := hb; clear hb))
    go_ret
    exact ⟨rfl, HEnd.out _ HB3.out⟩
  · by_cases h7 : k = 7
    · have C1 : Hid (∀ W1, Below W0.heap.size W0 W1 → Calls Tryz.prog 80 #[v, .int .i64 a, .int .i64 c] W1 fun e W' => e = .returned (.tuple #[sv m1, .int .i64 e2]) ∧ Below W0.heap.size W0 W') := fun W1 h1 => (h.me W1 (HEnd.out _ h1)).mono fun e W' ⟨q1, q2⟩ => ⟨q1, st h1 q2⟩
      have C2 : Hid (∀ W1, Below W0.heap.size W0 W1 → Calls Tryz.prog 121 #[u, .int .i64 a, .int .i64 c] W1 fun e W' => e = .returned (.tuple #[sv m1, .int .i64 e2]) ∧ Below W0.heap.size W0 W' ∧ Below W1.heap.size W1 W') := fun W1 h1 => (h.rme W1 (HEnd.out _ h1)).mono fun e W' ⟨q1, q2⟩ => ⟨q1, st h1 q2, q2⟩
      have HA : Hid (∀ W1 ob, Below W0.heap.size W0 W1 → Below W0.heap.size W0 (W1.alloc ob)) := fun W1 ob h1 => h1.alloc h1.size _
      have HBx : Hid (∀ W1 W2 : World, Below (W1.alloc (.cells #[.int .i64 m1.by', .int .i64 m1.un, .int .i64 m1.cl, .int .i64 m1.ce, .int .i64 m1.nl, .string m1.hd, .string m1.tl] 63)).heap.size (W1.alloc (.cells #[.int .i64 m1.by', .int .i64 m1.un, .int .i64 m1.cl, .int .i64 m1.ce, .int .i64 m1.nl, .string m1.hd, .string m1.tl] 63)) W2 → W2.heap[W1.heap.size]? = some (.cells #[.int .i64 m1.by', .int .i64 m1.un, .int .i64 m1.cl, .int .i64 m1.ce, .int .i64 m1.nl, .string m1.hd, .string m1.tl] 63 (0, 0))) := fun W1 W2 h2 => (h2.block _ (by simp)).trans (World.alloc_heap_new W1 _)
      subst h7
      clear h hB hbx hbl st
      go_enter Tryz.func71, Tryz.ntmps71
      go_wp2_with (first
        | (go_at_call 80; refine (C1.out _ HB0.out).mono ?_; clear C1 z0 z1 z2 z3 hW0; rintro e w2 ⟨rfl, hb⟩; have HB2 : Hid (Below W0.heap.size W0 w2) := hb; obtain ⟨z0, z1, z2, z3⟩ := HX.out _ (HA.out w2 (.cells #[.int .i64 m1.by', .int .i64 m1.un, .int .i64 m1.cl, .int .i64 m1.ce, .int .i64 m1.nl, .string m1.hd, .string m1.tl] 63) hb); obtain ⟨u0, u1, u2, u3⟩ := HX.out _ hb; have hz : W.heap.size < w2.heap.size := cell_lt9 u0; clear hb)
        | (go_at_call 121; refine (C2.out _ (HA.out _ _ HB2.out)).mono ?_; clear C2 z0 z1 z2 z3; rintro e w3 ⟨rfl, hb, hb3⟩; have HB3 : Hid (Below W0.heap.size W0 w3) := hb; have hbk := HBx.out _ _ hb3; have hl3 : w2.heap.size < w3.heap.size := (Array.getElem?_eq_some_iff.1 hbk).1; obtain ⟨⟨v0, v1, v2, v3, v4, v5, v6⟩, -⟩ := box7 hbk; clear hb hb3 hbk))
      go_ret
      exact ⟨rfl, HEnd.out _ (HA.out _ _ HB3.out)⟩
    · by_cases h8 : k = 8
      · have HQ : Hid (∀ W1, Below W0.heap.size W0 W1 →
            (∀ dd os, Calls Tryz.prog 84 #[v, .int .i64 a] (Go.Sort.grow (redrawn W1 dd) os) fun e w'' => e = .returned (.bool bb) ∧ ∃ p : Regrown, w'' = Go.Sort.grow (redrawn W1 p.d) p.os) ∧
            (∀ dd os, Calls Tryz.prog 122 #[u, .int .i64 a] (Go.Sort.grow (redrawn W1 dd) os) fun e w'' => e = .returned (.bool bb) ∧ ∃ p : Regrown, w'' = Go.Sort.grow (redrawn W1 p.d) p.os) ∧
            (∀ dd os, Calls Tryz.prog 81 #[v, .int .i64 a] (Go.Sort.grow (redrawn W1 dd) os) fun e w'' => e = .returned (.int .i64 mn) ∧ ∃ p : Regrown, w'' = Go.Sort.grow (redrawn W1 p.d) p.os) ∧
            (∀ dd os, Calls Tryz.prog 123 #[u, .int .i64 a] (Go.Sort.grow (redrawn W1 dd) os) fun e w'' => e = .returned (.int .i64 mn) ∧ ∃ p : Regrown, w'' = Go.Sort.grow (redrawn W1 p.d) p.os) ∧
            (∀ dd os, Calls Tryz.prog 82 #[v, .int .i64 a] (Go.Sort.grow (redrawn W1 dd) os) fun e w'' => e = .returned (.int .i64 mp) ∧ ∃ p : Regrown, w'' = Go.Sort.grow (redrawn W1 p.d) p.os) ∧
            (∀ dd os, Calls Tryz.prog 124 #[u, .int .i64 a] (Go.Sort.grow (redrawn W1 dd) os) fun e w'' => e = .returned (.int .i64 mp) ∧ ∃ p : Regrown, w'' = Go.Sort.grow (redrawn W1 p.d) p.os) ∧
            (∀ dd os, Calls Tryz.prog 83 #[v, .int .i64 a] (Go.Sort.grow (redrawn W1 dd) os) fun e w'' => e = .returned (.int .i64 ms) ∧ ∃ p : Regrown, w'' = Go.Sort.grow (redrawn W1 p.d) p.os) ∧
            (∀ dd os, Calls Tryz.prog 125 #[u, .int .i64 a] (Go.Sort.grow (redrawn W1 dd) os) fun e w'' => e = .returned (.int .i64 ms) ∧ ∃ p : Regrown, w'' = Go.Sort.grow (redrawn W1 p.d) p.os)) := fun W1 h1 => by
          have lo : ∀ dd os, Below W.heap.size W (Go.Sort.grow (redrawn W1 dd) os) := fun dd os => HEnd.out _ (st h1 (below_regrown W1 dd os))
          exact ⟨fun dd os => Calls.regrown_of (h.bd _ (lo dd os)), fun dd os => Calls.regrown_of (h.rbd _ (lo dd os)), fun dd os => Calls.regrown_of (h.nx _ (lo dd os)), fun dd os => Calls.regrown_of (h.rnx _ (lo dd os)), fun dd os => Calls.regrown_of (h.pv _ (lo dd os)), fun dd os => Calls.regrown_of (h.rpv _ (lo dd os)), fun dd os => Calls.regrown_of (h.sn _ (lo dd os)), fun dd os => Calls.regrown_of (h.rsn _ (lo dd os))⟩
        have HG : Hid (∀ W1 dd os, Below W0.heap.size W0 W1 → Below W0.heap.size W0 (Go.Sort.grow (redrawn W1 dd) os)) := fun W1 dd os h1 => st h1 (below_regrown W1 dd os)
        subst h8
        clear h hB hbx hbl st
        go_enter Tryz.func71, Tryz.ntmps71
        go_wp2
        obtain ⟨q1, q2, q3, q4, q5, q6, q7, q8⟩ := HQ.out _ HB0.out
        have y1 := fun dd os => cell_regrown z1 dd os
        refine wp_region_quiet_below HM.out (by kernel_rfl) ?_
        repeat (go_big_quiet_step (fail))
        go_big_quiet_step (exact q1 _ _)
        repeat (go_big_quiet_step (fail))
        go_big_quiet_step (exact q2 _ _)
        repeat (go_big_quiet_step (fail))
        go_big_quiet_step (exact q3 _ _)
        repeat (go_big_quiet_step (fail))
        go_big_quiet_step (exact q4 _ _)
        repeat (go_big_quiet_step (fail))
        go_big_quiet_step (exact q5 _ _)
        repeat (go_big_quiet_step (fail))
        go_big_quiet_step (exact q6 _ _)
        repeat (go_big_quiet_step (fail))
        go_big_quiet_step (exact q7 _ _)
        repeat (go_big_quiet_step (fail))
        go_big_quiet_step (exact q8 _ _)
        repeat (go_big_quiet_step (fail))
        refine wpQuiet_nil ?_
        intro _ hw'
        obtain ⟨⟨dq, osq⟩, hw''⟩ := hw'
        subst hw''
        dsimp only
        have HB3 : Hid (Below W0.heap.size W0 (Go.Sort.grow (redrawn W0 dq) osq)) := HG.out _ _ _ HB0.out
        go_wp2
        go_ret
        exact ⟨rfl, HEnd.out _ HB3.out⟩
      · clear h hB hbx hbl st
        go_enter Tryz.func71, Tryz.ntmps71
        go_wp2
        go_ret
        exact ⟨rfl, HEnd.out _ HB0.out⟩
end Go.Proofs.YtkmihnjmchfopaaGreatDoor.Sto
