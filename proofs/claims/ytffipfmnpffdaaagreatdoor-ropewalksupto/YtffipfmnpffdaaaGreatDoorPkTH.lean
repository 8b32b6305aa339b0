/-
  The laws' looks, works and asks, over any relations; the places of a store's text, of both sides. Conditions: those of each theorem.
-/
import Derived.Below
import Derived.Test.YtffipfmnpffdaaaGreatDoorKBase
import Derived.Deep.RegionHeld3
import Derived.Test.YtffipfmnpffdaaaGreatDoorPkP
import Derived.Test.YtffipfmnpffdaaaGreatDoorPkB
import Derived.Test.YtffipfmnpffdaaaGreatDoorPkYL
import Derived.Test.YtffipfmnpffdaaaGreatDoorPkTA
import Derived.Test.YtffipfmnpffdaaaGreatDoorCPlaces
namespace Go.Proofs.YtffipfmnpffdaaaGreatDoor.Sto
open Go.RowKit Go.Shelf

/-- the seven looks of either side, over any R that later worlds keep -/
structure Lo (b rb : Nat) (R : World → Prop) (lo hi kd bk lm mv fo ed z : Int) (s : ByteArray) : Prop where
  thr : ∀ W, R W → Calls Tryz.prog 91 #[.pointer (some ⟨b, 0, none⟩)] W fun e W' => e = .returned (.tuple #[.int .i64 lo, .int .i64 hi]) ∧ R W'
  rthr : ∀ W, R W → Calls Tryz.prog 92 #[.pointer (some ⟨rb, 0, none⟩)] W fun e W' => e = .returned (.tuple #[.int .i64 lo, .int .i64 hi]) ∧ R W'
  kind : ∀ W, R W → Calls Tryz.prog 93 #[.pointer (some ⟨b, 0, none⟩)] W fun e W' => e = .returned (.int .i64 kd) ∧ R W'
  rkind : ∀ W, R W → Calls Tryz.prog 94 #[.pointer (some ⟨rb, 0, none⟩)] W fun e W' => e = .returned (.int .i64 kd) ∧ R W'
  back : ∀ W, R W → Calls Tryz.prog 66 #[.pointer (some ⟨b, 0, none⟩)] W fun e W' => e = .returned (.int .i64 bk) ∧ R W'
  rback : ∀ W, R W → Calls Tryz.prog 95 #[.pointer (some ⟨rb, 0, none⟩)] W fun e W' => e = .returned (.int .i64 bk) ∧ R W'
  lim : ∀ W, R W → Calls Tryz.prog 96 #[.pointer (some ⟨b, 0, none⟩)] W fun e W' => e = .returned (.int .i64 lm) ∧ R W'
  rlim : ∀ W, R W → Calls Tryz.prog 97 #[.pointer (some ⟨rb, 0, none⟩)] W fun e W' => e = .returned (.int .i64 lm) ∧ R W'
  cnt : ∀ W, R W → Calls Tryz.prog 68 #[.pointer (some ⟨b, 0, none⟩)] W fun e W' => e = .returned (.agg #[.int .i64 mv, .int .i64 fo, .int .i64 ed]) ∧ R W'
  rcnt : ∀ W, R W → Calls Tryz.prog 98 #[.pointer (some ⟨rb, 0, none⟩)] W fun e W' => e = .returned (.agg #[.int .i64 mv, .int .i64 fo, .int .i64 ed]) ∧ R W'
  len : ∀ W, R W → Calls Tryz.prog 99 #[.pointer (some ⟨b, 0, none⟩)] W fun e W' => e = .returned (.int .i64 z) ∧ R W'
  rlen : ∀ W, R W → Calls Tryz.prog 100 #[.pointer (some ⟨rb, 0, none⟩)] W fun e W' => e = .returned (.int .i64 z) ∧ R W'
  text : ∀ W, R W → Calls Tryz.prog 69 #[.pointer (some ⟨b, 0, none⟩)] W fun e W' => e = .returned (.string s) ∧ R W'
  rtext : ∀ W, R W → Calls Tryz.prog 101 #[.pointer (some ⟨rb, 0, none⟩)] W fun e W' => e = .returned (.string s) ∧ R W'
set_option maxRecDepth 100000 in
set_option maxHeartbeats 4000000 in
theorem looks_of {b rb : Nat} {R : World → Prop} {lo hi kd bk lm mv fo ed z : Int} {s : ByteArray} (h : Lo b rb R lo hi kd bk lm mv fo ed z s) (W : World) (hW : R W) :
    Calls Tryz.prog 24 #[.pointer (some ⟨b, 0, none⟩), .pointer (some ⟨rb, 0, none⟩)] W fun e W' => e = .returned (.bool true) ∧ R W' := by
  have H : Hid (Lo b rb R lo hi kd bk lm mv fo ed z s) := h
  have HW : Hid (R W) := hW
  clear h hW
  go_enter Tryz.func24, Tryz.ntmps24
  go_wp2_with (first
    | (go_at_call 91; refine (H.out.thr _ HW.out).mono ?_; clear HW; rintro e w1 ⟨rfl, hq⟩; have HW : Hid (R w1) := hq; clear hq)
    | (go_at_call 92; refine (H.out.rthr _ HW.out).mono ?_; clear HW; rintro e w2 ⟨rfl, hq⟩; have HW : Hid (R w2) := hq; clear hq)
    | (go_at_call 93; refine (H.out.kind _ HW.out).mono ?_; clear HW; rintro e w3 ⟨rfl, hq⟩; have HW : Hid (R w3) := hq; clear hq)
    | (go_at_call 94; refine (H.out.rkind _ HW.out).mono ?_; clear HW; rintro e w4 ⟨rfl, hq⟩; have HW : Hid (R w4) := hq; clear hq)
    | (go_at_call 66; refine (H.out.back _ HW.out).mono ?_; clear HW; rintro e w5 ⟨rfl, hq⟩; have HW : Hid (R w5) := hq; clear hq)
    | (go_at_call 95; refine (H.out.rback _ HW.out).mono ?_; clear HW; rintro e w6 ⟨rfl, hq⟩; have HW : Hid (R w6) := hq; clear hq)
    | (go_at_call 96; refine (H.out.lim _ HW.out).mono ?_; clear HW; rintro e w7 ⟨rfl, hq⟩; have HW : Hid (R w7) := hq; clear hq)
    | (go_at_call 97; refine (H.out.rlim _ HW.out).mono ?_; clear HW; rintro e w8 ⟨rfl, hq⟩; have HW : Hid (R w8) := hq; clear hq)
    | (go_at_call 68; refine (H.out.cnt _ HW.out).mono ?_; clear HW; rintro e w9 ⟨rfl, hq⟩; have HW : Hid (R w9) := hq; clear hq)
    | (go_at_call 98; refine (H.out.rcnt _ HW.out).mono ?_; clear HW; rintro e w10 ⟨rfl, hq⟩; have HW : Hid (R w10) := hq; clear hq)
    | (go_at_call 99; refine (H.out.len _ HW.out).mono ?_; clear HW; rintro e w11 ⟨rfl, hq⟩; have HW : Hid (R w11) := hq; clear hq)
    | (go_at_call 100; refine (H.out.rlen _ HW.out).mono ?_; clear HW; rintro e w12 ⟨rfl, hq⟩; have HW : Hid (R w12) := hq; clear hq)
    | (go_at_call 69; refine (H.out.text _ HW.out).mono ?_; clear HW; rintro e w13 ⟨rfl, hq⟩; have HW : Hid (R w13) := hq; clear hq)
    | (go_at_call 101; refine (H.out.rtext _ HW.out).mono ?_; clear HW; rintro e w14 ⟨rfl, hq⟩; have HW : Hid (R w14) := hq; clear hq))
  go_ret
  exact ⟨rfl, HW.out⟩
end Go.Proofs.YtffipfmnpffdaaaGreatDoor.Sto
namespace Go.Proofs.YtffipfmnpffdaaaGreatDoor.Sto
open Go.RowKit Go.Shelf

/-- the call's own box reads so -/
def Obx (W : World) (i : Nat) (k a c : Int) (put : ByteArray) : Prop := W.cell? ⟨i, 0, none⟩ = some (.int .i64 k) ∧ W.cell? ⟨i, 1, none⟩ = some (.int .i64 a) ∧ W.cell? ⟨i, 2, none⟩ = some (.int .i64 c) ∧ W.cell? ⟨i, 3, none⟩ = some (.string put)
section
variable {W W0 : World} {R0 R1 R2 : World → Prop} {v u : Value} {a c r : Int} {put o : ByteArray}
set_option maxRecDepth 100000 in
set_option maxHeartbeats 4000000 in
theorem works_1 (hW0 : W.alloc (.cells #[.int .i64 1, .int .i64 a, .int .i64 c, .string put] 55) = W0) (h0 : R0 W0) (hd : ∀ W, R0 W → R0 W.drew) (hx : ∀ W1, R0 W1 ∨ R1 W1 ∨ R2 W1 → Obx W1 W.heap.size 1 a c put)
    (C1 : ∀ W, R0 W → Calls Tryz.prog 67 #[v, .int .i64 a, .string put] W fun e W' => e = .returned (.int .i64 r) ∧ R1 W') (C2 : ∀ W, R1 W → Calls Tryz.prog 72 #[u, .int .i64 a, .string put] W fun e W' => e = .returned (.int .i64 r) ∧ R2 W') :
    Calls Tryz.prog 22 #[v, u, .agg #[.int .i64 1, .int .i64 a, .int .i64 c, .string put]] W fun e W' => e = .returned (.bool true) ∧ R2 W' := by
  have HP : Hid (R0 W0) := h0
  have HX : Hid (∀ W1, R0 W1 ∨ R1 W1 ∨ R2 W1 → Obx W1 W.heap.size 1 a c put) := hx
  have D1 : Hid (∀ W, R0 W → Calls Tryz.prog 67 #[v, .int .i64 a, .string put] W fun e W' => e = .returned (.int .i64 r) ∧ R1 W') := C1
  have D2 : Hid (∀ W, R1 W → Calls Tryz.prog 72 #[u, .int .i64 a, .string put] W fun e W' => e = .returned (.int .i64 r) ∧ R2 W') := C2
  have HD : Hid (∀ W, R0 W → R0 W.drew) := hd
  obtain ⟨z0, z1, z2, z3⟩ := HX.out _ (.inl h0)
  clear C1 C2 h0 hd hx
  go_enter Tryz.func22, Tryz.ntmps22
  go_wp2
  go_region_held3 (fun w' => w'.cell? ⟨W.heap.size, 1, none⟩ = some (.int .i64 a) ∧ w'.cell? ⟨W.heap.size, 3, none⟩ = some (.string put)) (first | exact ⟨(HX.out _ (.inl HP.out)).2.1, (HX.out _ (.inl HP.out)).2.2.2⟩ | exact ⟨(HX.out _ (.inl (HD.out _ HP.out))).2.1, (HX.out _ (.inl (HD.out _ HP.out))).2.2.2⟩ | exact ⟨(HX.out _ (.inr (.inl HP.out))).2.1, (HX.out _ (.inr (.inl HP.out))).2.2.2⟩ | exact ⟨(HX.out _ (.inr (.inr HP.out))).2.1, (HX.out _ (.inr (.inr HP.out))).2.2.2⟩) (first | (go_at_call 67; refine (D1.out _ (HD.out _ HP.out)).mono ?_; clear D1; rintro e w2 ⟨rfl, hq⟩; have HP1 : Hid (R1 w2) := hq; clear hq HP; have HP := HP1; clear HP1) | (go_at_call 72; refine (D2.out _ HP.out).mono ?_; clear D2; rintro e w3 ⟨rfl, hq⟩; have HP1 : Hid (R2 w3) := hq; clear hq HP; have HP := HP1; clear HP1))
  go_wp2
  go_ret
  exact ⟨rfl, HP.out⟩
set_option maxRecDepth 100000 in
set_option maxHeartbeats 4000000 in
theorem works_2 (hW0 : W.alloc (.cells #[.int .i64 2, .int .i64 a, .int .i64 c, .string put] 55) = W0) (h0 : R0 W0) (hd : ∀ W, R0 W → R0 W.drew) (hx : ∀ W1, R0 W1 ∨ R1 W1 ∨ R2 W1 → Obx W1 W.heap.size 2 a c put)
    (C1 : ∀ W, R0 W → Calls Tryz.prog 70 #[v, .int .i64 a, .int .i64 c] W fun e W' => e = .returned (.tuple #[.string o, .int .i64 r]) ∧ R1 W') (C2 : ∀ W, R1 W → Calls Tryz.prog 73 #[u, .int .i64 a, .int .i64 c] W fun e W' => e = .returned (.tuple #[.string o, .int .i64 r]) ∧ R2 W') :
    Calls Tryz.prog 22 #[v, u, .agg #[.int .i64 2, .int .i64 a, .int .i64 c, .string put]] W fun e W' => e = .returned (.bool true) ∧ R2 W' := by
  have HP : Hid (R0 W0) := h0
  have HX : Hid (∀ W1, R0 W1 ∨ R1 W1 ∨ R2 W1 → Obx W1 W.heap.size 2 a c put) := hx
  have D1 : Hid (∀ W, R0 W → Calls Tryz.prog 70 #[v, .int .i64 a, .int .i64 c] W fun e W' => e = .returned (.tuple #[.string o, .int .i64 r]) ∧ R1 W') := C1
  have D2 : Hid (∀ W, R1 W → Calls Tryz.prog 73 #[u, .int .i64 a, .int .i64 c] W fun e W' => e = .returned (.tuple #[.string o, .int .i64 r]) ∧ R2 W') := C2
  have HD : Hid (∀ W, R0 W → R0 W.drew) := hd
  obtain ⟨z0, z1, z2, z3⟩ := HX.out _ (.inl h0)
  clear C1 C2 h0 hd hx
  go_enter Tryz.func22, Tryz.ntmps22
  go_wp2_with (first | (go_at_call 70; refine (D1.out _ HP.out).mono ?_; clear D1 HP z0 z1 z2 z3; rintro e w2 ⟨rfl, hq⟩; have HP : Hid (R1 w2) := hq; obtain ⟨z0, z1, z2, z3⟩ := HX.out _ (.inr (.inl hq)); clear hq) | (go_at_call 73; refine (D2.out _ HP.out).mono ?_; clear D2 HP; rintro e w3 ⟨rfl, hq⟩; have HP : Hid (R2 w3) := hq; clear hq))
  go_ret
  exact ⟨rfl, HP.out⟩
set_option maxRecDepth 100000 in
set_option maxHeartbeats 4000000 in
theorem works_3 (hW0 : W.alloc (.cells #[.int .i64 3, .int .i64 a, .int .i64 c, .string put] 55) = W0) (h0 : R0 W0) (hd : ∀ W, R0 W → R0 W.drew) (hx : ∀ W1, R0 W1 ∨ R1 W1 ∨ R2 W1 → Obx W1 W.heap.size 3 a c put)
    (C1 : ∀ W, R0 W → Calls Tryz.prog 74 #[v, .int .i64 a, .int .i64 c, .string put] W fun e W' => e = .returned (.tuple #[.string o, .int .i64 r]) ∧ R1 W') (C2 : ∀ W, R1 W → Calls Tryz.prog 75 #[u, .int .i64 a, .int .i64 c, .string put] W fun e W' => e = .returned (.tuple #[.string o, .int .i64 r]) ∧ R2 W') :
    Calls Tryz.prog 22 #[v, u, .agg #[.int .i64 3, .int .i64 a, .int .i64 c, .string put]] W fun e W' => e = .returned (.bool true) ∧ R2 W' := by
  have HP : Hid (R0 W0) := h0
  have HX : Hid (∀ W1, R0 W1 ∨ R1 W1 ∨ R2 W1 → Obx W1 W.heap.size 3 a c put) := hx
  have D1 : Hid (∀ W, R0 W → Calls Tryz.prog 74 #[v, .int .i64 a, .int .i64 c, .string put] W fun e W' => e = .returned (.tuple #[.string o, .int .i64 r]) ∧ R1 W') := C1
  have D2 : Hid (∀ W, R1 W → Calls Tryz.prog 75 #[u, .int .i64 a, .int .i64 c, .string put] W fun e W' => e = .returned (.tuple #[.string o, .int .i64 r]) ∧ R2 W') := C2
  have HD : Hid (∀ W, R0 W → R0 W.drew) := hd
  obtain ⟨z0, z1, z2, z3⟩ := HX.out _ (.inl h0)
  clear C1 C2 h0 hd hx
  go_enter Tryz.func22, Tryz.ntmps22
  go_wp2_with (first | (go_at_call 74; refine (D1.out _ HP.out).mono ?_; clear D1 HP z0 z1 z2 z3; rintro e w2 ⟨rfl, hq⟩; have HP : Hid (R1 w2) := hq; obtain ⟨z0, z1, z2, z3⟩ := HX.out _ (.inr (.inl hq)); clear hq) | (go_at_call 75; refine (D2.out _ HP.out).mono ?_; clear D2 HP; rintro e w3 ⟨rfl, hq⟩; have HP : Hid (R2 w3) := hq; clear hq))
  go_ret
  exact ⟨rfl, HP.out⟩
set_option maxRecDepth 100000 in
set_option maxHeartbeats 4000000 in
theorem works_4 (hW0 : W.alloc (.cells #[.int .i64 4, .int .i64 a, .int .i64 c, .string put] 55) = W0) (h0 : R0 W0) (hd : ∀ W, R0 W → R0 W.drew) (hx : ∀ W1, R0 W1 ∨ R1 W1 ∨ R2 W1 → Obx W1 W.heap.size 4 a c put)
    (C1 : ∀ W, R0 W → Calls Tryz.prog 76 #[v, .string put] W fun e W' => e = .returned (.int .i64 r) ∧ R1 W') (C2 : ∀ W, R1 W → Calls Tryz.prog 77 #[u, .string put] W fun e W' => e = .returned (.int .i64 r) ∧ R2 W') :
    Calls Tryz.prog 22 #[v, u, .agg #[.int .i64 4, .int .i64 a, .int .i64 c, .string put]] W fun e W' => e = .returned (.bool true) ∧ R2 W' := by
  have HP : Hid (R0 W0) := h0
  have HX : Hid (∀ W1, R0 W1 ∨ R1 W1 ∨ R2 W1 → Obx W1 W.heap.size 4 a c put) := hx
  have D1 : Hid (∀ W, R0 W → Calls Tryz.prog 76 #[v, .string put] W fun e W' => e = .returned (.int .i64 r) ∧ R1 W') := C1
  have D2 : Hid (∀ W, R1 W → Calls Tryz.prog 77 #[u, .string put] W fun e W' => e = .returned (.int .i64 r) ∧ R2 W') := C2
  have HD : Hid (∀ W, R0 W → R0 W.drew) := hd
  obtain ⟨z0, z1, z2, z3⟩ := HX.out _ (.inl h0)
  clear C1 C2 h0 hd hx
  go_enter Tryz.func22, Tryz.ntmps22
  go_wp2
  go_region_held3 (fun w' => w'.cell? ⟨W.heap.size, 3, none⟩ = some (.string put)) (first | exact (HX.out _ (.inl HP.out)).2.2.2 | exact (HX.out _ (.inl (HD.out _ HP.out))).2.2.2 | exact (HX.out _ (.inr (.inl HP.out))).2.2.2 | exact (HX.out _ (.inr (.inr HP.out))).2.2.2) (first | (go_at_call 76; refine (D1.out _ (HD.out _ HP.out)).mono ?_; clear D1; rintro e w2 ⟨rfl, hq⟩; have HP1 : Hid (R1 w2) := hq; clear hq HP; have HP := HP1; clear HP1) | (go_at_call 77; refine (D2.out _ HP.out).mono ?_; clear D2; rintro e w3 ⟨rfl, hq⟩; have HP1 : Hid (R2 w3) := hq; clear hq HP; have HP := HP1; clear HP1))
  go_wp2
  go_ret
  exact ⟨rfl, HP.out⟩
set_option maxRecDepth 100000 in
set_option maxHeartbeats 4000000 in
theorem works_5 (hW0 : W.alloc (.cells #[.int .i64 5, .int .i64 a, .int .i64 c, .string put] 55) = W0) (h0 : R0 W0) (hd : ∀ W, R0 W → R0 W.drew) (hx : ∀ W1, R0 W1 ∨ R1 W1 ∨ R2 W1 → Obx W1 W.heap.size 5 a c put)
    (C1 : ∀ W, R0 W → Calls Tryz.prog 25 #[v, .int .i64 a] W fun e W' => e = .returned (.int .i64 r) ∧ R1 W') (C2 : ∀ W, R1 W → Calls Tryz.prog 78 #[u, .int .i64 a] W fun e W' => e = .returned (.int .i64 r) ∧ R2 W') :
    Calls Tryz.prog 22 #[v, u, .agg #[.int .i64 5, .int .i64 a, .int .i64 c, .string put]] W fun e W' => e = .returned (.bool true) ∧ R2 W' := by
  have HP : Hid (R0 W0) := h0
  have HX : Hid (∀ W1, R0 W1 ∨ R1 W1 ∨ R2 W1 → Obx W1 W.heap.size 5 a c put) := hx
  have D1 : Hid (∀ W, R0 W → Calls Tryz.prog 25 #[v, .int .i64 a] W fun e W' => e = .returned (.int .i64 r) ∧ R1 W') := C1
  have D2 : Hid (∀ W, R1 W → Calls Tryz.prog 78 #[u, .int .i64 a] W fun e W' => e = .returned (.int .i64 r) ∧ R2 W') := C2
  have HD : Hid (∀ W, R0 W → R0 W.drew) := hd
  obtain ⟨z0, z1, z2, z3⟩ := HX.out _ (.inl h0)
  clear C1 C2 h0 hd hx
  go_enter Tryz.func22, Tryz.ntmps22
  go_wp2
  go_region_held3 (fun w' => w'.cell? ⟨W.heap.size, 1, none⟩ = some (.int .i64 a)) (first | exact (HX.out _ (.inl HP.out)).2.1 | exact (HX.out _ (.inl (HD.out _ HP.out))).2.1 | exact (HX.out _ (.inr (.inl HP.out))).2.1 | exact (HX.out _ (.inr (.inr HP.out))).2.1) (first | (go_at_call 25; refine (D1.out _ (HD.out _ HP.out)).mono ?_; clear D1; rintro e w2 ⟨rfl, hq⟩; have HP1 : Hid (R1 w2) := hq; clear hq HP; have HP := HP1; clear HP1) | (go_at_call 78; refine (D2.out _ HP.out).mono ?_; clear D2; rintro e w3 ⟨rfl, hq⟩; have HP1 : Hid (R2 w3) := hq; clear hq HP; have HP := HP1; clear HP1))
  go_wp2
  go_ret
  exact ⟨rfl, HP.out⟩
set_option maxRecDepth 100000 in
set_option maxHeartbeats 4000000 in
theorem works_0 {k : Int} (h1 : ¬ k = 1) (h2 : ¬ k = 2) (h3 : ¬ k = 3) (h4 : ¬ k = 4) (h5 : ¬ k = 5) (hW0 : W.alloc (.cells #[.int .i64 k, .int .i64 a, .int .i64 c, .string put] 55) = W0) (h0 : R0 W0) (hx : Obx W0 W.heap.size k a c put) :
    Calls Tryz.prog 22 #[v, u, .agg #[.int .i64 k, .int .i64 a, .int .i64 c, .string put]] W fun e W' => e = .returned (.bool true) ∧ R0 W' := by
  have HP : Hid (R0 W0) := h0
  obtain ⟨z0, z1, z2, z3⟩ := hx
  clear h0
  go_enter Tryz.func22, Tryz.ntmps22
  go_wp2
  go_ret
  exact ⟨rfl, HP.out⟩
end
end Go.Proofs.YtffipfmnpffdaaaGreatDoor.Sto
namespace Go.Proofs.YtffipfmnpffdaaaGreatDoor.Sto
open Go.RowKit Go.Shelf Bod Wid

/-- both answer alike, from X on -/
structure As (X : World) (v u : Value) (a c : Int) (s1 : ByteArray) (e1 : Int) (m1 : Sum) (e2 : Int) (bb : Bool) (mn mp ms : Nat) : Prop where
  sl : ∀ W, Below X.heap.size X W → Calls Tryz.prog 79 #[v, .int .i64 a, .int .i64 c] W fun e W' => e = .returned (.tuple #[.string s1, .int .i64 e1]) ∧ Below W.heap.size W W'
  rsl : ∀ W, Below X.heap.size X W → Calls Tryz.prog 80 #[u, .int .i64 a, .int .i64 c] W fun e W' => e = .returned (.tuple #[.string s1, .int .i64 e1]) ∧ Below W.heap.size W W'
  me : ∀ W, Below X.heap.size X W → Calls Tryz.prog 81 #[v, .int .i64 a, .int .i64 c] W fun e W' => e = .returned (.tuple #[sv m1, .int .i64 e2]) ∧ Below W.heap.size W W'
  rme : ∀ W, Below X.heap.size X W → Calls Tryz.prog 82 #[u, .int .i64 a, .int .i64 c] W fun e W' => e = .returned (.tuple #[sv m1, .int .i64 e2]) ∧ Below W.heap.size W W'
  bd : ∀ W, Below X.heap.size X W → Calls Tryz.prog 83 #[v, .int .i64 a] W fun e W' => e = .returned (.bool bb) ∧ Below W.heap.size W W'
  rbd : ∀ W, Below X.heap.size X W → Calls Tryz.prog 84 #[u, .int .i64 a] W fun e W' => e = .returned (.bool bb) ∧ Below W.heap.size W W'
  nx : ∀ W, Below X.heap.size X W → Calls Tryz.prog 85 #[v, .int .i64 a] W fun e W' => e = .returned (.int .i64 mn) ∧ Below W.heap.size W W'
  rnx : ∀ W, Below X.heap.size X W → Calls Tryz.prog 86 #[u, .int .i64 a] W fun e W' => e = .returned (.int .i64 mn) ∧ Below W.heap.size W W'
  pv : ∀ W, Below X.heap.size X W → Calls Tryz.prog 87 #[v, .int .i64 a] W fun e W' => e = .returned (.int .i64 mp) ∧ Below W.heap.size W W'
  rpv : ∀ W, Below X.heap.size X W → Calls Tryz.prog 88 #[u, .int .i64 a] W fun e W' => e = .returned (.int .i64 mp) ∧ Below W.heap.size W W'
  sn : ∀ W, Below X.heap.size X W → Calls Tryz.prog 89 #[v, .int .i64 a] W fun e W' => e = .returned (.int .i64 ms) ∧ Below W.heap.size W W'
  rsn : ∀ W, Below X.heap.size X W → Calls Tryz.prog 90 #[u, .int .i64 a] W fun e W' => e = .returned (.int .i64 ms) ∧ Below W.heap.size W W'
theorem cell_lt9 {W : World} {p : Addr} {v : Value} (h : W.cell? p = some v) : p.block < W.heap.size := by
  unfold World.cell? at h
  cases ho : W.heap[p.block]? with
  | none => simp [ho] at h
  | some o => exact (Array.getElem?_eq_some_iff.1 ho).1
set_option maxRecDepth 100000 in
set_option maxHeartbeats 4000000 in
theorem asks_of {W : World} {v u : Value} {a c : Int} {s1 : ByteArray} {e1 : Int} {m1 : Sum} {e2 : Int} {bb : Bool} {mn mp ms : Nat} (h : As W v u a c s1 e1 m1 e2 bb mn mp ms) (k : Int) (put : ByteArray) :
    Calls Tryz.prog 23 #[v, u, .agg #[.int .i64 k, .int .i64 a, .int .i64 c, .string put]] W fun e W' => e = .returned (.bool true) ∧ Below W.heap.size W W' := by
  obtain ⟨W0, hW0⟩ : ∃ W0, W.alloc (.cells #[.int .i64 k, .int .i64 a, .int .i64 c, .string put] 55) = W0 := ⟨_, rfl⟩
  have hB : Below W.heap.size W W0 := by rw [← hW0]; exact (Below.refl _ W).alloc (Nat.le_refl _) _
  have hbx : W0.heap[W.heap.size]? = some (.cells #[.int .i64 k, .int .i64 a, .int .i64 c, .string put] 55 (0, 0)) := by rw [← hW0]; exact World.alloc_heap_new W _
  have hbl : W.heap.size < W0.heap.size := (Array.getElem?_eq_some_iff.1 hbx).1
  have st : ∀ {W1 W2 : World}, Below W0.heap.size W0 W1 → Below W1.heap.size W1 W2 → Below W0.heap.size W0 W2 := fun a b => a.trans (b.mono a.size)
  have HX : Hid (∀ W1, Below W0.heap.size W0 W1 → W1.cell? ⟨W.heap.size, 0, none⟩ = some (.int .i64 k) ∧ W1.cell? ⟨W.heap.size, 1, none⟩ = some (.int .i64 a) ∧ W1.cell? ⟨W.heap.size, 2, none⟩ = some (.int .i64 c) ∧ W1.cell? ⟨W.heap.size, 3, none⟩ = some (.string put)) := fun W1 h1 => (box4 ((h1.block _ hbl).trans hbx)).1
  have HEnd : Hid (∀ W1, Below W0.heap.size W0 W1 → Below W.heap.size W W1) := fun W1 h1 => hB.trans (h1.mono hB.size)
  have HB0 : Hid (Below W0.heap.size W0 W0) := Below.refl _ _
  have HM : Hid (Tryz.prog.follows .mixedOrders = true) := by show _ = _; kernel_rfl
  obtain ⟨z0, z1, z2, z3⟩ := HX.out _ HB0.out
  by_cases h6 : k = 6
  · have C1 : Hid (∀ W1, Below W0.heap.size W0 W1 → Calls Tryz.prog 79 #[v, .int .i64 a, .int .i64 c] W1 fun e W' => e = .returned (.tuple #[.string s1, .int .i64 e1]) ∧ Below W0.heap.size W0 W') := fun W1 h1 => (h.sl W1 (HEnd.out _ h1)).mono fun e W' ⟨q1, q2⟩ => ⟨q1, st h1 q2⟩
    have C2 : Hid (∀ W1, Below W0.heap.size W0 W1 → Calls Tryz.prog 80 #[u, .int .i64 a, .int .i64 c] W1 fun e W' => e = .returned (.tuple #[.string s1, .int .i64 e1]) ∧ Below W0.heap.size W0 W') := fun W1 h1 => (h.rsl W1 (HEnd.out _ h1)).mono fun e W' ⟨q1, q2⟩ => ⟨q1, st h1 q2⟩
    subst h6
    clear h hB hbx hbl st
    go_enter Tryz.func23, Tryz.ntmps23
    go_wp2_with (first
      | (go_at_call 79; refine (C1.out _ HB0.out).mono ?_; clear C1 z0 z1 z2 z3 hW0; rintro e w2 ⟨rfl, hb⟩; have HB2 : Hid (Below W0.heap.size W0 w2) := hb; obtain ⟨z0, z1, z2, z3⟩ := HX.out _ hb; clear hb)
      | (go_at_call 80; refine (C2.out _ HB2.out).mono ?_; clear C2 HB2 z0 z1 z2 z3; rintro e w3 ⟨rfl, hb⟩; have HB3 : Hid (Below W0.heap.size W0 w3) := hb; clear hb))
    go_ret
    exact ⟨rfl, HEnd.out _ HB3.out⟩
  · by_cases h7 : k = 7
    · have C1 : Hid (∀ W1, Below W0.heap.size W0 W1 → Calls Tryz.prog 81 #[v, .int .i64 a, .int .i64 c] W1 fun e W' => e = .returned (.tuple #[sv m1, .int .i64 e2]) ∧ Below W0.heap.size W0 W') := fun W1 h1 => (h.me W1 (HEnd.out _ h1)).mono fun e W' ⟨q1, q2⟩ => ⟨q1, st h1 q2⟩
      have C2 : Hid (∀ W1, Below W0.heap.size W0 W1 → Calls Tryz.prog 82 #[u, .int .i64 a, .int .i64 c] W1 fun e W' => e = .returned (.tuple #[sv m1, .int .i64 e2]) ∧ Below W0.heap.size W0 W' ∧ Below W1.heap.size W1 W') := fun W1 h1 => (h.rme W1 (HEnd.out _ h1)).mono fun e W' ⟨q1, q2⟩ => ⟨q1, st h1 q2, q2⟩
      have HA : Hid (∀ W1 ob, Below W0.heap.size W0 W1 → Below W0.heap.size W0 (W1.alloc ob)) := fun W1 ob h1 => h1.alloc h1.size _
      have HBx : Hid (∀ W1 W2 : World, Below (W1.alloc (.cells #[.int .i64 m1.by', .int .i64 m1.un, .int .i64 m1.cl, .int .i64 m1.ce, .int .i64 m1.nl, .string m1.hd, .string m1.tl] 106)).heap.size (W1.alloc (.cells #[.int .i64 m1.by', .int .i64 m1.un, .int .i64 m1.cl, .int .i64 m1.ce, .int .i64 m1.nl, .string m1.hd, .string m1.tl] 106)) W2 → W2.heap[W1.heap.size]? = some (.cells #[.int .i64 m1.by', .int .i64 m1.un, .int .i64 m1.cl, .int .i64 m1.ce, .int .i64 m1.nl, .string m1.hd, .string m1.tl] 106 (0, 0))) := fun W1 W2 h2 => (h2.block _ (by simp)).trans (World.alloc_heap_new W1 _)
      subst h7
      clear h hB hbx hbl st
      go_enter Tryz.func23, Tryz.ntmps23
      go_wp2_with (first
        | (go_at_call 81; refine (C1.out _ HB0.out).mono ?_; clear C1 z0 z1 z2 z3 hW0; rintro e w2 ⟨rfl, hb⟩; have HB2 : Hid (Below W0.heap.size W0 w2) := hb; obtain ⟨z0, z1, z2, z3⟩ := HX.out _ (HA.out w2 (.cells #[.int .i64 m1.by', .int .i64 m1.un, .int .i64 m1.cl, .int .i64 m1.ce, .int .i64 m1.nl, .string m1.hd, .string m1.tl] 106) hb); obtain ⟨u0, u1, u2, u3⟩ := HX.out _ hb; have hz : W.heap.size < w2.heap.size := cell_lt9 u0; clear hb)
        | (go_at_call 82; refine (C2.out _ (HA.out _ _ HB2.out)).mono ?_; clear C2 z0 z1 z2 z3; rintro e w3 ⟨rfl, hb, hb3⟩; have HB3 : Hid (Below W0.heap.size W0 w3) := hb; have hbk := HBx.out _ _ hb3; have hl3 : w2.heap.size < w3.heap.size := (Array.getElem?_eq_some_iff.1 hbk).1; obtain ⟨⟨v0, v1, v2, v3, v4, v5, v6⟩, -⟩ := box7 hbk; clear hb hb3 hbk))
      go_ret
      exact ⟨rfl, HEnd.out _ (HA.out _ _ HB3.out)⟩
    · by_cases h8 : k = 8
      · have HQ : Hid (∀ W1, Below W0.heap.size W0 W1 →
            (∀ dd os, Calls Tryz.prog 83 #[v, .int .i64 a] (Go.Sort.grow (redrawn W1 dd) os) fun e w'' => e = .returned (.bool bb) ∧ ∃ p : Regrown, w'' = Go.Sort.grow (redrawn W1 p.d) p.os) ∧
            (∀ dd os, Calls Tryz.prog 84 #[u, .int .i64 a] (Go.Sort.grow (redrawn W1 dd) os) fun e w'' => e = .returned (.bool bb) ∧ ∃ p : Regrown, w'' = Go.Sort.grow (redrawn W1 p.d) p.os) ∧
            (∀ dd os, Calls Tryz.prog 85 #[v, .int .i64 a] (Go.Sort.grow (redrawn W1 dd) os) fun e w'' => e = .returned (.int .i64 mn) ∧ ∃ p : Regrown, w'' = Go.Sort.grow (redrawn W1 p.d) p.os) ∧
            (∀ dd os, Calls Tryz.prog 86 #[u, .int .i64 a] (Go.Sort.grow (redrawn W1 dd) os) fun e w'' => e = .returned (.int .i64 mn) ∧ ∃ p : Regrown, w'' = Go.Sort.grow (redrawn W1 p.d) p.os) ∧
            (∀ dd os, Calls Tryz.prog 87 #[v, .int .i64 a] (Go.Sort.grow (redrawn W1 dd) os) fun e w'' => e = .returned (.int .i64 mp) ∧ ∃ p : Regrown, w'' = Go.Sort.grow (redrawn W1 p.d) p.os) ∧
            (∀ dd os, Calls Tryz.prog 88 #[u, .int .i64 a] (Go.Sort.grow (redrawn W1 dd) os) fun e w'' => e = .returned (.int .i64 mp) ∧ ∃ p : Regrown, w'' = Go.Sort.grow (redrawn W1 p.d) p.os) ∧
            (∀ dd os, Calls Tryz.prog 89 #[v, .int .i64 a] (Go.Sort.grow (redrawn W1 dd) os) fun e w'' => e = .returned (.int .i64 ms) ∧ ∃ p : Regrown, w'' = Go.Sort.grow (redrawn W1 p.d) p.os) ∧
            (∀ dd os, Calls Tryz.prog 90 #[u, .int .i64 a] (Go.Sort.grow (redrawn W1 dd) os) fun e w'' => e = .returned (.int .i64 ms) ∧ ∃ p : Regrown, w'' = Go.Sort.grow (redrawn W1 p.d) p.os)) := fun W1 h1 => by
          have lo : ∀ dd os, Below W.heap.size W (Go.Sort.grow (redrawn W1 dd) os) := fun dd os => HEnd.out _ (st h1 (below_regrown W1 dd os))
          exact ⟨fun dd os => Calls.regrown_of (h.bd _ (lo dd os)), fun dd os => Calls.regrown_of (h.rbd _ (lo dd os)), fun dd os => Calls.regrown_of (h.nx _ (lo dd os)), fun dd os => Calls.regrown_of (h.rnx _ (lo dd os)), fun dd os => Calls.regrown_of (h.pv _ (lo dd os)), fun dd os => Calls.regrown_of (h.rpv _ (lo dd os)), fun dd os => Calls.regrown_of (h.sn _ (lo dd os)), fun dd os => Calls.regrown_of (h.rsn _ (lo dd os))⟩
        have HG : Hid (∀ W1 dd os, Below W0.heap.size W0 W1 → Below W0.heap.size W0 (Go.Sort.grow (redrawn W1 dd) os)) := fun W1 dd os h1 => st h1 (below_regrown W1 dd os)
        subst h8
        clear h hB hbx hbl st
        go_enter Tryz.func23, Tryz.ntmps23
        go_wp2
        obtain ⟨q1, q2, q3, q4, q5, q6, q7, q8⟩ := HQ.out _ HB0.out
        have y1 := fun dd os => cell_regrown z1 dd os
        refine wp_region_quiet_below HM.out (by kernel_rfl) ?_
        repeat (go_big_quiet_step (fail))
        go_big_quiet_step (exact q1 _ _)
        repeat (go_big_quiet_step (fail))
        go_big_quiet_step (exact q2 _ _)
        repeat (go_big_quiet_step (fail))
        go_big_quiet_step (exact q3 _ _)
        repeat (go_big_quiet_step (fail))
        go_big_quiet_step (exact q4 _ _)
        repeat (go_big_quiet_step (fail))
        go_big_quiet_step (exact q5 _ _)
        repeat (go_big_quiet_step (fail))
        go_big_quiet_step (exact q6 _ _)
        repeat (go_big_quiet_step (fail))
        go_big_quiet_step (exact q7 _ _)
        repeat (go_big_quiet_step (fail))
        go_big_quiet_step (exact q8 _ _)
        repeat (go_big_quiet_step (fail))
        refine wpQuiet_nil ?_
        intro _ hw'
        obtain ⟨⟨dq, osq⟩, hw''⟩ := hw'
        subst hw''
        dsimp only
        have HB3 : Hid (Below W0.heap.size W0 (Go.Sort.grow (redrawn W0 dq) osq)) := HG.out _ _ _ HB0.out
        go_wp2
        go_ret
        exact ⟨rfl, HEnd.out _ HB3.out⟩
      · clear h hB hbx hbl st
        go_enter Tryz.func23, Tryz.ntmps23
        go_wp2
        go_ret
        exact ⟨rfl, HEnd.out _ HB0.out⟩
end Go.Proofs.YtffipfmnpffdaaaGreatDoor.Sto
namespace Go.Proofs.YtffipfmnpffdaaaGreatDoor
open Bod Wid

/-- all boundaries of a text, rising -/
def bds (s : ByteArray) : List Nat := 0 :: (cl s).map (·.to)
theorem bds_len (s : ByteArray) : (bds s).length = (cl s).length + 1 := by simp [bds]
theorem tiled_rise : ∀ {l : List Clu} {i j : Nat}, tiled i l j → (i :: l.map (·.to)).Pairwise (· < ·) ∧ j ∈ i :: l.map (·.to)
  | [], i, j, h => by have h : i = j := h; subst h; simp
  | c :: r, i, j, h => by
    obtain ⟨h1, h2, h3⟩ := h
    obtain ⟨h4, h5⟩ := tiled_rise h3
    refine ⟨?_, by simp only [List.map_cons]; exact List.mem_cons_of_mem _ h5⟩
    simp only [List.map_cons]
    refine List.pairwise_cons.2 ⟨fun x hx => ?_, h4⟩
    rcases List.mem_cons.1 hx with rfl | hx
    · exact h2
    · have := (List.pairwise_cons.1 h4).1 x hx
      omega
theorem tiled_has {s : ByteArray} : ∀ {l : List Clu} {i j k : Nat}, tiled i l j → (∀ d ∈ l, Sp s d) → i ≤ k → k ≤ j → cbZ s k = true → k ∈ i :: l.map (·.to)
  | [], i, j, k, h, _, h1, h2, _ => by have h : i = j := h; simp; omega
  | c :: r, i, j, k, h, hs, h1, h2, hc => by
    obtain ⟨h3, h4, h5⟩ := h
    by_cases e : k = i
    · simp [e]
    · by_cases e2 : k < c.to
      · have := (hs c (by simp)).2 k (by omega) (by omega)
        rw [hc] at this; cases this
      · simp only [List.map_cons]
        exact List.mem_cons_of_mem _ (tiled_has h5 (fun d hd => hs d (by simp [hd])) (by omega) h2 hc)
theorem bds_cb {s : ByteArray} {k : Nat} (h : k ∈ bds s) : cbZ s k = true := by
  rcases List.mem_cons.1 h with rfl | h
  · exact cb_zero s
  · obtain ⟨c, hc, rfl⟩ := List.mem_map.1 h
    exact (cl_cb s c hc).1
theorem bds_of {s : ByteArray} {i : Int} (h : cbZ s i = true) : ∃ k : Nat, i = k ∧ k ∈ bds s := by
  obtain ⟨k, rfl, hb⟩ := cb_B h
  exact ⟨k, rfl, tiled_has (cl_tile s) (cl_cb s) (Nat.zero_le _) hb.1 h⟩
theorem bds_end (s : ByteArray) : s.size ∈ bds s := (tiled_rise (cl_tile s)).2
theorem bds_lt {s : ByteArray} {i j a b : Nat} (h : i < j) (ha : (bds s)[i]? = some a) (hb : (bds s)[j]? = some b) : a < b := by
  obtain ⟨h1, rfl⟩ := List.getElem?_eq_some_iff.1 ha
  obtain ⟨h2, rfl⟩ := List.getElem?_eq_some_iff.1 hb
  exact List.pairwise_iff_getElem.1 (tiled_rise (cl_tile s)).1 i j h1 h2 h
theorem bds_at {s : ByteArray} {k : Nat} (h : k ∈ bds s) : ∃ j : Nat, (bds s)[j]? = some k := List.getElem?_of_mem h
theorem bds_le {s : ByteArray} {k : Nat} (h : k ∈ bds s) : k ≤ s.size := by
  have h1 := bds_cb h
  by_cases e : k ≤ s.size
  · exact e
  · rw [cb_out (.inr (by omega))] at h1; cases h1

theorem bd_found {s : ByteArray} {i : Int} {n b : Nat} (hb : (bds s)[n]? = some b) (e : (b : Int) = i) : cbZ s i = true := by
  rw [← e]; exact bds_cb (List.mem_of_getElem? hb)
theorem bd_none {s : ByteArray} {i : Int} {n : Nat} (hn : (bds s).length ≤ n) (hall : ∀ j c, j < n → (bds s)[j]? = some c → (c : Int) ≠ i) : cbZ s i = false := by
  cases h : cbZ s i with
  | false => rfl
  | true =>
    obtain ⟨k, rfl, hk⟩ := bds_of h
    obtain ⟨j, hj⟩ := bds_at hk
    exact absurd rfl (hall j k (by have := (List.getElem?_eq_some_iff.1 hj).1; omega) hj)
theorem next_found {s : ByteArray} {i : Int} {n b : Nat} (hb : (bds s)[n]? = some b) (hlt : i < b) (hall : ∀ j c, j < n → (bds s)[j]? = some c → (c : Int) ≤ i) : IsNext s i b :=
  ⟨bds_cb (List.mem_of_getElem? hb), .inl hlt, fun j h1 h2 => by
    cases h : cbZ s j with
    | false => rfl
    | true =>
      obtain ⟨k, rfl, hk⟩ := bds_of h
      obtain ⟨q, hq⟩ := bds_at hk
      rcases Nat.lt_trichotomy q n with h3 | rfl | h3
      · have := hall q k h3 hq; omega
      · rw [hb] at hq; cases hq; omega
      · have := bds_lt h3 hb hq; omega⟩
theorem next_none {s : ByteArray} {i : Int} {n : Nat} (hn : (bds s).length ≤ n) (hall : ∀ j c, j < n → (bds s)[j]? = some c → (c : Int) ≤ i) : IsNext s i s.size := by
  obtain ⟨q, hq⟩ := bds_at (bds_end s)
  have := hall q _ (by have := (List.getElem?_eq_some_iff.1 hq).1; omega) hq
  exact ⟨cb_end s, .inr ⟨rfl, this⟩, fun j h1 h2 => by omega⟩
theorem snap_found {s : ByteArray} {i : Int} {n b : Nat} (hb : (bds s)[n]? = some b) (hlt : i ≤ b) (hall : ∀ j c, j < n → (bds s)[j]? = some c → (c : Int) < i) : IsSnap s i b :=
  ⟨bds_cb (List.mem_of_getElem? hb), .inl hlt, fun j h1 h2 => by
    cases h : cbZ s j with
    | false => rfl
    | true =>
      obtain ⟨k, rfl, hk⟩ := bds_of h
      obtain ⟨q, hq⟩ := bds_at hk
      rcases Nat.lt_trichotomy q n with h3 | rfl | h3
      · have := hall q k h3 hq; omega
      · rw [hb] at hq; cases hq; omega
      · have := bds_lt h3 hb hq; omega⟩
theorem snap_none {s : ByteArray} {i : Int} {n : Nat} (hn : (bds s).length ≤ n) (hall : ∀ j c, j < n → (bds s)[j]? = some c → (c : Int) < i) : IsSnap s i s.size := by
  obtain ⟨q, hq⟩ := bds_at (bds_end s)
  have := hall q _ (by have := (List.getElem?_eq_some_iff.1 hq).1; omega) hq
  exact ⟨cb_end s, .inr ⟨rfl, by omega⟩, fun j h1 h2 => by omega⟩
theorem prev_found {s : ByteArray} {i : Int} {n b : Nat} (hb : (bds s)[n]? = some b) (hlt : (b : Int) < i) (hall : ∀ j c, n < j → (bds s)[j]? = some c → i ≤ (c : Int)) : IsPrev s i b :=
  ⟨bds_cb (List.mem_of_getElem? hb), .inl hlt, fun j h1 h2 => by
    cases h : cbZ s j with
    | false => rfl
    | true =>
      obtain ⟨k, rfl, hk⟩ := bds_of h
      obtain ⟨q, hq⟩ := bds_at hk
      rcases Nat.lt_trichotomy q n with h3 | rfl | h3
      · have := bds_lt h3 hq hb; omega
      · rw [hb] at hq; cases hq; omega
      · have := hall q k h3 hq; omega⟩
theorem prev_none {s : ByteArray} {i : Int} (hall : ∀ j c : Nat, (bds s)[j]? = some c → i ≤ (c : Int)) : IsPrev s i 0 := by
  have := hall 0 0 rfl
  exact ⟨cb_zero s, .inr ⟨rfl, by omega⟩, fun j h1 h2 => by omega⟩
end Go.Proofs.YtffipfmnpffdaaaGreatDoor
namespace Go.Proofs.YtffipfmnpffdaaaGreatDoor
open Go.RowKit Bod Wid

theorem info3 : (Tryz.prog.info? 3).map (fun i => (i.zero, i.size, i.bytes)) = some (some (.int .i64 0), 1, 8) := by kernel_rfl
def icells (xs : List Nat) : List Value := xs.map fun (i : Nat) => Value.int .i64 (i : Int)
theorem icells_get {xs : List Nat} {j b : Nat} (h : xs[j]? = some b) : (icells xs)[j]? = some (.int .i64 b) := by
  unfold icells
  rw [List.getElem?_map, h]; rfl
theorem cell_one_new (w : World) (a : Value) (t : TypeId) : ∀ j u, [a][j]? = some u → (w.alloc (.cells #[a] t)).cell? ((⟨w.heap.size, 0, none⟩ : Addr).add j) = some u := by
  intro j u hj
  match j, hj with
  | 0, hj => simp at hj; subst hj; simp [Addr.add]
theorem own_one (w : World) (base : Nat) (hb : base ≤ w.heap.size) : (w.alloc (.cells #[.int .i64 0] 3)).ownsRow base 3 1 (.slice (some ⟨w.heap.size, 0, none⟩) 1 1) 1 [.int .i64 0] :=
  ⟨rfl, .inr ⟨w.heap.size, 1, #[.int .i64 0], rfl, hb, World.alloc_heap_new w _, by omega, by unfold maxLen; omega, rfl, rfl⟩⟩

/-- a slice that reads as all boundaries -/
def RdB (W : World) (g : Nat) (s : ByteArray) : Prop := ∀ j b : Nat, (bds s)[j]? = some b → W.cell? ⟨g, j, none⟩ = some (.int .i64 b)
/-- rows of two types are not one -/
theorem row_ne {W : World} {b1 b2 e1 e2 z1 z2 n1 n2 : Nat} {v1 v2 : Value} {x1 x2 : List Value} (h1 : W.ownsRow b1 e1 z1 v1 n1 x1) (h2 : W.ownsRow b2 e2 z2 v2 n2 x2) (he : e1 ≠ e2) : v1.ownBlock = none ∨ v1.ownBlock ≠ v2.ownBlock := by
  rcases h1.2 with ⟨h0, _⟩ | ⟨g', cap', cur, hv, _, hgb, _⟩
  · left; rw [h0]; rfl
  · right
    rcases h2.2 with ⟨h0, _⟩ | ⟨g2, cap2, cur2, hv2, _, hgb2, _⟩
    · rw [hv, h0]; intro h; cases h
    · rw [hv, hv2]
      intro h
      cases h
      rw [hgb] at hgb2
      cases hgb2
      exact he rfl
theorem row_sl {W : World} {b e z n : Nat} {v : Value} {xs : List Value} (h : W.ownsRow b e z v n xs) : ∃ a c, v = .slice a n c := by
  rcases h.2 with ⟨h0, h1⟩ | ⟨g', cap', cur, hv, _⟩
  · exact ⟨none, 0, by rw [h0, h1]⟩
  · exact ⟨_, _, hv⟩

set_option maxRecDepth 100000 in
set_option maxHeartbeats 2000000 in
theorem rbounds_any (s : ByteArray) (hs : s.size ≤ 2097152) (w : World) :
    Calls Tryz.prog 198 #[.string s] w fun e W' => ∃ g cap, e = .returned (.slice (some ⟨g, 0, none⟩) (bds s).length cap) ∧ RdB W' g s ∧ g < W'.heap.size ∧ Below w.heap.size w W' := by
  obtain ⟨i0, hi, hz0, hz1, hz2⟩ := info_parts info3
  obtain ⟨l, hl⟩ : ∃ l, cl s = l := ⟨_, rfl⟩
  obtain ⟨N, hN⟩ : ∃ N, l.length = N := ⟨_, rfl⟩
  have hNs : N ≤ s.size := by rw [← hN, ← hl]; exact cl_len s
  have HLE : Hid (∀ c ∈ l, c.to ≤ s.size) := by rw [← hl]; exact fun c hc => (cl_span hc).2
  obtain ⟨W1, hW1⟩ : ∃ W1, w.alloc (.cells #[.int .i64 0] 3) = W1 := ⟨_, rfl⟩
  have hsz1 : W1.heap.size = w.heap.size + 1 := by rw [← hW1]; simp
  have hB1 : Below w.heap.size w W1 := by rw [← hW1]; exact (Below.refl _ w).alloc (Nat.le_refl _) _
  have hR1 : W1.ownsRow w.heap.size 3 1 (.slice (some ⟨w.heap.size, 0, none⟩) 1 1) 1 [.int .i64 0] := by rw [← hW1]; exact own_one w w.heap.size (Nat.le_refl _)
  have CL : Hid (Calls Tryz.prog 117 #[.string s] W1 fun e W' => ∃ a cap, e = .returned (.slice a N cap) ∧ Hid (W'.ownsRow W1.heap.size 157 4 (.slice a N cap) N (ccl l) ∧ W'.ownsRow w.heap.size 3 1 (.slice (some ⟨w.heap.size, 0, none⟩) 1 1) 1 [.int .i64 0] ∧ Below w.heap.size w W')) := (rlist_any s (by omega) W1).mono fun e W' ⟨v, h1, h2, h3⟩ => by
    rw [hl, hN] at h2
    obtain ⟨a, c, rfl⟩ := row_sl h2
    exact ⟨a, c, h1, h2, row_below' hR1 h3, hB1.trans (h3.mono hB1.size)⟩
  have HN : Hid (l.length = N) := hN
  have HL : Hid (cl s = l) := hl
  have HB1 : Hid (w.heap.size ≤ W1.heap.size) := hB1.size
  clear hN hl hB1 hR1 hsz1
  go_enter Tryz.func198, Tryz.ntmps198
  go_wp2_with (go_at_call 117; refine (Hid.out CL).mono ?_; clear CL; rintro e W2 ⟨a0, c0, rfl, HR2⟩)
  go_loopw [3, 5] (fun v k wr => ∃ n : Nat, k = .int .i64 n ∧ n ≤ N ∧ Hid (wr.ownsRow W1.heap.size 157 4 (.slice a0 N c0) N (ccl l) ∧ wr.ownsRow w.heap.size 3 1 v (n + 1) (icells (0 :: (l.take n).map (·.to))) ∧ Below w.heap.size w wr)) (fun _ k _ => N - (intOf k).toNat)
  case atStart => exact ⟨0, rfl, Nat.zero_le _, HR2.out⟩
  case round =>
    obtain ⟨n, rfl, hn, HI⟩ := hrel
    have hBs := HI.out.2.2.size
    by_cases hlt : n < N
    · obtain ⟨c, hc⟩ : ∃ c, l[n]? = some c := ⟨l[n]'(by rw [HN.out]; exact hlt), List.getElem?_eq_getElem _⟩
      have hr4 := HI.out.1
      rw [← HN.out] at hr4
      obtain ⟨a1, c1, he, hr⟩ := Rd4.of_row hr4
      obtain ⟨g, hg, hgl, hcell⟩ := hr (fun e => by rw [e] at hc; simp at hc)
      cases he
      subst hg
      have d1 : wr.cell? ⟨g, n * 4 + 1, none⟩ = some (.int .i64 c.to) := (hcell n c hc).2.1
      have hct := HLE.out c (List.mem_of_getElem? hc)
      have HC1 : Hid (l[n]? = some c) := hc
      clear hcell hc hr hr4
      obtain ⟨ct, hct'⟩ : ∃ ct, c.to = ct := ⟨_, rfl⟩
      rw [hct'] at d1 hct
      have HCT : Hid (c.to = ct) := hct'
      clear hct'
      have HR : Hid ((wr.alloc (.cells #[.int .i64 ct] 3)).ownsRow w.heap.size 3 1 _ (n + 1) (icells (0 :: (l.take n).map (·.to)))) := HI.out.2.1.alloc _
      have HR4 : Hid ((wr.alloc (.cells #[.int .i64 ct] 3)).ownsRow W1.heap.size 157 4 _ N (ccl l)) := HI.out.1.alloc _
      go_wp2_with (at_builtin; refine wpList_append_own _ rfl _ _ 66 rfl w.heap.size 3 i0 _ 1 8 Tryz.underlying66 hi hz0 hz1 hz2 rfl (by decide) _ (n + 1) _ rfl HR.out ⟨wr.heap.size, 0, none⟩ 1 1 [.int .i64 ct] rfl rfl (cell_one_new _ _ _) (by simp [Value.oneCell']) (by unfold maxLen; omega) (by omega) (by simp; omega) ?_; intro v3 w3 hrow3 hg3 _)
      refine ⟨⟨n + 1, by go_num, by omega, HR4.out.kept hg3 (row_ne HR4.out HR.out (by decide)), ?_, (HI.out.2.2.alloc hBs _).grown hg3 (by simp; omega) (fun j e => (HI.out.2.1.lt j e).1)⟩, by simp [intOf]; omega⟩
      have e : icells (0 :: (l.take (n + 1)).map (·.to)) = icells (0 :: (l.take n).map (·.to)) ++ [.int .i64 ct] := by
        rw [List.take_add_one, HC1.out]
        simp [icells, HCT.out]
      rw [e]
      exact hrow3
    · have hnN : n = N := by omega
      subst hnN
      have e : (0 :: (l.take n).map (·.to)) = bds s := by
        rw [← HN.out, List.take_length, ← HL.out]; rfl
      have hrow := HI.out.2.1
      rw [e] at hrow
      have hlen : n + 1 = (bds s).length := by rw [bds_len, HL.out, HN.out]
      rcases hrow.2 with ⟨_, h0⟩ | ⟨g, cap, cur, hv, hbg, _⟩
      · omega
      subst hv
      have HF : Hid (RdB wr g s) := fun j b hj => (hrow.cellAt j (by have := (List.getElem?_eq_some_iff.1 hj).1; omega)).trans (icells_get hj)
      have HG : Hid (g < wr.heap.size) := (hrow.lt g rfl).2
      have HLN : Hid (n + 1 = (bds s).length) := hlen
      clear hrow hlen e hlt
      go_wp2
      go_ret
      exact ⟨g, cap, by rw [← HLN.out]; rfl, HF.out, HG.out, HI.out.2.2⟩

set_option maxRecDepth 100000 in
set_option maxHeartbeats 1000000 in
theorem rbound_any (s : ByteArray) (i : Int) (hs : s.size ≤ 2097152) (w : World) :
    Calls Tryz.prog 153 #[.string s, .int .i64 i] w fun e w' => e = .returned (.bool (cbZ s i)) ∧ Below w.heap.size w w' := by
  have cB := rbounds_any s hs w
  obtain ⟨M, hM⟩ : ∃ M, (bds s).length = M := ⟨_, rfl⟩
  have hMs : M ≤ s.size + 1 := by rw [← hM, bds_len]; have := cl_len s; omega
  have HM : Hid ((bds s).length = M) := hM
  rw [hM] at cB
  clear hM
  go_enter Tryz.func153, Tryz.ntmps153
  go_wp2_with (go_at_call 198; refine cB.mono ?_; clear cB; rintro e W2 ⟨g, cap, rfl, hc, hg, hb1⟩; have hB2 : Hid (Below w.heap.size w W2) := hb1; have HC : Hid (RdB W2 g s) := hc; clear hb1 hc)
  go_loopw [6] (fun k wr => ∃ (n : Nat), k = .int .i64 n ∧ n ≤ M ∧ wr = W2 ∧ Hid (∀ j c : Nat, j < n → (bds s)[j]? = some c → (c : Int) ≠ i)) (fun k _ => M - (intOf k).toNat)
  case atStart => exact ⟨0, rfl, by omega, rfl, fun j c h => by omega⟩
  case round =>
    obtain ⟨n, rfl, hn, rfl, HD⟩ := hrel
    by_cases hlt : n < M
    · obtain ⟨x, hx⟩ : ∃ x, (bds s)[n]? = some x := ⟨(bds s)[n]'(by rw [HM.out]; exact hlt), List.getElem?_eq_getElem _⟩
      have hcn := HC.out n x hx
      have HX : Hid ((bds s)[n]? = some x) := hx
      clear hx
      by_cases hle : (x : Int) = i
      · subst hle
        have HR : Hid (cbZ s x = true) := bd_found HX.out rfl
        go_wp2
        go_ret
        exact ⟨ret_bool HR.out.symm, hB2.out⟩
      · have hne : ((x : Int) == i) = false := by simpa using hle
        go_wp2
        go_roundw
        case rel =>
          refine ⟨n + 1, by go_num, by omega, trivial, fun j c hj hc => ?_⟩
          by_cases e : j = n
          · subst e
            have := HX.out.symm.trans hc
            cases this
            omega
          · exact HD.out j c (by omega) hc
        case measure => simp [intOf]; omega
    · have HR : Hid (cbZ s i = false) := bd_none (n := n) (by rw [HM.out]; omega) HD.out
      go_wp2
      go_ret
      exact ⟨ret_bool HR.out.symm, hB2.out⟩

set_option maxRecDepth 100000 in
set_option maxHeartbeats 1000000 in
theorem rnext_any (s : ByteArray) (i : Int) (hs : s.size ≤ 2097152) (w : World) :
    Calls Tryz.prog 154 #[.string s, .int .i64 i] w fun e w' => ∃ m : Nat, e = .returned (.int .i64 m) ∧ IsNext s i m ∧ Below w.heap.size w w' := by
  have cB := rbounds_any s hs w
  obtain ⟨M, hM⟩ : ∃ M, (bds s).length = M := ⟨_, rfl⟩
  have hMs : M ≤ s.size + 1 := by rw [← hM, bds_len]; have := cl_len s; omega
  have HM : Hid ((bds s).length = M) := hM
  rw [hM] at cB
  clear hM
  go_enter Tryz.func154, Tryz.ntmps154
  go_wp2_with (go_at_call 198; refine cB.mono ?_; clear cB; rintro e W2 ⟨g, cap, rfl, hc, hg, hb1⟩; have hB2 : Hid (Below w.heap.size w W2) := hb1; have HC : Hid (RdB W2 g s) := hc; clear hb1 hc)
  go_loopw [6] (fun k wr => ∃ (n : Nat), k = .int .i64 n ∧ n ≤ M ∧ wr = W2 ∧ Hid (∀ j c : Nat, j < n → (bds s)[j]? = some c → (c : Int) ≤ i)) (fun k _ => M - (intOf k).toNat)
  case atStart => exact ⟨0, rfl, by omega, rfl, fun j c h => by omega⟩
  case round =>
    obtain ⟨n, rfl, hn, rfl, HD⟩ := hrel
    by_cases hlt : n < M
    · obtain ⟨x, hx⟩ : ∃ x, (bds s)[n]? = some x := ⟨(bds s)[n]'(by rw [HM.out]; exact hlt), List.getElem?_eq_getElem _⟩
      have hcn := HC.out n x hx
      have HX : Hid ((bds s)[n]? = some x) := hx
      clear hx
      by_cases hle : i < (x : Int)
      · have HR : Hid (IsNext s i x) := next_found HX.out hle HD.out
        go_wp2
        go_ret
        exact ⟨x, rfl, HR.out, hB2.out⟩
      · go_wp2
        go_roundw
        case rel =>
          refine ⟨n + 1, by go_num, by omega, trivial, fun j c hj hc => ?_⟩
          by_cases e : j = n
          · subst e
            have := HX.out.symm.trans hc
            cases this
            omega
          · exact HD.out j c (by omega) hc
        case measure => simp [intOf]; omega
    · have HR : Hid (IsNext s i s.size) := next_none (n := n) (by rw [HM.out]; omega) HD.out
      go_wp2
      go_ret
      exact ⟨s.size, rfl, HR.out, hB2.out⟩

set_option maxRecDepth 100000 in
set_option maxHeartbeats 1000000 in
theorem rsnap_any (s : ByteArray) (i : Int) (hs : s.size ≤ 2097152) (w : World) :
    Calls Tryz.prog 157 #[.string s, .int .i64 i] w fun e w' => ∃ m : Nat, e = .returned (.int .i64 m) ∧ IsSnap s i m ∧ Below w.heap.size w w' := by
  have cB := rbounds_any s hs w
  obtain ⟨M, hM⟩ : ∃ M, (bds s).length = M := ⟨_, rfl⟩
  have hMs : M ≤ s.size + 1 := by rw [← hM, bds_len]; have := cl_len s; omega
  have HM : Hid ((bds s).length = M) := hM
  rw [hM] at cB
  clear hM
  go_enter Tryz.func157, Tryz.ntmps157
  go_wp2_with (go_at_call 198; refine cB.mono ?_; clear cB; rintro e W2 ⟨g, cap, rfl, hc, hg, hb1⟩; have hB2 : Hid (Below w.heap.size w W2) := hb1; have HC : Hid (RdB W2 g s) := hc; clear hb1 hc)
  go_loopw [6] (fun k wr => ∃ (n : Nat), k = .int .i64 n ∧ n ≤ M ∧ wr = W2 ∧ Hid (∀ j c : Nat, j < n → (bds s)[j]? = some c → (c : Int) < i)) (fun k _ => M - (intOf k).toNat)
  case atStart => exact ⟨0, rfl, by omega, rfl, fun j c h => by omega⟩
  case round =>
    obtain ⟨n, rfl, hn, rfl, HD⟩ := hrel
    by_cases hlt : n < M
    · obtain ⟨x, hx⟩ : ∃ x, (bds s)[n]? = some x := ⟨(bds s)[n]'(by rw [HM.out]; exact hlt), List.getElem?_eq_getElem _⟩
      have hcn := HC.out n x hx
      have HX : Hid ((bds s)[n]? = some x) := hx
      clear hx
      by_cases hle : i ≤ (x : Int)
      · have HR : Hid (IsSnap s i x) := snap_found HX.out hle HD.out
        go_wp2
        go_ret
        exact ⟨x, rfl, HR.out, hB2.out⟩
      · go_wp2
        go_roundw
        case rel =>
          refine ⟨n + 1, by go_num, by omega, trivial, fun j c hj hc => ?_⟩
          by_cases e : j = n
          · subst e
            have := HX.out.symm.trans hc
            cases this
            omega
          · exact HD.out j c (by omega) hc
        case measure => simp [intOf]; omega
    · have HR : Hid (IsSnap s i s.size) := snap_none (n := n) (by rw [HM.out]; omega) HD.out
      go_wp2
      go_ret
      exact ⟨s.size, rfl, HR.out, hB2.out⟩

set_option maxRecDepth 100000 in
set_option maxHeartbeats 1000000 in
theorem rprev_any (s : ByteArray) (i : Int) (hs : s.size ≤ 2097152) (w : World) :
    Calls Tryz.prog 156 #[.string s, .int .i64 i] w fun e w' => ∃ m : Nat, e = .returned (.int .i64 m) ∧ IsPrev s i m ∧ Below w.heap.size w w' := by
  have cB := rbounds_any s hs w
  obtain ⟨M, hM⟩ : ∃ M, (bds s).length = M := ⟨_, rfl⟩
  have hMs : M ≤ s.size + 1 := by rw [← hM, bds_len]; have := cl_len s; omega
  have HM : Hid ((bds s).length = M) := hM
  rw [hM] at cB
  clear hM
  go_enter Tryz.func156, Tryz.ntmps156
  go_wp2_with (go_at_call 198; refine cB.mono ?_; clear cB; rintro e W2 ⟨g, cap, rfl, hc, hg, hb1⟩; have hB2 : Hid (Below w.heap.size w W2) := hb1; have HC : Hid (RdB W2 g s) := hc; clear hb1 hc)
  go_loopw [6] (fun k wr => ∃ (n : Nat), k = .int .i64 ((n : Int) - 1) ∧ n ≤ M ∧ wr = W2 ∧ Hid (∀ j c : Nat, n ≤ j → (bds s)[j]? = some c → i ≤ (c : Int))) (fun k _ => (intOf k + 1).toNat)
  case atStart => exact ⟨M, by go_num, by omega, rfl, fun j c h hc => by have := (List.getElem?_eq_some_iff.1 hc).1; rw [HM.out] at this; omega⟩
  case round =>
    obtain ⟨n, rfl, hn, rfl, HD⟩ := hrel
    cases n with
    | succ n =>
      have e1 : ((n + 1 : Nat) : Int) - 1 = (n : Int) := by omega
      rw [e1]
      obtain ⟨x, hx⟩ : ∃ x, (bds s)[n]? = some x := ⟨(bds s)[n]'(by rw [HM.out]; omega), List.getElem?_eq_getElem _⟩
      have hcn := HC.out n x hx
      have HX : Hid ((bds s)[n]? = some x) := hx
      clear hx e1
      by_cases hle : (x : Int) < i
      · have HR : Hid (IsPrev s i x) := prev_found HX.out hle (fun j c h => HD.out j c (by omega))
        go_wp2
        go_ret
        exact ⟨x, rfl, HR.out, hB2.out⟩
      · go_wp2
        go_roundw
        case rel =>
          refine ⟨n, by go_num, by omega, trivial, fun j c hj hc => ?_⟩
          by_cases e : j = n
          · subst e
            have := HX.out.symm.trans hc
            cases this
            omega
          · exact HD.out j c (by omega) hc
        case measure => simp [intOf]
    | zero =>
      have HR : Hid (IsPrev s i 0) := prev_none (fun j c => HD.out j c (Nat.zero_le _))
      go_wp2
      go_ret
      exact ⟨0, rfl, HR.out, hB2.out⟩
end Go.Proofs.YtffipfmnpffdaaaGreatDoor
namespace Go.Proofs.YtffipfmnpffdaaaGreatDoor.Sto
open Go.RowKit Go.Shelf Bod Wid
open Gap (Gp)

section
variable {w : World} {b p : Nat} {g : Gp} {k : Rk}
set_option maxRecDepth 100000 in
theorem rbound9_any (h : Rf w b p g k) (hz : g.s.size ≤ 2097152) (i : Int) : Calls Tryz.prog 84 #[.pointer (some ⟨b, 0, none⟩), .int .i64 i] w fun e W' => e = .returned (.bool (cbZ g.s i)) ∧ Below w.heap.size w W' := by
  obtain ⟨⟨c0, c1, c2, c3, c4, c5, c6, c7⟩, hlt⟩ := rcells h.box
  obtain ⟨⟨d0, d1, d2⟩, _, _, hlp⟩ := h.buf.cells
  have C1 : Hid (Calls Tryz.prog 153 #[.string g.s, .int .i64 i] w fun e W' => e = .returned (.bool (cbZ g.s i)) ∧ Hid (Below w.heap.size w W')) := rbound_any g.s i hz w
  generalize cbZ g.s i = r at C1 ⊢
  clear h hz
  go_enter Tryz.func84, Tryz.ntmps84
  go_wp2_with (go_at_call 153; refine C1.out.mono ?_; clear C1; rintro e w1 ⟨rfl, HB⟩)
  go_ret
  exact ⟨rfl, HB.out⟩
set_option maxRecDepth 100000 in
theorem rnext9_any (h : Rf w b p g k) (hz : g.s.size ≤ 2097152) (i : Int) : Calls Tryz.prog 86 #[.pointer (some ⟨b, 0, none⟩), .int .i64 i] w fun e W' => ∃ m : Nat, e = .returned (.int .i64 m) ∧ IsNext g.s i m ∧ Below w.heap.size w W' := by
  obtain ⟨⟨c0, c1, c2, c3, c4, c5, c6, c7⟩, hlt⟩ := rcells h.box
  obtain ⟨⟨d0, d1, d2⟩, _, _, hlp⟩ := h.buf.cells
  have C1 : Hid (Calls Tryz.prog 154 #[.string g.s, .int .i64 i] w fun e W' => ∃ m : Nat, e = .returned (.int .i64 m) ∧ Hid (IsNext g.s i m ∧ Below w.heap.size w W')) := rnext_any g.s i hz w
  clear h hz
  go_enter Tryz.func86, Tryz.ntmps86
  go_wp2_with (go_at_call 154; refine C1.out.mono ?_; clear C1; rintro e w1 ⟨m, rfl, HB⟩)
  go_ret
  exact ⟨m, rfl, HB.out⟩
set_option maxRecDepth 100000 in
theorem rprev9_any (h : Rf w b p g k) (hz : g.s.size ≤ 2097152) (i : Int) : Calls Tryz.prog 88 #[.pointer (some ⟨b, 0, none⟩), .int .i64 i] w fun e W' => ∃ m : Nat, e = .returned (.int .i64 m) ∧ IsPrev g.s i m ∧ Below w.heap.size w W' := by
  obtain ⟨⟨c0, c1, c2, c3, c4, c5, c6, c7⟩, hlt⟩ := rcells h.box
  obtain ⟨⟨d0, d1, d2⟩, _, _, hlp⟩ := h.buf.cells
  have C1 : Hid (Calls Tryz.prog 156 #[.string g.s, .int .i64 i] w fun e W' => ∃ m : Nat, e = .returned (.int .i64 m) ∧ Hid (IsPrev g.s i m ∧ Below w.heap.size w W')) := rprev_any g.s i hz w
  clear h hz
  go_enter Tryz.func88, Tryz.ntmps88
  go_wp2_with (go_at_call 156; refine C1.out.mono ?_; clear C1; rintro e w1 ⟨m, rfl, HB⟩)
  go_ret
  exact ⟨m, rfl, HB.out⟩
set_option maxRecDepth 100000 in
theorem rsnap9_any (h : Rf w b p g k) (hz : g.s.size ≤ 2097152) (i : Int) : Calls Tryz.prog 90 #[.pointer (some ⟨b, 0, none⟩), .int .i64 i] w fun e W' => ∃ m : Nat, e = .returned (.int .i64 m) ∧ IsSnap g.s i m ∧ Below w.heap.size w W' := by
  obtain ⟨⟨c0, c1, c2, c3, c4, c5, c6, c7⟩, hlt⟩ := rcells h.box
  obtain ⟨⟨d0, d1, d2⟩, _, _, hlp⟩ := h.buf.cells
  have C1 : Hid (Calls Tryz.prog 157 #[.string g.s, .int .i64 i] w fun e W' => ∃ m : Nat, e = .returned (.int .i64 m) ∧ Hid (IsSnap g.s i m ∧ Below w.heap.size w W')) := rsnap_any g.s i hz w
  clear h hz
  go_enter Tryz.func90, Tryz.ntmps90
  go_wp2_with (go_at_call 157; refine C1.out.mono ?_; clear C1; rintro e w1 ⟨m, rfl, HB⟩)
  go_ret
  exact ⟨m, rfl, HB.out⟩
end
end Go.Proofs.YtffipfmnpffdaaaGreatDoor.Sto
namespace Go.Proofs.YtffipfmnpffdaaaGreatDoor.Sto
open Bod Wid

theorem cb_piece {s : ByteArray} {f t i : Nat} (hf : f < i) (ht : i < t) (hts : t ≤ s.size) (h1 : f = 0 ∨ f + 4 ≤ i) (h2 : t = s.size ∨ i + 4 ≤ t) : cbZ (s.extract f t) ((i - f : Nat) : Int) = cbZ s i := by
  have hs := size_extract s f t hts
  refine cb_near (by omega) (by rw [hs]; omega) (by omega) (by omega) (by omega) fun d h3 h4 => ?_
  rw [un_extract s f t (i - f - d) hts (by omega) (by omega)]
  congr 1
  omega
theorem next_piece {s : ByteArray} {a f t m : Nat} (ha : a < t) (hts : t ≤ s.size) (hfa : f ≤ a) (hf : f = 0 ∨ f + 4 ≤ a) (hm : IsNext (s.extract f t) ((a - f : Nat) : Int) m) (h : f + m + 4 ≤ t ∨ t = s.size) : IsNext s (a : Int) (f + m) := by
  have hz := size_extract s f t hts
  obtain ⟨_, e, b⟩ := cb_B hm.cb
  have hmz : m ≤ t - f := by have := b.1; omega
  have hup : a - f < m := by
    rcases hm.up with h | ⟨_, h⟩
    · omega
    · rw [hz] at h; omega
  refine ⟨?_, .inl (by omega), fun j h1 h2 => ?_⟩
  · by_cases e : f + m = s.size
    · rw [e]; exact cb_end s
    · have := cb_piece (s := s) (i := f + m) (f := f) (t := t) (by omega) (by omega) hts (by omega) (by omega)
      rw [show f + m - f = m by omega] at this
      rw [← this]
      exact hm.cb
  · obtain ⟨k, rfl⟩ := Int.eq_ofNat_of_zero_le (show 0 ≤ j by omega)
    have := cb_piece (s := s) (i := k) (f := f) (t := t) (by omega) (by omega) hts (by omega) (by omega)
    rw [← this]
    exact hm.no _ (by omega) (by omega)
theorem prev_piece {s : ByteArray} {a f t m : Nat} (hat : a ≤ t) (hts : t ≤ s.size) (hfa : f < a) (ht : t = s.size ∨ a + 4 ≤ t) (hm : IsPrev (s.extract f t) ((a - f : Nat) : Int) m) (h : 4 ≤ m ∨ f = 0) : IsPrev s (a : Int) (f + m) := by
  have hdn : m < a - f := by
    rcases hm.dn with h | ⟨h, h'⟩
    · omega
    · omega
  refine ⟨?_, .inl (by omega), fun j h1 h2 => ?_⟩
  · by_cases e : f + m = 0
    · rw [e]; exact cb_zero s
    · have := cb_piece (s := s) (i := f + m) (f := f) (t := t) (by omega) (by omega) hts (by omega) (by omega)
      rw [show f + m - f = m by omega] at this
      rw [← this]
      exact hm.cb
  · obtain ⟨k, rfl⟩ := Int.eq_ofNat_of_zero_le (show 0 ≤ j by omega)
    have := cb_piece (s := s) (i := k) (f := f) (t := t) (by omega) (by omega) hts (by omega) (by omega)
    rw [← this]
    exact hm.no _ (by omega) (by omega)
theorem bound_piece {s : ByteArray} {a : Nat} (ha : a ≤ s.size) : cbZ (s.extract (a - 4) (min (a + 4) s.size)) ((a - (a - 4) : Nat) : Int) = cbZ s a := by
  by_cases h0 : a = 0
  · subst h0
    rw [show ((0 - (0 - 4) : Nat) : Int) = 0 from rfl, cb_zero]
    exact (cb_zero s).symm
  · by_cases h1 : a = s.size
    · have hz := size_extract s (a - 4) (min (a + 4) s.size) (by omega)
      have e : ((a - (a - 4) : Nat) : Int) = ((s.extract (a - 4) (min (a + 4) s.size)).size : Nat) := by rw [hz]; omega
      rw [e, cb_end, h1, cb_end]
    · exact cb_piece (by omega) (by omega) (by omega) (by omega) (by omega)
theorem next_low {s : ByteArray} {i : Int} (h : i < 0) : IsNext s i 0 := ⟨cb_zero s, .inl h, fun _ _ h2 => cb_out (.inl h2)⟩
theorem next_high {s : ByteArray} {i : Int} (h : (s.size : Int) ≤ i) : IsNext s i s.size := ⟨cb_end s, .inr ⟨rfl, h⟩, fun j h1 h2 => by omega⟩
theorem prev_low {s : ByteArray} {i : Int} (h : i ≤ 0) : IsPrev s i 0 := ⟨cb_zero s, .inr ⟨rfl, h⟩, fun j h1 h2 => by omega⟩
theorem prev_high {s : ByteArray} {i : Int} (h : (s.size : Int) < i) : IsPrev s i s.size := ⟨cb_end s, .inl h, fun _ h1 _ => cb_out (.inr h1)⟩
end Go.Proofs.YtffipfmnpffdaaaGreatDoor.Sto
namespace Go.Proofs.YtffipfmnpffdaaaGreatDoor.Sto
open Go.RowKit Go.Shelf Bod Wid
open Gap (gSlice gRng)

theorem gSlice_nat {s : ByteArray} {f t : Nat} (h1 : f ≤ t) (h2 : t ≤ s.size) : (gSlice s (f : Int) (t : Int)).1 = s.extract f t := by
  have h : gRng (f : Int) (t : Int) s.size = false := by simp [gRng]; omega
  unfold gSlice
  rw [h]
  rfl
/-- the text's length, and a piece of it, in later worlds -/
structure Pcs (w : World) (v : Value) (s : ByteArray) (n : Nat) : Prop where
  len0 : ∀ W, Below w.heap.size w W → Calls Tryz.prog 99 #[v] W fun e W' => e = .returned (.int .i64 n) ∧ Below W.heap.size W W'
  piece0 : ∀ (W : World) (f t : Nat), Below w.heap.size w W → f ≤ t → t ≤ n → Calls Tryz.prog 147 #[v, .int .i64 f, .int .i64 t] W fun e W' => e = .returned (.string (s.extract f t)) ∧ Below W.heap.size W W'
  size : s.size = n
  le : n ≤ 1073741824
theorem Pcs.len {w : World} {v : Value} {s : ByteArray} {n : Nat} (h : Pcs w v s n) : Calls Tryz.prog 99 #[v] w fun e W' => e = .returned (.int .i64 n) ∧ Hid (Below w.heap.size w W') := h.len0 w (Below.refl _ w)
theorem Pcs.piece {w : World} {v : Value} {s : ByteArray} {n : Nat} (h : Pcs w v s n) (W : World) (f t : Nat) (hW : Hid (Below w.heap.size w W)) (h1 : f ≤ t) (h2 : t ≤ n) : Calls Tryz.prog 147 #[v, .int .i64 f, .int .i64 t] W fun e W' => e = .returned (.string (s.extract f t)) ∧ Hid (Below w.heap.size w W') :=
  (h.piece0 W f t hW.out h1 h2).mono fun _ _ ⟨q1, q2⟩ => ⟨q1, Below.on hW.out q2⟩
theorem Pcs.below {w W : World} {v : Value} {s : ByteArray} {n : Nat} (h : Pcs w v s n) (hb : Below w.heap.size w W) : Pcs W v s n := ⟨fun X hX => h.len0 X (Below.on hb hX), fun X f t hX => h.piece0 X f t (Below.on hb hX), h.size, h.le⟩
theorem pcs_of {w : World} {v : Value} {x : Option Tx} {k : Sk} {K : Kp} (h : Spt w v x k) (hH : Hold w (Tx.or x) K) : Pcs w v K.text K.text.size :=
  ⟨fun W hW => slen_any (h.below hW) (hH.below hW), fun W f t hW h1 h2 => (spiece_any (h.below hW) (hH.below hW) f t).mono fun e W' ⟨q1, q2⟩ => ⟨by rw [q1, gSlice_nat h1 h2], q2⟩, rfl, by have := hH.size; omega⟩
set_option maxRecDepth 100000 in
set_option maxHeartbeats 1000000 in
theorem bound_of {w : World} {v : Value} {s : ByteArray} {n : Nat} (h : Pcs w v s n) (hE : Ev w) (i : Int) (hi : i ≤ 9223372036854775807) : Calls Tryz.prog 83 #[v, .int .i64 i] w fun e W' => e = .returned (.bool (cbZ s i)) ∧ Below w.heap.size w W' := by
  have C1 : Hid (Calls Tryz.prog 99 #[v] w fun e W' => e = .returned (.int .i64 n) ∧ Hid (Below w.heap.size w W')) := h.len
  have hz := h.size
  have hn := h.le
  by_cases c1 : i < 0
  · rw [cb_out (.inl c1)]
    clear h hE hz
    go_enter Tryz.func83, Tryz.ntmps83
    go_wp2_with (go_at_call 99; refine C1.out.mono ?_; clear C1; rintro e w1 ⟨rfl, HB⟩)
    go_ret
    exact ⟨rfl, HB.out⟩
  by_cases c2 : (n : Int) < i
  · rw [cb_out (.inr (by rw [hz]; exact c2))]
    clear h hE hz
    go_enter Tryz.func83, Tryz.ntmps83
    go_wp2_with (go_at_call 99; refine C1.out.mono ?_; clear C1; rintro e w1 ⟨rfl, HB⟩)
    go_ret
    exact ⟨rfl, HB.out⟩
  obtain ⟨a, rfl⟩ := Int.eq_ofNat_of_zero_le (show 0 ≤ i by omega)
  obtain ⟨f, hf⟩ : ∃ f, a - 4 = f := ⟨_, rfl⟩
  obtain ⟨t, ht⟩ : ∃ t, min (a + 4) n = t := ⟨_, rfl⟩
  obtain ⟨d, hd⟩ : ∃ d, a - f = d := ⟨_, rfl⟩
  have e1 : max ((a : Int) - 4) 0 = f := by omega
  have e2 : min ((a : Int) + 4) n = t := by omega
  have e3 : (a : Int) - f = d := by omega
  have C2 : Hid (∀ W, Hid (Below w.heap.size w W) → Calls Tryz.prog 147 #[v, .int .i64 f, .int .i64 t] W fun e W' => e = .returned (.string (s.extract f t)) ∧ Hid (Below w.heap.size w W')) := fun W hW => h.piece W f t hW (by omega) (by omega)
  have hp := size_extract s f t (by omega)
  have C3 : Hid (∀ W, Hid (Below w.heap.size w W) → Calls Tryz.prog 14 #[.string (s.extract f t), .int .i64 d] W fun e W' => e = .returned (.bool (cbZ s a)) ∧ Below w.heap.size w W') := fun W hW => by
    have := cbound_any (s.extract f t) d (by unfold maxLen; omega) W (hE.below hW.out).t (by omega)
    have hb := bound_piece (s := s) (a := a) (by omega)
    rw [hz, hf, ht, hd] at hb
    rw [hb] at this
    exact this.mono fun e W' ⟨q1, q2⟩ => ⟨q1, Below.on hW.out q2⟩
  generalize cbZ s a = R at C3 ⊢
  generalize s.extract f t = p at C2 C3
  have b1 : (a : Int) ≤ 1073741824 := by omega
  clear h hE hz hp hf ht hd
  go_enter Tryz.func83, Tryz.ntmps83
  go_wp2_with (first
    | (go_at_call 99; refine C1.out.mono ?_; clear C1; rintro e w1 ⟨rfl, HB⟩)
    | (go_at_call 147; refine (C2.out _ HB).mono ?_; clear C2 HB; rintro e w2 ⟨rfl, HB⟩)
    | (go_at_call 14; refine (C3.out _ HB).mono ?_; clear C3 HB; rintro e w3 ⟨rfl, hb⟩; have HB : Hid (Below w.heap.size w w3) := hb; clear hb))
  go_ret
  exact ⟨rfl, HB.out⟩
set_option maxRecDepth 100000 in
set_option maxHeartbeats 1000000 in
theorem next_of {w : World} {v : Value} {s : ByteArray} {n : Nat} (h : Pcs w v s n) (hE : Ev w) (i : Int) : Calls Tryz.prog 85 #[v, .int .i64 i] w fun e W' => ∃ m : Nat, e = .returned (.int .i64 m) ∧ IsNext s i m ∧ Below w.heap.size w W' := by
  have C1 : Hid (Calls Tryz.prog 99 #[v] w fun e W' => e = .returned (.int .i64 n) ∧ Hid (Below w.heap.size w W')) := h.len
  have hz := h.size
  have hn := h.le
  by_cases c1 : i < 0
  · have HN : Hid (IsNext s i 0) := next_low c1
    clear h hE hz
    go_enter Tryz.func85, Tryz.ntmps85
    go_wp2_with (go_at_call 99; refine C1.out.mono ?_; clear C1; rintro e w1 ⟨rfl, HB⟩)
    go_ret
    exact ⟨0, rfl, HN.out, HB.out⟩
  by_cases c2 : (n : Int) ≤ i
  · have HN : Hid (IsNext s i n) := by have := next_high (s := s) (i := i) (by rw [hz]; exact c2); rw [hz] at this; exact this
    clear h hE hz
    go_enter Tryz.func85, Tryz.ntmps85
    go_wp2_with (go_at_call 99; refine C1.out.mono ?_; clear C1; rintro e w1 ⟨rfl, HB⟩)
    go_ret
    exact ⟨n, rfl, HN.out, HB.out⟩
  obtain ⟨a, rfl⟩ := Int.eq_ofNat_of_zero_le (show 0 ≤ i by omega)
  obtain ⟨f, hf⟩ : ∃ f, a - 4 = f := ⟨_, rfl⟩
  obtain ⟨d, hd⟩ : ∃ d, a - f = d := ⟨_, rfl⟩
  have e1 : max ((a : Int) - 4) 0 = f := by omega
  have e3 : (a : Int) - f = d := by omega
  have b1 : (a : Int) ≤ 1073741824 := by omega
  have HP : Hid (Pcs w v s n ∧ Ev w ∧ a - 4 = f ∧ a - f = d ∧ a < n) := ⟨h, hE, hf, hd, by omega⟩
  clear h hE hz hf hd
  obtain ⟨M, hM⟩ : ∃ M : Nat, 2147483648 ≤ M ∧ M ≤ 2147483648 := ⟨2147483648, by omega, by omega⟩
  have HMM : Hid (2147483648 ≤ M ∧ M ≤ 2147483648) := hM
  clear hM
  have t1 : decide ((a : Int) < 0) = false := by simp
  have t2 : decide (n ≤ a) = false := by simp; omega
  have t3 : decide ((n : Int) ≤ a) = false := by simp; omega
  go_enter Tryz.func85, Tryz.ntmps85
  go_wp2_with (go_at_call 99; refine C1.out.mono ?_; clear C1; rintro e w1 ⟨rfl, HB⟩)
  go_loopw [7] (fun t7 wr => ∃ r : Nat, t7 = .int .i64 r ∧ 32 ≤ r ∧ r ≤ M ∧ Hid (Below w.heap.size w wr)) (fun t7 _ => M - (intOf t7).toNat)
  case atStart => exact ⟨32, rfl, by omega, by have := HMM.out; omega, HB.out⟩
  case round =>
    clear HB
    obtain ⟨r, rfl, hr1, hr2, HB⟩ := hrel
    have hr4 : (r : Int) ≤ 2147483648 := by have := HMM.out; omega
    obtain ⟨t, ht⟩ : ∃ t, min (a + r) n = t := ⟨_, rfl⟩
    have e2 : min ((a : Int) + r) n = t := by omega
    have ht1 : f ≤ t := by have := HP.out.2.2; omega
    have ht2 : a < t ∧ t ≤ n := by have := HP.out.2.2; omega
    have hz := HP.out.1.size
    have hp := size_extract s f t (by omega)
    obtain ⟨m, hm⟩ : ∃ m, IsNext (s.extract f t) (d : Int) m := ⟨_, nxC_is (by have := HP.out.2.2; omega)⟩
    have hmz : m ≤ t := by obtain ⟨_, e, b⟩ := cb_B hm.cb; have := b.1; omega
    have C2 : Hid (∀ W, Hid (Below w.heap.size w W) → Calls Tryz.prog 147 #[v, .int .i64 f, .int .i64 t] W fun e W' => e = .returned (.string (s.extract f t)) ∧ Hid (Below w.heap.size w W')) := fun W hW => HP.out.1.piece W f t hW ht1 ht2.2
    have C3 : Hid (∀ W, Hid (Below w.heap.size w W) → Calls Tryz.prog 58 #[.string (s.extract f t), .int .i64 d] W fun e W' => e = .returned (.int .i64 m) ∧ Hid (Below w.heap.size w W')) := fun W hW =>
      (cnext_any (s.extract f t) d (by unfold maxLen; omega) W (HP.out.2.1.below hW.out).t).mono fun e W' ⟨m', q1, q2, q3⟩ => ⟨by rw [q1, q2.uniq hm], Below.on hW.out q3⟩
    have HM : Hid (f + m + 4 ≤ t ∨ t = n → IsNext s a (f + m)) := fun hc => by
      have h2 := HP.out.2.2
      refine next_piece (a := a) (f := f) (t := t) (m := m) ht2.1 (by omega) (by omega) (by omega) ?_ (by rw [hz]; exact hc)
      rw [h2.2.1]; exact hm
    have HR : Hid (t < n → r < n ∧ a + r = t) := fun h => by omega
    generalize s.extract f t = p at C2 C3 hm hp
    have b2 : (f : Int) ≤ 1073741824 ∧ (m : Int) ≤ 1073741824 ∧ (t : Int) ≤ 1073741824 := by omega
    clear hm hp hz ht ht1
    by_cases c3 : f + m + 4 ≤ t
    · have c4 : (f : Int) + m ≤ (t : Int) - 4 := by omega
      have HN : Hid (IsNext s a (f + m)) := HM.out (.inl c3)
      clear c3 HM HR HP
      go_wp2_with (first
        | (go_at_call 147; refine (C2.out _ HB).mono ?_; clear C2 HB; rintro e w2 ⟨rfl, HB⟩)
        | (go_at_call 58; refine (C3.out _ HB).mono ?_; clear C3 HB; rintro e w3 ⟨rfl, HB⟩))
      go_ret
      exact ⟨f + m, ret_int (by omega), HN.out, HB.out⟩
    · have c4 : ¬ ((f : Int) + m ≤ (t : Int) - 4) := by omega
      by_cases c5 : t = n
      · have HN : Hid (IsNext s a (f + m)) := HM.out (.inr c5)
        subst c5
        clear c3 HM HR HP
        go_wp2_with (first
          | (go_at_call 147; refine (C2.out _ HB).mono ?_; clear C2 HB; rintro e w2 ⟨rfl, HB⟩)
          | (go_at_call 58; refine (C3.out _ HB).mono ?_; clear C3 HB; rintro e w3 ⟨rfl, HB⟩))
        go_ret
        exact ⟨f + m, ret_int (by omega), HN.out, HB.out⟩
      · have c6 : ¬ ((t : Int) = n) := by omega
        have c7 : ((t : Int) == n) = false := by simp; omega
        have hrn := HR.out (by omega)
        have HR3 : Hid (r < 1073741824) := by show r < 1073741824; omega
        clear c3 HM HR hrn
        go_wp2_with (first
          | (go_at_call 147; refine (C2.out _ HB).mono ?_; clear C2 HB; rintro e w2 ⟨rfl, HB⟩)
          | (go_at_call 58; refine (C3.out _ HB).mono ?_; clear C3 HB; rintro e w3 ⟨rfl, HB⟩))
        have hm2 := HMM.out
        have hm3 := HR3.out
        exact ⟨⟨r * 2, by go_num, by omega, by omega, HB.out⟩, by simp [intOf]; omega⟩
set_option maxRecDepth 100000 in
set_option maxHeartbeats 1000000 in
theorem prev_of {w : World} {v : Value} {s : ByteArray} {n : Nat} (h : Pcs w v s n) (hE : Ev w) (i : Int) : Calls Tryz.prog 87 #[v, .int .i64 i] w fun e W' => ∃ m : Nat, e = .returned (.int .i64 m) ∧ IsPrev s i m ∧ Below w.heap.size w W' := by
  have C1 : Hid (Calls Tryz.prog 99 #[v] w fun e W' => e = .returned (.int .i64 n) ∧ Hid (Below w.heap.size w W')) := h.len
  have hz := h.size
  have hn := h.le
  by_cases c1 : (n : Int) < i
  · have HN : Hid (IsPrev s i n) := by have := prev_high (s := s) (i := i) (by rw [hz]; exact c1); rw [hz] at this; exact this
    clear h hE hz
    go_enter Tryz.func87, Tryz.ntmps87
    go_wp2_with (go_at_call 99; refine C1.out.mono ?_; clear C1; rintro e w1 ⟨rfl, HB⟩)
    go_ret
    exact ⟨n, rfl, HN.out, HB.out⟩
  by_cases c2 : i ≤ 0
  · have HN : Hid (IsPrev s i 0) := prev_low c2
    clear h hE hz
    go_enter Tryz.func87, Tryz.ntmps87
    go_wp2_with (go_at_call 99; refine C1.out.mono ?_; clear C1; rintro e w1 ⟨rfl, HB⟩)
    go_ret
    exact ⟨0, rfl, HN.out, HB.out⟩
  obtain ⟨a, rfl⟩ := Int.eq_ofNat_of_zero_le (show 0 ≤ i by omega)
  obtain ⟨t, ht⟩ : ∃ t, min (a + 4) n = t := ⟨_, rfl⟩
  have e1 : min ((a : Int) + 4) n = t := by omega
  have b1 : (a : Int) ≤ 1073741824 := by omega
  have HP : Hid (Pcs w v s n ∧ Ev w ∧ min (a + 4) n = t ∧ 0 < a ∧ a ≤ n) := ⟨h, hE, ht, by omega, by omega⟩
  clear h hE hz ht
  obtain ⟨M, hM⟩ : ∃ M : Nat, 2147483648 ≤ M ∧ M ≤ 2147483648 := ⟨2147483648, by omega, by omega⟩
  have HMM : Hid (2147483648 ≤ M ∧ M ≤ 2147483648) := hM
  clear hM
  have t1 : decide ((a : Int) ≤ 0) = false := by simp; omega
  have t2 : decide (n < a) = false := by simp; omega
  have t3 : decide ((n : Int) < a) = false := by simp; omega
  have t4 : decide (a = 0) = false := by simp; omega
  go_enter Tryz.func87, Tryz.ntmps87
  go_wp2_with (go_at_call 99; refine C1.out.mono ?_; clear C1; rintro e w1 ⟨rfl, HB⟩)
  go_loopw [7] (fun t7 wr => ∃ r : Nat, t7 = .int .i64 r ∧ 32 ≤ r ∧ r ≤ M ∧ Hid (Below w.heap.size w wr)) (fun t7 _ => M - (intOf t7).toNat)
  case atStart => exact ⟨32, rfl, by omega, by have := HMM.out; omega, HB.out⟩
  case round =>
    clear HB
    obtain ⟨r, rfl, hr1, hr2, HB⟩ := hrel
    have hr4 : (r : Int) ≤ 2147483648 := by have := HMM.out; omega
    obtain ⟨f, hf⟩ : ∃ f, a - r = f := ⟨_, rfl⟩
    obtain ⟨d, hd⟩ : ∃ d, a - f = d := ⟨_, rfl⟩
    have h2 := HP.out.2.2
    have e2 : max ((a : Int) - r) 0 = f := by omega
    have e3 : (a : Int) - f = d := by omega
    have hz := HP.out.1.size
    have ht1 : f ≤ t ∧ t ≤ n ∧ a ≤ t := by omega
    have hp := size_extract s f t (by omega)
    obtain ⟨m, hm⟩ : ∃ m, IsPrev (s.extract f t) (d : Int) m := ⟨_, pvC_is _ _⟩
    have hmz : m ≤ t := by obtain ⟨_, e, b⟩ := cb_B hm.cb; have := b.1; omega
    have C2 : Hid (∀ W, Hid (Below w.heap.size w W) → Calls Tryz.prog 147 #[v, .int .i64 f, .int .i64 t] W fun e W' => e = .returned (.string (s.extract f t)) ∧ Hid (Below w.heap.size w W')) := fun W hW => HP.out.1.piece W f t hW ht1.1 ht1.2.1
    have C3 : Hid (∀ W, Hid (Below w.heap.size w W) → Calls Tryz.prog 155 #[.string (s.extract f t), .int .i64 d] W fun e W' => e = .returned (.int .i64 m) ∧ Hid (Below w.heap.size w W')) := fun W hW =>
      (cprev_any (s.extract f t) d (by unfold maxLen; omega) W (HP.out.2.1.below hW.out).t (by omega)).mono fun e W' ⟨m', q1, q2, q3⟩ => ⟨by rw [q1, q2.uniq hm], Below.on hW.out q3⟩
    have HM : Hid (4 ≤ m ∨ f = 0 → IsPrev s a (f + m)) := fun hc => by
      refine prev_piece (a := a) (f := f) (t := t) (m := m) ht1.2.2 (by omega) (by omega) (by omega) ?_ hc
      rw [hd]; exact hm
    have HR : Hid (f ≠ 0 → r < n) := fun h => by omega
    generalize s.extract f t = p at C2 C3 hm hp
    have b2 : (f : Int) ≤ 1073741824 ∧ (m : Int) ≤ 1073741824 ∧ (t : Int) ≤ 1073741824 := by omega
    clear hm hp hz hf hd ht1 h2
    by_cases c3 : 4 ≤ m
    · have c4 : (f : Int) + 4 ≤ (f : Int) + m := by omega
      have HN : Hid (IsPrev s a (f + m)) := HM.out (.inl c3)
      clear HM HR HP
      go_wp2_with (first
        | (go_at_call 147; refine (C2.out _ HB).mono ?_; clear C2 HB; rintro e w2 ⟨rfl, HB⟩)
        | (go_at_call 155; refine (C3.out _ HB).mono ?_; clear C3 HB; rintro e w3 ⟨rfl, HB⟩))
      go_ret
      exact ⟨f + m, ret_int (by omega), HN.out, HB.out⟩
    · have c4 : ¬ ((f : Int) + 4 ≤ (f : Int) + m) := by omega
      have c8 : ¬ ((4 : Int) ≤ m) := by omega
      by_cases c5 : f = 0
      · have HN : Hid (IsPrev s a (f + m)) := HM.out (.inr c5)
        have C4 : Hid (∀ W, Hid (Below w.heap.size w W) → Calls Tryz.prog 147 #[v, .int .i64 0, .int .i64 t] W fun e W' => e = .returned (.string p) ∧ Hid (Below w.heap.size w W')) := fun W hW => by have := C2.out W hW; rw [c5] at this; exact this
        have C5 : Hid (∀ W, Hid (Below w.heap.size w W) → Calls Tryz.prog 155 #[.string p, .int .i64 a] W fun e W' => e = .returned (.int .i64 m) ∧ Hid (Below w.heap.size w W')) := fun W hW => by have := C3.out W hW; rw [show (d : Int) = a by omega] at this; exact this
        have e5 : max ((a : Int) - r) 0 = 0 := by omega
        clear C2 C3 e2 e3 c4
        clear HM HR HP
        go_wp2_with (first
          | (go_at_call 147; refine (C4.out _ HB).mono ?_; clear C4 HB; rintro e w2 ⟨rfl, HB⟩)
          | (go_at_call 155; refine (C5.out _ HB).mono ?_; clear C5 HB; rintro e w3 ⟨rfl, HB⟩))
        go_ret
        exact ⟨f + m, ret_int (by omega), HN.out, HB.out⟩
      · have c6 : ¬ ((f : Int) = 0) := by omega
        have c7 : ((f : Int) == 0) = false := by simp; omega
        have hrn := HR.out c5
        have HR3 : Hid (r < 1073741824) := by show r < 1073741824; omega
        clear HM HR hrn
        go_wp2_with (first
          | (go_at_call 147; refine (C2.out _ HB).mono ?_; clear C2 HB; rintro e w2 ⟨rfl, HB⟩)
          | (go_at_call 155; refine (C3.out _ HB).mono ?_; clear C3 HB; rintro e w3 ⟨rfl, HB⟩))
        have hm2 := HMM.out
        have hm3 := HR3.out
        exact ⟨⟨r * 2, by go_num, by omega, by omega, HB.out⟩, by simp [intOf]; omega⟩
set_option maxRecDepth 100000 in
theorem snap_of {w : World} {v : Value} {s : ByteArray} {n : Nat} (h : Pcs w v s n) (hE : Ev w) (i : Int) (hi : i ≤ 9223372036854775807) : Calls Tryz.prog 89 #[v, .int .i64 i] w fun e W' => ∃ m : Nat, e = .returned (.int .i64 m) ∧ IsSnap s i m ∧ Below w.heap.size w W' := by
  have C1 : Hid (Calls Tryz.prog 83 #[v, .int .i64 i] w fun e W' => e = .returned (.bool (cbZ s i)) ∧ Hid (Below w.heap.size w W')) := bound_of h hE i hi
  have C2 : Hid (∀ W, Hid (Below w.heap.size w W) → Calls Tryz.prog 85 #[v, .int .i64 i] W fun e W' => ∃ m : Nat, e = .returned (.int .i64 m) ∧ Hid (IsNext s i m ∧ Below w.heap.size w W')) := fun W hW =>
    (next_of (h.below hW.out) (hE.below hW.out) i).mono fun e W' ⟨m, q1, q2, q3⟩ => ⟨m, q1, q2, Below.on hW.out q3⟩
  cases hc : cbZ s i with
  | true =>
    obtain ⟨m, rfl, _⟩ := cb_B hc
    have HS : Hid (IsSnap s m m) := IsSnap.self hc
    rw [hc] at C1
    clear C2 h hE hc
    go_enter Tryz.func89, Tryz.ntmps89
    go_wp2_with (go_at_call 83; refine C1.out.mono ?_; clear C1; rintro e w1 ⟨rfl, HB⟩)
    go_ret
    exact ⟨m, rfl, HS.out, HB.out⟩
  | false =>
    have HC : Hid (cbZ s i = false) := hc
    rw [hc] at C1
    clear h hE hc
    go_enter Tryz.func89, Tryz.ntmps89
    go_wp2_with (first | (go_at_call 83; refine C1.out.mono ?_; clear C1; rintro e w1 ⟨rfl, HB⟩) | (go_at_call 85; refine (C2.out _ HB).mono ?_; clear C2 HB; rintro e w2 ⟨m, rfl, HB⟩))
    go_ret
    exact ⟨m, rfl, HB.out.1.snap HC.out, HB.out.2⟩
end Go.Proofs.YtffipfmnpffdaaaGreatDoor.Sto
