/-
  The law's done, on: a step of a script, and all that may be seen of it. Over any relations that its calls lead through. No conditions beyond.
-/
import Derived.Test.YtkmihnjmchfopaaGreatDoorTDn
namespace Go.Proofs.YtkmihnjmchfopaaGreatDoor.Sto
open Go.RowKit Go.Shelf Bod Wid

set_option maxRecDepth 100000 in
set_option maxHeartbeats 4000000 in
theorem done_1 {W W0 : World} {i : Nat} {a c : Int} {put t : ByteArray} {r : Int} {v : Value} {R : Array Value → World → Prop} {Q : World → Prop} {n0 n1 n2 n3 : Int} {b : Bool} (h : Dn i 1 a c put v R Q t n0 n1 n2 n3 b) (hi : W.heap.size = i)
    (hW0 : ((W.alloc (.cells #[.int .i64 1, .int .i64 a, .int .i64 c, .string put] 59)).alloc (.cells (tdv ⟨#[]⟩ ⟨#[]⟩ 0 0 0 0 0 false sm0) 65)).alloc (.cells (tdv ⟨#[]⟩ ⟨#[]⟩ 0 0 0 0 0 false sm0) 65) = W0) (h0 : Bx3 i 1 a c put (tdv ⟨#[]⟩ ⟨#[]⟩ 0 0 0 0 0 false sm0) W0)
    (C : Calls Tryz.prog 57 #[v, .int .i64 a, .string put] W0 fun e W' => e = .returned (.int .i64 r) ∧ R (tdv ⟨#[]⟩ ⟨#[]⟩ 0 0 0 0 0 false sm0) W') :
    Calls Tryz.prog 28 #[v, .agg #[.int .i64 1, .int .i64 a, .int .i64 c, .string put]] W fun e W' => e = .returned (.agg (tdv ⟨#[]⟩ t r n0 n1 n2 n3 b sm0)) ∧ Q W' := by
  have H : Hid (Dn i 1 a c put v R Q t n0 n1 n2 n3 b) := h
  have HC : Hid (Calls Tryz.prog 57 #[v, .int .i64 a, .string put] W0 fun e W' => e = .returned (.int .i64 r) ∧ R (tdv ⟨#[]⟩ ⟨#[]⟩ 0 0 0 0 0 false sm0) W') := C
  obtain ⟨⟨z0, z1, z2, z3⟩, ⟨y0, y1, y2, y3, y4, y5, y6, y7⟩, fz, hl⟩ := bx_cells h0
  have f1 := fz 1
  unfold tdv sm0 at hW0
  simp only at hW0
  clear h h0 fz C
  subst hi
  go_enter Tryz.func28, Tryz.ntmps28
  go_wp2_with (first
    | (go_at_call 57; refine HC.out.mono ?_; clear HC z0 z1 z2 z3 y0 y1 y2 y3 y4 y5 y6 y7 f1 hl hW0; rintro e w0 ⟨rfl, hq⟩; obtain ⟨⟨z0, z1, z2, z3⟩, ⟨y0, y1, y2, y3, y4, y5, y6, y7⟩, fz, hl⟩ := bx_cells (H.out.bx _ _ hq); have f2 := fz 2; obtain ⟨-, -, ⟨-, -, -, -, -, -, -, -, x8, x9, x10, x11, x12, x13, x14⟩, -, -, -⟩ := bx_all (H.out.bx _ _ hq); have HP : Hid (R (tdv ⟨#[]⟩ ⟨#[]⟩ r 0 0 0 0 false sm0) (w0.setCell ⟨W.heap.size + 2, 2, none⟩ (.int .i64 r))) := (H.out.set _ _ 2 _ hq); clear hq fz)
    | (go_at_call 58; refine (H.out.text _ _ HP.out).mono ?_; clear HP z0 z1 z2 z3 y0 y1 y2 y3 y4 y5 y6 y7 f2 x8 x9 x10 x11 x12 x13 x14 hl; rintro e w1 ⟨rfl, hq⟩; obtain ⟨⟨z0, z1, z2, z3⟩, ⟨y0, y1, y2, y3, y4, y5, y6, y7⟩, fz, hl⟩ := bx_cells (H.out.bx _ _ hq); have f1 := fz 1; have HP : Hid (R (tdv ⟨#[]⟩ t r 0 0 0 0 false sm0) (w1.setCell ⟨W.heap.size + 2, 1, none⟩ (.string t))) := H.out.set _ _ 1 _ hq; clear hq fz))
  go_region_held3 (fun w' => w'.cell? ⟨W.heap.size, 1, none⟩ = some (.int .i64 a)) (first | exact (bx_cells (H.out.bx _ _ HP.out)).1.2.1 | exact (bx_cells (H.out.bx _ _ (H.out.drew _ _ HP.out))).1.2.1 | exact (bx_cells (H.out.bx _ _ HP6.out)).1.2.1) (first
    | (go_at_call 67; refine (H.out.len _ _ (H.out.drew _ _ HP.out)).mono ?_; clear HP z0 z1 z2 z3 y0 y1 y2 y3 y4 y5 y6 y7 f1 hl; rintro e w2 ⟨rfl, HP⟩; replace HP : Hid (R _ w2) := HP)
    | (go_at_call 81; refine (H.out.next _ _ HP.out).mono ?_; clear HP; rintro e w3 ⟨rfl, HP⟩; replace HP : Hid (R _ w3) := HP)
    | (go_at_call 82; refine (H.out.prev _ _ HP.out).mono ?_; clear HP; rintro e w4 ⟨rfl, HP⟩; replace HP : Hid (R _ w4) := HP)
    | (go_at_call 83; refine (H.out.snap _ _ HP.out).mono ?_; clear HP; rintro e w5 ⟨rfl, HP⟩; replace HP : Hid (R _ w5) := HP; obtain ⟨-, ⟨y0, y1, y2, y3, y4, y5, y6, y7⟩, fz, hl⟩ := bx_cells (H.out.bx _ _ HP.out); have f3 := fz 3; have f4 := fz 4; have f5 := fz 5; have f6 := fz 6; clear fz; have HP6 : Hid (R (tdv ⟨#[]⟩ t r n0 n1 n2 n3 false sm0) ((((w5.setCell ⟨W.heap.size + 2, 3, none⟩ (.int .i64 n0)).setCell ⟨W.heap.size + 2, 4, none⟩ (.int .i64 n1)).setCell ⟨W.heap.size + 2, 5, none⟩ (.int .i64 n2)).setCell ⟨W.heap.size + 2, 6, none⟩ (.int .i64 n3))) := H.out.set _ _ 6 _ (H.out.set _ _ 5 _ (H.out.set _ _ 4 _ (H.out.set _ _ 3 _ HP.out)))))
  go_wp2_with (go_at_call 84; refine (H.out.bound _ _ HP6.out).mono ?_; clear HP HP6 y0 y1 y2 y3 y4 y5 y6 y7 f3 f4 f5 f6 hl; rintro e w6 ⟨rfl, hq⟩; obtain ⟨fz, az, ⟨x0, x1, x2, x3, x4, x5, x6, x7, x8, x9, x10, x11, x12, x13, x14⟩, ⟨a0, a1, a2, a3, a4, a5, a6, a7, a8, a9, a10, a11, a12, a13, a14⟩, hl, hl1⟩ := bx_all (H.out.bx _ _ hq); have f7 := fz 7; have g0 := az 0; have g1 := az 1; have g2 := az 2; have g3 := az 3; have g4 := az 4; have g5 := az 5; have g6 := az 6; have g7 := az 7; have g8 := az 8; have g9 := az 9; have g10 := az 10; have g11 := az 11; have g12 := az 12; have g13 := az 13; have g14 := az 14; have HP : Hid (Q (w6.setCell ⟨W.heap.size + 2, 7, none⟩ (.bool b))) := H.out.fin _ _ (H.out.set _ _ 7 _ hq); clear hq fz az)
  refine bodyPost_ret (v := .agg (tdv ⟨#[]⟩ t r n0 n1 n2 n3 b sm0)) (by simp [results, Tryz.results28, go_sem, tdv, a0, a1, a2, a3, a4, a5, a6, a7, a8, a9, a10, a11, a12, a13, a14]) rfl ⟨rfl, H.out.qset _ 14 _ (H.out.qset _ 13 _ (H.out.qset _ 12 _ (H.out.qset _ 11 _ (H.out.qset _ 10 _ (H.out.qset _ 9 _ (H.out.qset _ 8 _ (H.out.qset _ 7 _ (H.out.qset _ 6 _ (H.out.qset _ 5 _ (H.out.qset _ 4 _ (H.out.qset _ 3 _ (H.out.qset _ 2 _ (H.out.qset _ 1 _ (H.out.qset _ 0 _ HP.out))))))))))))))⟩
set_option maxRecDepth 100000 in
set_option maxHeartbeats 4000000 in
theorem done_2 {W W0 : World} {i : Nat} {a c : Int} {put t : ByteArray} {o : ByteArray} {r : Int} {v : Value} {R : Array Value → World → Prop} {Q : World → Prop} {n0 n1 n2 n3 : Int} {b : Bool} (h : Dn i 2 a c put v R Q t n0 n1 n2 n3 b) (hi : W.heap.size = i)
    (hW0 : ((W.alloc (.cells #[.int .i64 2, .int .i64 a, .int .i64 c, .string put] 59)).alloc (.cells (tdv ⟨#[]⟩ ⟨#[]⟩ 0 0 0 0 0 false sm0) 65)).alloc (.cells (tdv ⟨#[]⟩ ⟨#[]⟩ 0 0 0 0 0 false sm0) 65) = W0) (h0 : Bx3 i 2 a c put (tdv ⟨#[]⟩ ⟨#[]⟩ 0 0 0 0 0 false sm0) W0)
    (C : Calls Tryz.prog 59 #[v, .int .i64 a, .int .i64 c] W0 fun e W' => e = .returned (.tuple #[.string o, .int .i64 r]) ∧ R (tdv ⟨#[]⟩ ⟨#[]⟩ 0 0 0 0 0 false sm0) W') :
    Calls Tryz.prog 28 #[v, .agg #[.int .i64 2, .int .i64 a, .int .i64 c, .string put]] W fun e W' => e = .returned (.agg (tdv o t r n0 n1 n2 n3 b sm0)) ∧ Q W' := by
  have H : Hid (Dn i 2 a c put v R Q t n0 n1 n2 n3 b) := h
  have HC : Hid (Calls Tryz.prog 59 #[v, .int .i64 a, .int .i64 c] W0 fun e W' => e = .returned (.tuple #[.string o, .int .i64 r]) ∧ R (tdv ⟨#[]⟩ ⟨#[]⟩ 0 0 0 0 0 false sm0) W') := C
  obtain ⟨⟨z0, z1, z2, z3⟩, ⟨y0, y1, y2, y3, y4, y5, y6, y7⟩, fz, hl⟩ := bx_cells h0
  have f1 := fz 1
  unfold tdv sm0 at hW0
  simp only at hW0
  clear h h0 fz C
  subst hi
  go_enter Tryz.func28, Tryz.ntmps28
  go_wp2_with (first
    | (go_at_call 59; refine HC.out.mono ?_; clear HC z0 z1 z2 z3 y0 y1 y2 y3 y4 y5 y6 y7 f1 hl hW0; rintro e w0 ⟨rfl, hq⟩; obtain ⟨⟨z0, z1, z2, z3⟩, ⟨y0, y1, y2, y3, y4, y5, y6, y7⟩, fz, hl⟩ := bx_cells (H.out.bx _ _ hq); have f0 := fz 0; have f2 := fz 2; obtain ⟨-, -, ⟨-, -, -, -, -, -, -, -, x8, x9, x10, x11, x12, x13, x14⟩, -, -, -⟩ := bx_all (H.out.bx _ _ hq); have HP : Hid (R (tdv o ⟨#[]⟩ r 0 0 0 0 false sm0) ((w0.setCell ⟨W.heap.size + 2, 0, none⟩ (.string o)).setCell ⟨W.heap.size + 2, 2, none⟩ (.int .i64 r))) := (H.out.set _ _ 2 _ (H.out.set _ _ 0 _ hq)); clear hq fz)
    | (go_at_call 58; refine (H.out.text _ _ HP.out).mono ?_; clear HP z0 z1 z2 z3 y0 y1 y2 y3 y4 y5 y6 y7 f0 f2 x8 x9 x10 x11 x12 x13 x14 hl; rintro e w1 ⟨rfl, hq⟩; obtain ⟨⟨z0, z1, z2, z3⟩, ⟨y0, y1, y2, y3, y4, y5, y6, y7⟩, fz, hl⟩ := bx_cells (H.out.bx _ _ hq); have f1 := fz 1; have HP : Hid (R (tdv o t r 0 0 0 0 false sm0) (w1.setCell ⟨W.heap.size + 2, 1, none⟩ (.string t))) := H.out.set _ _ 1 _ hq; clear hq fz))
  go_region_held3 (fun w' => w'.cell? ⟨W.heap.size, 1, none⟩ = some (.int .i64 a)) (first | exact (bx_cells (H.out.bx _ _ HP.out)).1.2.1 | exact (bx_cells (H.out.bx _ _ (H.out.drew _ _ HP.out))).1.2.1 | exact (bx_cells (H.out.bx _ _ HP6.out)).1.2.1) (first
    | (go_at_call 67; refine (H.out.len _ _ (H.out.drew _ _ HP.out)).mono ?_; clear HP z0 z1 z2 z3 y0 y1 y2 y3 y4 y5 y6 y7 f1 hl; rintro e w2 ⟨rfl, HP⟩; replace HP : Hid (R _ w2) := HP)
    | (go_at_call 81; refine (H.out.next _ _ HP.out).mono ?_; clear HP; rintro e w3 ⟨rfl, HP⟩; replace HP : Hid (R _ w3) := HP)
    | (go_at_call 82; refine (H.out.prev _ _ HP.out).mono ?_; clear HP; rintro e w4 ⟨rfl, HP⟩; replace HP : Hid (R _ w4) := HP)
    | (go_at_call 83; refine (H.out.snap _ _ HP.out).mono ?_; clear HP; rintro e w5 ⟨rfl, HP⟩; replace HP : Hid (R _ w5) := HP; obtain ⟨-, ⟨y0, y1, y2, y3, y4, y5, y6, y7⟩, fz, hl⟩ := bx_cells (H.out.bx _ _ HP.out); have f3 := fz 3; have f4 := fz 4; have f5 := fz 5; have f6 := fz 6; clear fz; have HP6 : Hid (R (tdv o t r n0 n1 n2 n3 false sm0) ((((w5.setCell ⟨W.heap.size + 2, 3, none⟩ (.int .i64 n0)).setCell ⟨W.heap.size + 2, 4, none⟩ (.int .i64 n1)).setCell ⟨W.heap.size + 2, 5, none⟩ (.int .i64 n2)).setCell ⟨W.heap.size + 2, 6, none⟩ (.int .i64 n3))) := H.out.set _ _ 6 _ (H.out.set _ _ 5 _ (H.out.set _ _ 4 _ (H.out.set _ _ 3 _ HP.out)))))
  go_wp2_with (go_at_call 84; refine (H.out.bound _ _ HP6.out).mono ?_; clear HP HP6 y0 y1 y2 y3 y4 y5 y6 y7 f3 f4 f5 f6 hl; rintro e w6 ⟨rfl, hq⟩; obtain ⟨fz, az, ⟨x0, x1, x2, x3, x4, x5, x6, x7, x8, x9, x10, x11, x12, x13, x14⟩, ⟨a0, a1, a2, a3, a4, a5, a6, a7, a8, a9, a10, a11, a12, a13, a14⟩, hl, hl1⟩ := bx_all (H.out.bx _ _ hq); have f7 := fz 7; have g0 := az 0; have g1 := az 1; have g2 := az 2; have g3 := az 3; have g4 := az 4; have g5 := az 5; have g6 := az 6; have g7 := az 7; have g8 := az 8; have g9 := az 9; have g10 := az 10; have g11 := az 11; have g12 := az 12; have g13 := az 13; have g14 := az 14; have HP : Hid (Q (w6.setCell ⟨W.heap.size + 2, 7, none⟩ (.bool b))) := H.out.fin _ _ (H.out.set _ _ 7 _ hq); clear hq fz az)
  refine bodyPost_ret (v := .agg (tdv o t r n0 n1 n2 n3 b sm0)) (by simp [results, Tryz.results28, go_sem, tdv, a0, a1, a2, a3, a4, a5, a6, a7, a8, a9, a10, a11, a12, a13, a14]) rfl ⟨rfl, H.out.qset _ 14 _ (H.out.qset _ 13 _ (H.out.qset _ 12 _ (H.out.qset _ 11 _ (H.out.qset _ 10 _ (H.out.qset _ 9 _ (H.out.qset _ 8 _ (H.out.qset _ 7 _ (H.out.qset _ 6 _ (H.out.qset _ 5 _ (H.out.qset _ 4 _ (H.out.qset _ 3 _ (H.out.qset _ 2 _ (H.out.qset _ 1 _ (H.out.qset _ 0 _ HP.out))))))))))))))⟩
set_option maxRecDepth 100000 in
set_option maxHeartbeats 4000000 in
theorem done_3 {W W0 : World} {i : Nat} {a c : Int} {put t : ByteArray} {o : ByteArray} {r : Int} {v : Value} {R : Array Value → World → Prop} {Q : World → Prop} {n0 n1 n2 n3 : Int} {b : Bool} (h : Dn i 3 a c put v R Q t n0 n1 n2 n3 b) (hi : W.heap.size = i)
    (hW0 : ((W.alloc (.cells #[.int .i64 3, .int .i64 a, .int .i64 c, .string put] 59)).alloc (.cells (tdv ⟨#[]⟩ ⟨#[]⟩ 0 0 0 0 0 false sm0) 65)).alloc (.cells (tdv ⟨#[]⟩ ⟨#[]⟩ 0 0 0 0 0 false sm0) 65) = W0) (h0 : Bx3 i 3 a c put (tdv ⟨#[]⟩ ⟨#[]⟩ 0 0 0 0 0 false sm0) W0)
    (C : Calls Tryz.prog 78 #[v, .int .i64 a, .int .i64 c, .string put] W0 fun e W' => e = .returned (.tuple #[.string o, .int .i64 r]) ∧ R (tdv ⟨#[]⟩ ⟨#[]⟩ 0 0 0 0 0 false sm0) W') :
    Calls Tryz.prog 28 #[v, .agg #[.int .i64 3, .int .i64 a, .int .i64 c, .string put]] W fun e W' => e = .returned (.agg (tdv o t r n0 n1 n2 n3 b sm0)) ∧ Q W' := by
  have H : Hid (Dn i 3 a c put v R Q t n0 n1 n2 n3 b) := h
  have HC : Hid (Calls Tryz.prog 78 #[v, .int .i64 a, .int .i64 c, .string put] W0 fun e W' => e = .returned (.tuple #[.string o, .int .i64 r]) ∧ R (tdv ⟨#[]⟩ ⟨#[]⟩ 0 0 0 0 0 false sm0) W') := C
  obtain ⟨⟨z0, z1, z2, z3⟩, ⟨y0, y1, y2, y3, y4, y5, y6, y7⟩, fz, hl⟩ := bx_cells h0
  have f1 := fz 1
  unfold tdv sm0 at hW0
  simp only at hW0
  clear h h0 fz C
  subst hi
  go_enter Tryz.func28, Tryz.ntmps28
  go_wp2_with (first
    | (go_at_call 78; refine HC.out.mono ?_; clear HC z0 z1 z2 z3 y0 y1 y2 y3 y4 y5 y6 y7 f1 hl hW0; rintro e w0 ⟨rfl, hq⟩; obtain ⟨⟨z0, z1, z2, z3⟩, ⟨y0, y1, y2, y3, y4, y5, y6, y7⟩, fz, hl⟩ := bx_cells (H.out.bx _ _ hq); have f0 := fz 0; have f2 := fz 2; obtain ⟨-, -, ⟨-, -, -, -, -, -, -, -, x8, x9, x10, x11, x12, x13, x14⟩, -, -, -⟩ := bx_all (H.out.bx _ _ hq); have HP : Hid (R (tdv o ⟨#[]⟩ r 0 0 0 0 false sm0) ((w0.setCell ⟨W.heap.size + 2, 0, none⟩ (.string o)).setCell ⟨W.heap.size + 2, 2, none⟩ (.int .i64 r))) := (H.out.set _ _ 2 _ (H.out.set _ _ 0 _ hq)); clear hq fz)
    | (go_at_call 58; refine (H.out.text _ _ HP.out).mono ?_; clear HP z0 z1 z2 z3 y0 y1 y2 y3 y4 y5 y6 y7 f0 f2 x8 x9 x10 x11 x12 x13 x14 hl; rintro e w1 ⟨rfl, hq⟩; obtain ⟨⟨z0, z1, z2, z3⟩, ⟨y0, y1, y2, y3, y4, y5, y6, y7⟩, fz, hl⟩ := bx_cells (H.out.bx _ _ hq); have f1 := fz 1; have HP : Hid (R (tdv o t r 0 0 0 0 false sm0) (w1.setCell ⟨W.heap.size + 2, 1, none⟩ (.string t))) := H.out.set _ _ 1 _ hq; clear hq fz))
  go_region_held3 (fun w' => w'.cell? ⟨W.heap.size, 1, none⟩ = some (.int .i64 a)) (first | exact (bx_cells (H.out.bx _ _ HP.out)).1.2.1 | exact (bx_cells (H.out.bx _ _ (H.out.drew _ _ HP.out))).1.2.1 | exact (bx_cells (H.out.bx _ _ HP6.out)).1.2.1) (first
    | (go_at_call 67; refine (H.out.len _ _ (H.out.drew _ _ HP.out)).mono ?_; clear HP z0 z1 z2 z3 y0 y1 y2 y3 y4 y5 y6 y7 f1 hl; rintro e w2 ⟨rfl, HP⟩; replace HP : Hid (R _ w2) := HP)
    | (go_at_call 81; refine (H.out.next _ _ HP.out).mono ?_; clear HP; rintro e w3 ⟨rfl, HP⟩; replace HP : Hid (R _ w3) := HP)
    | (go_at_call 82; refine (H.out.prev _ _ HP.out).mono ?_; clear HP; rintro e w4 ⟨rfl, HP⟩; replace HP : Hid (R _ w4) := HP)
    | (go_at_call 83; refine (H.out.snap _ _ HP.out).mono ?_; clear HP; rintro e w5 ⟨rfl, HP⟩; replace HP : Hid (R _ w5) := HP; obtain ⟨-, ⟨y0, y1, y2, y3, y4, y5, y6, y7⟩, fz, hl⟩ := bx_cells (H.out.bx _ _ HP.out); have f3 := fz 3; have f4 := fz 4; have f5 := fz 5; have f6 := fz 6; clear fz; have HP6 : Hid (R (tdv o t r n0 n1 n2 n3 false sm0) ((((w5.setCell ⟨W.heap.size + 2, 3, none⟩ (.int .i64 n0)).setCell ⟨W.heap.size + 2, 4, none⟩ (.int .i64 n1)).setCell ⟨W.heap.size + 2, 5, none⟩ (.int .i64 n2)).setCell ⟨W.heap.size + 2, 6, none⟩ (.int .i64 n3))) := H.out.set _ _ 6 _ (H.out.set _ _ 5 _ (H.out.set _ _ 4 _ (H.out.set _ _ 3 _ HP.out)))))
  go_wp2_with (go_at_call 84; refine (H.out.bound _ _ HP6.out).mono ?_; clear HP HP6 y0 y1 y2 y3 y4 y5 y6 y7 f3 f4 f5 f6 hl; rintro e w6 ⟨rfl, hq⟩; obtain ⟨fz, az, ⟨x0, x1, x2, x3, x4, x5, x6, x7, x8, x9, x10, x11, x12, x13, x14⟩, ⟨a0, a1, a2, a3, a4, a5, a6, a7, a8, a9, a10, a11, a12, a13, a14⟩, hl, hl1⟩ := bx_all (H.out.bx _ _ hq); have f7 := fz 7; have g0 := az 0; have g1 := az 1; have g2 := az 2; have g3 := az 3; have g4 := az 4; have g5 := az 5; have g6 := az 6; have g7 := az 7; have g8 := az 8; have g9 := az 9; have g10 := az 10; have g11 := az 11; have g12 := az 12; have g13 := az 13; have g14 := az 14; have HP : Hid (Q (w6.setCell ⟨W.heap.size + 2, 7, none⟩ (.bool b))) := H.out.fin _ _ (H.out.set _ _ 7 _ hq); clear hq fz az)
  refine bodyPost_ret (v := .agg (tdv o t r n0 n1 n2 n3 b sm0)) (by simp [results, Tryz.results28, go_sem, tdv, a0, a1, a2, a3, a4, a5, a6, a7, a8, a9, a10, a11, a12, a13, a14]) rfl ⟨rfl, H.out.qset _ 14 _ (H.out.qset _ 13 _ (H.out.qset _ 12 _ (H.out.qset _ 11 _ (H.out.qset _ 10 _ (H.out.qset _ 9 _ (H.out.qset _ 8 _ (H.out.qset _ 7 _ (H.out.qset _ 6 _ (H.out.qset _ 5 _ (H.out.qset _ 4 _ (H.out.qset _ 3 _ (H.out.qset _ 2 _ (H.out.qset _ 1 _ (H.out.qset _ 0 _ HP.out))))))))))))))⟩
end Go.Proofs.YtkmihnjmchfopaaGreatDoor.Sto
