/-
  The law's done: a step of a script, and all that may be seen of it. Over any relations that its calls lead through. No conditions beyond.
-/
import Derived.Test.YtkmihnjmchfopaaGreatDoorPkP
import Derived.Deep.RegionHeld3
namespace Go.Proofs.YtkmihnjmchfopaaGreatDoor.Sto
open Go.RowKit Go.Shelf Bod Wid

/-- a told: the two texts, the error, four numbers, the answer, the summary's cells -/
def tdv (s t : ByteArray) (e n0 n1 n2 n3 : Int) (b : Bool) (m : Sum) : Array Value := #[.string s, .string t, .int .i64 e, .int .i64 n0, .int .i64 n1, .int .i64 n2, .int .i64 n3, .bool b, .int .i64 m.by', .int .i64 m.un, .int .i64 m.cl, .int .i64 m.ce, .int .i64 m.nl, .string m.hd, .string m.tl]
def sm0 : Sum := ⟨0, 0, 0, 0, 0, ⟨#[]⟩, ⟨#[]⟩⟩
/-- the three boxes of done: the call, the answer, the told as it stands -/
structure Bx3 (i : Nat) (k a c : Int) (put : ByteArray) (d : Array Value) (W : World) : Prop where
  ob : W.heap[i]? = some (.cells #[.int .i64 k, .int .i64 a, .int .i64 c, .string put] 59 (0, 0))
  an : W.heap[i + 1]? = some (.cells (tdv ⟨#[]⟩ ⟨#[]⟩ 0 0 0 0 0 false sm0) 65 (0, 0))
  td : W.heap[i + 2]? = some (.cells d 65 (0, 0))
/-- what the calls behind the first one ask: the store's text and places -/
structure Dn (i : Nat) (k a c : Int) (put : ByteArray) (v : Value) (R : Array Value → World → Prop) (Q : World → Prop) (t : ByteArray) (n0 n1 n2 n3 : Int) (b : Bool) : Prop where
  fin : ∀ d W, R d W → Q W
  qset : ∀ W j u, Q W → Q (W.setCell ⟨i + 1, j, none⟩ u)
  bx : ∀ d W, R d W → Bx3 i k a c put d W
  set : ∀ d W j u, R d W → R (d.setIfInBounds j u) (W.setCell ⟨i + 2, j, none⟩ u)
  drew : ∀ d W, R d W → R d W.drew
  text : ∀ d W, R d W → Calls Tryz.prog 58 #[v] W fun e W' => e = .returned (.string t) ∧ R d W'
  len : ∀ d W, R d W → Calls Tryz.prog 67 #[v] W fun e W' => e = .returned (.int .i64 n0) ∧ R d W'
  next : ∀ d W, R d W → Calls Tryz.prog 81 #[v, .int .i64 a] W fun e W' => e = .returned (.int .i64 n1) ∧ R d W'
  prev : ∀ d W, R d W → Calls Tryz.prog 82 #[v, .int .i64 a] W fun e W' => e = .returned (.int .i64 n2) ∧ R d W'
  snap : ∀ d W, R d W → Calls Tryz.prog 83 #[v, .int .i64 a] W fun e W' => e = .returned (.int .i64 n3) ∧ R d W'
  bound : ∀ d W, R d W → Calls Tryz.prog 84 #[v, .int .i64 a] W fun e W' => e = .returned (.bool b) ∧ R d W'
theorem box15 {W : World} {b : Nat} {d : Array Value} {t : TypeId} (h : W.heap[b]? = some (.cells d t (0, 0))) : (∀ j, W.cell? ⟨b, j, none⟩ = d[j]?) ∧ (∀ j, W.frozen? ⟨b, j, none⟩ = false) ∧ b < W.heap.size := by
  refine ⟨fun j => ?_, fun j => ?_, (Array.getElem?_eq_some_iff.1 h).1⟩
  · unfold World.cell?; rw [h]; rfl
  · unfold World.frozen?; rw [h]; simp
theorem bx_cells {i : Nat} {k a c : Int} {put : ByteArray} {s t : ByteArray} {e n0 n1 n2 n3 : Int} {b : Bool} {m : Sum} {W : World} (h : Bx3 i k a c put (tdv s t e n0 n1 n2 n3 b m) W) :
    (W.cell? ⟨i, 0, none⟩ = some (.int .i64 k) ∧ W.cell? ⟨i, 1, none⟩ = some (.int .i64 a) ∧ W.cell? ⟨i, 2, none⟩ = some (.int .i64 c) ∧ W.cell? ⟨i, 3, none⟩ = some (.string put)) ∧
    (W.cell? ⟨i + 2, 0, none⟩ = some (.string s) ∧ W.cell? ⟨i + 2, 1, none⟩ = some (.string t) ∧ W.cell? ⟨i + 2, 2, none⟩ = some (.int .i64 e) ∧ W.cell? ⟨i + 2, 3, none⟩ = some (.int .i64 n0) ∧ W.cell? ⟨i + 2, 4, none⟩ = some (.int .i64 n1) ∧ W.cell? ⟨i + 2, 5, none⟩ = some (.int .i64 n2) ∧ W.cell? ⟨i + 2, 6, none⟩ = some (.int .i64 n3) ∧ W.cell? ⟨i + 2, 7, none⟩ = some (.bool b)) ∧
    (∀ j, W.frozen? ⟨i + 2, j, none⟩ = false) ∧ i + 2 < W.heap.size := by
  obtain ⟨a1, a2, a3⟩ := box15 h.ob
  obtain ⟨b1, b2, b3⟩ := box15 h.td
  exact ⟨⟨a1 0, a1 1, a1 2, a1 3⟩, ⟨b1 0, b1 1, b1 2, b1 3, b1 4, b1 5, b1 6, b1 7⟩, b2, b3⟩
theorem bx_all {i : Nat} {k a c : Int} {put : ByteArray} {s t : ByteArray} {e n0 n1 n2 n3 : Int} {b : Bool} {m : Sum} {W : World} (h : Bx3 i k a c put (tdv s t e n0 n1 n2 n3 b m) W) :
    (∀ j, W.frozen? ⟨i + 2, j, none⟩ = false) ∧ (∀ j, W.frozen? ⟨i + 1, j, none⟩ = false) ∧
    (W.cell? ⟨i + 2, 0, none⟩ = some (.string s) ∧ W.cell? ⟨i + 2, 1, none⟩ = some (.string t) ∧ W.cell? ⟨i + 2, 2, none⟩ = some (.int .i64 e) ∧ W.cell? ⟨i + 2, 3, none⟩ = some (.int .i64 n0) ∧ W.cell? ⟨i + 2, 4, none⟩ = some (.int .i64 n1) ∧ W.cell? ⟨i + 2, 5, none⟩ = some (.int .i64 n2) ∧ W.cell? ⟨i + 2, 6, none⟩ = some (.int .i64 n3) ∧ W.cell? ⟨i + 2, 7, none⟩ = some (.bool b) ∧ W.cell? ⟨i + 2, 8, none⟩ = some (.int .i64 m.by') ∧ W.cell? ⟨i + 2, 9, none⟩ = some (.int .i64 m.un) ∧ W.cell? ⟨i + 2, 10, none⟩ = some (.int .i64 m.cl) ∧ W.cell? ⟨i + 2, 11, none⟩ = some (.int .i64 m.ce) ∧ W.cell? ⟨i + 2, 12, none⟩ = some (.int .i64 m.nl) ∧ W.cell? ⟨i + 2, 13, none⟩ = some (.string m.hd) ∧ W.cell? ⟨i + 2, 14, none⟩ = some (.string m.tl)) ∧
    (W.cell? ⟨i + 1, 0, none⟩ = some (.string ⟨#[]⟩) ∧ W.cell? ⟨i + 1, 1, none⟩ = some (.string ⟨#[]⟩) ∧ W.cell? ⟨i + 1, 2, none⟩ = some (.int .i64 0) ∧ W.cell? ⟨i + 1, 3, none⟩ = some (.int .i64 0) ∧ W.cell? ⟨i + 1, 4, none⟩ = some (.int .i64 0) ∧ W.cell? ⟨i + 1, 5, none⟩ = some (.int .i64 0) ∧ W.cell? ⟨i + 1, 6, none⟩ = some (.int .i64 0) ∧ W.cell? ⟨i + 1, 7, none⟩ = some (.bool false) ∧ W.cell? ⟨i + 1, 8, none⟩ = some (.int .i64 0) ∧ W.cell? ⟨i + 1, 9, none⟩ = some (.int .i64 0) ∧ W.cell? ⟨i + 1, 10, none⟩ = some (.int .i64 0) ∧ W.cell? ⟨i + 1, 11, none⟩ = some (.int .i64 0) ∧ W.cell? ⟨i + 1, 12, none⟩ = some (.int .i64 0) ∧ W.cell? ⟨i + 1, 13, none⟩ = some (.string ⟨#[]⟩) ∧ W.cell? ⟨i + 1, 14, none⟩ = some (.string ⟨#[]⟩)) ∧ i + 2 < W.heap.size ∧ i + 1 < W.heap.size := by
  obtain ⟨b1, b2, b3⟩ := box15 h.td
  obtain ⟨c1, c2, c3⟩ := box15 h.an
  exact ⟨b2, c2, ⟨b1 0, b1 1, b1 2, b1 3, b1 4, b1 5, b1 6, b1 7, b1 8, b1 9, b1 10, b1 11, b1 12, b1 13, b1 14⟩, ⟨c1 0, c1 1, c1 2, c1 3, c1 4, c1 5, c1 6, c1 7, c1 8, c1 9, c1 10, c1 11, c1 12, c1 13, c1 14⟩, b3, c3⟩
set_option maxRecDepth 100000 in
set_option maxHeartbeats 4000000 in
theorem done_0 {W W0 : World} {i : Nat} {k a c : Int} {put t : ByteArray} {v : Value} {R : Array Value → World → Prop} {Q : World → Prop} {n0 n1 n2 n3 : Int} {b : Bool} (h : Dn i k a c put v R Q t n0 n1 n2 n3 b) (hi : W.heap.size = i)
    (hW0 : ((W.alloc (.cells #[.int .i64 k, .int .i64 a, .int .i64 c, .string put] 59)).alloc (.cells (tdv ⟨#[]⟩ ⟨#[]⟩ 0 0 0 0 0 false sm0) 65)).alloc (.cells (tdv ⟨#[]⟩ ⟨#[]⟩ 0 0 0 0 0 false sm0) 65) = W0) (h0 : R (tdv ⟨#[]⟩ ⟨#[]⟩ 0 0 0 0 0 false sm0) W0)
    (k1 : ¬ k = 1) (k2 : ¬ k = 2) (k3 : ¬ k = 3) (k4 : ¬ k = 4) (k6 : ¬ k = 6) (k7 : ¬ k = 7) :
    Calls Tryz.prog 28 #[v, .agg #[.int .i64 k, .int .i64 a, .int .i64 c, .string put]] W fun e W' => e = .returned (.agg (tdv ⟨#[]⟩ t 0 n0 n1 n2 n3 b sm0)) ∧ Q W' := by
  have H : Hid (Dn i k a c put v R Q t n0 n1 n2 n3 b) := h
  have HP : Hid (R (tdv ⟨#[]⟩ ⟨#[]⟩ 0 0 0 0 0 false sm0) W0) := h0
  obtain ⟨⟨z0, z1, z2, z3⟩, ⟨y0, y1, y2, y3, y4, y5, y6, y7⟩, fz, hl⟩ := bx_cells (h.bx _ _ h0)
  have f1 := fz 1
  unfold tdv sm0 at hW0
  simp only at hW0
  clear h h0 fz
  subst hi
  go_enter Tryz.func28, Tryz.ntmps28
  go_wp2_with (go_at_call 58; refine (H.out.text _ _ HP.out).mono ?_; clear HP z0 z1 z2 z3 y0 y1 y2 y3 y4 y5 y6 y7 f1 hl hW0; rintro e w1 ⟨rfl, hq⟩; obtain ⟨⟨z0, z1, z2, z3⟩, ⟨y0, y1, y2, y3, y4, y5, y6, y7⟩, fz, hl⟩ := bx_cells (H.out.bx _ _ hq); have f1 := fz 1; have HP : Hid (R (tdv ⟨#[]⟩ t 0 0 0 0 0 false sm0) (w1.setCell ⟨W.heap.size + 2, 1, none⟩ (.string t))) := H.out.set _ _ 1 _ hq; clear hq fz)
  go_region_held3 (fun w' => w'.cell? ⟨W.heap.size, 1, none⟩ = some (.int .i64 a)) (first | exact (bx_cells (H.out.bx _ _ HP.out)).1.2.1 | exact (bx_cells (H.out.bx _ _ (H.out.drew _ _ HP.out))).1.2.1 | exact (bx_cells (H.out.bx _ _ HP6.out)).1.2.1) (first
    | (go_at_call 67; refine (H.out.len _ _ (H.out.drew _ _ HP.out)).mono ?_; clear HP z0 z1 z2 z3 y0 y1 y2 y3 y4 y5 y6 y7 f1 hl; rintro e w2 ⟨rfl, HP⟩; replace HP : Hid (R _ w2) := HP)
    | (go_at_call 81; refine (H.out.next _ _ HP.out).mono ?_; clear HP; rintro e w3 ⟨rfl, HP⟩; replace HP : Hid (R _ w3) := HP)
    | (go_at_call 82; refine (H.out.prev _ _ HP.out).mono ?_; clear HP; rintro e w4 ⟨rfl, HP⟩; replace HP : Hid (R _ w4) := HP)
    | (go_at_call 83; refine (H.out.snap _ _ HP.out).mono ?_; clear HP; rintro e w5 ⟨rfl, HP⟩; replace HP : Hid (R _ w5) := HP; obtain ⟨-, ⟨y0, y1, y2, y3, y4, y5, y6, y7⟩, fz, hl⟩ := bx_cells (H.out.bx _ _ HP.out); have f3 := fz 3; have f4 := fz 4; have f5 := fz 5; have f6 := fz 6; clear fz; have HP6 : Hid (R (tdv ⟨#[]⟩ t 0 n0 n1 n2 n3 false sm0) ((((w5.setCell ⟨W.heap.size + 2, 3, none⟩ (.int .i64 n0)).setCell ⟨W.heap.size + 2, 4, none⟩ (.int .i64 n1)).setCell ⟨W.heap.size + 2, 5, none⟩ (.int .i64 n2)).setCell ⟨W.heap.size + 2, 6, none⟩ (.int .i64 n3))) := H.out.set _ _ 6 _ (H.out.set _ _ 5 _ (H.out.set _ _ 4 _ (H.out.set _ _ 3 _ HP.out)))))
  go_wp2_with (go_at_call 84; refine (H.out.bound _ _ HP6.out).mono ?_; clear HP HP6 y0 y1 y2 y3 y4 y5 y6 y7 f3 f4 f5 f6 hl; rintro e w6 ⟨rfl, hq⟩; obtain ⟨fz, az, ⟨x0, x1, x2, x3, x4, x5, x6, x7, x8, x9, x10, x11, x12, x13, x14⟩, ⟨a0, a1, a2, a3, a4, a5, a6, a7, a8, a9, a10, a11, a12, a13, a14⟩, hl, hl1⟩ := bx_all (H.out.bx _ _ hq); have f7 := fz 7; have g0 := az 0; have g1 := az 1; have g2 := az 2; have g3 := az 3; have g4 := az 4; have g5 := az 5; have g6 := az 6; have g7 := az 7; have g8 := az 8; have g9 := az 9; have g10 := az 10; have g11 := az 11; have g12 := az 12; have g13 := az 13; have g14 := az 14; have HP : Hid (Q (w6.setCell ⟨W.heap.size + 2, 7, none⟩ (.bool b))) := H.out.fin _ _ (H.out.set _ _ 7 _ hq); clear hq fz az)
  refine bodyPost_ret (v := .agg (tdv ⟨#[]⟩ t 0 n0 n1 n2 n3 b sm0)) (by simp [results, Tryz.results28, go_sem, tdv, a0, a1, a2, a3, a4, a5, a6, a7, a8, a9, a10, a11, a12, a13, a14]) rfl ⟨rfl, H.out.qset _ 14 _ (H.out.qset _ 13 _ (H.out.qset _ 12 _ (H.out.qset _ 11 _ (H.out.qset _ 10 _ (H.out.qset _ 9 _ (H.out.qset _ 8 _ (H.out.qset _ 7 _ (H.out.qset _ 6 _ (H.out.qset _ 5 _ (H.out.qset _ 4 _ (H.out.qset _ 3 _ (H.out.qset _ 2 _ (H.out.qset _ 1 _ (H.out.qset _ 0 _ HP.out))))))))))))))⟩
end Go.Proofs.YtkmihnjmchfopaaGreatDoor.Sto
