/-
  The document's first examples of package metric, as the statements ask for them ahead of all else: 'counts' returns true. Conditions: the two tables of unicode/utf8 lie as their text lays them.
-/
import Derived.Test.YtdfemihjnempfabDoorMCon
namespace Go.Proofs.YtdfemihjnempfabDoor
open Go.RowKit Bod Wid

theorem ex_m1 : smr ⟨#[97, 13, 10, 228, 184, 128]⟩ = ⟨6, 4, 3, 3, 1, ⟨#[97, 13, 10, 228, 184, 128]⟩, ⟨#[97, 13, 10, 228, 184, 128]⟩⟩ := by kernel_rfl
theorem ex_m2 : smr (cat [⟨#[226]⟩, ⟨#[130, 172]⟩]) = ⟨3, 1, 1, 1, 0, ⟨#[226, 130, 172]⟩, ⟨#[226, 130, 172]⟩⟩ := by kernel_rfl
theorem sv_eq (x : Sum) (w : World) : (binOp .eql 24 (sv x) (sv x)).run Tryd.prog w = .ok (.bool true) w := by
  simp [go_sem, sv]

/-- what lies there lies there in every order -/
theorem cell_rg {W : World} {p : Addr} {v : Value} (h : W.cell? p = some v) : ∀ d os, (Go.Sort.grow (redrawn W d) os).cell? p = some v := fun d os => ((below_regrown W d os).cell (p := p) (cell_lt h)).trans h

set_option maxRecDepth 100000 in
set_option maxHeartbeats 2000000 in
theorem counts_any (w : World) (hT : Lib.Utf8Tabs 1 2 w) (hlo0 : 1 < w.heap.size) (hlo1 : 2 < w.heap.size) :
    Calls Tryd.prog 5 #[] w fun e w' => e = .returned (.bool true) ∧ Below w.heap.size w w' := by
  have c1 : Calls Tryd.prog 6 #[.string ⟨#[97, 13, 10, 228, 184, 128]⟩] w fun e W' => e = .returned (sv ⟨6, 4, 3, 3, 1, ⟨#[97, 13, 10, 228, 184, 128]⟩, ⟨#[97, 13, 10, 228, 184, 128]⟩⟩) ∧ Below w.heap.size w W' := by
    rw [← ex_m1]; exact measure_any _ (by decide +kernel) w hT hlo0 hlo1
  have C2 : Hid (∀ (x : ByteArray), x.size ≤ 4 → ∀ W, Below w.heap.size w W → Calls Tryd.prog 6 #[.string x] W fun e W' => e = .returned (sv (smr x)) ∧ Below w.heap.size w W') := fun x hx W hb =>
    (measure_any x (by omega) W (tabs_below hT hb) (Nat.lt_of_lt_of_le hlo0 hb.size) (Nat.lt_of_lt_of_le hlo1 hb.size)).mono fun e W' ⟨h1, h2⟩ => ⟨h1, hb.trans (h2.mono hb.size)⟩
  have CJ : Hid (∀ W v, RdS W v [⟨#[226]⟩, ⟨#[130, 172]⟩] → Below w.heap.size w W → Calls Tryd.prog 7 #[v] W fun e W' => e = .returned (sv ⟨3, 1, 1, 1, 0, ⟨#[226, 130, 172]⟩, ⟨#[226, 130, 172]⟩⟩) ∧ Below w.heap.size w W') := fun W v hv hb => by
    rw [← ex_m2]
    exact (mjoin_any _ v W hv (by decide +kernel) (by decide) (tabs_below hT hb) (Nat.lt_of_lt_of_le hlo0 hb.size) (Nat.lt_of_lt_of_le hlo1 hb.size)).mono fun e W' ⟨h1, h2⟩ => ⟨h1, hb.trans (h2.mono hb.size)⟩
  clear hT hlo0 hlo1
  go_enter Tryd.func5, Tryd.ntmps5
  go_wp2_with (first | (go_at_call 6; refine c1.mono ?_; clear c1; rintro e w1 ⟨rfl, hb1⟩; have HB : Hid (Below w.heap.size w (w1.alloc (.cells #[.int .i64 6, .int .i64 4, .int .i64 3, .int .i64 3, .int .i64 1, .string ⟨#[97, 13, 10, 228, 184, 128]⟩, .string ⟨#[97, 13, 10, 228, 184, 128]⟩] 24))) := hb1.alloc hb1.size _; clear hb1) | (go_at_call 6; refine (C2.out _ (by decide) _ HB.out).mono ?_; clear HB; rintro e w2 ⟨rfl, hb2⟩; have HB : Hid (Below w.heap.size w w2) := hb2; clear hb2) | (go_at_call 7; refine (CJ.out _ _ (rds_block rfl (World.alloc_heap_new _ _) rfl) (HB.out.alloc HB.out.size _)).mono ?_; clear HB CJ; rintro e w3 ⟨rfl, hb3⟩; have HB : Hid (Below w.heap.size w w3) := hb3; clear hb3))
  go_ret
  exact ⟨rfl, HB.out.alloc HB.out.size _⟩
end Go.Proofs.YtdfemihjnempfabDoor
