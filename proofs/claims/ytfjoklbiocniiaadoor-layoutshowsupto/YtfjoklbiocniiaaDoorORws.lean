/-
  Package layout's Rows: how many rows the frame has. Conditions: the tables of unicode/utf8 lie as their text lays them.
-/
import Derived.Test.YtfjoklbiocniiaaDoorOBeh
namespace Go.Proofs.YtfjoklbiocniiaaDoor
open Go.RowKit Go.Shelf Bod Wid
section
set_option maxRecDepth 100000
set_option maxHeartbeats 2000000
theorem cus_n {s : ByteArray} {l : List Clu} (h : ∀ c ∈ l, c ∈ cl s) : ∀ u ∈ cus s l, u.n ≤ 2 := fun u hu => by
  obtain ⟨c, hc, rfl⟩ := List.mem_map.1 hu
  exact (cuOf_n (h c hc)).1
/-- what Lay lays of the two texts -/
def layPT (W : Nat) (p t : ByteArray) : Lst := layL W (layL W lst0 (cus p (cl p))) (cus t (cl t))
theorem layP_rows (W : Nat) (p : ByteArray) : (layL W lst0 (cus p (cl p))).rows.length ≤ 2 * p.size := by
  have hrows := layL_rows (W := W) (l := cus p (cl p)) (s := lst0)
  have e1 : (lst0).rows.length = 0 := rfl
  have e2 : (cus p (cl p)).length = (cl p).length := by simp [cus]
  have e3 := cl_len p
  omega
theorem layPT_rows (W : Nat) (p t : ByteArray) : (layPT W p t).rows.length ≤ 2 * p.size + 2 * t.size := by
  have hrows := layL_rows (W := W) (l := cus t (cl t)) (s := layL W lst0 (cus p (cl p)))
  have e2 : (cus t (cl t)).length = (cl t).length := by simp [cus]
  have e3 := cl_len t
  have := layP_rows W p
  unfold layPT
  omega
theorem rows_any (p t : ByteArray) (W0 : Int) (hp : p.size ≤ 268435456) (ht : t.size ≤ 268435456) (w : World) (hT : Lib.Utf8Tabs 0 1 w) (hlo0 : 0 < w.heap.size) (hlo1 : 1 < w.heap.size) (Wn : Nat) (hWn : (Wn : Int) = couW W0) :
    Calls Tryd.prog 11 #[.string p, .string t, .int .i64 W0] w fun e Y => e = .returned (.int .i64 ((layPT Wn p t).rows.length + 1 : Nat)) ∧ Hid (Below w.heap.size w Y) := by
  have hW := couW_in W0
  have hW1 : 1 ≤ Wn := by omega
  have hW2 : Wn ≤ 65535 := by omega
  have CO : Hid (∀ X, Calls Tryd.prog 29 #[.int .i64 W0] X fun e w' => e = .returned (.int .i64 (Wn : Int)) ∧ X = w') := fun X => by rw [hWn]; exact (cou_any W0 X).mono fun e w' h => ⟨h.1, h.2.symm⟩
  clear hWn hW
  have hr1 := layP_rows Wn p
  have hr2 := layPT_rows Wn p t
  have hok := layL_ok hW1 (cus_n (s := p) (l := cl p) (fun _ h => h)) (lst0_ok hW1)
  have B1 : Hid (Calls Tryd.prog 30 #[.agg #[.int .i64 0, .int .i64 0], .string p, .int .i64 (Wn : Int)] w _) := beh_any p hp lst0 Wn (lst0_ok hW1) hW1 hW2 (by show 0 ≤ _; omega) w hT hlo0 hlo1
  have B2 : Hid (∀ X, Below w.heap.size w X → Calls Tryd.prog 30 #[.agg #[.int .i64 (layL Wn lst0 (cus p (cl p))).rows.length, .int .i64 (layL Wn lst0 (cus p (cl p))).col], .string t, .int .i64 (Wn : Int)] X fun e Y => e = .returned (.agg #[.int .i64 (layPT Wn p t).rows.length, .int .i64 (layPT Wn p t).col]) ∧ Hid (Below X.heap.size X Y)) := fun X hX => beh_any t ht (layL Wn lst0 (cus p (cl p))) Wn hok hW1 hW2 (by omega) X (tabs_below hT hX) (Nat.lt_of_lt_of_le hlo0 hX.size) (Nat.lt_of_lt_of_le hlo1 hX.size)
  have HR : Hid ((layPT Wn p t).rows.length ≤ 1073741824) := by show _ ≤ _; omega
  clear hr1 hr2 hok
  generalize layPT Wn p t = st2 at B2 HR ⊢
  generalize layL Wn lst0 (cus p (cl p)) = st1 at B1 B2
  go_enter Tryd.func11, Tryd.ntmps11
  go_upto_region 2 with (go_at_call 29; refine (CO.out _).mono ?_; rintro e w0 ⟨rfl, rfl⟩)
  go_upto_region 3 with (go_at_call 30; refine B1.out.mono ?_; clear B1; rintro e w1 ⟨rfl, HB1⟩)
  have HX : Hid (Below w.heap.size w (w1.alloc (.cells #[.int .i64 st1.rows.length, .int .i64 st1.col] 28))) := HB1.out.alloc HB1.out.size _
  have hw64 : wrap64 ((st2.rows.length : Int) + 1) = ((st2.rows.length + 1 : Nat) : Int) := w64s (by have := HR.out; omega)
  have hfd : ∀ W, (Instr.field 28 (.agg #[.int .i64 st2.rows.length, .int .i64 st2.col]) 0).run Tryd.prog W = .ok (.int .i64 st2.rows.length) W := fun W => by kernel_rfl
  go_wp2_with (go_at_call 30; refine (B2.out _ HX.out).mono ?_; clear B2; rintro e w2 ⟨rfl, HB2⟩)
  go_ret
  exact ⟨by rw [← hw64]; rfl, HX.out.trans (HB2.out.mono HX.out.size)⟩
end
end Go.Proofs.YtfjoklbiocniiaaDoor
