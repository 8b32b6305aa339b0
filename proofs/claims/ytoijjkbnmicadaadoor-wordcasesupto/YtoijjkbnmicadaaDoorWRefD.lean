/-
  The walks of the document's own At at the offset 0, and of its wordly of package word: what WMath tells. Conditions: the text is so short that its list can be made; the cluster lies in the text and holds its first unit.
-/
import Derived.Test.YtoijjkbnmicadaaDoorYRefU
import Derived.Test.YtoijjkbnmicadaaDoorWRef
import Derived.Test.YtoijjkbnmicadaaDoorPkC
import Derived.Deep.AppendLies
namespace Go.Proofs.YtoijjkbnmicadaaDoor
open Go.RowKit Bod Wid

set_option maxHeartbeats 2000000 in
set_option maxRecDepth 100000 in
theorem rat0_any (s : ByteArray) (h0 : 0 < s.size) (hs : s.size * 16 ≤ 140737488355328) (w : World) :
    Calls Tryd.prog 53 #[.string s, .int .i64 0] w fun e W' => e = .returned (.tuple #[.agg #[.int .i32 (ch s 0), .int .i64 (sz s 0)], .bool true]) ∧ Below w.heap.size w W' := by
  obtain ⟨W0, hW0⟩ : ∃ W0, w.alloc (.cells #[.int .i32 0, .int .i64 0] 74) = W0 := ⟨_, rfl⟩
  have hb0 : Below w.heap.size w W0 := by rw [← hW0]; exact (Below.refl _ w).alloc (Nat.le_refl _) _
  have r0 : W0.heap[w.heap.size]? = some (.cells #[.int .i32 0, .int .i64 0] 74 (0, 0)) := by rw [← hW0]; exact World.alloc_heap_new w _
  have hz0 : w.heap.size < W0.heap.size := (Array.getElem?_eq_some_iff.1 r0).1
  obtain ⟨n, hn⟩ : ∃ n, (offs s 0).length = n := ⟨_, rfl⟩
  have hn0 : 0 < n := by rw [← hn, offs_step h0]; simp
  have hnb : n ≤ s.size := by rw [← hn]; exact offs_len_le s
  have CU : Hid (Calls Tryd.prog 65 #[.string s] W0 fun e W' => ∃ g cap, e = .returned (.slice (some ⟨g, 0, none⟩) n cap) ∧ Hid ((W'.cell? ⟨g, 0, none⟩ = some (.int .i32 (ch s 0)) ∧ W'.cell? ⟨g, 1, none⟩ = some (.int .i64 (sz s 0))) ∧ W'.heap[w.heap.size]? = some (.cells #[.int .i32 0, .int .i64 0] 74 (0, 0)) ∧ Below w.heap.size w W')) := (runits_any s hs W0).mono fun e W' ⟨v, h1, h2, h3⟩ => by
    have h00 : (offs s 0)[0]? = some 0 := by rw [offs_step h0]; rfl
    obtain ⟨u0, u1⟩ := ucells_get s (offs s 0) 0 0 h00
    rw [hn] at h2
    obtain ⟨g, cap, rfl, _, _⟩ := h2.form hn0
    exact ⟨g, cap, h1, ⟨(h2.cellAt 0 (by omega)).trans u0, (h2.cellAt 1 (by omega)).trans u1⟩, (h3.block _ hz0).trans r0, hb0.trans (h3.mono hb0.size)⟩
  clear hb0 r0 hz0 hn
  go_enter Tryd.func53, Tryd.ntmps53
  go_wp2_with (go_at_call 65; refine CU.out.mono ?_; clear CU hW0; rintro e w1 ⟨g, cap, rfl, HC⟩)
  go_loopw [7, 8] (fun x t wr => x = .int .i64 0 ∧ t = .int .i64 0 ∧ w1 = wr) (fun _ _ _ => 0)
  case atStart => exact ⟨rfl, rfl, rfl⟩
  case round =>
    obtain ⟨rfl, rfl, rfl⟩ := hrel
    obtain ⟨⟨c0, c1⟩, hr, hb⟩ := HC.out
    have z0 : w1.cell? ⟨w.heap.size, 0, none⟩ = some (.int .i32 0) := by simp [World.cell?, hr]
    have z1 : w1.cell? ⟨w.heap.size, 1, none⟩ = some (.int .i64 0) := by simp [World.cell?, hr]
    have f0 : w1.frozen? ⟨w.heap.size, 0, none⟩ = false := by simp [World.frozen?, hr]
    have f1 : w1.frozen? ⟨w.heap.size, 1, none⟩ = false := by simp [World.frozen?, hr]
    have hl : w.heap.size < w1.heap.size := (Array.getElem?_eq_some_iff.1 hr).1
    have HB : Hid (Below w.heap.size w w1) := hb
    clear hr hb
    go_wp2
    exact bodyPost_ret (v := .tuple #[.agg #[.int .i32 (ch s 0), .int .i64 (sz s 0)], .bool true]) (by simp [results, Tryd.results53, go_sem, z0, z1]) rfl ⟨rfl, (HB.out.setCell (p := ⟨w.heap.size, 0, none⟩) (Nat.le_refl _) _).setCell (p := ⟨w.heap.size, 1, none⟩) (Nat.le_refl _) _⟩
set_option maxHeartbeats 2000000 in
set_option maxRecDepth 100000 in
theorem rwordly_any (s : ByteArray) (i j : Nat) (k n : Int) (hi : i < s.size) (h1 : i + sz s i ≤ j) (hj : j ≤ s.size) (hs : s.size * 16 ≤ 140737488355328) (w : World) :
    Calls Tryd.prog 42 #[.string s, .agg #[.int .i64 i, .int .i64 j, .int .i64 k, .int .i64 n]] w fun e W' => e = .returned (.bool (wch (ch s i))) ∧ Below w.heap.size w W' := by
  have hz : 1 ≤ sz s i := (dec_sz (s.size - i) (bt s i) (bt s (i + 1)) (bt s (i + 2)) (bt s (i + 3)) (by omega)).1
  obtain ⟨e1, e2⟩ := ch_first hi h1 hj
  have hsz : (s.extract i j).size = j - i := size_extract s i j hj
  have CA : Hid (∀ W, Calls Tryd.prog 53 #[.string (s.extract i j), .int .i64 0] W fun e W' => e = .returned (.tuple #[.agg #[.int .i32 (ch s i), .int .i64 (sz s i)], .bool true]) ∧ Below W.heap.size W W') := fun W => by
    rw [← e1, ← e2]
    exact rat0_any _ (by omega) (by omega) W
  have CI : Hid (∀ W, Calls Tryd.prog 11 #[.int .i32 (ch s i)] W fun e W' => e = .returned (.bool (wch (ch s i))) ∧ Below W.heap.size W W') := fun W => risword_any _ W
  generalize ch s i = c at CA CI
  generalize sz s i = z at CA
  clear e1 e2 hsz
  have hij : i ≤ j := by omega
  obtain ⟨W0, hW0⟩ : ∃ W0, w.alloc (.cells #[.int .i64 i, .int .i64 j, .int .i64 k, .int .i64 n] 58) = W0 := ⟨_, rfl⟩
  have HB0 : Hid (Below w.heap.size w W0) := by show Below _ _ _; rw [← hW0]; exact (Below.refl _ w).alloc (Nat.le_refl _) _
  have r0 : W0.heap[w.heap.size]? = some (.cells #[.int .i64 i, .int .i64 j, .int .i64 k, .int .i64 n] 58 (0, 0)) := by rw [← hW0]; exact World.alloc_heap_new w _
  have z0 : W0.cell? ⟨w.heap.size, 0, none⟩ = some (.int .i64 i) := by simp [World.cell?, r0]
  have z1 : W0.cell? ⟨w.heap.size, 1, none⟩ = some (.int .i64 j) := by simp [World.cell?, r0]
  clear r0
  go_enter Tryd.func42, Tryd.ntmps42
  go_wp2_with (first | (go_at_call 53; refine (CA.out _).mono ?_; clear CA; rintro e w1 ⟨rfl, hb1⟩; have HB1 : Hid (Below w.heap.size w w1) := HB0.out.trans (hb1.mono HB0.out.size); clear hb1) | (go_at_call 11; refine (CI.out _).mono ?_; clear CI; rintro e w2 ⟨rfl, hb2⟩; have HB2 : Hid (Below w.heap.size w w2) := (HB1.out.alloc HB1.out.size _).trans (hb2.mono (by have := HB1.out.size; simp; omega)); clear hb2))
  go_ret
  exact ⟨rfl, HB2.out⟩
end Go.Proofs.YtoijjkbnmicadaaDoor
