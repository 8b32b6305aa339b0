/-
  The document's own layer 21: Row: a row's texts, one behind the other. Conditions: the row and its bytes fit the machine.
-/
import Derived.Test.YtcgnfjcbafmbgaaDoorPBld
import Derived.Lib.BufferRead
namespace Go.Proofs.YtcgnfjcbafmbgaaDoor
open Go.RowKit Go.Shelf Bod Wid
theorem info5P : (Tryd.prog.info? 5).map (fun i => (i.zero, i.size, i.bytes)) = some (some (.int .u8 0), 1, 1) := by kernel_rfl
theorem conv_rowP {base n : Nat} {v : Value} {l : List UInt8} {W : World} (h : W.ownsRow base 5 1 v n (Lib.byteCells l)) (hn : l.length = n) : (convert 42 9 v).run Tryd.prog W = .ok (.string ⟨l.toArray⟩) W := by
  subst hn
  rcases h.2 with ⟨rfl, h0⟩ | ⟨g, cap, cur, rfl, hbg, hg, hnc, hcm, hcs, htake⟩
  · obtain rfl : l = [] := List.eq_nil_of_length_eq_zero h0
    exact Lib.run_convert_nil_bytes W 42 9 5 0 Tryd.underlying42 Tryd.underlying5 Tryd.underlying9
  · refine run_convert_bytes_back W 42 9 5 ⟨g, 0, none⟩ cap l Tryd.underlying42 Tryd.underlying5 Tryd.underlying9 (Lib.bytes_of_row hg ?_)
    rw [Nat.mul_one] at htake
    exact htake
set_option maxRecDepth 100000 in
set_option maxHeartbeats 1000000 in
theorem rrw_any (v : Value) (l : List Cel) (hn : l.length ≤ 2147483648) (hl : (rowL l).length ≤ 140737488355328) (w : World) (h : RdCe w v l) :
    Calls Tryd.prog 9 #[v] w fun e w' => e = .returned (.string ⟨(rowL l).toArray⟩) ∧ Below w.heap.size w w' := by
  obtain ⟨i0, hi0, hz0, hz1, hz2⟩ := info_parts info5P
  obtain ⟨a, k, rfl, hc⟩ := h.get
  obtain ⟨n, hln⟩ : ∃ n, l.length = n := ⟨_, rfl⟩
  have HL : Hid (l.length = n ∧ n ≤ 2147483648 ∧ ∀ j, (rowL (l.take j)).length ≤ 140737488355328) := ⟨hln, by omega, fun j => by have := rowL_len l j; omega⟩
  have HC : Hid (∀ (j : Nat) c, l[j]? = some c → ∀ Y, Below w.heap.size w Y → ∃ g o, a = some ⟨g, o, none⟩ ∧ Y.cell? ⟨g, o + j * 2, none⟩ = some (.string c.tx) ∧ Y.cell? ⟨g, o + j * 2 + 1, none⟩ = some (.int .i64 c.sp)) := fun j c hj Y hY => by
    obtain ⟨g, o, e, c0, c1⟩ := hc j c hj
    exact ⟨g, o, e, (hY.cell (p := ⟨g, o + j * 2, none⟩) (World.block_lt_of_cell? w _ c0)).trans c0, (hY.cell (p := ⟨g, o + j * 2 + 1, none⟩) (World.block_lt_of_cell? w _ c1)).trans c1⟩
  rw [hln]
  clear hc h hl hn hln
  go_enter Tryd.func9, Tryd.ntmps9
  go_wp2
  go_loopw [3, 4] (fun u t wr => ∃ j : Nat, j ≤ n ∧ t = .int .i64 j ∧ Hid (∃ q, q = (rowL (l.take j)).length ∧ wr.ownsRow w.heap.size 5 1 u q (Lib.byteCells (rowL (l.take j))) ∧ Below w.heap.size w wr)) (fun _ t _ => n - (intOf t).toNat)
  case atStart => exact ⟨0, Nat.zero_le _, rfl, ⟨0, rfl, World.ownsRow_nil _ _ _ _, Below.refl _ _⟩⟩
  case round =>
    obtain ⟨j, hj, rfl, HB⟩ := hrel
    by_cases hlt : j < n
    · obtain ⟨c, hcj⟩ : ∃ c, l[j]? = some c := ⟨l[j]'(by rw [HL.out.1]; exact hlt), List.getElem?_eq_getElem _⟩
      obtain ⟨q, hq, hown, hbel⟩ := HB.out
      obtain ⟨g, o, rfl, x0, x1⟩ := HC.out j c hcj wr hbel
      have HT : Hid (rowL (l.take (j + 1)) = rowL (l.take j) ++ c.tx.data.toList) := rowL_take hcj
      have hlt' : (j : Int) < (n : Int) := by omega
      have HLT : Hid (j < n ∧ n ≤ 2147483648) := ⟨hlt, HL.out.2.1⟩
      have hsz : c.tx.data.toList.length = c.tx.size := Array.length_toList
      have HQ : Hid (q = (rowL (l.take j)).length ∧ q + c.tx.size ≤ maxLen ∧ q + c.tx.size ≤ 140737488355328) := by
        have h1 := HL.out.2.2 (j + 1)
        rw [HT.out, List.length_append, hsz] at h1
        exact ⟨hq, by unfold maxLen; omega, by omega⟩
      have HO : Hid (wr.ownsRow w.heap.size 5 1 _ q (Lib.byteCells (rowL (l.take j))) ∧ Below w.heap.size w wr) := ⟨hown, hbel⟩
      have HTS : Hid (c.tx.data.toList.length = c.tx.size) := hsz
      clear hcj hlt HC hq hown hbel hsz HB x1
      obtain ⟨t, ht⟩ : ∃ t, c.tx = t := ⟨_, rfl⟩
      rw [ht] at x0 HQ HTS HT
      clear ht
      go_wp2_with (at_builtin; refine Lib.wpList_append_own_string _ rfl _ _ 42 9 rfl w.heap.size 5 i0 Tryd.underlying42 Tryd.underlying9 hi0 hz0 hz1 hz2 _ q _ rfl HO.out.1 t rfl HQ.out.2.1 HQ.out.2.2 HO.out.2.size ?_; intro v3 w3 hrow3 hg3 _)
      refine ⟨⟨j + 1, by have := HLT.out; omega, by first | rw [w64t (by have := HLT.out; omega)] | (simp; done), ⟨q + t.size, ?_, ?_, HO.out.2.grown hg3 HO.out.2.size (fun e he => (HO.out.1.lt e he).1)⟩⟩, by have := HLT.out; first | (rw [w64t (by omega)]; simp [intOf]; omega) | (simp [intOf]; omega)⟩
      · rw [HT.out, List.length_append, HTS.out, ← HQ.out.1]
      · rw [Lib.strCells_eq] at hrow3
        rw [HT.out, Lib.byteCells_append]
        exact hrow3
    · obtain rfl : j = n := by omega
      have hf : l.take j = l := List.take_of_length_le (by have := HL.out.1; omega)
      have hd : ¬ (j : Int) < (j : Int) := by omega
      obtain ⟨q, hq, hown, hbel⟩ := HB.out
      have hcv := conv_rowP hown hq.symm
      rw [hf] at hcv
      have HBr : Hid (Below w.heap.size w wr) := hbel
      clear hown hbel hq HB HC hf
      go_wp2
      go_ret
      exact ⟨rfl, HBr.out⟩
end Go.Proofs.YtcgnfjcbafmbgaaDoor
