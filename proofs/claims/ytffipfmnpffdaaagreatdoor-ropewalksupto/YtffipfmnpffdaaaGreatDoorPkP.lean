/-
  What package gap's Measure, Byte and Index answer, and the document's own Measure. Conditions: those of each theorem.
-/
import Derived.Test.YtffipfmnpffdaaaGreatDoorGPkD
import Derived.Test.YtffipfmnpffdaaaGreatDoorMCon
import Derived.Test.YtffipfmnpffdaaaGreatDoorGPkE
import Derived.Test.YtffipfmnpffdaaaGreatDoorShelf
namespace Go.Proofs.YtffipfmnpffdaaaGreatDoor.Gap
open Go.RowKit Bod Wid

def gMea (s : ByteArray) (f t : Int) : Sum × Int := if gRng f t s.size then (sm0, 1) else (smr (s.extract f.toNat t.toNat), 0)
set_option maxRecDepth 100000 in
set_option maxHeartbeats 2000000 in
theorem mea_is {w : World} {v : Value} {o : Option (Nat × Option Nat)} {g : Gp} {n : Nat} (h : Is w v o g n) (f t : Int) (hT : Lib.Utf8Tabs 1 2 w) (hlo0 : 1 < w.heap.size) (hlo1 : 2 < w.heap.size) :
    Calls Tryz.prog 267 #[v, .int .i64 f, .int .i64 t] w fun e W' => e = .returned (.tuple #[sv (gMea g.s f t).1, .int .i64 (gMea g.s f t).2]) ∧ Below w.heap.size w W' := by
  obtain ⟨o1, o2, o3⟩ := h.ok
  obtain ⟨W0, hW0⟩ : ∃ W0, w.alloc (.cells #[.int .i64 0, .int .i64 0, .int .i64 0, .int .i64 0, .int .i64 0, .string ⟨#[]⟩, .string ⟨#[]⟩] 106) = W0 := ⟨_, rfl⟩
  have hb0 : Below w.heap.size w W0 := by rw [← hW0]; exact (Below.refl _ w).alloc (Nat.le_refl _) _
  have r0 : W0.heap[w.heap.size]? = some (.cells (scs sm0) 106 (0, 0)) := by rw [← hW0]; exact World.alloc_heap_new w _
  have hz0 : w.heap.size < W0.heap.size := (Array.getElem?_eq_some_iff.1 r0).1
  have CS := slice_is (h.below hb0) f t
  have HK : Hid (∀ W, Below W0.heap.size W0 W → W.heap[w.heap.size]? = some (.cells (scs sm0) 106 (0, 0)) ∧ Below w.heap.size w W) := fun W hW => ⟨(hW.block _ hz0).trans r0, hb0.trans (hW.mono hb0.size)⟩
  unfold gMea
  unfold gSlice at CS
  cases hr : gRng f t g.s.size with
  | true =>
    rw [hr] at CS
    simp only [if_true] at CS ⊢
    have CS : Hid (Calls Tryz.prog 269 #[v, .int .i64 f, .int .i64 t] W0 fun x w' => x = .returned (.tuple #[.string eBA, .int .i64 1]) ∧ Below W0.heap.size W0 w') := CS
    clear h hT hlo0 hlo1 hb0 r0 hz0 hr
    go_enter Tryz.func267, Tryz.ntmps267
    go_wp2_with (go_at_call 269; refine CS.out.mono ?_; clear CS; rintro e w1 ⟨rfl, hq⟩; have HK1 : Hid (w1.heap[w.heap.size]? = some (.cells (scs sm0) 106 (0, 0)) ∧ Below w.heap.size w w1) := HK.out _ hq; obtain ⟨⟨z0, z1, z2, z3, z4, z5, z6⟩, f0, f1, f2, f3, f4, f5, f6⟩ := box7 HK1.out.1; have hl : w.heap.size < w1.heap.size := (Array.getElem?_eq_some_iff.1 HK1.out.1).1; clear hq)
    exact bodyPost_ret (v := .tuple #[sv sm0, .int .i64 1]) (by simp [results, Tryz.results267, go_sem, z0, z1, z2, z3, z4, z5, z6, sv, sm0]) rfl ⟨rfl, set7_below HK1.out.2 _ _ _ _ _ _ _⟩
  | false =>
    rw [hr] at CS
    simp only [Bool.false_eq_true, if_false] at CS ⊢
    obtain ⟨s', hs'⟩ : ∃ s', g.s.extract f.toNat t.toNat = s' := ⟨_, rfl⟩
    rw [hs'] at CS ⊢
    have hsz : s'.size ≤ 1073741824 := by
      have : t.toNat ≤ g.s.size := by simp [gRng] at hr; omega
      rw [← hs', size_ext this]
      omega
    obtain ⟨m, hm⟩ : ∃ m, smr s' = m := ⟨_, rfl⟩
    have CM : Hid (∀ W, Below w.heap.size w W → Calls Tryz.prog 138 #[.string s'] W fun e W' => e = .returned (sv m) ∧ Below W.heap.size W W') := fun W hW => by
      rw [← hm]
      exact measure_any s' (by omega) W (tabs_below hT hW) (Nat.lt_of_lt_of_le hlo0 hW.size) (Nat.lt_of_lt_of_le hlo1 hW.size)
    rw [hm]
    have CS : Hid (Calls Tryz.prog 269 #[v, .int .i64 f, .int .i64 t] W0 fun x w' => x = .returned (.tuple #[.string s', .int .i64 0]) ∧ Below W0.heap.size W0 w') := CS
    have HK2 : Hid (∀ W W', Below W0.heap.size W0 W → Below W.heap.size W W' → Below W0.heap.size W0 W') := fun W W' a b => a.trans (b.mono a.size)
    clear h hT hlo0 hlo1 hb0 r0 hz0 hr hs' hm hsz
    go_enter Tryz.func267, Tryz.ntmps267
    go_wp2_with (first | (go_at_call 269; refine CS.out.mono ?_; clear CS; rintro e w1 ⟨rfl, hq⟩; have HQ : Hid (Below W0.heap.size W0 w1) := hq; clear hq) | (go_at_call 138; refine (CM.out _ (HK.out _ HQ.out).2).mono ?_; clear CM; rintro e w2 ⟨rfl, hq⟩; have HK1 : Hid (w2.heap[w.heap.size]? = some (.cells (scs sm0) 106 (0, 0)) ∧ Below w.heap.size w w2) := HK.out _ (HK2.out _ _ HQ.out hq); obtain ⟨⟨z0, z1, z2, z3, z4, z5, z6⟩, f0, f1, f2, f3, f4, f5, f6⟩ := box7 HK1.out.1; have hl : w.heap.size < w2.heap.size := (Array.getElem?_eq_some_iff.1 HK1.out.1).1; clear hq))
    exact bodyPost_ret (v := .tuple #[sv m, .int .i64 0]) (by simp [results, Tryz.results267, go_sem, z0, z1, z2, z3, z4, z5, z6, sv]) rfl ⟨rfl, set7_below HK1.out.2 _ _ _ _ _ _ _⟩
end Go.Proofs.YtffipfmnpffdaaaGreatDoor.Gap
namespace Go.Proofs.YtffipfmnpffdaaaGreatDoor.Gap
open Go.RowKit Bod Wid

theorem bt_list {s : ByteArray} {x : Nat} (h : x < s.size) : Lib.byteCells s.data.toList = Lib.byteCells s.data.toList ∧ (Lib.byteCells s.data.toList)[x]? = some (.int .u8 (bt s x)) := by
  refine ⟨rfl, ?_⟩
  have h' : x < s.data.toList.length := by rw [sz_list]; exact h
  have e : s.get! x = s.data.toList[x] := by
    show s.data[x]! = _
    rw [Array.getElem_toList]
    exact getElem!_pos s.data x h
  simp only [Lib.byteCells, List.getElem?_map, List.getElem?_eq_getElem h', Option.map_some]
  rw [bt, e]
theorem gap_at {A : List UInt8} {p e : Nat} {t : List UInt8} (h : Gap A p e t) {x : Nat} (hx : x < p) : A[x]? = t[x]? := by
  have := h.tp
  have h1 : (t.take p)[x]? = (A.take p)[x]? := by rw [this]
  rw [List.getElem?_take_of_lt hx, List.getElem?_take_of_lt hx] at h1
  exact h1.symm
theorem gap_behind {A : List UInt8} {p e : Nat} {t : List UInt8} (h : Gap A p e t) {x : Nat} (hx : p ≤ x) : A[x - p + e]? = t[x]? := by
  have h1 : (t.drop p)[x - p]? = (A.drop e)[x - p]? := by rw [h.td]
  rw [List.getElem?_drop, List.getElem?_drop, show p + (x - p) = x by omega, show e + (x - p) = x - p + e by omega] at h1
  exact h1.symm
theorem row_cell {W : World} {k : Nat} {A : List UInt8} (h : W.heap[k]? = some (.cells (Lib.byteCells A).toArray 5 (0, 0))) {x : Nat} {s : ByteArray} {y : Nat} (hy : y < s.size) (he : A[x]? = s.data.toList[y]?) : W.cell? ⟨k, x, none⟩ = some (.int .u8 (bt s y)) := by
  have e1 : (Lib.byteCells A)[x]? = some (.int .u8 (bt s y)) := by
    rw [← (bt_list hy).2]
    simp only [Lib.byteCells, List.getElem?_map, he]
  unfold World.cell?
  dsimp only
  rw [h]
  simpa using e1


theorem occ_gat {s part : ByteArray} {f i : Nat} (hi : f + i ≤ s.size) : Lib.occAt (s.data.toList.drop f) part.data.toList i = gAt s part (f + i) := by
  have h1 := sz_list s
  have h2 := sz_list part
  by_cases hr : f + i + part.size ≤ s.size
  · rw [Lib.occAt_iff_take _ _ _ (by rw [List.length_drop]; omega), List.drop_drop]
    unfold gAt
    rw [decide_eq_true hr, Bool.true_and, ext_list, show f + i + part.size - (f + i) = part.size by omega, h2]
    by_cases e : (s.data.toList.drop (f + i)).take part.size = part.data.toList
    · rw [e, decide_eq_true (show (⟨part.data.toList.toArray⟩ : ByteArray) = part from ByteArray.ext (by simp))]
      simp
    · rw [decide_eq_false (fun h => e (by have := congrArg (fun z : ByteArray => z.data.toList) h; simpa using this))]
      rw [beq_eq_false_iff_ne]
      exact e
  · have e1 : gAt s part (f + i) = false := by
      unfold gAt
      rw [decide_eq_false hr]
      rfl
    rw [e1]
    cases h : Lib.occAt (s.data.toList.drop f) part.data.toList i with
    | false => rfl
    | true =>
      rcases Lib.occAt_room h with h3 | h3
      · rw [List.length_drop] at h3; omega
      · rw [h3] at h2; simp at h2; omega
theorem gIdx_index {s part : ByteArray} {f : Nat} (hf : f ≤ s.size) : (0 ≤ Lib.index (s.data.toList.drop f) part.data.toList → gIdx s part f = f + Lib.index (s.data.toList.drop f) part.data.toList) ∧ (Lib.index (s.data.toList.drop f) part.data.toList < 0 → gIdx s part f = -1) ∧ Lib.index (s.data.toList.drop f) part.data.toList ≤ s.size := by
  have h1 := sz_list s
  have hl : (s.data.toList.drop f).length = s.size - f := by rw [List.length_drop, h1]
  cases hr : (List.range (s.size - f + 1)).find? (fun i => Lib.occAt (s.data.toList.drop f) part.data.toList i) with
  | some i =>
    rw [List.find?_range_eq_some] at hr
    obtain ⟨a1, a2, a3⟩ := hr
    have hi : i < s.size - f + 1 := List.mem_range.1 a2
    have e1 := Lib.index_first (by omega) a1 (fun j hj => by simpa using a3 j hj)
    rw [e1]
    have e2 : gIdx s part f = (f + i : Nat) := gIdx_hit (by rw [← occ_gat (by omega)]; exact a1) (by omega) (fun j hj hfj => by
      obtain ⟨q, rfl⟩ : ∃ q, j = f + q := ⟨j - f, by omega⟩
      rw [← occ_gat (by omega)]
      simpa using a3 q (by omega))
    exact ⟨fun _ => by rw [e2]; omega, fun h => by omega, by omega⟩
  | none =>
    rw [List.find?_eq_none] at hr
    have hn : ∀ j, j ≤ s.size - f → Lib.occAt (s.data.toList.drop f) part.data.toList j = false := fun j hj => by
      have := hr j (List.mem_range.2 (by omega))
      simpa using this
    have e1 := Lib.index_none (s := s.data.toList.drop f) (sub := part.data.toList) (fun j hj => hn j (by omega))
    rw [e1]
    refine ⟨fun h => by omega, fun _ => gIdx_none fun j hfj => ?_, by omega⟩
    by_cases hjs : j ≤ s.size
    · obtain ⟨q, rfl⟩ : ∃ q, j = f + q := ⟨j - f, by omega⟩
      rw [← occ_gat hjs]
      exact hn q (by omega)
    · unfold gAt
      rw [decide_eq_false (by omega)]
      rfl


set_option maxRecDepth 100000 in
set_option maxHeartbeats 2000000 in
theorem rmea_any {b : Nat} {g : Gp} (hg : g.ok) (f t : Int) (w : World) (h : RB w b g) :
    Calls Tryz.prog 152 #[.pointer (some ⟨b, 0, none⟩), .int .i64 f, .int .i64 t] w fun e W' => e = .returned (.tuple #[sv (gMea g.s f t).1, .int .i64 (gMea g.s f t).2]) ∧ Below w.heap.size w W' := by
  obtain ⟨o1, o2, o3⟩ := hg
  obtain ⟨W0, hW0⟩ : ∃ W0, w.alloc (.cells #[.int .i64 0, .int .i64 0, .int .i64 0, .int .i64 0, .int .i64 0, .string ⟨#[]⟩, .string ⟨#[]⟩] 106) = W0 := ⟨_, rfl⟩
  have hb0 : Below w.heap.size w W0 := by rw [← hW0]; exact (Below.refl _ w).alloc (Nat.le_refl _) _
  have r0 : W0.heap[w.heap.size]? = some (.cells (scs sm0) 106 (0, 0)) := by rw [← hW0]; exact World.alloc_heap_new w _
  have hz0 : w.heap.size < W0.heap.size := (Array.getElem?_eq_some_iff.1 r0).1
  have hR : RB W0 b g := (hb0.block b h.cells.2.2.2).trans h
  have CS := rslice_any f t W0 hR
  have HK : Hid (∀ W, Below W0.heap.size W0 W → W.heap[w.heap.size]? = some (.cells (scs sm0) 106 (0, 0)) ∧ Below w.heap.size w W) := fun W hW => ⟨(hW.block _ hz0).trans r0, hb0.trans (hW.mono hb0.size)⟩
  unfold gMea
  unfold gSlice at CS
  cases hr : gRng f t g.s.size with
  | true =>
    rw [hr] at CS
    simp only [if_true] at CS ⊢
    have CS : Hid (Calls Tryz.prog 151 #[.pointer (some ⟨b, 0, none⟩), .int .i64 f, .int .i64 t] W0 fun x w' => x = .returned (.tuple #[.string eBA, .int .i64 1]) ∧ Below W0.heap.size W0 w') := CS
    clear h hR hb0 r0 hz0 hr
    go_enter Tryz.func152, Tryz.ntmps152
    go_wp2_with (go_at_call 151; refine CS.out.mono ?_; clear CS; rintro e w1 ⟨rfl, hq⟩; have HK1 : Hid (w1.heap[w.heap.size]? = some (.cells (scs sm0) 106 (0, 0)) ∧ Below w.heap.size w w1) := HK.out _ hq; obtain ⟨⟨z0, z1, z2, z3, z4, z5, z6⟩, f0, f1, f2, f3, f4, f5, f6⟩ := box7 HK1.out.1; have hl : w.heap.size < w1.heap.size := (Array.getElem?_eq_some_iff.1 HK1.out.1).1; clear hq)
    exact bodyPost_ret (v := .tuple #[sv sm0, .int .i64 1]) (by simp [results, Tryz.results152, go_sem, z0, z1, z2, z3, z4, z5, z6, sv, sm0]) rfl ⟨rfl, set7_below HK1.out.2 _ _ _ _ _ _ _⟩
  | false =>
    rw [hr] at CS
    simp only [Bool.false_eq_true, if_false] at CS ⊢
    obtain ⟨s', hs'⟩ : ∃ s', g.s.extract f.toNat t.toNat = s' := ⟨_, rfl⟩
    rw [hs'] at CS ⊢
    have hsz : s'.size ≤ 1073741824 := by
      have : t.toNat ≤ g.s.size := by simp [gRng] at hr; omega
      rw [← hs', size_ext this]
      omega
    obtain ⟨m, hm⟩ : ∃ m, smr s' = m := ⟨_, rfl⟩
    have CM : Hid (∀ W, Calls Tryz.prog 61 #[.string s'] W fun e W' => e = .returned (sv m) ∧ Below W.heap.size W W') := fun W => by
      rw [← hm]
      exact rmeasure_any s' (by omega) W
    rw [hm]
    have CS : Hid (Calls Tryz.prog 151 #[.pointer (some ⟨b, 0, none⟩), .int .i64 f, .int .i64 t] W0 fun x w' => x = .returned (.tuple #[.string s', .int .i64 0]) ∧ Below W0.heap.size W0 w') := CS
    have HK2 : Hid (∀ W W', Below W0.heap.size W0 W → Below W.heap.size W W' → Below W0.heap.size W0 W') := fun W W' a b => a.trans (b.mono a.size)
    clear h hR hb0 r0 hz0 hr hs' hm hsz
    go_enter Tryz.func152, Tryz.ntmps152
    go_wp2_with (first | (go_at_call 151; refine CS.out.mono ?_; clear CS; rintro e w1 ⟨rfl, hq⟩; have HQ : Hid (Below W0.heap.size W0 w1) := hq; clear hq) | (go_at_call 61; refine (CM.out _).mono ?_; clear CM; rintro e w2 ⟨rfl, hq⟩; have HK1 : Hid (w2.heap[w.heap.size]? = some (.cells (scs sm0) 106 (0, 0)) ∧ Below w.heap.size w w2) := HK.out _ (HK2.out _ _ HQ.out hq); obtain ⟨⟨z0, z1, z2, z3, z4, z5, z6⟩, f0, f1, f2, f3, f4, f5, f6⟩ := box7 HK1.out.1; have hl : w.heap.size < w2.heap.size := (Array.getElem?_eq_some_iff.1 HK1.out.1).1; clear hq))
    exact bodyPost_ret (v := .tuple #[sv m, .int .i64 0]) (by simp [results, Tryz.results152, go_sem, z0, z1, z2, z3, z4, z5, z6, sv]) rfl ⟨rfl, set7_below HK1.out.2 _ _ _ _ _ _ _⟩
end Go.Proofs.YtffipfmnpffdaaaGreatDoor.Gap