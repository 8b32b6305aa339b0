/-
  What package gap's Measure answers, of a buffer or of none. Conditions: the two tables of unicode/utf8 lie as their text lays them.
-/
import Derived.Test.YtplieccalmkloaaGreatDoorGPkX
import Derived.Test.YtplieccalmkloaaGreatDoorMCon
namespace Go.Proofs.YtplieccalmkloaaGreatDoor.Gap
open Go.RowKit Bod Wid

def gMea (s : ByteArray) (f t : Int) : Sum × Int := if gRng f t s.size then (sm0, 1) else (smr (s.extract f.toNat t.toNat), 0)
set_option maxRecDepth 100000 in
set_option maxHeartbeats 2000000 in
theorem mea_is {w : World} {v : Value} {o : Option (Nat × Option Nat)} {g : Gp} {n : Nat} (h : Is w v o g n) (f t : Int) (hT : Lib.Utf8Tabs 0 1 w) (hlo0 : 0 < w.heap.size) (hlo1 : 1 < w.heap.size) :
    Calls Tryz.prog 192 #[v, .int .i64 f, .int .i64 t] w fun e W' => e = .returned (.tuple #[sv (gMea g.s f t).1, .int .i64 (gMea g.s f t).2]) ∧ Below w.heap.size w W' := by
  obtain ⟨o1, o2, o3⟩ := h.ok
  obtain ⟨W0, hW0⟩ : ∃ W0, w.alloc (.cells #[.int .i64 0, .int .i64 0, .int .i64 0, .int .i64 0, .int .i64 0, .string ⟨#[]⟩, .string ⟨#[]⟩] 125) = W0 := ⟨_, rfl⟩
  have hb0 : Below w.heap.size w W0 := by rw [← hW0]; exact (Below.refl _ w).alloc (Nat.le_refl _) _
  have r0 : W0.heap[w.heap.size]? = some (.cells (scs sm0) 125 (0, 0)) := by rw [← hW0]; exact World.alloc_heap_new w _
  have hz0 : w.heap.size < W0.heap.size := (Array.getElem?_eq_some_iff.1 r0).1
  have CS := slice_is (h.below hb0) f t
  have HK : Hid (∀ W, Below W0.heap.size W0 W → W.heap[w.heap.size]? = some (.cells (scs sm0) 125 (0, 0)) ∧ Below w.heap.size w W) := fun W hW => ⟨(hW.block _ hz0).trans r0, hb0.trans (hW.mono hb0.size)⟩
  unfold gMea
  unfold gSlice at CS
  cases hr : gRng f t g.s.size with
  | true =>
    rw [hr] at CS
    simp only [if_true] at CS ⊢
    have CS : Hid (Calls Tryz.prog 194 #[v, .int .i64 f, .int .i64 t] W0 fun x w' => x = .returned (.tuple #[.string eBA, .int .i64 1]) ∧ Below W0.heap.size W0 w') := CS
    clear h hT hlo0 hlo1 hb0 r0 hz0 hr
    go_enter Tryz.func192, Tryz.ntmps192
    go_wp2_with (go_at_call 194; refine CS.out.mono ?_; clear CS; rintro e w1 ⟨rfl, hq⟩; have HK1 : Hid (w1.heap[w.heap.size]? = some (.cells (scs sm0) 125 (0, 0)) ∧ Below w.heap.size w w1) := HK.out _ hq; obtain ⟨⟨z0, z1, z2, z3, z4, z5, z6⟩, f0, f1, f2, f3, f4, f5, f6⟩ := box7 HK1.out.1; have hl : w.heap.size < w1.heap.size := (Array.getElem?_eq_some_iff.1 HK1.out.1).1; clear hq)
    exact bodyPost_ret (v := .tuple #[sv sm0, .int .i64 1]) (by simp [results, Tryz.results192, go_sem, z0, z1, z2, z3, z4, z5, z6, sv, sm0]) rfl ⟨rfl, set7_below HK1.out.2 _ _ _ _ _ _ _⟩
  | false =>
    rw [hr] at CS
    simp only [Bool.false_eq_true, if_false] at CS ⊢
    obtain ⟨s', hs'⟩ : ∃ s', g.s.extract f.toNat t.toNat = s' := ⟨_, rfl⟩
    rw [hs'] at CS ⊢
    have hsz : s'.size ≤ 1073741824 := by
      have : t.toNat ≤ g.s.size := by simp [gRng] at hr; omega
      rw [← hs', size_ext this]
      omega
    obtain ⟨m, hm⟩ : ∃ m, smr s' = m := ⟨_, rfl⟩
    have CM : Hid (∀ W, Below w.heap.size w W → Calls Tryz.prog 154 #[.string s'] W fun e W' => e = .returned (sv m) ∧ Below W.heap.size W W') := fun W hW => by
      rw [← hm]
      exact measure_any s' (by omega) W (tabs_below hT hW) (Nat.lt_of_lt_of_le hlo0 hW.size) (Nat.lt_of_lt_of_le hlo1 hW.size)
    rw [hm]
    have CS : Hid (Calls Tryz.prog 194 #[v, .int .i64 f, .int .i64 t] W0 fun x w' => x = .returned (.tuple #[.string s', .int .i64 0]) ∧ Below W0.heap.size W0 w') := CS
    have HK2 : Hid (∀ W W', Below W0.heap.size W0 W → Below W.heap.size W W' → Below W0.heap.size W0 W') := fun W W' a b => a.trans (b.mono a.size)
    clear h hT hlo0 hlo1 hb0 r0 hz0 hr hs' hm hsz
    go_enter Tryz.func192, Tryz.ntmps192
    go_wp2_with (first | (go_at_call 194; refine CS.out.mono ?_; clear CS; rintro e w1 ⟨rfl, hq⟩; have HQ : Hid (Below W0.heap.size W0 w1) := hq; clear hq) | (go_at_call 154; refine (CM.out _ (HK.out _ HQ.out).2).mono ?_; clear CM; rintro e w2 ⟨rfl, hq⟩; have HK1 : Hid (w2.heap[w.heap.size]? = some (.cells (scs sm0) 125 (0, 0)) ∧ Below w.heap.size w w2) := HK.out _ (HK2.out _ _ HQ.out hq); obtain ⟨⟨z0, z1, z2, z3, z4, z5, z6⟩, f0, f1, f2, f3, f4, f5, f6⟩ := box7 HK1.out.1; have hl : w.heap.size < w2.heap.size := (Array.getElem?_eq_some_iff.1 HK1.out.1).1; clear hq))
    exact bodyPost_ret (v := .tuple #[sv m, .int .i64 0]) (by simp [results, Tryz.results192, go_sem, z0, z1, z2, z3, z4, z5, z6, sv]) rfl ⟨rfl, set7_below HK1.out.2 _ _ _ _ _ _ _⟩
end Go.Proofs.YtplieccalmkloaaGreatDoor.Gap