/-
  What package hist's calls answer, on: Entry, Drafts, keep, text, push. Conditions: those of each theorem.
-/
import Derived.Test.YtgakgebhhmkclabHPro
import Derived.Laws.CopyOwn
namespace Go.Proofs.Ytgakgebhhmkclab
open Go.RowKit

/-- what Entry answers -/
def Hs.ent (h : Hs) (i : Int) : ByteArray × Int := if 0 ≤ i ∧ i < (h.es.length : Int) then (h.es.getD i.toNat ⟨#[]⟩, 0) else (⟨#[]⟩, 1)
section
variable {w : World} {base pb : Nat} {v d : Value} {h : Hs}
end
theorem cnt_succ (nt : List (Nat × ByteArray)) (j : Nat) : (List.range (j + 1)).countP (fun p => (gt nt p).isSome) = (List.range j).countP (fun p => (gt nt p).isSome) + (if (gt nt j).isSome then 1 else 0) := by
  rw [List.range_succ, List.countP_append, List.countP_cons, List.countP_nil, Nat.zero_add]
theorem cnt_le (nt : List (Nat × ByteArray)) (j : Nat) : (List.range j).countP (fun p => (gt nt p).isSome) ≤ j := by
  have := List.countP_le_length (p := fun p => (gt nt p).isSome) (l := List.range j)
  simpa using this
set_option maxRecDepth 100000 in
set_option maxHeartbeats 1000000 in
theorem drafts_any {w : World} {base pb : Nat} {v d : Value} {h : Hs} (k : Pv w base pb v d h) : Calls Try.prog 11 #[.pointer (some ⟨pb, 0, none⟩)] w fun e w' => e = .returned (.int .i64 (h.nt.length : Int)) ∧ Below w.heap.size w w' := by
  obtain ⟨⟨c0, c1, c2, c3⟩, _⟩ := box4 k.box
  obtain ⟨m, hm, hr⟩ := k.dr
  obtain ⟨a, c, rfl, _⟩ := row_slice hr
  have hs := k.small
  have hm3 : m ≤ 1001 := by omega
  have HC : Hid ((List.range m).countP (fun p => (gt h.nt p).isSome) = h.nt.length) := by
    rcases hm with ⟨rfl, e⟩ | rfl
    · rw [e]; exact rfl
    · exact gt_count h.nt k.ok.nd _ k.ok.nl
  have HR : Hid (∀ W, Below w.heap.size w W → W.ownsRow base 43 2 (.slice a m c) m (dvs h.nt m)) := fun W hb => row_of_heap hr (fun g hg => hb.block g (row_blk hr hg).2.2)
  clear k hr hm hs
  go_enter Try.func11, Try.ntmps11
  go_wp2
  go_loopw [3, 13] (fun t3 t13 wr => ∃ (j n : Nat), j ≤ m ∧ t13 = .int .i64 j ∧ t3 = .int .i64 n ∧ n ≤ j ∧ Hid (n = (List.range j).countP (fun p => (gt h.nt p).isSome) ∧ Below w.heap.size w wr)) (fun _ t13 _ => m - (intOf t13).toNat)
  case atStart => exact ⟨0, 0, Nat.zero_le _, rfl, rfl, Nat.le_refl _, rfl, Below.refl _ _⟩
  case round =>
    obtain ⟨j, n, hj, rfl, rfl, hnj, HK⟩ := hrel
    by_cases hlt : j < m
    · have hrow := HR.out _ HK.out.2
      obtain ⟨g, rfl, hx, fx⟩ := row_cell hrow (dvs_get h.nt hlt).1
      obtain ⟨g', e, hy, fy⟩ := row_cell hrow (dvs_get h.nt hlt).2
      cases e
      have HS : Hid (_) := cnt_succ h.nt j
      have hlt' : (j : Int) < (m : Int) := by omega
      clear hrow
      obtain ⟨β, hβ⟩ : ∃ β, (gt h.nt j).isSome = β := ⟨_, rfl⟩
      rw [hβ] at hx HS
      clear hβ
      have HA : Hid (∀ x, Below w.heap.size w (wr.alloc x)) := fun x => HK.out.2.alloc HK.out.2.size x
      cases β with
      | true =>
        go_wp2
        refine ⟨⟨j + 1, n + 1, by omega, by go_num, by go_num, by omega, ?_, HA.out _⟩, by simp [intOf]; omega⟩
        rw [HS.out, ← HK.out.1]; rfl
      | false =>
        go_wp2
        refine ⟨⟨j + 1, n, by omega, by go_num, rfl, by omega, ?_, HA.out _⟩, by simp [intOf]; omega⟩
        rw [HS.out, ← HK.out.1]; rfl
    · go_wp2
      go_ret
      obtain rfl : j = m := by omega
      rw [← HC.out, ← HK.out.1]
      exact ⟨rfl, HK.out.2⟩
end Go.Proofs.Ytgakgebhhmkclab
