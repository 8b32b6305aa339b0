/-
  What package hist's calls answer, on: Entry, Drafts, keep, text, push. Conditions: those of each theorem.
-/
import Derived.Test.YtgakgebhhmkclaaHPro
import Derived.Laws.CopyOwn
namespace Go.Proofs.Ytgakgebhhmkclaa
open Go.RowKit

/-- what Entry answers -/
def Hs.ent (h : Hs) (i : Int) : ByteArray × Int := if 0 ≤ i ∧ i < (h.es.length : Int) then (h.es.getD i.toNat ⟨#[]⟩, 0) else (⟨#[]⟩, 1)
section
variable {w : World} {base pb : Nat} {v d : Value} {h : Hs}
set_option maxRecDepth 100000 in
set_option maxHeartbeats 1000000 in
theorem entry_any (k : Pv w base pb v d h) {i : Int} (hi : -9223372036854775808 ≤ i ∧ i ≤ 9223372036854775807) : Calls Try.prog 24 #[.pointer (some ⟨pb, 0, none⟩), .int .i64 i] w fun e w' => e = .returned (.tuple #[.string (h.ent i).1, .int .i64 (h.ent i).2]) ∧ Below w.heap.size w w' := by
  have CL := len_any k
  obtain ⟨⟨c0, c1, c2, c3⟩, _⟩ := box4 k.box
  obtain ⟨a, c, rfl, _⟩ := row_slice k.row
  have hs := k.small
  obtain ⟨n, hn⟩ : ∃ n, h.es.length = n := ⟨_, rfl⟩
  by_cases h1 : i < 0
  · have e : h.ent i = (⟨#[]⟩, 1) := by rw [Hs.ent, if_neg (by omega)]
    rw [e]
    rw [hn] at CL
    clear k
    go_enter Try.func24, Try.ntmps24
    go_wp2
    go_ret2
    exact ⟨rfl, Below.refl _ _⟩
  · by_cases h2 : (n : Int) ≤ i
    · have e : h.ent i = (⟨#[]⟩, 1) := by rw [Hs.ent, if_neg (by omega)]
      rw [e]
      rw [hn] at CL
      clear k
      go_enter Try.func24, Try.ntmps24
      go_wp2_with (go_at_call 16; refine CL.mono ?_; clear CL; rintro e w1 ⟨rfl, hw⟩; subst hw)
      go_ret2
      exact ⟨rfl, Below.refl _ _⟩
    · obtain ⟨j, hj⟩ : ∃ j : Nat, i = (j : Int) := ⟨i.toNat, by omega⟩
      subst hj
      obtain ⟨s, hs2⟩ : ∃ s, h.es[j]? = some s := ⟨h.es[j]'(by omega), List.getElem?_eq_getElem _⟩
      have e : h.ent (j : Int) = (s, 0) := by rw [Hs.ent, if_pos (by omega), Int.toNat_natCast, List.getD_eq_getElem?_getD, hs2]; rfl
      rw [e]
      obtain ⟨g, rfl, hc⟩ := row_at k.row hs2
      have CC : Hid (∀ W, Calls Try.prog 42 #[.string s] W fun e w' => e = .returned (.string s) ∧ Below W.heap.size W w') := fun W => sclone_any s (by have := k.ok.fe s (List.mem_of_getElem? hs2); omega) W
      rw [hn] at c1 CL
      have hlt : j < n := by omega
      have hlt' : (j : Int) < (n : Int) := by omega
      clear k hs2 e h1 h2
      go_enter Try.func24, Try.ntmps24
      go_wp2_with (first
        | (go_at_call 16; refine CL.mono ?_; clear CL; rintro e w1 ⟨rfl, hw⟩; subst hw)
        | (go_at_call 42; refine (CC.out _).mono ?_; clear CC; rintro e w2 ⟨rfl, hb2⟩; have HB2 : Hid (Below _ _ w2) := hb2; clear hb2))
      go_ret2
      exact ⟨rfl, HB2.out⟩
end
set_option maxRecDepth 100000 in
theorem entry_nil {i : Int} (hi : -9223372036854775808 ≤ i ∧ i ≤ 9223372036854775807) (w : World) : Calls Try.prog 24 #[.pointer none, .int .i64 i] w fun e w' => e = .returned (.tuple #[.string ⟨#[]⟩, .int .i64 1]) ∧ w' = w := by
  have CL := len_nil w
  by_cases h1 : i < 0
  · go_enter Try.func24, Try.ntmps24
    go_wp2
    go_ret2
    exact ⟨rfl, rfl⟩
  · have h2 : 0 ≤ i := by omega
    go_enter Try.func24, Try.ntmps24
    go_wp2_with (go_at_call 16; refine CL.mono ?_; clear CL; rintro e w1 ⟨rfl, hw⟩; subst hw)
    go_ret2
    exact ⟨rfl, rfl⟩
theorem cnt_succ (nt : List (Nat × ByteArray)) (j : Nat) : (List.range (j + 1)).countP (fun p => (gt nt p).isSome) = (List.range j).countP (fun p => (gt nt p).isSome) + (if (gt nt j).isSome then 1 else 0) := by
  rw [List.range_succ, List.countP_append, List.countP_cons, List.countP_nil, Nat.zero_add]
theorem cnt_le (nt : List (Nat × ByteArray)) (j : Nat) : (List.range j).countP (fun p => (gt nt p).isSome) ≤ j := by
  have := List.countP_le_length (p := fun p => (gt nt p).isSome) (l := List.range j)
  simpa using this
set_option maxRecDepth 100000 in
set_option maxHeartbeats 1000000 in
theorem drafts_any {w : World} {base pb : Nat} {v d : Value} {h : Hs} (k : Pv w base pb v d h) : Calls Try.prog 27 #[.pointer (some ⟨pb, 0, none⟩)] w fun e w' => e = .returned (.int .i64 (h.nt.length : Int)) ∧ Below w.heap.size w w' := by
  obtain ⟨⟨c0, c1, c2, c3⟩, _⟩ := box4 k.box
  obtain ⟨m, hm, hr⟩ := k.dr
  obtain ⟨a, c, rfl, _⟩ := row_slice hr
  have hs := k.small
  have hm3 : m ≤ 1001 := by omega
  have HC : Hid ((List.range m).countP (fun p => (gt h.nt p).isSome) = h.nt.length) := by
    rcases hm with ⟨rfl, e⟩ | rfl
    · rw [e]; exact rfl
    · exact gt_count h.nt k.ok.nd _ k.ok.nl
  have HR : Hid (∀ W, Below w.heap.size w W → W.ownsRow base 61 2 (.slice a m c) m (dvs h.nt m)) := fun W hb => row_of_heap hr (fun g hg => hb.block g (row_blk hr hg).2.2)
  clear k hr hm hs
  go_enter Try.func27, Try.ntmps27
  go_wp2
  go_loopw [3, 13] (fun t3 t13 wr => ∃ (j n : Nat), j ≤ m ∧ t13 = .int .i64 j ∧ t3 = .int .i64 n ∧ n ≤ j ∧ Hid (n = (List.range j).countP (fun p => (gt h.nt p).isSome) ∧ Below w.heap.size w wr)) (fun _ t13 _ => m - (intOf t13).toNat)
  case atStart => exact ⟨0, 0, Nat.zero_le _, rfl, rfl, Nat.le_refl _, rfl, Below.refl _ _⟩
  case round =>
    obtain ⟨j, n, hj, rfl, rfl, hnj, HK⟩ := hrel
    by_cases hlt : j < m
    · have hrow := HR.out _ HK.out.2
      obtain ⟨g, rfl, hx, fx⟩ := row_cell hrow (dvs_get h.nt hlt).1
      obtain ⟨g', e, hy, fy⟩ := row_cell hrow (dvs_get h.nt hlt).2
      cases e
      have HS : Hid (_) := cnt_succ h.nt j
      have hlt' : (j : Int) < (m : Int) := by omega
      clear hrow
      obtain ⟨β, hβ⟩ : ∃ β, (gt h.nt j).isSome = β := ⟨_, rfl⟩
      rw [hβ] at hx HS
      clear hβ
      have HA : Hid (∀ x, Below w.heap.size w (wr.alloc x)) := fun x => HK.out.2.alloc HK.out.2.size x
      cases β with
      | true =>
        go_wp2
        refine ⟨⟨j + 1, n + 1, by omega, by go_num, by go_num, by omega, ?_, HA.out _⟩, by simp [intOf]; omega⟩
        rw [HS.out, ← HK.out.1]; rfl
      | false =>
        go_wp2
        refine ⟨⟨j + 1, n, by omega, by go_num, rfl, by omega, ?_, HA.out _⟩, by simp [intOf]; omega⟩
        rw [HS.out, ← HK.out.1]; rfl
    · go_wp2
      go_ret
      obtain rfl : j = m := by omega
      rw [← HC.out, ← HK.out.1]
      exact ⟨rfl, HK.out.2⟩
end Go.Proofs.Ytgakgebhhmkclaa
