/-
  The walk of the law UnitEncodes: for every list of at most 1048576 numbers it returns true: Encode answers the document's encodings, and the list that is handed in stays, its spare room too. Conditions: the two tables of unicode/utf8 lie as their text lays them; the list can be read.
-/
import Derived.Test.YtadgbbnkhjapnaaDoorUCuts
import Derived.Test.YtadgbbnkhjapnaaDoorURef
import Derived.Test.YtadgbbnkhjapnaaDoorURunes
import Derived.Deep.QuietTactic
import Derived.BigQuiet
import Derived.Lib.AppendZeros
namespace Go.Proofs.YtadgbbnkhjapnaaDoor.unitEncodes
open Go.RowKit Bod

theorem info21 : (Tryd.prog.info? 21).map (fun i => (i.zero, i.size, i.bytes)) = some (some (.int .i32 0), 1, 4) := by kernel_rfl
theorem ex_enc : (⟨(encs [97, 128512]).toArray⟩ : ByteArray) = ⟨#[97, 240, 159, 152, 128]⟩ := by decide +kernel

/-- the cells of a list of numbers -/
def rcells (rs : List Int) : List Value := rs.map (Value.int .i32)

theorem append_none (x : Addr) (a : Option Addr) (cap : Nat) (w : World) : (Builtin.append_ #[31, 31] 31 #[.slice (some x) 0 0, .slice a 0 cap]).run Tryd.prog w = .ok (.slice (some x) 0 0) w := by
  cases a <;> kernel_rfl

theorem row_facts {W : World} {base g c n : Nat} {rs : List Int} (hn : n = rs.length + 2) (h : W.ownsRow base 21 1 (.slice (some ⟨g, 0, none⟩) n c) n ([] ++ rcells rs ++ [.int .i32 7, .int .i32 8])) :
    rs.length + 2 ≤ c ∧ base ≤ g ∧ g < W.heap.size ∧ (∀ j, j < rs.length → W.cell? ⟨g, 0 + j, none⟩ = some (.int .i32 (rs[j]?.getD 0))) ∧ W.cell? ⟨g, rs.length, none⟩ = some (.int .i32 7) ∧ W.cell? ⟨g, rs.length + 1, none⟩ = some (.int .i32 8) := by
  have hl : (rcells rs).length = rs.length := by simp [rcells]
  refine ⟨?_, (h.lt g rfl).1, (h.lt g rfl).2, fun j hj => ?_, ?_, ?_⟩
  · rcases h.2 with ⟨h0, _⟩ | ⟨g', cap', cur, hv, _, _, hnc, _⟩
    · cases h0
    · cases hv; omega
  · rw [Nat.zero_add, h.cellAt j (by omega), List.nil_append, List.getElem?_append_left (by omega)]
    simp [rcells, List.getElem?_eq_getElem hj]
  · rw [h.cellAt _ (by omega), List.nil_append, List.getElem?_append_right (by omega), hl]
    simp
  · rw [h.cellAt _ (by omega), List.nil_append, List.getElem?_append_right (by omega), hl]
    simp

set_option maxRecDepth 100000 in
set_option maxHeartbeats 4000000 in
theorem walk (rs : List Int) (b o cap : Nat) (hlen : rs.length ≤ 1048576) (hr : ∀ r ∈ rs, -2147483648 ≤ r ∧ r ≤ 2147483647) (w : World) (hT : Lib.Utf8Tabs 0 1 w) (hlo0 : 0 < w.heap.size) (hlo1 : 1 < w.heap.size)
    (h : ∀ j, j < rs.length → w.cell? ⟨b, o + j, none⟩ = some (.int .i32 (rs[j]?.getD 0))) (hb : b < w.heap.size) :
    Calls Tryd.prog 5 #[.slice (some ⟨b, o, none⟩) rs.length cap] w fun e w' => e = .returned (.bool true) ∧ Below w.heap.size w w' := by
  have CC : Hid (Calls Tryd.prog 9 #[] w fun e w' => e = .returned (.bool true) ∧ Below w.heap.size w w') := cuts_any w hT hlo0 hlo1
  obtain ⟨i0, hi, hz0, hz1, hz2⟩ := info_parts info21
  have CX : Hid (∀ (W : World) (B : Nat), W.cell? ⟨B, 0, none⟩ = some (.int .i32 97) → W.cell? ⟨B, 1, none⟩ = some (.int .i32 128512) → B < W.heap.size → Calls Tryd.prog 16 #[.slice (some ⟨B, 0, none⟩) 2 2] W fun e W' => e = .returned (.string ⟨#[97, 240, 159, 152, 128]⟩) ∧ Below W.heap.size W W') := fun W B h1 h2 h3 => by
    have hh := encode_core [97, 128512] B 0 2 W (by simp) (fun r hr => by simp at hr; omega) (fun j hj => by
      have : j = 0 ∨ j = 1 := by simp at hj; omega
      rcases this with rfl | rfl
      · exact h1
      · exact h2) h3
    rw [ex_enc] at hh
    exact hh
  have HCel : Hid (∀ (W : World), Below w.heap.size w W → ∀ j u, (rcells rs)[j]? = some u → W.cell? ((⟨b, o, none⟩ : Addr).add j) = some u) := fun W hbw j u hj => by
    have hj' : j < rs.length := by have := (List.getElem?_eq_some_iff.1 hj).1; simpa [rcells] using this
    rw [Go.WideShapes.add_plain, (hbw.cell (p := ⟨b, o + j, none⟩) hb), h j hj', ← hj]
    simp [rcells, List.getElem?_eq_getElem hj']
  have hone : ∀ u ∈ rcells rs, u.oneCell' = true := fun u hu => by
    obtain ⟨z, _, rfl⟩ := List.mem_map.1 hu
    rfl
  have hrl : (rcells rs).length = rs.length * 1 := by simp [rcells]
  have HONE : Hid (∀ u ∈ rcells rs, u.oneCell' = true) := hone
  have HRL : Hid ((rcells rs).length = rs.length * 1) := hrl
  obtain ⟨t, ht⟩ : ∃ t, (⟨(encs rs).toArray⟩ : ByteArray) = t := ⟨_, rfl⟩
  have CE : Hid (∀ (W : World) (g c : Nat), g < W.heap.size → (∀ j, j < rs.length → W.cell? ⟨g, 0 + j, none⟩ = some (.int .i32 (rs[j]?.getD 0))) → Calls Tryd.prog 16 #[.slice (some ⟨g, 0, none⟩) rs.length c] W fun e W' => e = .returned (.string t) ∧ Below W.heap.size W W') := fun W g c hg hc => by
    rw [← ht]; exact encode_core rs g 0 c W (by omega) hr hc hg
  have CR : Hid (∀ (W : World), Below w.heap.size w W → Calls Tryd.prog 17 #[.slice (some ⟨b, o, none⟩) rs.length cap] W fun e W' => e = .returned (.string t) ∧ Below W.heap.size W W') := fun W hbw => by
    rw [← ht]; exact rencode_core rs b o cap W (by omega) (fun j hj => (hbw.cell (p := ⟨b, o + j, none⟩) hb).trans (h j hj)) (Nat.lt_of_lt_of_le hb hbw.size)
  have HH : Hid (∀ (W : World), Below w.heap.size w W → ∀ j, j < rs.length → W.cell? ⟨b, o + j, none⟩ = some (.int .i32 (rs[j]?.getD 0))) := fun W hbw j hj => (hbw.cell (p := ⟨b, o + j, none⟩) hb).trans (h j hj)
  clear hone hrl ht h hr hT hlo0 hlo1
  go_enter Tryd.func5, Tryd.ntmps5
  go_wp2_with (first | (go_at_call 9; refine (Hid.out CC).mono ?_; rintro e w1 ⟨rfl, hb1⟩; have hB : Hid (Below w.heap.size w w1) := hb1; clear hb1) | (go_at_call 16; refine (CX.out _ _ (by simp) (by simp) (by simp)).mono ?_; clear CX; rintro e w2 ⟨rfl, hb1⟩; have hB2 : Hid (Below w.heap.size w w2) := (hB.out.alloc hB.out.size _).trans (hb1.mono (by have := hB.out.size; simp; omega)); clear hb1 hB; have OW0 := World.ownsRow_lit (base := w.heap.size) (e := 21) (size := 1) w2 #[] 0 hB2.out.size (by unfold maxLen; omega) rfl) | (at_builtin; refine wpList_append_own _ rfl _ _ 31 rfl w.heap.size 21 i0 (.int .i32 0) 1 4 Tryd.underlying31 hi hz0 hz1 hz2 rfl (by decide) _ _ _ rfl OW0 ⟨b, o, none⟩ rs.length cap (rcells rs) rfl HRL.out (HCel.out _ (hB2.out.alloc hB2.out.size _)) HONE.out (by unfold maxLen; omega) (by omega) (by have := hB2.out.size; simp; omega) ?_; intro v3 w3 hrow3 hg3 _; have hB3 : Hid (Below w.heap.size w w3) := (hB2.out.alloc hB2.out.size _).grown hg3 (by have := hB2.out.size; simp; omega) (fun j e => (OW0.lt j e).1); clear OW0 hg3 hB2) | (at_builtin; refine wpList_append_own _ rfl _ _ 31 rfl w.heap.size 21 i0 (.int .i32 0) 1 4 Tryd.underlying31 hi hz0 hz1 hz2 rfl (by decide) _ _ _ rfl (hrow3.alloc _) ⟨w3.heap.size, 0, none⟩ 2 2 [.int .i32 7, .int .i32 8] rfl rfl (cell_two_new _ _ _ _) (by simp [Value.oneCell']) (by unfold maxLen; omega) (by omega) (by have := hB3.out.size; simp; omega) ?_; intro v4 w4 hrow4 hg4 _; have hB4 : Hid (Below w.heap.size w w4) := (hB3.out.alloc hB3.out.size _).grown hg4 (by have := hB3.out.size; simp; omega) (fun j e => (hrow3.lt j e).1); obtain ⟨g4, c4, rfl⟩ := ownsRow_succ hrow4; obtain ⟨q1, q2, q3, q4, q5, q6⟩ := row_facts (by omega) hrow4; have HQ : Hid ((∀ j, j < rs.length → w4.cell? ⟨g4, 0 + j, none⟩ = some (.int .i32 (rs[j]?.getD 0))) ∧ w4.cell? ⟨g4, rs.length, none⟩ = some (.int .i32 7) ∧ w4.cell? ⟨g4, rs.length + 1, none⟩ = some (.int .i32 8)) := ⟨q4, q5, q6⟩; clear q4 q5 q6 hrow3 hrow4 hg4 hB3) | (go_at_call 16; refine (CE.out _ _ _ q3 HQ.out.1).mono ?_; rintro e w5 ⟨rfl, hb5⟩))
  have hB5 : Hid (Below w.heap.size w w5) := hB4.out.trans (hb5.mono hB4.out.size)
  have HB5 : Hid (Below w4.heap.size w4 w5) := hb5
  clear hb5
  go_loopw [25] (fun q wr => ∃ k m : Nat, q = .int .i64 k ∧ k ≤ rs.length ∧ wr = w5.drewN m) (fun q _ => rs.length - (intOf q).toNat)
  case atStart => exact ⟨0, 0, rfl, by omega, rfl⟩
  case round =>
    obtain ⟨k, m, rfl, hk, rfl⟩ := hrel
    by_cases hlt : k < rs.length
    · have e1 : w5.cell? ⟨g4, k, none⟩ = some (.int .i32 (rs[k]?.getD 0)) := by have := HQ.out.1 k hlt; rw [Nat.zero_add] at this; exact (HB5.out.cell (p := ⟨g4, k, none⟩) q3).trans this
      have e2 := HH.out _ hB5.out k hlt
      obtain ⟨r, hrk⟩ : ∃ r, rs[k]?.getD 0 = r := ⟨_, rfl⟩
      rw [hrk] at e1 e2
      clear hrk
      go_wp2
      go_quiet (fail)
      go_wp2
      exact ⟨⟨k + 1, m + nq, by go_num, by omega, rfl⟩, by simp [intOf]; omega⟩
    · have e1 : w5.cell? ⟨g4, rs.length, none⟩ = some (.int .i32 7) := (HB5.out.cell (p := ⟨g4, rs.length, none⟩) q3).trans HQ.out.2.1
      have e2 : w5.cell? ⟨g4, rs.length + 1, none⟩ = some (.int .i32 8) := (HB5.out.cell (p := ⟨g4, rs.length + 1, none⟩) q3).trans HQ.out.2.2
      have hbd : Hid (Below w5.heap.size w5 (w5.drewN m)) := ⟨rfl, rfl, rfl, Nat.le_refl _, fun _ _ => rfl⟩
      go_wp2_with (first | (go_at_call 17; refine (CR.out _ (hB5.out.trans (hbd.out.mono hB5.out.size))).mono ?_; rintro e w6 ⟨rfl, hb6⟩) | (go_at_call 16; refine (encode_none _ _ _).mono ?_; rintro e w7 ⟨rfl, hb7⟩))
      go_ret
      exact ⟨rfl, hB5.out.trans ((hbd.out.mono hB5.out.size).trans ((hb6.mono (by have := hB5.out.size; have := hbd.out.size; omega)).trans (hb7.mono (by have := hB5.out.size; have := hbd.out.size; have := hb6.size; omega))))⟩

set_option maxRecDepth 100000 in
set_option maxHeartbeats 4000000 in
theorem walk_none (a : Option Addr) (cap : Nat) (w : World) (hT : Lib.Utf8Tabs 0 1 w) (hlo0 : 0 < w.heap.size) (hlo1 : 1 < w.heap.size) :
    Calls Tryd.prog 5 #[.slice a 0 cap] w fun e w' => e = .returned (.bool true) ∧ Below w.heap.size w w' := by
  have CC : Hid (Calls Tryd.prog 9 #[] w fun e w' => e = .returned (.bool true) ∧ Below w.heap.size w w') := cuts_any w hT hlo0 hlo1
  obtain ⟨i0, hi, hz0, hz1, hz2⟩ := info_parts info21
  have CX : Hid (∀ (W : World) (B : Nat), W.cell? ⟨B, 0, none⟩ = some (.int .i32 97) → W.cell? ⟨B, 1, none⟩ = some (.int .i32 128512) → B < W.heap.size → Calls Tryd.prog 16 #[.slice (some ⟨B, 0, none⟩) 2 2] W fun e W' => e = .returned (.string ⟨#[97, 240, 159, 152, 128]⟩) ∧ Below W.heap.size W W') := fun W B h1 h2 h3 => by
    have hh := encode_core [97, 128512] B 0 2 W (by simp) (fun r hr => by simp at hr; omega) (fun j hj => by
      have : j = 0 ∨ j = 1 := by simp at hj; omega
      rcases this with rfl | rfl
      · exact h1
      · exact h2) h3
    rw [ex_enc] at hh
    exact hh
  clear hT hlo0 hlo1
  go_enter Tryd.func5, Tryd.ntmps5
  go_wp2_with (first | (go_at_call 9; refine (Hid.out CC).mono ?_; rintro e w1 ⟨rfl, hb1⟩; have hB : Hid (Below w.heap.size w w1) := hb1; clear hb1) | (go_at_call 16; refine (CX.out _ _ (by simp) (by simp) (by simp)).mono ?_; clear CX; rintro e w2 ⟨rfl, hb1⟩; have hB2 : Hid (Below w.heap.size w w2) := (hB.out.alloc hB.out.size _).trans (hb1.mono (by have := hB.out.size; simp; omega)); clear hb1 hB; have OW0 := World.ownsRow_lit (base := w.heap.size) (e := 21) (size := 1) w2 #[] 0 hB2.out.size (by unfold maxLen; omega) rfl; have OW1 : Hid True := trivial) | (at_builtin; have hq1 := OW1; clear hq1 OW1; refine Lib.wpList_append_run _ rfl _ _ _ _ rfl _ _ rfl rfl _ _ (append_none ⟨w2.heap.size, 0, none⟩ a cap _) ?_) | (at_builtin; refine wpList_append_own _ rfl _ _ 31 rfl w.heap.size 21 i0 (.int .i32 0) 1 4 Tryd.underlying31 hi hz0 hz1 hz2 rfl (by decide) _ _ _ rfl (OW0.alloc _) ⟨w2.heap.size + 1, 0, none⟩ 2 2 [.int .i32 7, .int .i32 8] rfl rfl (by have := cell_two_new (w2.alloc (.cells #[] 21)) (.int .i32 7) (.int .i32 8) 21; rwa [World.size_alloc] at this) (by simp [Value.oneCell']) (by unfold maxLen; omega) (by omega) (by have := hB2.out.size; simp; omega) ?_; intro v4 w4 hrow4 hg4 _; have hB4 : Hid (Below w.heap.size w w4) := ((hB2.out.alloc hB2.out.size _).alloc (by have := hB2.out.size; simp; omega) _).grown hg4 (by have := hB2.out.size; simp; omega) (fun j e => (OW0.lt j e).1); obtain ⟨g4, c4, rfl⟩ := ownsRow_succ hrow4; obtain ⟨q1, q2, q3, _, q5, q6⟩ := row_facts (rs := []) rfl hrow4; clear OW0 hrow4 hg4 hB2) | (go_at_call 16; refine (encode_none _ _ _).mono ?_; rintro e w5 ⟨rfl, hb5⟩))
  have hB5 : Hid (Below w.heap.size w w5) := hB4.out.trans (hb5.mono hB4.out.size)
  have e1 : w5.cell? ⟨g4, 0, none⟩ = some (.int .i32 7) := (hb5.cell (p := ⟨g4, 0, none⟩) q3).trans q5
  have e2 : w5.cell? ⟨g4, 1, none⟩ = some (.int .i32 8) := (hb5.cell (p := ⟨g4, 1, none⟩) q3).trans q6
  clear hb5 q5 q6
  go_loopw [25] (fun q wr => q = .int .i64 0 ∧ wr = w5) (fun _ _ => 0)
  case atStart => exact ⟨rfl, rfl⟩
  case round =>
    obtain ⟨rfl, rfl⟩ := hrel
    go_wp2_with (first | (go_at_call 17; refine (rencode_none _ _ _).mono ?_; rintro e w6 ⟨rfl, hb6⟩) | (go_at_call 16; refine (encode_none _ _ _).mono ?_; rintro e w7 ⟨rfl, hb7⟩))
    go_ret
    exact ⟨rfl, hB5.out.trans ((hb6.mono hB5.out.size).trans (hb7.mono (by have := hB5.out.size; have := hb6.size; omega)))⟩

theorem walk_of {H : Type} (a : Option Addr) (len cap : Nat) (w : World) (hT : Lib.Utf8Tabs 0 1 w) (hlo0 : 0 < w.heap.size) (hlo1 : 1 < w.heap.size) (rs : List Int) (hR : Runes w a len rs) {d : DataW H} (hd : len ≤ Rows.uptoBulk d) (hk : Rows.uptoSmall H ([d] ++ []) = true) :
    Calls Tryd.prog 5 #[.slice a len cap] w fun e w' => e = .returned (.bool true) ∧ Below w.heap.size w w' := by
  have h : Rows.uptoBulkAll ([d] ++ []) ≤ 1048576 := of_decide_eq_true hk
  simp only [List.append_nil, Rows.uptoBulkAll] at h
  obtain ⟨rfl, hb, hc⟩ := hR
  by_cases h0 : rs.length = 0
  · rw [h0]; exact walk_none a cap w hT hlo0 hlo1
  · obtain ⟨b, o, rfl, hlt, hcell⟩ := hc h0
    exact walk rs b o cap (by omega) hb w hT hlo0 hlo1 hcell hlt
end Go.Proofs.YtadgbbnkhjapnaaDoor.unitEncodes
