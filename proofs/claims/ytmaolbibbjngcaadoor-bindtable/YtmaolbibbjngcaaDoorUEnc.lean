/-
  The walk of package unit's Encode: the encodings of those among the numbers that are characters, one behind the other. Conditions: the numbers can be read; their encodings together are no longer than a slice of bytes may grow.
-/
import Derived.Test.YtmaolbibbjngcaaDoorRows
import Derived.Test.YtmaolbibbjngcaaDoorShelf
import Derived.WalkKit
import Derived.WalkLawsBesides
import Derived.WalkSpells
import Derived.Lib.BufferRead
import Derived.Lib.RuneBytes
namespace Go.Proofs.YtmaolbibbjngcaaDoor
open Go.RowKit

def encs (rs : List Int) : List UInt8 := rs.flatMap fun r => if Lib.validRune r then Lib.encodeRune r else []
theorem encs_snoc (rs : List Int) (r : Int) : encs (rs ++ [r]) = encs rs ++ (if Lib.validRune r then Lib.encodeRune r else []) := by simp [encs]
theorem encs_len (rs : List Int) : (encs rs).length ≤ 4 * rs.length := by
  induction rs with
  | nil => simp [encs]
  | cons r rs ih =>
    have h := (Lib.runeCells_le r).2
    rw [Lib.runeCells_length] at h
    have h4 : (if Lib.validRune r then Lib.encodeRune r else []).length ≤ 4 := by
      split
      · exact h
      · simp
    simp only [encs, List.flatMap_cons, List.length_append, List.length_cons] at ih ⊢
    omega

theorem conv_row {base : Nat} {v : Value} {l : List UInt8} {W : World} (h : W.ownsRow base 5 1 v l.length (Lib.byteCells l)) : (convert 47 9 v).run Tryd.prog W = .ok (.string ⟨l.toArray⟩) W := by
  rcases h.2 with ⟨rfl, h0⟩ | ⟨g, cap, cur, rfl, hbg, hg, hnc, hcm, hcs, htake⟩
  · obtain rfl : l = [] := List.eq_nil_of_length_eq_zero h0
    exact Lib.run_convert_nil_bytes W 47 9 5 0 Tryd.underlying47 Tryd.underlying5 Tryd.underlying9
  · refine run_convert_bytes_back W 47 9 5 ⟨g, 0, none⟩ cap l Tryd.underlying47 Tryd.underlying5 Tryd.underlying9 (Lib.bytes_of_row hg ?_)
    rw [Nat.mul_one] at htake
    exact htake

set_option maxRecDepth 100000 in
set_option maxHeartbeats 1000000 in
theorem encode_core (rs : List Int) (b o cap : Nat) (w : World) (hn : 4 * rs.length + 4 ≤ 140737488355328) (hr : ∀ r ∈ rs, -2147483648 ≤ r ∧ r ≤ 2147483647)
    (h : ∀ j, j < rs.length → w.cell? ⟨b, o + j, none⟩ = some (.int .i32 (rs[j]?.getD 0))) (hb : b < w.heap.size) :
    Calls Tryd.prog 49 #[.slice (some ⟨b, o, none⟩) rs.length cap] w fun e w' => e = .returned (.string ⟨(encs rs).toArray⟩) ∧ Below w.heap.size w w' := by
  have HC : Hid _ := h
  have HR : Hid _ := hr
  clear h hr
  go_enter Tryd.func49, Tryd.ntmps49
  go_wp2
  go_loopw [3, 8] (fun v t wr => ∃ k : Nat, k ≤ rs.length ∧ t = .int .i64 k ∧ wr.ownsRow w.heap.size 5 1 v (encs (rs.take k)).length (Lib.byteCells (encs (rs.take k))) ∧ Below w.heap.size w wr) (fun _ t _ => rs.length - (intOf t).toNat)
  case atStart => exact ⟨0, Nat.zero_le _, rfl, World.ownsRow_nil _ _ _ _, Below.refl _ _⟩
  case round =>
    obtain ⟨k, hk, rfl, hrow, hB⟩ := hrel
    by_cases hlt : k < rs.length
    · have hc : wr.cell? ⟨b, o + k, none⟩ = some (.int .i32 (rs[k]?.getD 0)) := (hB.cell (p := ⟨b, o + k, none⟩) hb).trans (HC.out k hlt)
      obtain ⟨r, hrk⟩ : ∃ r, rs[k]?.getD 0 = r := ⟨_, rfl⟩
      have hmem : r ∈ rs := by rw [← hrk, List.getElem?_eq_getElem hlt]; simp
      obtain ⟨r0, r1⟩ := HR.out r hmem
      have hts : rs.take (k + 1) = rs.take k ++ [r] := by rw [List.take_succ_eq_append_getElem hlt, ← hrk, List.getElem?_eq_getElem hlt]; rfl
      have HT : Hid (rs.take (k + 1) = rs.take k ++ [r]) := hts
      have hel := encs_len (rs.take k)
      have htl : (rs.take k).length ≤ k := List.length_take_le _ _
      rw [hrk] at hc
      clear hts hrk hmem
      obtain ⟨m, hm⟩ : ∃ m, (encs (rs.take k)).length = m := ⟨_, rfl⟩
      rw [hm] at hel hrow
      have HM : Hid ((encs (rs.take k)).length = m) := hm
      clear hm
      cases hv : Lib.validRune r with
      | true =>
        have cV := Tryd.utf8_ValidRune r wr
        rw [hv] at cV
        have HV : Hid (Lib.validRune r = true) := hv
        clear hv
        have hBs := hB.size
        go_wp2_with (first | (go_at_call 58; refine cV.mono ?_; clear cV; rintro e w1 ⟨rfl, rfl⟩) | (go_at_call 59; refine (Tryd.utf8_AppendRune_plain w.heap.size u3 m _ r r0 r1 _ hrow (by omega) hBs).mono ?_; rintro e w2 ⟨v2, rfl, hrow2, o2, hg2⟩))
        go_roundw
        case rel =>
          refine ⟨k + 1, by omega, by go_num, ?_, (hB.alloc hBs o2).grown hg2 (by simp; omega) (fun j e => (hrow.lt j e).1)⟩
          rw [HT.out, encs_snoc, HV.out, if_pos rfl, Lib.byteCells_append, Lib.byteCells_encodeRune, List.length_append, HM.out, ← Lib.runeCells_length]
          exact hrow2
        case measure => simp [intOf]; omega
      | false =>
        have cV := Tryd.utf8_ValidRune r wr
        rw [hv] at cV
        have HV : Hid (Lib.validRune r = false) := hv
        clear hv
        go_wp2_with (go_at_call 58; refine cV.mono ?_; clear cV; rintro e w1 ⟨rfl, rfl⟩)
        go_roundw
        case rel =>
          refine ⟨k + 1, by omega, by go_num, ?_, hB⟩
          rw [HT.out, encs_snoc, HV.out, if_neg (by simp), List.append_nil, HM.out]
          exact hrow
        case measure => simp [intOf]; omega
    · have hk' : rs.take k = rs := List.take_of_length_le (by omega)
      rw [hk'] at hrow
      have hcv := conv_row hrow
      go_wp2
      go_ret
      exact ⟨rfl, hB⟩

set_option maxRecDepth 100000 in
set_option maxHeartbeats 1000000 in
theorem encode_none (a : Option Addr) (cap : Nat) (w : World) :
    Calls Tryd.prog 49 #[.slice a 0 cap] w fun e w' => e = .returned (.string ⟨#[]⟩) ∧ Below w.heap.size w w' := by
  have hcv := Lib.run_convert_nil_bytes (P := Tryd.prog) w 47 9 5 0 Tryd.underlying47 Tryd.underlying5 Tryd.underlying9
  go_enter Tryd.func49, Tryd.ntmps49
  go_wp2
  go_loopw [3, 8] (fun v t wr => v = .slice none 0 0 ∧ t = .int .i64 0 ∧ wr = w) (fun _ _ _ => 0)
  case atStart => exact ⟨rfl, rfl, rfl⟩
  case round =>
    obtain ⟨rfl, rfl, rfl⟩ := hrel
    go_wp2
    go_ret
    exact ⟨rfl, Below.refl _ _⟩

theorem encode_one (r : Int) (b : Nat) (w : World) (hr : -2147483648 ≤ r ∧ r ≤ 2147483647) (h : w.cell? ⟨b, 0, none⟩ = some (.int .i32 r)) (hb : b < w.heap.size) :
    Calls Tryd.prog 49 #[.slice (some ⟨b, 0, none⟩) 1 1] w fun e w' => e = .returned (.string ⟨(encs [r]).toArray⟩) ∧ Below w.heap.size w w' := by
  refine encode_core [r] b 0 1 w (by simp) (fun x hx => ?_) (fun j hj => ?_) hb
  · rw [List.mem_singleton] at hx; subst hx; exact hr
  · have : j = 0 := by simpa using hj
    subst this
    exact h
end Go.Proofs.YtmaolbibbjngcaaDoor
