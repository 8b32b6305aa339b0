/-
  The walks of the document's answer on characters: encoding, Encode. Conditions: what is handed in can be read.
-/
import Derived.Test.YtmaolbibbjngcaaDoorUEnc
import Derived.Test.YtmaolbibbjngcaaDoorPkA
import Derived.Test.YtmaolbibbjngcaaDoorPkY
import Derived.OwnWalk
import Derived.Lib.AppendStr
namespace Go.Proofs.YtmaolbibbjngcaaDoor
open Go.RowKit Bod

theorem mk2 (w : World) : (Instr.makeSlice 47 (.int .i64 2) (.int .i64 2)).run Tryd.prog w = .ok (.slice (some ⟨w.heap.size, 0, none⟩) 2 2) (w.alloc (.cells #[.int .u8 0, .int .u8 0] 5)) := by kernel_rfl
theorem mk3 (w : World) : (Instr.makeSlice 47 (.int .i64 3) (.int .i64 3)).run Tryd.prog w = .ok (.slice (some ⟨w.heap.size, 0, none⟩) 3 3) (w.alloc (.cells #[.int .u8 0, .int .u8 0, .int .u8 0] 5)) := by kernel_rfl
theorem mk4 (w : World) : (Instr.makeSlice 47 (.int .i64 4) (.int .i64 4)).run Tryd.prog w = .ok (.slice (some ⟨w.heap.size, 0, none⟩) 4 4) (w.alloc (.cells #[.int .u8 0, .int .u8 0, .int .u8 0, .int .u8 0] 5)) := by kernel_rfl

theorem conv_cells (W : World) (b cap : Nat) (zs : List Int) (h : ∀ j, j < zs.length → W.cell? ⟨b, j, none⟩ = some (.int .u8 (zs[j]?.getD 0))) (hz : ∀ z ∈ zs, 0 ≤ z ∧ z < 256) :
    (convert 47 9 (.slice (some ⟨b, 0, none⟩) zs.length cap)).run Tryd.prog W = .ok (.string ⟨(zs.map fun x => x.toNat.toUInt8).toArray⟩) W := by
  have hl : (zs.map fun x => x.toNat.toUInt8).length = zs.length := by simp
  rw [← hl]
  refine run_convert_bytes_back W 47 9 5 ⟨b, 0, none⟩ cap _ Tryd.underlying47 Tryd.underlying5 Tryd.underlying9 (fun j hj => ?_)
  rw [hl] at hj
  have hb := hz zs[j] (List.getElem_mem hj)
  have := h j hj
  rw [List.getElem?_eq_getElem hj, Option.getD_some] at this
  have e : ((⟨b, 0, none⟩ : Addr).add j) = ⟨b, j, none⟩ := by rw [Go.WideShapes.add_plain, Nat.zero_add]
  rw [e, this]
  simp
  omega
set_option maxRecDepth 100000 in
set_option maxHeartbeats 1000000 in
theorem encoding_one (r : Int) (h0 : 0 ≤ r) (h1 : r ≤ 127) (w : World) : Calls Tryd.prog 62 #[.int .i32 r] w fun e w' => e = .returned (.string ⟨(Lib.encodeRune r).toArray⟩) ∧ Below w.heap.size w w' := by
  have cS := size_any r w
  rw [show sizeN r = 1 from if_pos (by omega)] at cS
  have hcv := conv_cells (w.alloc (.cells #[.int .u8 r] 5)) w.heap.size 1 [r] (fun j hj => by
    have : j = 0 := by simpa using hj
    subst this; simp) (fun z hz => by rw [List.mem_singleton] at hz; omega)
  rw [show Lib.encodeRune r = [r].map fun x => x.toNat.toUInt8 by unfold Lib.encodeRune; rw [Lib.encodeRuneZ_one h0 h1]]
  simp only [List.length_cons, List.length_nil, Nat.zero_add] at hcv
  go_enter Tryd.func62, Tryd.ntmps62
  go_wp2_with (go_at_call 64; refine cS.mono ?_; rintro e w1 ⟨rfl, rfl⟩)
  go_ret
  exact ⟨rfl, (Below.refl _ w).alloc (Nat.le_refl _) _⟩
set_option maxRecDepth 100000 in
set_option maxHeartbeats 2000000 in
theorem encoding_two (r : Int) (h0 : 128 ≤ r) (h1 : r ≤ 2047) (w : World) : Calls Tryd.prog 62 #[.int .i32 r] w fun e w' => e = .returned (.string ⟨(Lib.encodeRune r).toArray⟩) ∧ Below w.heap.size w w' := by
  have cS := size_any r w
  rw [show sizeN r = 2 from by unfold sizeN; rw [if_neg (by omega), if_pos (by omega)]] at cS
  have hmk := mk2
  have hcv := conv_cells ((w.alloc (.cells #[.int .u8 (192 + r / 64), .int .u8 (128 + r % 64)] 5)).alloc (.cells #[.int .i64 0, .int .i64 0, .int .i64 192, .int .i64 224, .int .i64 240] 3)) w.heap.size 2 [192 + r / 64, 128 + r % 64] (fun j hj => by
    have : j = 0 ∨ j = 1 := by simp at hj; omega
    rcases this with rfl | rfl <;> simp) (fun z hz => by simp at hz; omega)
  rw [show Lib.encodeRune r = [192 + r / 64, 128 + r % 64].map fun x => x.toNat.toUInt8 by unfold Lib.encodeRune; rw [Lib.encodeRuneZ_two h0 h1]]
  simp only [List.length_cons, List.length_nil, Nat.zero_add, Nat.reduceAdd] at hcv
  go_enter Tryd.func62, Tryd.ntmps62
  go_wp2_with (go_at_call 64; refine cS.mono ?_; rintro e w1 ⟨rfl, rfl⟩)
  go_loopw [0, 5] (fun c i wr => (i = .int .i64 1 ∧ c = .int .i32 (r) ∧ wr = w.alloc (.cells #[.int .u8 0, .int .u8 0] 5)) ∨ (i = .int .i64 0 ∧ c = .int .i32 (r / 64) ∧ wr = w.alloc (.cells #[.int .u8 0, .int .u8 (128 + r % 64)] 5))) (fun _ i _ => (intOf i).toNat)
  case atStart => exact .inl ⟨rfl, rfl, rfl⟩
  case round =>
    rcases hrel with ⟨rfl, rfl, rfl⟩ | ⟨rfl, rfl, rfl⟩
    · go_wp2
      refine ⟨.inr (⟨by go_num, by first | rfl | (congr 1; omega), by first | trivial | rfl⟩), by simp [intOf]⟩
    · go_wp2
      go_ret
      exact ⟨rfl, ((Below.refl _ w).alloc (Nat.le_refl _) _).alloc (by simp) _⟩

set_option maxRecDepth 100000 in
set_option maxHeartbeats 2000000 in
theorem encoding_three (r : Int) (h0 : (2048 ≤ r ∧ r < 55296) ∨ (57343 < r ∧ r ≤ 65535)) (w : World) : Calls Tryd.prog 62 #[.int .i32 r] w fun e w' => e = .returned (.string ⟨(Lib.encodeRune r).toArray⟩) ∧ Below w.heap.size w w' := by
  have cS := size_any r w
  rw [show sizeN r = 3 from by unfold sizeN; rw [if_neg (by omega), if_neg (by omega), if_pos (by omega)]] at cS
  have hmk := mk3
  have hcv := conv_cells ((w.alloc (.cells #[.int .u8 (224 + r / 4096), .int .u8 (128 + r / 64 % 64), .int .u8 (128 + r % 64)] 5)).alloc (.cells #[.int .i64 0, .int .i64 0, .int .i64 192, .int .i64 224, .int .i64 240] 3)) w.heap.size 3 [224 + r / 4096, 128 + r / 64 % 64, 128 + r % 64] (fun j hj => by
    have : j = 0 ∨ j = 1 ∨ j = 2 := by simp at hj; omega
    rcases this with rfl | rfl | rfl <;> simp) (fun z hz => by simp at hz; omega)
  rw [show Lib.encodeRune r = [224 + r / 4096, 128 + r / 64 % 64, 128 + r % 64].map fun x => x.toNat.toUInt8 by unfold Lib.encodeRune; rw [Lib.encodeRuneZ_three h0]]
  simp only [List.length_cons, List.length_nil, Nat.zero_add, Nat.reduceAdd] at hcv
  go_enter Tryd.func62, Tryd.ntmps62
  go_wp2_with (go_at_call 64; refine cS.mono ?_; rintro e w1 ⟨rfl, rfl⟩)
  go_loopw [0, 5] (fun c i wr => (i = .int .i64 2 ∧ c = .int .i32 (r) ∧ wr = w.alloc (.cells #[.int .u8 0, .int .u8 0, .int .u8 0] 5)) ∨ (i = .int .i64 1 ∧ c = .int .i32 (r / 64) ∧ wr = w.alloc (.cells #[.int .u8 0, .int .u8 0, .int .u8 (128 + r % 64)] 5)) ∨ (i = .int .i64 0 ∧ c = .int .i32 (r / 4096) ∧ wr = w.alloc (.cells #[.int .u8 0, .int .u8 (128 + r / 64 % 64), .int .u8 (128 + r % 64)] 5))) (fun _ i _ => (intOf i).toNat)
  case atStart => exact .inl ⟨rfl, rfl, rfl⟩
  case round =>
    rcases hrel with ⟨rfl, rfl, rfl⟩ | ⟨rfl, rfl, rfl⟩ | ⟨rfl, rfl, rfl⟩
    · go_wp2
      refine ⟨.inr (.inl ⟨by go_num, by first | rfl | (congr 1; omega), by first | trivial | rfl⟩), by simp [intOf]⟩
    · go_wp2
      refine ⟨.inr (.inr (⟨by go_num, by first | rfl | (congr 1; omega), by first | trivial | rfl⟩)), by simp [intOf]⟩
    · go_wp2
      go_ret
      exact ⟨rfl, ((Below.refl _ w).alloc (Nat.le_refl _) _).alloc (by simp) _⟩

set_option maxRecDepth 100000 in
set_option maxHeartbeats 2000000 in
theorem encoding_four (r : Int) (h0 : 65536 ≤ r) (h1 : r ≤ 1114111) (w : World) : Calls Tryd.prog 62 #[.int .i32 r] w fun e w' => e = .returned (.string ⟨(Lib.encodeRune r).toArray⟩) ∧ Below w.heap.size w w' := by
  have cS := size_any r w
  rw [show sizeN r = 4 from by unfold sizeN; rw [if_neg (by omega), if_neg (by omega), if_neg (by omega)]] at cS
  have hmk := mk4
  have hcv := conv_cells ((w.alloc (.cells #[.int .u8 (240 + r / 262144), .int .u8 (128 + r / 4096 % 64), .int .u8 (128 + r / 64 % 64), .int .u8 (128 + r % 64)] 5)).alloc (.cells #[.int .i64 0, .int .i64 0, .int .i64 192, .int .i64 224, .int .i64 240] 3)) w.heap.size 4 [240 + r / 262144, 128 + r / 4096 % 64, 128 + r / 64 % 64, 128 + r % 64] (fun j hj => by
    have : j = 0 ∨ j = 1 ∨ j = 2 ∨ j = 3 := by simp at hj; omega
    rcases this with rfl | rfl | rfl | rfl <;> simp) (fun z hz => by simp at hz; omega)
  rw [show Lib.encodeRune r = [240 + r / 262144, 128 + r / 4096 % 64, 128 + r / 64 % 64, 128 + r % 64].map fun x => x.toNat.toUInt8 by unfold Lib.encodeRune; rw [Lib.encodeRuneZ_four h0 h1]]
  simp only [List.length_cons, List.length_nil, Nat.zero_add, Nat.reduceAdd] at hcv
  go_enter Tryd.func62, Tryd.ntmps62
  go_wp2_with (go_at_call 64; refine cS.mono ?_; rintro e w1 ⟨rfl, rfl⟩)
  go_loopw [0, 5] (fun c i wr => (i = .int .i64 3 ∧ c = .int .i32 (r) ∧ wr = w.alloc (.cells #[.int .u8 0, .int .u8 0, .int .u8 0, .int .u8 0] 5)) ∨ (i = .int .i64 2 ∧ c = .int .i32 (r / 64) ∧ wr = w.alloc (.cells #[.int .u8 0, .int .u8 0, .int .u8 0, .int .u8 (128 + r % 64)] 5)) ∨ (i = .int .i64 1 ∧ c = .int .i32 (r / 4096) ∧ wr = w.alloc (.cells #[.int .u8 0, .int .u8 0, .int .u8 (128 + r / 64 % 64), .int .u8 (128 + r % 64)] 5)) ∨ (i = .int .i64 0 ∧ c = .int .i32 (r / 262144) ∧ wr = w.alloc (.cells #[.int .u8 0, .int .u8 (128 + r / 4096 % 64), .int .u8 (128 + r / 64 % 64), .int .u8 (128 + r % 64)] 5))) (fun _ i _ => (intOf i).toNat)
  case atStart => exact .inl ⟨rfl, rfl, rfl⟩
  case round =>
    rcases hrel with ⟨rfl, rfl, rfl⟩ | ⟨rfl, rfl, rfl⟩ | ⟨rfl, rfl, rfl⟩ | ⟨rfl, rfl, rfl⟩
    · go_wp2
      refine ⟨.inr (.inl ⟨by go_num, by first | rfl | (congr 1; omega), by first | trivial | rfl⟩), by simp [intOf]⟩
    · go_wp2
      refine ⟨.inr (.inr (.inl ⟨by go_num, by first | rfl | (congr 1; omega), by first | trivial | rfl⟩)), by simp [intOf]⟩
    · go_wp2
      refine ⟨.inr (.inr (.inr (⟨by go_num, by first | rfl | (congr 1; omega), by first | trivial | rfl⟩))), by simp [intOf]⟩
    · go_wp2
      go_ret
      exact ⟨rfl, ((Below.refl _ w).alloc (Nat.le_refl _) _).alloc (by simp) _⟩

theorem encoding_any (r : Int) (hv : Lib.validRune r = true) (w : World) : Calls Tryd.prog 62 #[.int .i32 r] w fun e w' => e = .returned (.string ⟨(Lib.encodeRune r).toArray⟩) ∧ Below w.heap.size w w' := by
  rcases enc_shape hv with ⟨h1, h2, _⟩ | ⟨h1, h2, _⟩ | ⟨h1, _⟩ | ⟨h1, h2, _⟩
  · exact encoding_one r h1 h2 w
  · exact encoding_two r h1 h2 w
  · exact encoding_three r h1 w
  · exact encoding_four r h1 h2 w

theorem row_below {base e size n : Nat} {v : Value} {xs : List Value} {W W' : World} (h : W.ownsRow base e size v n xs) (hb : Below W.heap.size W W') : W'.ownsRow base e size v n xs :=
  h.kept (row := none) ⟨hb.os, hb.tape, hb.output, hb.size, fun k hk _ => hb.block k hk⟩ (by cases hv : v.ownBlock with
    | none => exact .inl rfl
    | some _ => exact .inr (by simp))
theorem info5 : (Tryd.prog.info? 5).map (fun i => (i.zero, i.size, i.bytes)) = some (some (.int .u8 0), 1, 1) := by kernel_rfl

set_option maxRecDepth 100000 in
set_option maxHeartbeats 1000000 in
theorem rencode_core (rs : List Int) (b o cap : Nat) (w : World) (hn : 4 * rs.length + 4 ≤ 140737488355328)
    (h : ∀ j, j < rs.length → w.cell? ⟨b, o + j, none⟩ = some (.int .i32 (rs[j]?.getD 0))) (hb : b < w.heap.size) :
    Calls Tryd.prog 57 #[.slice (some ⟨b, o, none⟩) rs.length cap] w fun e w' => e = .returned (.string ⟨(encs rs).toArray⟩) ∧ Below w.heap.size w w' := by
  have HC : Hid (∀ j, j < rs.length → w.cell? ⟨b, o + j, none⟩ = some (.int .i32 (rs[j]?.getD 0))) := h
  obtain ⟨i0, hi, hz0, hz1, hz2⟩ := info_parts info5
  clear h
  go_enter Tryd.func57, Tryd.ntmps57
  go_wp2
  go_loopw [3, 4] (fun v t wr => ∃ k : Nat, k ≤ rs.length ∧ t = .int .i64 k ∧ wr.ownsRow w.heap.size 5 1 v (encs (rs.take k)).length (Lib.byteCells (encs (rs.take k))) ∧ Below w.heap.size w wr) (fun _ t _ => rs.length - (intOf t).toNat)
  case atStart => exact ⟨0, Nat.zero_le _, rfl, World.ownsRow_nil _ _ _ _, Below.refl _ _⟩
  case round =>
    obtain ⟨k, hk, rfl, hrow, hB⟩ := hrel
    by_cases hlt : k < rs.length
    · have hc : wr.cell? ⟨b, o + k, none⟩ = some (.int .i32 (rs[k]?.getD 0)) := (hB.cell (p := ⟨b, o + k, none⟩) hb).trans (HC.out k hlt)
      obtain ⟨r, hrk⟩ : ∃ r, rs[k]?.getD 0 = r := ⟨_, rfl⟩
      have hts : rs.take (k + 1) = rs.take k ++ [r] := by rw [List.take_succ_eq_append_getElem hlt, ← hrk, List.getElem?_eq_getElem hlt]; rfl
      have HT : Hid (rs.take (k + 1) = rs.take k ++ [r]) := hts
      have hel := encs_len (rs.take k)
      have htl : (rs.take k).length ≤ k := List.length_take_le _ _
      rw [hrk] at hc
      clear hts hrk
      obtain ⟨m, hm⟩ : ∃ m, (encs (rs.take k)).length = m := ⟨_, rfl⟩
      rw [hm] at hel hrow
      have HM : Hid ((encs (rs.take k)).length = m) := hm
      clear hm
      have hBs := hB.size
      have cV := rscalar_any r wr
      cases hv : Lib.validRune r with
      | true =>
        have cE := encoding_any r hv wr
        rw [hv] at cV
        have HV : Hid (Lib.validRune r = true) := hv
        clear hv
        have hrl : (Lib.encodeRune r).length ≤ 4 := by have := (Lib.runeCells_le r).2; rwa [Lib.runeCells_length] at this
        have hsz : (⟨(Lib.encodeRune r).toArray⟩ : ByteArray).size = (Lib.encodeRune r).length := by rw [Lib.size_eq]
        have hml : m + (⟨(Lib.encodeRune r).toArray⟩ : ByteArray).size ≤ 140737488355328 := by omega
        have hml2 : m + (⟨(Lib.encodeRune r).toArray⟩ : ByteArray).size ≤ maxLen := by unfold maxLen; omega
        have HL : Hid (m + (⟨(Lib.encodeRune r).toArray⟩ : ByteArray).size ≤ 140737488355328 ∧ m + (⟨(Lib.encodeRune r).toArray⟩ : ByteArray).size ≤ maxLen ∧ (⟨(Lib.encodeRune r).toArray⟩ : ByteArray).size = (Lib.encodeRune r).length) := ⟨hml, hml2, hsz⟩
        clear hsz hml hml2 hrl
        go_wp2_with (first | (go_at_call 61; refine cV.mono ?_; clear cV; rintro e w1 ⟨rfl, rfl⟩) | (go_at_call 62; refine cE.mono ?_; clear cE; rintro e w2 ⟨rfl, hb2⟩; have hrow2 := row_below hrow hb2; have hB2 : Below w.heap.size w w2 := hB.trans (hb2.mono hBs)) | (at_builtin; refine Lib.wpList_append_own_string _ rfl _ _ 47 9 rfl w.heap.size 5 i0 Tryd.underlying47 Tryd.underlying9 hi hz0 hz1 hz2 _ m _ rfl hrow2 _ rfl HL.out.2.1 HL.out.1 hB2.size ?_; intro v3 w3 hrow3 hg3 _))
        refine ⟨⟨k + 1, by omega, by go_num, ?_, hB2.grown hg3 hB2.size (fun j e => (hrow2.lt j e).1)⟩, by simp [intOf]; omega⟩
        rw [HL.out.2.2, Lib.strCells_eq] at hrow3
        rw [HT.out, encs_snoc, HV.out, if_pos rfl, Lib.byteCells_append, List.length_append, HM.out]
        exact hrow3
      | false =>
        rw [hv] at cV
        have HV : Hid (Lib.validRune r = false) := hv
        clear hv
        go_wp2_with (go_at_call 61; refine cV.mono ?_; clear cV; rintro e w1 ⟨rfl, rfl⟩)
        go_roundw
        case rel =>
          refine ⟨k + 1, by omega, by go_num, ?_, hB⟩
          rw [HT.out, encs_snoc, HV.out, if_neg (by simp), List.append_nil, HM.out]
          exact hrow
        case measure => simp [intOf]; omega
    · have hk' : rs.take k = rs := List.take_of_length_le (by omega)
      rw [hk'] at hrow
      have hcv := conv_row hrow
      go_wp2
      go_ret
      exact ⟨rfl, hB⟩

set_option maxRecDepth 100000 in
set_option maxHeartbeats 1000000 in
theorem rencode_none (a : Option Addr) (cap : Nat) (w : World) :
    Calls Tryd.prog 57 #[.slice a 0 cap] w fun e w' => e = .returned (.string ⟨#[]⟩) ∧ Below w.heap.size w w' := by
  have hcv := Lib.run_convert_nil_bytes (P := Tryd.prog) w 47 9 5 0 Tryd.underlying47 Tryd.underlying5 Tryd.underlying9
  go_enter Tryd.func57, Tryd.ntmps57
  go_wp2
  go_loopw [3, 4] (fun v t wr => v = .slice none 0 0 ∧ t = .int .i64 0 ∧ wr = w) (fun _ _ _ => 0)
  case atStart => exact ⟨rfl, rfl, rfl⟩
  case round =>
    obtain ⟨rfl, rfl, rfl⟩ := hrel
    go_wp2
    go_ret
    exact ⟨rfl, Below.refl _ _⟩
end Go.Proofs.YtmaolbibbjngcaaDoor
