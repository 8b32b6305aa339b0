/-
  Package bind's prefixOf, singleNamed, single, behindExtended and behind: what IMath tells of a key. Conditions: the tables lie in memory; the key's Char is a number of 32 bits, its Text no longer than a text may be.
-/
import Derived.Test.YtmaolbibbjngcaaDoorIOwn
import Derived.Test.YtmaolbibbjngcaaDoorIIs
import Derived.Test.YtmaolbibbjngcaaDoorITab
import Derived.Deep.MidRow
namespace Go.Proofs.YtmaolbibbjngcaaDoor
open Go.RowKit

/-- a block of six cells -/
theorem box6 {W : World} {b : Nat} {v0 v1 v2 v3 v4 v5 : Value} {t : TypeId} (h : W.heap[b]? = some (.cells #[v0, v1, v2, v3, v4, v5] t (0, 0))) :
    W.cell? ⟨b, 0, none⟩ = some v0 ∧ W.cell? ⟨b, 1, none⟩ = some v1 ∧ W.cell? ⟨b, 2, none⟩ = some v2 ∧ W.cell? ⟨b, 3, none⟩ = some v3 ∧ W.cell? ⟨b, 4, none⟩ = some v4 ∧ W.cell? ⟨b, 5, none⟩ = some v5 ∧ b < W.heap.size :=
  ⟨by simp [World.cell?, h], by simp [World.cell?, h], by simp [World.cell?, h], by simp [World.cell?, h], by simp [World.cell?, h], by simp [World.cell?, h], (Array.getElem?_eq_some_iff.1 h).1⟩
/-- the key's box, and all below it as it was -/
structure Kx (w : World) (k : Ky) (W : World) : Prop where
  bel : Below w.heap.size w W
  bx : W.heap[w.heap.size]? = some (.cells (kyc k) 30 (0, 0))
theorem Kx.below {w W X : World} {k : Ky} (h : Kx w k W) (hb : Below W.heap.size W X) : Kx w k X :=
  ⟨ibelow_on h.bel hb, (hb.block _ (Array.getElem?_eq_some_iff.1 h.bx).1).trans h.bx⟩
theorem Kx.alloc {w W : World} {k : Ky} (h : Kx w k W) (o : Obj) : Kx w k (W.alloc o) := h.below ((Below.refl _ W).alloc (Nat.le_refl _) _)
theorem kx0 (w : World) (k : Ky) : Kx w k (w.alloc (.cells (kyc k) 30)) := ⟨(Below.refl _ w).alloc (Nat.le_refl _) _, World.alloc_heap_new _ _⟩
theorem rowc {w W : World} {v0 v1 v2 v3 : Value} {t : TypeId} (hb : Below (w.alloc (.cells #[v0, v1, v2, v3] t)).heap.size (w.alloc (.cells #[v0, v1, v2, v3] t)) W) : W.cell? ⟨w.heap.size, 3, none⟩ = some v3 :=
  (hb.cell (p := ⟨w.heap.size, 3, none⟩) (by simp)).trans (box4 (World.alloc_heap_new w (.cells #[v0, v1, v2, v3] t))).1.2.2.2
set_option maxRecDepth 100000 in
set_option maxHeartbeats 2000000 in
theorem pre_any (k : Ky) (hk : k.Ok) (w : World) (hT : Tb w) : Calls Tryd.prog 39 #[kyv k] w fun e w' => e = .returned (.string (preP k)) ∧ Below w.heap.size w w' := by
  have HK : Hid k.Ok := hk
  have H0 : Hid (Kx w k (w.alloc (.cells (kyc k) 30))) := kx0 w k
  have HT : Hid (Tb w) := hT
  have hl : Hid (∀ W : World, Below w.heap.size w W → W.rangeAt 0 0 (pxv pxL)) := fun W hW j v q => by rw [Nat.zero_add]; exact (hT.below hW).p j v q
  have hu : Hid (Tryd.prog.underlying 70 = some (.array 4 69)) := (by kernel_rfl : Tryd.prog.underlying 70 = some (.array 4 69))
  have hz : Hid ((Tryd.prog.info? 70).map (·.size) = some (pxv pxL).length) := (by kernel_rfl : (Tryd.prog.info? 70).map (·.size) = some (pxv pxL).length)
  obtain ⟨R, hR⟩ : ∃ R, preP k = R := ⟨_, rfl⟩
  have HR : Hid (preP k = R) := hR
  rw [hR]
  have HI : Hid (∀ (i : Nat) p, pxL[i]? = some p → ∀ w : World, (Instr.index 70 (.agg (pxv pxL).toArray) (.int .i64 i)).run Tryd.prog w = .ok (.agg #[.int .i64 p.1, .bool p.2.1, .int .i32 p.2.2.1, .string p.2.2.2]) w) := ixp
  generalize pxv pxL = A at hl HI hz
  have CI : Hid (∀ (W : World) (kd : Int) (me : Bool) (ch : Int), Calls Tryd.prog 48 #[kyv k, .int .i64 kd, .bool me, .int .i32 ch] W fun e w' => e = .returned (.bool (isP k kd me ch)) ∧ Below W.heap.size W w') := fun W kd me ch => is_any k kd me ch W
  clear hT hk hR
  obtain ⟨a, c, ct, m, sh, tx⟩ := k
  unfold kyv at CI ⊢
  unfold kyc at H0
  go_enter Tryd.func39, Tryd.ntmps39
  go_wp2_with (first | (refine wpList_load_mid rfl 70 _ rfl 0 0 rfl A _ (hl.out _ H0.out.bel) hu.out rfl hz.out ?_; clear hl))
  go_loopw [6] (fun t wr => ∃ i : Nat, t = .int .i64 i ∧ i ≤ 4 ∧ (∀ j p, j < i → pxL[j]? = some p → isP ⟨a, c, ct, m, sh, tx⟩ p.1 p.2.1 p.2.2.1 = false) ∧ Kx w ⟨a, c, ct, m, sh, tx⟩ wr) (fun t _ => 4 - (intOf t).toNat)
  case atStart => exact ⟨0, rfl, Nat.zero_le _, fun j p h => by omega, H0.out⟩
  case round =>
    clear hu hz
    obtain ⟨i, rfl, hi, hno, hB⟩ := hrel
    by_cases hlt : i < 4
    · obtain ⟨p, hp⟩ : ∃ p, pxL[i]? = some p := ⟨pxL[i]'hlt, List.getElem?_eq_getElem hlt⟩
      have hJ := HI.out i p hp wr
      have HX : Hid (Kx w ⟨a, c, ct, m, sh, tx⟩ wr) := hB
      have HN : Hid (∀ j p, j < i → pxL[j]? = some p → isP ⟨a, c, ct, m, sh, tx⟩ p.1 p.2.1 p.2.2.1 = false) := hno
      have HP : Hid (pxL[i]? = some p) := hp
      obtain ⟨g0, g1, g2, g3, g4, g5, g6⟩ := box6 hB.bx
      clear HI hB hno hp
      cases hq : isP ⟨a, c, ct, m, sh, tx⟩ p.1 p.2.1 p.2.2.1 with
      | true =>
        have HQ : Hid (isP ⟨a, c, ct, m, sh, tx⟩ p.1 p.2.1 p.2.2.1 = true) := hq
        have C2 : Hid (∀ W : World, Calls Tryd.prog 48 #[.agg #[.int .i64 a, .int .i32 c, .bool ct, .bool m, .bool sh, .string tx], .int .i64 p.1, .bool p.2.1, .int .i32 p.2.2.1] W fun e w' => e = .returned (.bool true) ∧ Below W.heap.size W w') := fun W => by have := CI.out W p.1 p.2.1 p.2.2.1; rw [hq] at this; exact this
        clear hq CI
        go_wp2_with (go_at_call 48; refine (C2.out _).mono ?_; rintro e w1 ⟨rfl, hb⟩; have hc := rowc hb)
        go_ret
        exact ⟨ret_str' (by rw [← HR.out]; unfold preP; rw [find_at HP.out HN.out HQ.out]), ((HX.out.alloc _).below hb).bel⟩
      | false =>
        have HQ : Hid (isP ⟨a, c, ct, m, sh, tx⟩ p.1 p.2.1 p.2.2.1 = false) := hq
        have C2 : Hid (∀ W : World, Calls Tryd.prog 48 #[.agg #[.int .i64 a, .int .i32 c, .bool ct, .bool m, .bool sh, .string tx], .int .i64 p.1, .bool p.2.1, .int .i32 p.2.2.1] W fun e w' => e = .returned (.bool false) ∧ Below W.heap.size W w') := fun W => by have := CI.out W p.1 p.2.1 p.2.2.1; rw [hq] at this; exact this
        clear hq CI
        go_wp2_with (go_at_call 48; refine (C2.out _).mono ?_; rintro e w1 ⟨rfl, hb⟩)
        exact ⟨⟨i + 1, by first | rfl | simp, by omega, fun j q hj hq => by
          by_cases e : j = i
          · subst e; rw [HP.out] at hq; cases hq; exact HQ.out
          · exact HN.out j q (by omega) hq, (HX.out.alloc _).below hb⟩, by simp [intOf]; omega⟩
    · have : i = 4 := by omega
      subst this
      have HX : Hid (Kx w ⟨a, c, ct, m, sh, tx⟩ wr) := hB
      have HN : Hid (pxL.find? (fun r => isP ⟨a, c, ct, m, sh, tx⟩ r.1 r.2.1 r.2.2.1) = none) := find_no (fun j q hj hq => hno j q hj hq)
      obtain ⟨g0, g1, g2, g3, g4, g5, g6⟩ := box6 hB.bx
      clear HI CI hB hno
      go_wp2
      go_ret
      exact ⟨ret_str' (by rw [← HR.out]; unfold preP; rw [HN.out]), HX.out.bel⟩
set_option maxRecDepth 100000 in
set_option maxHeartbeats 2000000 in
theorem ext_any (k : Ky) (hk : k.Ok) (w : World) (hT : Tb w) : Calls Tryd.prog 56 #[kyv k] w fun e w' => e = .returned (.int .i64 (extP k)) ∧ Below w.heap.size w w' := by
  have HK : Hid k.Ok := hk
  have H0 : Hid (Kx w k (w.alloc (.cells (kyc k) 30))) := kx0 w k
  have HT : Hid (Tb w) := hT
  have hl : Hid (∀ W : World, Below w.heap.size w W → W.rangeAt 3 0 (bdv exL)) := fun W hW j v q => by rw [Nat.zero_add]; exact (hT.below hW).e j v q
  have hu : Hid (Tryd.prog.underlying 86 = some (.array 3 76)) := (by kernel_rfl : Tryd.prog.underlying 86 = some (.array 3 76))
  have hz : Hid ((Tryd.prog.info? 86).map (·.size) = some (bdv exL).length) := (by kernel_rfl : (Tryd.prog.info? 86).map (·.size) = some (bdv exL).length)
  obtain ⟨R, hR⟩ : ∃ R, extP k = R := ⟨_, rfl⟩
  have HR : Hid (extP k = R) := hR
  rw [hR]
  have HI : Hid (∀ (i : Nat) p, exL[i]? = some p → ∀ w : World, (Instr.index 86 (.agg (bdv exL).toArray) (.int .i64 i)).run Tryd.prog w = .ok (.agg #[.int .i64 p.1, .bool p.2.1, .int .i32 p.2.2.1, .int .i64 p.2.2.2]) w) := ixe
  generalize bdv exL = A at hl HI hz
  have CI : Hid (∀ (W : World) (kd : Int) (me : Bool) (ch : Int), Calls Tryd.prog 48 #[kyv k, .int .i64 kd, .bool me, .int .i32 ch] W fun e w' => e = .returned (.bool (isP k kd me ch)) ∧ Below W.heap.size W w') := fun W kd me ch => is_any k kd me ch W
  clear hT hk hR
  obtain ⟨a, c, ct, m, sh, tx⟩ := k
  unfold kyv at CI ⊢
  unfold kyc at H0
  go_enter Tryd.func56, Tryd.ntmps56
  go_wp2_with (first | (refine wpList_load_mid rfl 86 _ rfl 3 0 rfl A _ (hl.out _ H0.out.bel) hu.out rfl hz.out ?_; clear hl))
  go_loopw [6] (fun t wr => ∃ i : Nat, t = .int .i64 i ∧ i ≤ 3 ∧ (∀ j p, j < i → exL[j]? = some p → isP ⟨a, c, ct, m, sh, tx⟩ p.1 p.2.1 p.2.2.1 = false) ∧ Kx w ⟨a, c, ct, m, sh, tx⟩ wr) (fun t _ => 3 - (intOf t).toNat)
  case atStart => exact ⟨0, rfl, Nat.zero_le _, fun j p h => by omega, H0.out⟩
  case round =>
    clear hu hz
    obtain ⟨i, rfl, hi, hno, hB⟩ := hrel
    by_cases hlt : i < 3
    · obtain ⟨p, hp⟩ : ∃ p, exL[i]? = some p := ⟨exL[i]'hlt, List.getElem?_eq_getElem hlt⟩
      have hJ := HI.out i p hp wr
      have HX : Hid (Kx w ⟨a, c, ct, m, sh, tx⟩ wr) := hB
      have HN : Hid (∀ j p, j < i → exL[j]? = some p → isP ⟨a, c, ct, m, sh, tx⟩ p.1 p.2.1 p.2.2.1 = false) := hno
      have HP : Hid (exL[i]? = some p) := hp
      obtain ⟨g0, g1, g2, g3, g4, g5, g6⟩ := box6 hB.bx
      clear HI hB hno hp
      cases hq : isP ⟨a, c, ct, m, sh, tx⟩ p.1 p.2.1 p.2.2.1 with
      | true =>
        have HQ : Hid (isP ⟨a, c, ct, m, sh, tx⟩ p.1 p.2.1 p.2.2.1 = true) := hq
        have C2 : Hid (∀ W : World, Calls Tryd.prog 48 #[.agg #[.int .i64 a, .int .i32 c, .bool ct, .bool m, .bool sh, .string tx], .int .i64 p.1, .bool p.2.1, .int .i32 p.2.2.1] W fun e w' => e = .returned (.bool true) ∧ Below W.heap.size W w') := fun W => by have := CI.out W p.1 p.2.1 p.2.2.1; rw [hq] at this; exact this
        clear hq CI
        go_wp2_with (go_at_call 48; refine (C2.out _).mono ?_; rintro e w1 ⟨rfl, hb⟩; have hc := rowc hb)
        go_ret
        exact ⟨ret_int (by rw [← HR.out]; unfold extP; rw [find_at HP.out HN.out HQ.out]), ((HX.out.alloc _).below hb).bel⟩
      | false =>
        have HQ : Hid (isP ⟨a, c, ct, m, sh, tx⟩ p.1 p.2.1 p.2.2.1 = false) := hq
        have C2 : Hid (∀ W : World, Calls Tryd.prog 48 #[.agg #[.int .i64 a, .int .i32 c, .bool ct, .bool m, .bool sh, .string tx], .int .i64 p.1, .bool p.2.1, .int .i32 p.2.2.1] W fun e w' => e = .returned (.bool false) ∧ Below W.heap.size W w') := fun W => by have := CI.out W p.1 p.2.1 p.2.2.1; rw [hq] at this; exact this
        clear hq CI
        go_wp2_with (go_at_call 48; refine (C2.out _).mono ?_; rintro e w1 ⟨rfl, hb⟩)
        exact ⟨⟨i + 1, by first | rfl | simp, by omega, fun j q hj hq => by
          by_cases e : j = i
          · subst e; rw [HP.out] at hq; cases hq; exact HQ.out
          · exact HN.out j q (by omega) hq, (HX.out.alloc _).below hb⟩, by simp [intOf]; omega⟩
    · have : i = 3 := by omega
      subst this
      have HX : Hid (Kx w ⟨a, c, ct, m, sh, tx⟩ wr) := hB
      have HN : Hid (exL.find? (fun r => isP ⟨a, c, ct, m, sh, tx⟩ r.1 r.2.1 r.2.2.1) = none) := find_no (fun j q hj hq => hno j q hj hq)
      obtain ⟨g0, g1, g2, g3, g4, g5, g6⟩ := box6 hB.bx
      clear HI CI hB hno
      go_wp2
      go_ret
      exact ⟨ret_int (by rw [← HR.out]; unfold extP; rw [HN.out]), HX.out.bel⟩
set_option maxRecDepth 100000 in
set_option maxHeartbeats 2000000 in
theorem nam_any (k : Ky) (w : World) (hT : Tb w) : Calls Tryd.prog 53 #[kyv k] w fun e w' => e = .returned (.int .i64 (namP k)) ∧ Below w.heap.size w w' := by
  have H0 : Hid (Kx w k (w.alloc (.cells (kyc k) 30))) := kx0 w k
  have hl : Hid (∀ W : World, Below w.heap.size w W → W.rangeAt 2 0 (nmv nmL)) := fun W hW j v q => by rw [Nat.zero_add]; exact (hT.below hW).n j v q
  have hu : Hid (Tryd.prog.underlying 85 = some (.array 9 84)) := (by kernel_rfl : Tryd.prog.underlying 85 = some (.array 9 84))
  have hz : Hid ((Tryd.prog.info? 85).map (·.size) = some (nmv nmL).length) := (by kernel_rfl : (Tryd.prog.info? 85).map (·.size) = some (nmv nmL).length)
  obtain ⟨R, hR⟩ : ∃ R, namP k = R := ⟨_, rfl⟩
  have HR : Hid (namP k = R) := hR
  rw [hR]
  have HI : Hid (∀ (i : Nat) p, nmL[i]? = some p → ∀ w : World, (Instr.index 85 (.agg (nmv nmL).toArray) (.int .i64 i)).run Tryd.prog w = .ok (.agg #[.int .i64 p.1, .int .i64 p.2.1, .int .i64 p.2.2]) w) := ixn
  generalize nmv nmL = A at hl HI hz
  clear hT hR
  obtain ⟨a, c, ct, m, sh, tx⟩ := k
  unfold kyv
  unfold kyc at H0
  go_enter Tryd.func53, Tryd.ntmps53
  go_wp2_with (first | (refine wpList_load_mid rfl 85 _ rfl 2 0 rfl A _ (hl.out _ H0.out.bel) hu.out rfl hz.out ?_; clear hl))
  go_loopw [6] (fun t wr => ∃ i : Nat, t = .int .i64 i ∧ i ≤ 9 ∧ (∀ j p, j < i → nmL[j]? = some p → decide (p.1 = a) = false) ∧ Kx w ⟨a, c, ct, m, sh, tx⟩ wr) (fun t _ => 9 - (intOf t).toNat)
  case atStart => exact ⟨0, rfl, Nat.zero_le _, fun j p h => by omega, H0.out⟩
  case round =>
    clear hu hz
    obtain ⟨i, rfl, hi, hno, hB⟩ := hrel
    by_cases hlt : i < 9
    · obtain ⟨p, hp⟩ : ∃ p, nmL[i]? = some p := ⟨nmL[i]'hlt, List.getElem?_eq_getElem hlt⟩
      have hJ := HI.out i p hp wr
      have HX : Hid (Kx w ⟨a, c, ct, m, sh, tx⟩ wr) := hB
      have HN : Hid (∀ j p, j < i → nmL[j]? = some p → decide (p.1 = a) = false) := hno
      have HP : Hid (nmL[i]? = some p) := hp
      obtain ⟨g0, g1, g2, g3, g4, g5, g6⟩ := box6 hB.bx
      clear HI hB hno hp
      by_cases hq : p.1 = a
      · have n1 : (p.1 != a) = false := by simp [hq]
        have HQ : Hid (decide (p.1 = a) = true) := decide_eq_true hq
        cases ct
        · cases m
          · go_wp2
            go_ret
            exact ⟨ret_int (by rw [← HR.out]; unfold namP; rw [find_at HP.out HN.out HQ.out]; rfl), (HX.out.alloc _).bel⟩
          · go_wp2
            go_ret
            exact ⟨ret_int (by rw [← HR.out]; unfold namP; rw [find_at HP.out HN.out HQ.out]; rfl), (HX.out.alloc _).bel⟩
        · go_wp2
          go_ret
          exact ⟨ret_int (by rw [← HR.out]; unfold namP; rw [find_at HP.out HN.out HQ.out]; rfl), (HX.out.alloc _).bel⟩
      · have n1 : (p.1 != a) = true := by simp [hq]
        have HQ : Hid (decide (p.1 = a) = false) := decide_eq_false hq
        go_wp2
        exact ⟨⟨i + 1, by first | rfl | simp, by omega, fun j q hj hq => by
          by_cases e : j = i
          · subst e; rw [HP.out] at hq; cases hq; exact HQ.out
          · exact HN.out j q (by omega) hq, HX.out.alloc _⟩, by simp [intOf]; omega⟩
    · have : i = 9 := by omega
      subst this
      have HX : Hid (Kx w ⟨a, c, ct, m, sh, tx⟩ wr) := hB
      have HN : Hid (nmL.find? (fun r => decide (r.1 = a)) = none) := find_no (fun j q hj hq => hno j q hj hq)
      clear HI hB hno
      go_wp2
      go_ret
      exact ⟨ret_int (by rw [← HR.out]; unfold namP; rw [HN.out]), HX.out.bel⟩
set_option maxRecDepth 100000 in
set_option maxHeartbeats 2000000 in
theorem sin_any (k : Ky) (hk : k.Ok) (w : World) (hT : Tb w) : Calls Tryd.prog 41 #[kyv k] w fun e w' => e = .returned (.int .i64 (sinP k)) ∧ Below w.heap.size w w' := by
  have HK : Hid k.Ok := hk
  have H0 : Hid (Kx w k (w.alloc (.cells (kyc k) 30))) := kx0 w k
  have HT : Hid (Tb w) := hT
  have hl : Hid (∀ W : World, Below w.heap.size w W → W.rangeAt 1 0 (bdv bdL)) := fun W hW j v q => by rw [Nat.zero_add]; exact (hT.below hW).b j v q
  have hu : Hid (Tryd.prog.underlying 77 = some (.array 38 76)) := (by kernel_rfl : Tryd.prog.underlying 77 = some (.array 38 76))
  have hz : Hid ((Tryd.prog.info? 77).map (·.size) = some (bdv bdL).length) := (by kernel_rfl : (Tryd.prog.info? 77).map (·.size) = some (bdv bdL).length)
  obtain ⟨R, hR⟩ : ∃ R, sinP k = R := ⟨_, rfl⟩
  have HR : Hid (sinP k = R) := hR
  rw [hR]
  have HI : Hid (∀ (i : Nat) p, bdL[i]? = some p → ∀ w : World, (Instr.index 77 (.agg (bdv bdL).toArray) (.int .i64 i)).run Tryd.prog w = .ok (.agg #[.int .i64 p.1, .bool p.2.1, .int .i32 p.2.2.1, .int .i64 p.2.2.2]) w) := ixb
  generalize bdv bdL = A at hl HI hz
  have CI : Hid (∀ (W : World) (kd : Int) (me : Bool) (ch : Int), Calls Tryd.prog 48 #[kyv k, .int .i64 kd, .bool me, .int .i32 ch] W fun e w' => e = .returned (.bool (isP k kd me ch)) ∧ Below W.heap.size W w') := fun W kd me ch => is_any k kd me ch W
  have CN : Hid (∀ W : World, Below w.heap.size w W → Calls Tryd.prog 53 #[kyv k] W fun e w' => e = .returned (.int .i64 (namP k)) ∧ Below W.heap.size W w') := fun W hW => nam_any k W (hT.below hW)
  by_cases hs : k.kd = 17
  · have HR2 : R = 39 := by rw [← hR]; unfold sinP; rw [if_pos hs]
    obtain ⟨a, c, ct, m, sh, tx⟩ := k
    simp only at hs
    subst hs
    clear HI CI CN hl hu hz HR hT hR HK hk HT
    unfold kyv
    go_enter Tryd.func41, Tryd.ntmps41
    go_wp2
    go_ret
    exact ⟨ret_int HR2.symm, (Below.refl _ w).alloc (Nat.le_refl _) _⟩
  have HS : Hid (¬ k.kd = 17) := hs
  have hs2 : (k.kd == 17) = false := by simp [hs]
  obtain ⟨Q, hQ⟩ : ∃ Q, typP k = Q := ⟨_, rfl⟩
  have CT : Hid (∀ W : World, Calls Tryd.prog 52 #[kyv k] W fun e w' => e = .returned (.bool Q) ∧ Below W.heap.size W w') := fun W => by have := typ_any k hk W; rw [hQ] at this; exact this
  cases Q
  case true =>
    have HR2 : R = 1 := by rw [← hR]; unfold sinP; rw [if_neg hs, hQ, if_pos rfl]
    clear HI CI CN hl hu hz HR hT hR HK hk HT hQ HS
    obtain ⟨a, c, ct, m, sh, tx⟩ := k
    unfold kyv at CT ⊢
    unfold kyc at H0
    simp only at hs hs2
    go_enter Tryd.func41, Tryd.ntmps41
    go_wp2_with (go_at_call 52; refine (CT.out _).mono ?_; clear CT; rintro e w0 ⟨rfl, hb0⟩)
    go_ret
    exact ⟨ret_int HR2.symm, (H0.out.below hb0).bel⟩
  have HTY : Hid (typP k = false) := hQ
  clear hT hk hR hQ
  obtain ⟨a, c, ct, m, sh, tx⟩ := k
  unfold kyv at CI CN CT ⊢
  simp only at hs hs2
  unfold kyc at H0
  go_enter Tryd.func41, Tryd.ntmps41
  go_wp2_with (first | (refine wpList_load_mid rfl 77 _ rfl 1 0 rfl A _ (hl.out _ HX0.bel) hu.out rfl hz.out ?_; clear hl) | (go_at_call 52; refine (CT.out _).mono ?_; clear CT; rintro e w0 ⟨rfl, hb0⟩; have HX0 := H0.out.below hb0))
  go_loopw [11] (fun t wr => ∃ i : Nat, t = .int .i64 i ∧ i ≤ 38 ∧ (∀ j p, j < i → bdL[j]? = some p → isP ⟨a, c, ct, m, sh, tx⟩ p.1 p.2.1 p.2.2.1 = false) ∧ Kx w ⟨a, c, ct, m, sh, tx⟩ wr) (fun t _ => 38 - (intOf t).toNat)
  case atStart => exact ⟨0, rfl, Nat.zero_le _, fun j p h => by omega, HX0⟩
  case round =>
    clear hu hz
    obtain ⟨i, rfl, hi, hno, hB⟩ := hrel
    by_cases hlt : i < 38
    · obtain ⟨p, hp⟩ : ∃ p, bdL[i]? = some p := ⟨bdL[i]'hlt, List.getElem?_eq_getElem hlt⟩
      have hJ := HI.out i p hp wr
      have HX : Hid (Kx w ⟨a, c, ct, m, sh, tx⟩ wr) := hB
      have HN : Hid (∀ j p, j < i → bdL[j]? = some p → isP ⟨a, c, ct, m, sh, tx⟩ p.1 p.2.1 p.2.2.1 = false) := hno
      have HP : Hid (bdL[i]? = some p) := hp
      obtain ⟨g0, g1, g2, g3, g4, g5, g6⟩ := box6 hB.bx
      clear HI hB hno hp
      cases hq : isP ⟨a, c, ct, m, sh, tx⟩ p.1 p.2.1 p.2.2.1 with
      | true =>
        have HQ : Hid (isP ⟨a, c, ct, m, sh, tx⟩ p.1 p.2.1 p.2.2.1 = true) := hq
        have C2 : Hid (∀ W : World, Calls Tryd.prog 48 #[.agg #[.int .i64 a, .int .i32 c, .bool ct, .bool m, .bool sh, .string tx], .int .i64 p.1, .bool p.2.1, .int .i32 p.2.2.1] W fun e w' => e = .returned (.bool true) ∧ Below W.heap.size W w') := fun W => by have := CI.out W p.1 p.2.1 p.2.2.1; rw [hq] at this; exact this
        clear hq CI
        go_wp2_with (go_at_call 48; refine (C2.out _).mono ?_; rintro e w1 ⟨rfl, hb⟩; have hc := rowc hb)
        go_ret
        exact ⟨ret_int (by rw [← HR.out]; unfold sinP; rw [if_neg HS.out, HTY.out, if_neg (by simp)]; rw [find_at HP.out HN.out HQ.out]), ((HX.out.alloc _).below hb).bel⟩
      | false =>
        have HQ : Hid (isP ⟨a, c, ct, m, sh, tx⟩ p.1 p.2.1 p.2.2.1 = false) := hq
        have C2 : Hid (∀ W : World, Calls Tryd.prog 48 #[.agg #[.int .i64 a, .int .i32 c, .bool ct, .bool m, .bool sh, .string tx], .int .i64 p.1, .bool p.2.1, .int .i32 p.2.2.1] W fun e w' => e = .returned (.bool false) ∧ Below W.heap.size W w') := fun W => by have := CI.out W p.1 p.2.1 p.2.2.1; rw [hq] at this; exact this
        clear hq CI
        go_wp2_with (go_at_call 48; refine (C2.out _).mono ?_; rintro e w1 ⟨rfl, hb⟩)
        exact ⟨⟨i + 1, by first | rfl | simp, by omega, fun j q hj hq => by
          by_cases e : j = i
          · subst e; rw [HP.out] at hq; cases hq; exact HQ.out
          · exact HN.out j q (by omega) hq, (HX.out.alloc _).below hb⟩, by simp [intOf]; omega⟩
    · have : i = 38 := by omega
      subst this
      have HX : Hid (Kx w ⟨a, c, ct, m, sh, tx⟩ wr) := hB
      have HN : Hid (bdL.find? (fun r => isP ⟨a, c, ct, m, sh, tx⟩ r.1 r.2.1 r.2.2.1) = none) := find_no (fun j q hj hq => hno j q hj hq)
      obtain ⟨g0, g1, g2, g3, g4, g5, g6⟩ := box6 hB.bx
      clear HI CI hB hno
      go_wp2_with (go_at_call 53; refine (CN.out _ HX.out.bel).mono ?_; rintro e w1 ⟨rfl, hb⟩)
      go_ret
      exact ⟨ret_int (by rw [← HR.out]; unfold sinP; rw [if_neg HS.out, HTY.out, if_neg (by simp), HN.out]), (HX.out.below hb).bel⟩
end Go.Proofs.YtmaolbibbjngcaaDoor
