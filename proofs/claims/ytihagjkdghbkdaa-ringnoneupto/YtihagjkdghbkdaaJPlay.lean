/-
  The law's play: one call of both rings. Conditions: those of each theorem.
-/
import Derived.Test.YtihagjkdghbkdaaJPair
namespace Go.Proofs.Ytihagjkdghbkdaa
open Go.RowKit

theorem mod7 {k c : Nat} (h : k % 7 = c) : ((k : Int) % 7 = (c : Int)) ∧ ((k : Int).tmod 7 = (c : Int)) := by
  constructor
  · omega
  · rw [Int.tmod_eq_emod_of_nonneg (by omega)]; omega
def opv (kd : Nat) (t : ByteArray) : Array Value := #[.int .u8 (kd : Int), .string t]
/-- what a call makes of a ring -/
def Rg.play (kd : Nat) (t : ByteArray) (r : Rg) : Rg := if kd % 7 = 0 then r.kill t false else if kd % 7 = 1 then r.kill t true else if kd % 7 = 2 then r.copy t else if kd % 7 = 3 then r.yank else if kd % 7 = 4 then r.pop else if kd % 7 = 5 then r.stop else r
theorem Pq.px {w W : World} {pb rb k : Nat} {r : Rg} (h : Pq w pb rb r k W) (bx : Array Value) : ∃ v u, Px w W W.heap.size bx pb v rb u r r (W.alloc (.cells bx 30)) := by
  obtain ⟨v, u, h1, h2, h3⟩ := h.ex
  have hb : Below W.heap.size W (W.alloc (.cells bx 30)) := (Below.refl _ W).alloc (Nat.le_refl _) _
  exact ⟨v, u, h1.below hb, h2.below hb, h3, h.bel.trans (hb.mono h.bel.size), World.alloc_heap_new W _, Fo.below hb⟩
theorem Px.done {w B W : World} {ob : Nat} {bx : Array Value} {pb rb k : Nat} {v u : Value} {r : Rg} (h : Px w B ob bx pb v rb u r r W) (hf : r.Fit (1048576 * k)) : Pq w pb rb r k W ∧ Fo B W := ⟨⟨⟨v, u, h.pr, h.rr, h.ap⟩, h.bel, hf⟩, h.fo⟩
section
variable {w W : World} {pb rb k kd : Nat} {r : Rg} {t : ByteArray}
set_option maxRecDepth 100000 in
set_option maxHeartbeats 2000000 in
theorem play6 (h : Pq w pb rb r k W) (hk : kd % 7 = 6) (hkd : kd < 256) : Calls Try.prog 15 #[.pointer (some ⟨pb, 0, none⟩), .pointer (some ⟨rb, 0, none⟩), .agg (opv kd t)] W fun e W' => e = .returned (.bool true) ∧ Pq w pb rb (r) (k + 1) W' ∧ Fo W W' := by
  obtain ⟨h1, h2⟩ := mod7 hk
  obtain ⟨v, u, hx0⟩ := h.px (opv kd t)
  have HX0 : Hid (Px w W W.heap.size (opv kd t) pb v rb u r r (W.alloc (.cells (opv kd t) 30))) := hx0
  have HC : Hid (∀ ob v u r q W', Px w W ob (opv kd t) pb v rb u r q W' → W'.cell? ⟨ob, 0, none⟩ = some (.int .u8 (kd : Int)) ∧ W'.cell? ⟨ob, 1, none⟩ = some (.string t)) := fun ob v u r q W' hp => ⟨hp.cell 0, hp.cell 1⟩
  have hkd' : (kd : Int) < 256 := by omega
  have HF : Hid ((r).Fit (1048576 * (k + 1))) := h.fit.mono (by omega)
  obtain ⟨bx, hbx⟩ : ∃ bx, opv kd t = bx := ⟨_, rfl⟩
  have HBX : Hid (opv kd t = bx) := hbx
  rw [hbx] at HX0 HC
  clear h hx0 hk hbx hkd
  unfold opv at HBX ⊢
  go_enter Try.func15, Try.ntmps15
  go_upto_region 1 with fail
  rw [HBX.out]
  obtain ⟨ob, hob⟩ : ∃ ob, W.heap.size = ob := ⟨_, rfl⟩
  obtain ⟨W1, hW1⟩ : ∃ W1, W.alloc (.cells bx 30) = W1 := ⟨_, rfl⟩
  rw [hW1, hob] at HX0 ⊢
  have HX : Hid (Px w W ob bx pb v rb u r r W1) := HX0.out
  obtain ⟨c0, c1⟩ := HC.out _ _ _ _ _ _ HX.out
  clear HX0 hW1 hob HBX
  go_wp2
  go_ret
  exact ⟨rfl, HX.out.done HF.out⟩
set_option maxRecDepth 100000 in
set_option maxHeartbeats 2000000 in
theorem play5 (h : Pq w pb rb r k W) (hk : kd % 7 = 5) (hkd : kd < 256) : Calls Try.prog 15 #[.pointer (some ⟨pb, 0, none⟩), .pointer (some ⟨rb, 0, none⟩), .agg (opv kd t)] W fun e W' => e = .returned (.bool true) ∧ Pq w pb rb (r.stop) (k + 1) W' ∧ Fo W W' := by
  obtain ⟨h1, h2⟩ := mod7 hk
  obtain ⟨v, u, hx0⟩ := h.px (opv kd t)
  have HX0 : Hid (Px w W W.heap.size (opv kd t) pb v rb u r r (W.alloc (.cells (opv kd t) 30))) := hx0
  have HC : Hid (∀ ob v u r q W', Px w W ob (opv kd t) pb v rb u r q W' → W'.cell? ⟨ob, 0, none⟩ = some (.int .u8 (kd : Int)) ∧ W'.cell? ⟨ob, 1, none⟩ = some (.string t)) := fun ob v u r q W' hp => ⟨hp.cell 0, hp.cell 1⟩
  have hkd' : (kd : Int) < 256 := by omega
  have HF : Hid ((r.stop).Fit (1048576 * (k + 1))) := h.fit.stop.mono (by omega)
  obtain ⟨bx, hbx⟩ : ∃ bx, opv kd t = bx := ⟨_, rfl⟩
  have HBX : Hid (opv kd t = bx) := hbx
  rw [hbx] at HX0 HC
  clear h hx0 hk hbx hkd
  unfold opv at HBX ⊢
  go_enter Try.func15, Try.ntmps15
  go_upto_region 1 with fail
  rw [HBX.out]
  obtain ⟨ob, hob⟩ : ∃ ob, W.heap.size = ob := ⟨_, rfl⟩
  obtain ⟨W1, hW1⟩ : ∃ W1, W.alloc (.cells bx 30) = W1 := ⟨_, rfl⟩
  rw [hW1, hob] at HX0 ⊢
  have HX : Hid (Px w W ob bx pb v rb u r r W1) := HX0.out
  obtain ⟨c0, c1⟩ := HC.out _ _ _ _ _ _ HX.out
  clear HX0 hW1 hob HBX
  have C1 := stop_any HX.out.pr
  go_wp2_with (first
    | (go_at_call 17; refine C1.mono ?_; clear C1; rintro e w2 ⟨rfl, hs2, hc2⟩; have H2 : Hid (Px w W ob bx pb v rb u r.stop r w2) := HX.out.set hs2 hc2.more (Nx.refl _ _); clear hs2 hc2 HX)
    | (go_at_call 36; refine (rstop_any H2.out.rr).mono ?_; rintro e w3 ⟨rfl, hs3, hc3⟩; have H3 : Hid (Px w W ob bx pb v rb u r.stop r.stop w3) := H2.out.ref hs3 hc3.more (Nx.refl _ _); clear hs3 hc3 H2))
  go_ret
  exact ⟨rfl, H3.out.done HF.out⟩
set_option maxRecDepth 100000 in
set_option maxHeartbeats 2000000 in
theorem play3 (h : Pq w pb rb r k W) (hk : kd % 7 = 3) (hkd : kd < 256) (hkk : k ≤ 33554432) : Calls Try.prog 15 #[.pointer (some ⟨pb, 0, none⟩), .pointer (some ⟨rb, 0, none⟩), .agg (opv kd t)] W fun e W' => e = .returned (.bool true) ∧ Pq w pb rb (r.yank) (k + 1) W' ∧ Fo W W' := by
  obtain ⟨h1, h2⟩ := mod7 hk
  obtain ⟨v, u, hx0⟩ := h.px (opv kd t)
  have HX0 : Hid (Px w W W.heap.size (opv kd t) pb v rb u r r (W.alloc (.cells (opv kd t) 30))) := hx0
  have HC : Hid (∀ ob v u r q W', Px w W ob (opv kd t) pb v rb u r q W' → W'.cell? ⟨ob, 0, none⟩ = some (.int .u8 (kd : Int)) ∧ W'.cell? ⟨ob, 1, none⟩ = some (.string t)) := fun ob v u r q W' hp => ⟨hp.cell 0, hp.cell 1⟩
  have hkd' : (kd : Int) < 256 := by omega
  have HF : Hid ((r.yank).Fit (1048576 * (k + 1))) := h.fit.yank.mono (by omega)
  have hf : r.Fit 281474976710656 := h.fit.mono (by omega)
  obtain ⟨bx, hbx⟩ : ∃ bx, opv kd t = bx := ⟨_, rfl⟩
  have HBX : Hid (opv kd t = bx) := hbx
  rw [hbx] at HX0 HC
  clear h hx0 hk hbx hkd
  unfold opv at HBX ⊢
  go_enter Try.func15, Try.ntmps15
  go_upto_region 1 with fail
  rw [HBX.out]
  obtain ⟨ob, hob⟩ : ∃ ob, W.heap.size = ob := ⟨_, rfl⟩
  obtain ⟨W1, hW1⟩ : ∃ W1, W.alloc (.cells bx 30) = W1 := ⟨_, rfl⟩
  rw [hW1, hob] at HX0 ⊢
  have HX : Hid (Px w W ob bx pb v rb u r r W1) := HX0.out
  obtain ⟨c0, c1⟩ := HC.out _ _ _ _ _ _ HX.out
  clear HX0 hW1 hob HBX
  have C1 := yank_any HX.out.pr hf
  have C2 : Hid (∀ W', Px w W ob bx pb v rb u r.yank r W' → _) := fun W' hp => ryank_any hp.rr
  generalize r.yankT = ya at C1 C2
  generalize r.yankE = yb at C1 C2
  go_wp2_with (first
    | (go_at_call 19; refine C1.mono ?_; clear C1; rintro e w2 ⟨rfl, hs2, hc2⟩; have H2 : Hid (Px w W ob bx pb v rb u r.yank r w2) := HX.out.set hs2 hc2.more (Nx.refl _ _); clear hs2 hc2 HX)
    | (go_at_call 34; refine (C2.out _ H2.out).mono ?_; clear C2; rintro e w3 ⟨rfl, hs3, hc3⟩; have H3 : Hid (Px w W ob bx pb v rb u r.yank r.yank w3) := H2.out.ref hs3 hc3.more (Nx.refl _ _); clear hs3 hc3 H2))
  go_ret
  exact ⟨rfl, H3.out.done HF.out⟩
set_option maxRecDepth 100000 in
set_option maxHeartbeats 2000000 in
theorem play4 (h : Pq w pb rb r k W) (hk : kd % 7 = 4) (hkd : kd < 256) (hkk : k ≤ 33554432) : Calls Try.prog 15 #[.pointer (some ⟨pb, 0, none⟩), .pointer (some ⟨rb, 0, none⟩), .agg (opv kd t)] W fun e W' => e = .returned (.bool true) ∧ Pq w pb rb (r.pop) (k + 1) W' ∧ Fo W W' := by
  obtain ⟨h1, h2⟩ := mod7 hk
  obtain ⟨v, u, hx0⟩ := h.px (opv kd t)
  have HX0 : Hid (Px w W W.heap.size (opv kd t) pb v rb u r r (W.alloc (.cells (opv kd t) 30))) := hx0
  have HC : Hid (∀ ob v u r q W', Px w W ob (opv kd t) pb v rb u r q W' → W'.cell? ⟨ob, 0, none⟩ = some (.int .u8 (kd : Int)) ∧ W'.cell? ⟨ob, 1, none⟩ = some (.string t)) := fun ob v u r q W' hp => ⟨hp.cell 0, hp.cell 1⟩
  have hkd' : (kd : Int) < 256 := by omega
  have HF : Hid ((r.pop).Fit (1048576 * (k + 1))) := h.fit.pop.mono (by omega)
  have hf : r.Fit 281474976710656 := h.fit.mono (by omega)
  obtain ⟨bx, hbx⟩ : ∃ bx, opv kd t = bx := ⟨_, rfl⟩
  have HBX : Hid (opv kd t = bx) := hbx
  rw [hbx] at HX0 HC
  clear h hx0 hk hbx hkd
  unfold opv at HBX ⊢
  go_enter Try.func15, Try.ntmps15
  go_upto_region 1 with fail
  rw [HBX.out]
  obtain ⟨ob, hob⟩ : ∃ ob, W.heap.size = ob := ⟨_, rfl⟩
  obtain ⟨W1, hW1⟩ : ∃ W1, W.alloc (.cells bx 30) = W1 := ⟨_, rfl⟩
  rw [hW1, hob] at HX0 ⊢
  have HX : Hid (Px w W ob bx pb v rb u r r W1) := HX0.out
  obtain ⟨c0, c1⟩ := HC.out _ _ _ _ _ _ HX.out
  clear HX0 hW1 hob HBX
  have C1 := pop_any HX.out.pr hf
  have C2 : Hid (∀ W', Px w W ob bx pb v rb u r.pop r W' → _) := fun W' hp => rpop_any hp.rr
  generalize r.popA = ya at C1 C2
  generalize r.popB = yb at C1 C2
  generalize r.popE = yc at C1 C2
  go_wp2_with (first
    | (go_at_call 20; refine C1.mono ?_; clear C1; rintro e w2 ⟨rfl, hs2, hc2⟩; have H2 : Hid (Px w W ob bx pb v rb u r.pop r w2) := HX.out.set hs2 hc2.more (Nx.refl _ _); clear hs2 hc2 HX)
    | (go_at_call 35; refine (C2.out _ H2.out).mono ?_; clear C2; rintro e w3 ⟨rfl, hs3, hc3⟩; have H3 : Hid (Px w W ob bx pb v rb u r.pop r.pop w3) := H2.out.ref hs3 hc3.more (Nx.refl _ _); clear hs3 hc3 H2))
  go_ret
  exact ⟨rfl, H3.out.done HF.out⟩
set_option maxRecDepth 100000 in
set_option maxHeartbeats 2000000 in
theorem play2 (h : Pq w pb rb r k W) (hk : kd % 7 = 2) (hkd : kd < 256) (hkk : k ≤ 33554432) (ht : t.size ≤ 1048576) : Calls Try.prog 15 #[.pointer (some ⟨pb, 0, none⟩), .pointer (some ⟨rb, 0, none⟩), .agg (opv kd t)] W fun e W' => e = .returned (.bool true) ∧ Pq w pb rb (r.copy t) (k + 1) W' ∧ Fo W W' := by
  obtain ⟨h1, h2⟩ := mod7 hk
  obtain ⟨v, u, hx0⟩ := h.px (opv kd t)
  have HX0 : Hid (Px w W W.heap.size (opv kd t) pb v rb u r r (W.alloc (.cells (opv kd t) 30))) := hx0
  have HC : Hid (∀ ob v u r q W', Px w W ob (opv kd t) pb v rb u r q W' → W'.cell? ⟨ob, 0, none⟩ = some (.int .u8 (kd : Int)) ∧ W'.cell? ⟨ob, 1, none⟩ = some (.string t)) := fun ob v u r q W' hp => ⟨hp.cell 0, hp.cell 1⟩
  have hkd' : (kd : Int) < 256 := by omega
  have HF : Hid ((r.copy t).Fit (1048576 * (k + 1))) := h.fit.copy ht
  have hf : r.Fit 35184372088832 := h.fit.mono (by omega)
  have ht2 : t.size ≤ 35184372088832 := by omega
  obtain ⟨bx, hbx⟩ : ∃ bx, opv kd t = bx := ⟨_, rfl⟩
  have HBX : Hid (opv kd t = bx) := hbx
  rw [hbx] at HX0 HC
  clear h hx0 hk hbx hkd
  unfold opv at HBX ⊢
  go_enter Try.func15, Try.ntmps15
  go_upto_region 1 with fail
  rw [HBX.out]
  obtain ⟨ob, hob⟩ : ∃ ob, W.heap.size = ob := ⟨_, rfl⟩
  obtain ⟨W1, hW1⟩ : ∃ W1, W.alloc (.cells bx 30) = W1 := ⟨_, rfl⟩
  rw [hW1, hob] at HX0 ⊢
  have HX : Hid (Px w W ob bx pb v rb u r r W1) := HX0.out
  obtain ⟨c0, c1⟩ := HC.out _ _ _ _ _ _ HX.out
  clear HX0 hW1 hob HBX
  have C1 : Hid (∀ W', Px w W ob bx pb v rb u r r W' → Calls Try.prog 22 #[.pointer (some ⟨pb, 0, none⟩), .string t] W' fun e w' => e = .returned (.bool (r.kept t)) ∧ ∃ v', Hid (Px w W ob bx pb v' rb u (r.copy t) r w')) := fun W' hp => (copy_any hp.pr ht2).mono (by rintro e w' ⟨rfl, v', q1, q2, q3⟩; exact ⟨rfl, v', hp.set q1 q2 q3⟩)
  have C2 : Hid (∀ W' v', Px w W ob bx pb v' rb u (r.copy t) r W' → Calls Try.prog 33 #[.pointer (some ⟨rb, 0, none⟩), .string t] W' fun e w' => e = .returned (.bool (r.kept t)) ∧ ∃ u', Hid (Px w W ob bx pb v' rb u' (r.copy t) (r.copy t) w')) := fun W' v' hp => (rcopy_any hp.rr).mono (by rintro e w' ⟨rfl, u', q1, q2, q3⟩; exact ⟨rfl, u', hp.ref q1 q2 q3⟩)
  generalize r.kept t = β at C1 C2
  clear hf ht2 ht
  go_wp2
  go_region_held3 (fun W' => W'.cell? ⟨ob, 0, none⟩ = some (.int .u8 (kd : Int)) ∧ W'.cell? ⟨ob, 1, none⟩ = some (.string t)) (first | exact HC.out _ _ _ _ _ _ HX.out | exact HC.out _ _ _ _ _ _ HX.out.drew)
    (first
      | (go_at_call 22; refine (C1.out _ HX.out.drew).mono ?_; clear C1; rintro e w2 ⟨rfl, v2, H2⟩; clear HX; have HX := H2; clear H2)
      | (go_at_call 33; refine (C2.out _ _ HX.out).mono ?_; clear C2; rintro e w3 ⟨rfl, u3, H3⟩; clear HX; have HX := H3; clear H3))
  all_goals go_wp2
  all_goals go_ret
  all_goals exact ⟨by simp, HX.out.done HF.out⟩
set_option maxRecDepth 100000 in
set_option maxHeartbeats 2000000 in
theorem play0 (h : Pq w pb rb r k W) (hk : kd % 7 = 0) (hkd : kd < 256) (hkk : k ≤ 33554432) (ht : t.size ≤ 1048576) : Calls Try.prog 15 #[.pointer (some ⟨pb, 0, none⟩), .pointer (some ⟨rb, 0, none⟩), .agg (opv kd t)] W fun e W' => e = .returned (.bool true) ∧ Pq w pb rb (r.kill t false) (k + 1) W' ∧ Fo W W' := by
  obtain ⟨h1, h2⟩ := mod7 hk
  obtain ⟨v, u, hx0⟩ := h.px (opv kd t)
  have HX0 : Hid (Px w W W.heap.size (opv kd t) pb v rb u r r (W.alloc (.cells (opv kd t) 30))) := hx0
  have HC : Hid (∀ ob v u r q W', Px w W ob (opv kd t) pb v rb u r q W' → W'.cell? ⟨ob, 0, none⟩ = some (.int .u8 (kd : Int)) ∧ W'.cell? ⟨ob, 1, none⟩ = some (.string t)) := fun ob v u r q W' hp => ⟨hp.cell 0, hp.cell 1⟩
  have hkd' : (kd : Int) < 256 := by omega
  have HF : Hid ((r.kill t false).Fit (1048576 * (k + 1))) := h.fit.kill ht
  have hf : r.Fit 35184372088832 := h.fit.mono (by omega)
  have ht2 : t.size ≤ 35184372088832 := by omega
  obtain ⟨bx, hbx⟩ : ∃ bx, opv kd t = bx := ⟨_, rfl⟩
  have HBX : Hid (opv kd t = bx) := hbx
  rw [hbx] at HX0 HC
  clear h hx0 hk hbx hkd
  unfold opv at HBX ⊢
  go_enter Try.func15, Try.ntmps15
  go_upto_region 1 with fail
  rw [HBX.out]
  obtain ⟨ob, hob⟩ : ∃ ob, W.heap.size = ob := ⟨_, rfl⟩
  obtain ⟨W1, hW1⟩ : ∃ W1, W.alloc (.cells bx 30) = W1 := ⟨_, rfl⟩
  rw [hW1, hob] at HX0 ⊢
  have HX : Hid (Px w W ob bx pb v rb u r r W1) := HX0.out
  obtain ⟨c0, c1⟩ := HC.out _ _ _ _ _ _ HX.out
  clear HX0 hW1 hob HBX
  have C1 : Hid (∀ W', Px w W ob bx pb v rb u r r W' → Calls Try.prog 16 #[.pointer (some ⟨pb, 0, none⟩), .string t, .bool false] W' fun e w' => e = .returned (.bool (r.kept t)) ∧ ∃ v', Hid (Px w W ob bx pb v' rb u (r.kill t false) r w')) := fun W' hp => (kill_any hp.pr ht2 hf false).mono (by rintro e w' ⟨rfl, v', q1, q2, q3⟩; exact ⟨rfl, v', hp.set q1 q2 q3⟩)
  have C2 : Hid (∀ W' v', Px w W ob bx pb v' rb u (r.kill t false) r W' → Calls Try.prog 32 #[.pointer (some ⟨rb, 0, none⟩), .string t, .bool false] W' fun e w' => e = .returned (.bool (r.kept t)) ∧ ∃ u', Hid (Px w W ob bx pb v' rb u' (r.kill t false) (r.kill t false) w')) := fun W' v' hp => (rkill_any hp.rr ht2 hf false).mono (by rintro e w' ⟨rfl, u', q1, q2, q3⟩; exact ⟨rfl, u', hp.ref q1 q2 q3⟩)
  generalize r.kept t = β at C1 C2
  clear hf ht2 ht
  go_wp2
  go_region_held3 (fun W' => W'.cell? ⟨ob, 0, none⟩ = some (.int .u8 (kd : Int)) ∧ W'.cell? ⟨ob, 1, none⟩ = some (.string t)) (first | exact HC.out _ _ _ _ _ _ HX.out | exact HC.out _ _ _ _ _ _ HX.out.drew)
    (first
      | (go_at_call 16; refine (C1.out _ HX.out.drew).mono ?_; clear C1; rintro e w2 ⟨rfl, v2, H2⟩; clear HX; have HX := H2; clear H2)
      | (go_at_call 32; refine (C2.out _ _ HX.out).mono ?_; clear C2; rintro e w3 ⟨rfl, u3, H3⟩; clear HX; have HX := H3; clear H3))
  all_goals go_wp2
  all_goals go_ret
  all_goals exact ⟨by simp, HX.out.done HF.out⟩
set_option maxRecDepth 100000 in
set_option maxHeartbeats 2000000 in
theorem play1 (h : Pq w pb rb r k W) (hk : kd % 7 = 1) (hkd : kd < 256) (hkk : k ≤ 33554432) (ht : t.size ≤ 1048576) : Calls Try.prog 15 #[.pointer (some ⟨pb, 0, none⟩), .pointer (some ⟨rb, 0, none⟩), .agg (opv kd t)] W fun e W' => e = .returned (.bool true) ∧ Pq w pb rb (r.kill t true) (k + 1) W' ∧ Fo W W' := by
  obtain ⟨h1, h2⟩ := mod7 hk
  obtain ⟨v, u, hx0⟩ := h.px (opv kd t)
  have HX0 : Hid (Px w W W.heap.size (opv kd t) pb v rb u r r (W.alloc (.cells (opv kd t) 30))) := hx0
  have HC : Hid (∀ ob v u r q W', Px w W ob (opv kd t) pb v rb u r q W' → W'.cell? ⟨ob, 0, none⟩ = some (.int .u8 (kd : Int)) ∧ W'.cell? ⟨ob, 1, none⟩ = some (.string t)) := fun ob v u r q W' hp => ⟨hp.cell 0, hp.cell 1⟩
  have hkd' : (kd : Int) < 256 := by omega
  have HF : Hid ((r.kill t true).Fit (1048576 * (k + 1))) := h.fit.kill ht
  have hf : r.Fit 35184372088832 := h.fit.mono (by omega)
  have ht2 : t.size ≤ 35184372088832 := by omega
  obtain ⟨bx, hbx⟩ : ∃ bx, opv kd t = bx := ⟨_, rfl⟩
  have HBX : Hid (opv kd t = bx) := hbx
  rw [hbx] at HX0 HC
  clear h hx0 hk hbx hkd
  unfold opv at HBX ⊢
  go_enter Try.func15, Try.ntmps15
  go_upto_region 1 with fail
  rw [HBX.out]
  obtain ⟨ob, hob⟩ : ∃ ob, W.heap.size = ob := ⟨_, rfl⟩
  obtain ⟨W1, hW1⟩ : ∃ W1, W.alloc (.cells bx 30) = W1 := ⟨_, rfl⟩
  rw [hW1, hob] at HX0 ⊢
  have HX : Hid (Px w W ob bx pb v rb u r r W1) := HX0.out
  obtain ⟨c0, c1⟩ := HC.out _ _ _ _ _ _ HX.out
  clear HX0 hW1 hob HBX
  have C1 : Hid (∀ W', Px w W ob bx pb v rb u r r W' → Calls Try.prog 16 #[.pointer (some ⟨pb, 0, none⟩), .string t, .bool true] W' fun e w' => e = .returned (.bool (r.kept t)) ∧ ∃ v', Hid (Px w W ob bx pb v' rb u (r.kill t true) r w')) := fun W' hp => (kill_any hp.pr ht2 hf true).mono (by rintro e w' ⟨rfl, v', q1, q2, q3⟩; exact ⟨rfl, v', hp.set q1 q2 q3⟩)
  have C2 : Hid (∀ W' v', Px w W ob bx pb v' rb u (r.kill t true) r W' → Calls Try.prog 32 #[.pointer (some ⟨rb, 0, none⟩), .string t, .bool true] W' fun e w' => e = .returned (.bool (r.kept t)) ∧ ∃ u', Hid (Px w W ob bx pb v' rb u' (r.kill t true) (r.kill t true) w')) := fun W' v' hp => (rkill_any hp.rr ht2 hf true).mono (by rintro e w' ⟨rfl, u', q1, q2, q3⟩; exact ⟨rfl, u', hp.ref q1 q2 q3⟩)
  generalize r.kept t = β at C1 C2
  clear hf ht2 ht
  go_wp2
  go_region_held3 (fun W' => W'.cell? ⟨ob, 0, none⟩ = some (.int .u8 (kd : Int)) ∧ W'.cell? ⟨ob, 1, none⟩ = some (.string t)) (first | exact HC.out _ _ _ _ _ _ HX.out | exact HC.out _ _ _ _ _ _ HX.out.drew)
    (first
      | (go_at_call 16; refine (C1.out _ HX.out.drew).mono ?_; clear C1; rintro e w2 ⟨rfl, v2, H2⟩; clear HX; have HX := H2; clear H2)
      | (go_at_call 32; refine (C2.out _ _ HX.out).mono ?_; clear C2; rintro e w3 ⟨rfl, u3, H3⟩; clear HX; have HX := H3; clear H3))
  all_goals go_wp2
  all_goals go_ret
  all_goals exact ⟨by simp, HX.out.done HF.out⟩
end
theorem play_any {w W : World} {pb rb k kd : Nat} {r : Rg} {t : ByteArray} (h : Pq w pb rb r k W) (hkd : kd < 256) (hkk : k ≤ 33554432) (ht : t.size ≤ 1048576) : Calls Try.prog 15 #[.pointer (some ⟨pb, 0, none⟩), .pointer (some ⟨rb, 0, none⟩), .agg #[.int .u8 (kd : Int), .string t]] W fun e W' => e = .returned (.bool true) ∧ ∃ r', Pq w pb rb r' (k + 1) W' ∧ Fo W W' := by
  have hm : kd % 7 = 0 ∨ kd % 7 = 1 ∨ kd % 7 = 2 ∨ kd % 7 = 3 ∨ kd % 7 = 4 ∨ kd % 7 = 5 ∨ kd % 7 = 6 := by omega
  rcases hm with c | c | c | c | c | c | c
  · exact (play0 h c hkd hkk ht).mono fun e W' h => ⟨h.1, _, h.2⟩
  · exact (play1 h c hkd hkk ht).mono fun e W' h => ⟨h.1, _, h.2⟩
  · exact (play2 h c hkd hkk ht).mono fun e W' h => ⟨h.1, _, h.2⟩
  · exact (play3 h c hkd hkk).mono fun e W' h => ⟨h.1, _, h.2⟩
  · exact (play4 h c hkd hkk).mono fun e W' h => ⟨h.1, _, h.2⟩
  · exact (play5 h c hkd).mono fun e W' h => ⟨h.1, _, h.2⟩
  · exact (play6 h c hkd).mono fun e W' h => ⟨h.1, _, h.2⟩
end Go.Proofs.Ytihagjkdghbkdaa
