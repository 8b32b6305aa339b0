/-
  The law's play: one call of a set of package marks and of the document's own. Conditions: those of each theorem.
-/
import Derived.Test.YtolafffpgkgadaaEPair
namespace Go.Proofs.Ytolafffpgkgadaa
open Go.RowKit

/-- a call: its kind, a name, a place, marks, deltas -/
structure Oq where
  kd : Nat
  nm : Nat
  pl : Int
  ms : Ml
  ds : List Dl
def Oq.fit (o : Oq) : Prop := o.kd < 256 ∧ o.nm < 256 ∧ i64ok o.pl ∧ Fit8 o.ms ∧ ∀ d ∈ o.ds, d.fit
def Oq.bulk (o : Oq) : Nat := o.ms.length + o.ds.length + dls o.ds
def opv (o : Oq) (vm vd : Value) : Array Value := #[.int .u8 (o.kd : Int), .int .u8 (o.nm : Int), .int .i64 o.pl, vm, vd]
/-- no place beyond 2^39 -/
def cap39 (l : Ml) : Ml := l.map fun p => (p.1, if 549755813888 < p.2 then 549755813888 else p.2)
theorem cap_fit {l : Ml} (h : Fit8 l) : Fit8 (cap39 l) := fun p hp => by
  obtain ⟨q, hq, rfl⟩ := List.mem_map.1 hp
  have := h q hq
  exact ⟨this.1, by have := this.2; unfold i64ok at *; simp only; split <;> omega⟩
theorem cap_le {l : Ml} : ∀ p ∈ cap39 l, p.2 ≤ 549755813888 := fun p hp => by
  obtain ⟨q, hq, rfl⟩ := List.mem_map.1 hp
  simp only; split <;> omega
/-- what play leaves -/
def Pdn (w W : World) (sb : Nat) (mb : Option Nat) (rb : Nat) (v : Value) (k : Nat) (W' : World) : Prop :=
  ∃ mb' v' L', St W' sb mb' L' ∧ Rs W' w.heap.size rb v' L' ∧ Below w.heap.size w W' ∧ (∀ b, mb' = some b → w.heap.size ≤ b) ∧ PCh sb mb rb v.ownBlock W W' ∧ Nx W mb mb' ∧ Nx W v.ownBlock v'.ownBlock ∧ Gdl L' ∧ Bd (k + 1) L'
theorem Px.done {w W1 W W0 : World} {ob : Nat} {bx : Array Value} {sb : Nat} {mb mb0 : Option Nat} {rb : Nat} {v v0 : Value} {L : Ml} {k : Nat} (h : Px w W1 mb0 v0.ownBlock ob bx sb mb rb v L L W) (h0 : Below W0.heap.size W0 W1) (hg : Gdl L) (hb : Bd (k + 1) L) : Pdn w W0 sb mb0 rb v0 k W := by
  refine ⟨mb, v, L, h.st, h.rs, h.bel, h.ml, PCh.trans (.below h0) (Nx.refl _ _) (Nx.refl _ _) h.ch, ?_, ?_, hg, hb⟩
  · exact Nx.trans (Nx.refl _ _) h0.size h.n1
  · exact Nx.trans (Nx.refl _ _) h0.size h.n2

/-- the start of play -/
structure Pl (w W : World) (sb : Nat) (mb : Option Nat) (rb : Nat) (v : Value) (L : Ml) (k : Nat) : Prop where
  st : St W sb mb L
  rs : Rs W w.heap.size rb v L
  bel : Below w.heap.size w W
  sl : w.heap.size ≤ sb
  ml : ∀ b, mb = some b → w.heap.size ≤ b
  g : Gdl L
  bd : Bd k L
theorem Pl.px {w W : World} {sb : Nat} {mb : Option Nat} {rb : Nat} {v : Value} {L : Ml} {k : Nat} (h : Pl w W sb mb rb v L k) (bx : Array Value) :
    Px w (W.alloc (.cells bx 34)) mb v.ownBlock W.heap.size bx sb mb rb v L L (W.alloc (.cells bx 34)) ∧ Below W.heap.size W (W.alloc (.cells bx 34)) := by
  have hb : Below W.heap.size W (W.alloc (.cells bx 34)) := (Below.refl _ W).alloc (Nat.le_refl _) _
  exact ⟨⟨h.st.below hb, h.rs.below hb, h.bel.trans (hb.mono h.bel.size), h.sl, h.ml, World.alloc_heap_new W _, PCh.refl _ _ _ _ _, Nx.refl _ _, Nx.refl _ _⟩, hb⟩
theorem mod7 {k c : Nat} (h : k % 7 = c) : ((k : Int) % 7 = (c : Int)) ∧ ((k : Int).tmod 7 = (c : Int)) := by
  constructor
  · omega
  · rw [Int.tmod_eq_emod_of_nonneg (by omega)]; omega

section
variable {w W : World} {sb : Nat} {mb : Option Nat} {rb : Nat} {v : Value} {L : Ml} {k : Nat} {o : Oq} {vm vd : Value}
set_option maxRecDepth 100000 in
set_option maxHeartbeats 2000000 in
theorem play6 (h : Pl w W sb mb rb v L k) (hf : o.fit) (hk : o.kd % 7 = 6) : Calls Try.prog 14 #[.pointer (some ⟨sb, 0, none⟩), .pointer (some ⟨rb, 0, none⟩), .agg (opv o vm vd)] W fun e W' => e = .returned (.bool true) ∧ Pdn w W sb mb rb v k W' := by
  obtain ⟨h1, h2⟩ := mod7 hk
  have HX0 : Hid (Px w (W.alloc (.cells (opv o vm vd) 34)) mb v.ownBlock W.heap.size (opv o vm vd) sb mb rb v L L (W.alloc (.cells (opv o vm vd) 34)) ∧ Below W.heap.size W (W.alloc (.cells (opv o vm vd) 34))) := h.px (opv o vm vd)
  have HC : Hid (∀ W1 ob mb' v' L' M' W', Px w W1 mb v.ownBlock ob (opv o vm vd) sb mb' rb v' L' M' W' → W'.cell? ⟨ob, 0, none⟩ = some (.int .u8 (o.kd : Int)) ∧ W'.cell? ⟨ob, 1, none⟩ = some (.int .u8 (o.nm : Int)) ∧ W'.cell? ⟨ob, 2, none⟩ = some (.int .i64 o.pl) ∧ W'.cell? ⟨ob, 3, none⟩ = some vm ∧ W'.cell? ⟨ob, 4, none⟩ = some vd) := fun W1 ob mb' v' L' M' W' hp => ⟨hp.cell 0, hp.cell 1, hp.cell 2, hp.cell 3, hp.cell 4⟩
  have HD : Hid (Gdl L ∧ Bd k L) := ⟨h.g, h.bd⟩
  have HF : Hid o.fit := hf
  have hkd : (o.kd : Int) < 256 := by have := hf.1; omega
  obtain ⟨bx, hbx⟩ : ∃ bx, opv o vm vd = bx := ⟨_, rfl⟩
  have HBX : Hid (opv o vm vd = bx) := hbx
  rw [hbx] at HX0 HC
  clear h hk hf hbx
  unfold opv at HBX ⊢
  go_enter Try.func14, Try.ntmps14
  go_upto_region 1 with fail
  rw [HBX.out]
  obtain ⟨ob, hob⟩ : ∃ ob, W.heap.size = ob := ⟨_, rfl⟩
  obtain ⟨W1, hW1⟩ : ∃ W1, W.alloc (.cells bx 34) = W1 := ⟨_, rfl⟩
  rw [hW1] at HX0 ⊢
  have HX : Hid (Px w W1 mb v.ownBlock ob bx sb mb rb v L L W1) := hob ▸ HX0.out.1
  have HB0 : Hid (Below W.heap.size W W1) := HX0.out.2
  rw [hob]
  obtain ⟨c0, c1, c2, c3, c4⟩ := HC.out _ _ _ _ _ _ _ HX.out
  clear HX0 hW1 hob HBX
  go_wp2
  go_ret
  exact ⟨rfl, HX.out.done HB0.out HD.out.1 HD.out.2.mono⟩
set_option maxRecDepth 100000 in
set_option maxHeartbeats 2000000 in
theorem play5 (h : Pl w W sb mb rb v L k) (hf : o.fit) (hk : o.kd % 7 = 5) : Calls Try.prog 14 #[.pointer (some ⟨sb, 0, none⟩), .pointer (some ⟨rb, 0, none⟩), .agg (opv o vm vd)] W fun e W' => e = .returned (.bool true) ∧ Pdn w W sb mb rb v k W' := by
  obtain ⟨h1, h2⟩ := mod7 hk
  have HX0 : Hid (Px w (W.alloc (.cells (opv o vm vd) 34)) mb v.ownBlock W.heap.size (opv o vm vd) sb mb rb v L L (W.alloc (.cells (opv o vm vd) 34)) ∧ Below W.heap.size W (W.alloc (.cells (opv o vm vd) 34))) := h.px (opv o vm vd)
  have HC : Hid (∀ W1 ob mb' v' L' M' W', Px w W1 mb v.ownBlock ob (opv o vm vd) sb mb' rb v' L' M' W' → W'.cell? ⟨ob, 0, none⟩ = some (.int .u8 (o.kd : Int)) ∧ W'.cell? ⟨ob, 1, none⟩ = some (.int .u8 (o.nm : Int)) ∧ W'.cell? ⟨ob, 2, none⟩ = some (.int .i64 o.pl) ∧ W'.cell? ⟨ob, 3, none⟩ = some vm ∧ W'.cell? ⟨ob, 4, none⟩ = some vd) := fun W1 ob mb' v' L' M' W' hp => ⟨hp.cell 0, hp.cell 1, hp.cell 2, hp.cell 3, hp.cell 4⟩
  have HD : Hid (Gdl L ∧ Bd k L) := ⟨h.g, h.bd⟩
  have HF : Hid o.fit := hf
  have hkd : (o.kd : Int) < 256 := by have := hf.1; omega
  obtain ⟨bx, hbx⟩ : ∃ bx, opv o vm vd = bx := ⟨_, rfl⟩
  have HBX : Hid (opv o vm vd = bx) := hbx
  rw [hbx] at HX0 HC
  clear h hk hf hbx
  unfold opv at HBX ⊢
  go_enter Try.func14, Try.ntmps14
  go_upto_region 1 with fail
  rw [HBX.out]
  obtain ⟨ob, hob⟩ : ∃ ob, W.heap.size = ob := ⟨_, rfl⟩
  obtain ⟨W1, hW1⟩ : ∃ W1, W.alloc (.cells bx 34) = W1 := ⟨_, rfl⟩
  rw [hW1] at HX0 ⊢
  have HX : Hid (Px w W1 mb v.ownBlock ob bx sb mb rb v L L W1) := hob ▸ HX0.out.1
  have HB0 : Hid (Below W.heap.size W W1) := HX0.out.2
  rw [hob]
  obtain ⟨c0, c1, c2, c3, c4⟩ := HC.out _ _ _ _ _ _ _ HX.out
  clear HX0 hW1 hob HBX
  have C1 := clear_any HX.out.st
  go_wp2_with (first
    | (go_at_call 21; refine C1.mono ?_; clear C1; rintro e w2 ⟨rfl, hs2, hc2⟩; have H2 : Hid (Px w W1 mb v.ownBlock ob bx sb mb rb v [] L w2) := HX.out.set hs2 hc2 (Nx.refl _ _); clear hs2 hc2 HX)
    | (go_at_call 38; refine (rclear_any H2.out.rs).mono ?_; rintro e w3 ⟨rfl, hs3, hc3⟩; have H3 : Hid (Px w W1 mb v.ownBlock ob bx sb mb rb (.slice none 0 0) [] [] w3) := H2.out.ref hs3 hc3.more (Nx.none _ _); clear hs3 hc3 H2))
  go_ret
  exact ⟨rfl, H3.out.done HB0.out Gdl.nil (Bd.nil _)⟩
set_option maxRecDepth 100000 in
set_option maxHeartbeats 2000000 in
theorem play1 (h : Pl w W sb mb rb v L k) (hf : o.fit) (hk : o.kd % 7 = 1) : Calls Try.prog 14 #[.pointer (some ⟨sb, 0, none⟩), .pointer (some ⟨rb, 0, none⟩), .agg (opv o vm vd)] W fun e W' => e = .returned (.bool true) ∧ Pdn w W sb mb rb v k W' := by
  obtain ⟨h1, h2⟩ := mod7 hk
  have HX0 : Hid (Px w (W.alloc (.cells (opv o vm vd) 34)) mb v.ownBlock W.heap.size (opv o vm vd) sb mb rb v L L (W.alloc (.cells (opv o vm vd) 34)) ∧ Below W.heap.size W (W.alloc (.cells (opv o vm vd) 34))) := h.px (opv o vm vd)
  have HC : Hid (∀ W1 ob mb' v' L' M' W', Px w W1 mb v.ownBlock ob (opv o vm vd) sb mb' rb v' L' M' W' → W'.cell? ⟨ob, 0, none⟩ = some (.int .u8 (o.kd : Int)) ∧ W'.cell? ⟨ob, 1, none⟩ = some (.int .u8 (o.nm : Int)) ∧ W'.cell? ⟨ob, 2, none⟩ = some (.int .i64 o.pl) ∧ W'.cell? ⟨ob, 3, none⟩ = some vm ∧ W'.cell? ⟨ob, 4, none⟩ = some vd) := fun W1 ob mb' v' L' M' W' hp => ⟨hp.cell 0, hp.cell 1, hp.cell 2, hp.cell 3, hp.cell 4⟩
  have HD : Hid (Gdl L ∧ Bd k L) := ⟨h.g, h.bd⟩
  have HF : Hid o.fit := hf
  have hkd : (o.kd : Int) < 256 := by have := hf.1; omega
  obtain ⟨bx, hbx⟩ : ∃ bx, opv o vm vd = bx := ⟨_, rfl⟩
  have HBX : Hid (opv o vm vd = bx) := hbx
  rw [hbx] at HX0 HC
  clear h hk hf hbx
  unfold opv at HBX ⊢
  go_enter Try.func14, Try.ntmps14
  go_upto_region 1 with fail
  rw [HBX.out]
  obtain ⟨ob, hob⟩ : ∃ ob, W.heap.size = ob := ⟨_, rfl⟩
  obtain ⟨W1, hW1⟩ : ∃ W1, W.alloc (.cells bx 34) = W1 := ⟨_, rfl⟩
  rw [hW1] at HX0 ⊢
  have HX : Hid (Px w W1 mb v.ownBlock ob bx sb mb rb v L L W1) := hob ▸ HX0.out.1
  have HB0 : Hid (Below W.heap.size W W1) := HX0.out.2
  rw [hob]
  obtain ⟨c0, c1, c2, c3, c4⟩ := HC.out _ _ _ _ _ _ _ HX.out
  clear HX0 hW1 hob HBX
  have C1 := get_any HX.out.st HF.out.2.1
  have C2 := rget_any HX.out.rs HF.out.2.1
  obtain ⟨⟨x, y⟩, hxy⟩ : ∃ r, getE o.nm L = r := ⟨_, rfl⟩
  rw [hxy] at C1 C2
  clear hxy
  go_wp2_with (first
    | (go_at_call 23; refine C1.mono ?_; clear C1; rintro e w2 ⟨rfl, rfl⟩)
    | (go_at_call 34; refine C2.mono ?_; clear C2; rintro e w3 ⟨rfl, rfl⟩))
  go_ret
  exact ⟨by simp, HX.out.done HB0.out HD.out.1 HD.out.2.mono⟩
set_option maxRecDepth 100000 in
set_option maxHeartbeats 2000000 in
theorem play0 (h : Pl w W sb mb rb v L k) (hf : o.fit) (hk : o.kd % 7 = 0) : Calls Try.prog 14 #[.pointer (some ⟨sb, 0, none⟩), .pointer (some ⟨rb, 0, none⟩), .agg (opv o vm vd)] W fun e W' => e = .returned (.bool true) ∧ Pdn w W sb mb rb v k W' := by
  obtain ⟨h1, h2⟩ := mod7 hk
  have HX0 : Hid (Px w (W.alloc (.cells (opv o vm vd) 34)) mb v.ownBlock W.heap.size (opv o vm vd) sb mb rb v L L (W.alloc (.cells (opv o vm vd) 34)) ∧ Below W.heap.size W (W.alloc (.cells (opv o vm vd) 34))) := h.px (opv o vm vd)
  have HC : Hid (∀ W1 ob mb' v' L' M' W', Px w W1 mb v.ownBlock ob (opv o vm vd) sb mb' rb v' L' M' W' → W'.cell? ⟨ob, 0, none⟩ = some (.int .u8 (o.kd : Int)) ∧ W'.cell? ⟨ob, 1, none⟩ = some (.int .u8 (o.nm : Int)) ∧ W'.cell? ⟨ob, 2, none⟩ = some (.int .i64 o.pl) ∧ W'.cell? ⟨ob, 3, none⟩ = some vm ∧ W'.cell? ⟨ob, 4, none⟩ = some vd) := fun W1 ob mb' v' L' M' W' hp => ⟨hp.cell 0, hp.cell 1, hp.cell 2, hp.cell 3, hp.cell 4⟩
  have HD : Hid (Gdl L ∧ Bd k L) := ⟨h.g, h.bd⟩
  have HF : Hid o.fit := hf
  have hkd : (o.kd : Int) < 256 := by have := hf.1; omega
  obtain ⟨bx, hbx⟩ : ∃ bx, opv o vm vd = bx := ⟨_, rfl⟩
  have HBX : Hid (opv o vm vd = bx) := hbx
  rw [hbx] at HX0 HC
  clear h hk hf hbx
  unfold opv at HBX ⊢
  go_enter Try.func14, Try.ntmps14
  go_upto_region 1 with fail
  rw [HBX.out]
  obtain ⟨ob, hob⟩ : ∃ ob, W.heap.size = ob := ⟨_, rfl⟩
  obtain ⟨W1, hW1⟩ : ∃ W1, W.alloc (.cells bx 34) = W1 := ⟨_, rfl⟩
  rw [hW1] at HX0 ⊢
  have HX : Hid (Px w W1 mb v.ownBlock ob bx sb mb rb v L L W1) := hob ▸ HX0.out.1
  have HB0 : Hid (Below W.heap.size W W1) := HX0.out.2
  rw [hob]
  obtain ⟨c0, c1, c2, c3, c4⟩ := HC.out _ _ _ _ _ _ _ HX.out
  clear HX0 hW1 hob HBX
  go_upto_region 4 with fail
  obtain ⟨x, hx⟩ : ∃ x, (if 549755813888 < o.pl then 549755813888 else o.pl) = x := ⟨_, rfl⟩
  have HN : Hid (o.nm < 256 ∧ i64ok x ∧ x ≤ 549755813888) := by
    have := HF.out.2.2.1
    refine ⟨HF.out.2.1, ?_, ?_⟩
    · rw [← hx]; unfold i64ok at *; split <;> omega
    · rw [← hx]; split <;> omega
  rw [hx]
  clear hx h1 h2
  go_region_held3 (fun w' => w'.cell? ⟨ob, 1, none⟩ = some (.int .u8 (o.nm : Int))) (first | exact (HC.out _ _ _ _ _ _ _ HX.out).2.1 | exact (HC.out _ _ _ _ _ _ _ (HX.out.below (drew_below _))).2.1 | exact (HC.out _ _ _ _ _ _ _ H2.out).2.1 | exact (HC.out _ _ _ _ _ _ _ (H2.out.below (drew_below _))).2.1 | exact (HC.out _ _ _ _ _ _ _ H3.out).2.1 | exact (HC.out _ _ _ _ _ _ _ (H3.out.below (drew_below _))).2.1)
    (first
      | (go_at_call 27; guard_target = Calls _ _ _ (World.drew _) _; refine (put_st (HX.out.below (drew_below _)).st HN.out.1 HN.out.2.1).mono ?_; rintro e w2 ⟨rfl, mb2, hs2, hc2, hn2⟩; have H2 : Hid (Px w W1 mb v.ownBlock ob bx sb mb2 rb v (putL o.nm x L) L w2) := (HX.out.below (drew_below _)).set hs2 hc2 hn2.x; clear hs2 hc2 hn2)
      | (go_at_call 27; refine (put_st HX.out.st HN.out.1 HN.out.2.1).mono ?_; rintro e w2 ⟨rfl, mb2, hs2, hc2, hn2⟩; have H2 : Hid (Px w W1 mb v.ownBlock ob bx sb mb2 rb v (putL o.nm x L) L w2) := HX.out.set hs2 hc2 hn2.x; clear hs2 hc2 hn2)
      | (go_at_call 36; guard_target = Calls _ _ _ (World.drew _) _; refine (rput_any (H2.out.below (drew_below _)).rs HN.out.1 HN.out.2.1).mono ?_; rintro e w3 ⟨rfl, v3, hs3, hc3, hn3⟩; have H3 : Hid (Px w W1 mb v.ownBlock ob bx sb mb2 rb v3 (putL o.nm x L) (putL o.nm x L) w3) := (H2.out.below (drew_below _)).ref hs3 hc3.more hn3; clear hs3 hc3 hn3)
      | (go_at_call 36; refine (rput_any H2.out.rs HN.out.1 HN.out.2.1).mono ?_; rintro e w3 ⟨rfl, v3, hs3, hc3, hn3⟩; have H3 : Hid (Px w W1 mb v.ownBlock ob bx sb mb2 rb v3 (putL o.nm x L) (putL o.nm x L) w3) := H2.out.ref hs3 hc3.more hn3; clear hs3 hc3 hn3))
  all_goals go_wp2
  all_goals go_ret
  all_goals exact ⟨by simp, H3.out.done HB0.out HD.out.1.put (HD.out.2.put HN.out.2.2).mono⟩
set_option maxRecDepth 100000 in
set_option maxHeartbeats 2000000 in
theorem play2 (h : Pl w W sb mb rb v L k) (hf : o.fit) (hk : o.kd % 7 = 2) : Calls Try.prog 14 #[.pointer (some ⟨sb, 0, none⟩), .pointer (some ⟨rb, 0, none⟩), .agg (opv o vm vd)] W fun e W' => e = .returned (.bool true) ∧ Pdn w W sb mb rb v k W' := by
  obtain ⟨h1, h2⟩ := mod7 hk
  have HX0 : Hid (Px w (W.alloc (.cells (opv o vm vd) 34)) mb v.ownBlock W.heap.size (opv o vm vd) sb mb rb v L L (W.alloc (.cells (opv o vm vd) 34)) ∧ Below W.heap.size W (W.alloc (.cells (opv o vm vd) 34))) := h.px (opv o vm vd)
  have HC : Hid (∀ W1 ob mb' v' L' M' W', Px w W1 mb v.ownBlock ob (opv o vm vd) sb mb' rb v' L' M' W' → W'.cell? ⟨ob, 0, none⟩ = some (.int .u8 (o.kd : Int)) ∧ W'.cell? ⟨ob, 1, none⟩ = some (.int .u8 (o.nm : Int)) ∧ W'.cell? ⟨ob, 2, none⟩ = some (.int .i64 o.pl) ∧ W'.cell? ⟨ob, 3, none⟩ = some vm ∧ W'.cell? ⟨ob, 4, none⟩ = some vd) := fun W1 ob mb' v' L' M' W' hp => ⟨hp.cell 0, hp.cell 1, hp.cell 2, hp.cell 3, hp.cell 4⟩
  have HD : Hid (Gdl L ∧ Bd k L) := ⟨h.g, h.bd⟩
  have HF : Hid o.fit := hf
  have hkd : (o.kd : Int) < 256 := by have := hf.1; omega
  obtain ⟨bx, hbx⟩ : ∃ bx, opv o vm vd = bx := ⟨_, rfl⟩
  have HBX : Hid (opv o vm vd = bx) := hbx
  rw [hbx] at HX0 HC
  clear h hk hf hbx
  unfold opv at HBX ⊢
  go_enter Try.func14, Try.ntmps14
  go_upto_region 1 with fail
  rw [HBX.out]
  obtain ⟨ob, hob⟩ : ∃ ob, W.heap.size = ob := ⟨_, rfl⟩
  obtain ⟨W1, hW1⟩ : ∃ W1, W.alloc (.cells bx 34) = W1 := ⟨_, rfl⟩
  rw [hW1] at HX0 ⊢
  have HX : Hid (Px w W1 mb v.ownBlock ob bx sb mb rb v L L W1) := hob ▸ HX0.out.1
  have HB0 : Hid (Below W.heap.size W W1) := HX0.out.2
  rw [hob]
  obtain ⟨c0, c1, c2, c3, c4⟩ := HC.out _ _ _ _ _ _ _ HX.out
  clear HX0 hW1 hob HBX
  go_upto_region 10 with fail
  have HN : Hid (o.nm < 256) := HF.out.2.1
  clear h1 h2
  go_region_held3 (fun w' => w'.cell? ⟨ob, 1, none⟩ = some (.int .u8 (o.nm : Int))) (first | exact (HC.out _ _ _ _ _ _ _ HX.out).2.1 | exact (HC.out _ _ _ _ _ _ _ (HX.out.below (drew_below _))).2.1 | exact (HC.out _ _ _ _ _ _ _ H2.out).2.1 | exact (HC.out _ _ _ _ _ _ _ (H2.out.below (drew_below _))).2.1 | exact (HC.out _ _ _ _ _ _ _ H3.out).2.1 | exact (HC.out _ _ _ _ _ _ _ (H3.out.below (drew_below _))).2.1)
    (first
      | (go_at_call 24; guard_target = Calls _ _ _ (World.drew _) _; refine (drop_any (HX.out.below (drew_below _)).st HN.out).mono ?_; rintro e w2 ⟨rfl, hs2, hc2⟩; have H2 : Hid (Px w W1 mb v.ownBlock ob bx sb mb rb v (drpL o.nm L) L w2) := (HX.out.below (drew_below _)).set hs2 hc2 (Nx.refl _ _); clear hs2 hc2)
      | (go_at_call 24; refine (drop_any HX.out.st HN.out).mono ?_; rintro e w2 ⟨rfl, hs2, hc2⟩; have H2 : Hid (Px w W1 mb v.ownBlock ob bx sb mb rb v (drpL o.nm L) L w2) := HX.out.set hs2 hc2 (Nx.refl _ _); clear hs2 hc2)
      | (go_at_call 37; guard_target = Calls _ _ _ (World.drew _) _; refine (rdrop_any (H2.out.below (drew_below _)).rs HN.out).mono ?_; rintro e w3 ⟨rfl, v3, hs3, hc3, hn3⟩; have H3 : Hid (Px w W1 mb v.ownBlock ob bx sb mb rb v3 (drpL o.nm L) (drpL o.nm L) w3) := (H2.out.below (drew_below _)).ref hs3 hc3.more hn3; clear hs3 hc3 hn3)
      | (go_at_call 37; refine (rdrop_any H2.out.rs HN.out).mono ?_; rintro e w3 ⟨rfl, v3, hs3, hc3, hn3⟩; have H3 : Hid (Px w W1 mb v.ownBlock ob bx sb mb rb v3 (drpL o.nm L) (drpL o.nm L) w3) := H2.out.ref hs3 hc3.more hn3; clear hs3 hc3 hn3))
  all_goals go_wp2
  all_goals go_ret
  all_goals exact ⟨by simp, H3.out.done HB0.out HD.out.1.drop HD.out.2.drop.mono⟩
set_option maxRecDepth 100000 in
set_option maxHeartbeats 2000000 in
theorem play3 (h : Pl w W sb mb rb v L k) (hf : o.fit) (hk : o.kd % 7 = 3) {ma : Option Addr} {mn mc : Nat} (hvm : vm = .slice ma mn mc) (hR : ∀ W2, Below w.heap.size w W2 → RdK W2 (.slice ma mn mc) o.ms) (hl : o.ms.length ≤ 1048576) : Calls Try.prog 14 #[.pointer (some ⟨sb, 0, none⟩), .pointer (some ⟨rb, 0, none⟩), .agg (opv o vm vd)] W fun e W' => e = .returned (.bool true) ∧ Pdn w W sb mb rb v k W' := by
  have HVM : Hid (vm = .slice ma mn mc) := hvm
  clear hvm
  obtain ⟨h1, h2⟩ := mod7 hk
  have HX0 : Hid (Px w (W.alloc (.cells (opv o vm vd) 34)) mb v.ownBlock W.heap.size (opv o vm vd) sb mb rb v L L (W.alloc (.cells (opv o vm vd) 34)) ∧ Below W.heap.size W (W.alloc (.cells (opv o vm vd) 34))) := h.px (opv o vm vd)
  have HC : Hid (∀ W1 ob mb' v' L' M' W', Px w W1 mb v.ownBlock ob (opv o vm vd) sb mb' rb v' L' M' W' → W'.cell? ⟨ob, 0, none⟩ = some (.int .u8 (o.kd : Int)) ∧ W'.cell? ⟨ob, 1, none⟩ = some (.int .u8 (o.nm : Int)) ∧ W'.cell? ⟨ob, 2, none⟩ = some (.int .i64 o.pl) ∧ W'.cell? ⟨ob, 3, none⟩ = some vm ∧ W'.cell? ⟨ob, 4, none⟩ = some vd) := fun W1 ob mb' v' L' M' W' hp => ⟨hp.cell 0, hp.cell 1, hp.cell 2, hp.cell 3, hp.cell 4⟩
  have HD : Hid (Gdl L ∧ Bd k L) := ⟨h.g, h.bd⟩
  have HF : Hid o.fit := hf
  have hkd : (o.kd : Int) < 256 := by have := hf.1; omega
  obtain ⟨bx, hbx⟩ : ∃ bx, opv o vm vd = bx := ⟨_, rfl⟩
  have HBX : Hid (opv o vm vd = bx) := hbx
  rw [hbx] at HX0 HC
  clear h hk hf hbx
  unfold opv at HBX ⊢
  go_enter Try.func14, Try.ntmps14
  go_upto_region 1 with fail
  rw [HBX.out]
  obtain ⟨ob, hob⟩ : ∃ ob, W.heap.size = ob := ⟨_, rfl⟩
  obtain ⟨W1, hW1⟩ : ∃ W1, W.alloc (.cells bx 34) = W1 := ⟨_, rfl⟩
  rw [hW1] at HX0 ⊢
  have HX : Hid (Px w W1 mb v.ownBlock ob bx sb mb rb v L L W1) := hob ▸ HX0.out.1
  have HB0 : Hid (Below W.heap.size W W1) := HX0.out.2
  rw [hob]
  obtain ⟨c0, c1, c2, c3, c4⟩ := HC.out _ _ _ _ _ _ _ HX.out
  clear HX0 hW1 hob HBX
  rw [HVM.out] at c3
  have HR : Hid (∀ W', Below w.heap.size w W' → RdK W' (.slice ma mn mc) o.ms) := hR
  have hml : o.ms.length = mn := by obtain ⟨_, _, e, _⟩ := hR _ HX.out.bel; cases e; rfl
  rw [hml] at hl
  have HM : Hid (o.ms.length = mn) := hml
  clear hR hml c1 c2 c4 HC
  go_wp2
  go_loopw [12, 74] (fun t12 t74 wr => ∃ (i : Nat) (tv : Value), i ≤ mn ∧ t74 = .int .i64 i ∧ tv = t12 ∧ Hid (wr.ownsRow W1.heap.size 26 2 tv (cap39 (o.ms.take i)).length (kcl (cap39 (o.ms.take i))) ∧ Below W1.heap.size W1 wr)) (fun _ t74 _ => mn - (intOf t74).toNat)
  case atStart => exact ⟨0, _, Nat.zero_le _, rfl, rfl, World.ownsRow_nil _ _ _ _, Below.refl _ _⟩
  case round =>
    obtain ⟨i, tv, hi, rfl, rfl, HK⟩ := hrel
    by_cases hlt : i < mn
    · obtain ⟨q, hq⟩ : ∃ q, o.ms[i]? = some q := ⟨o.ms[i]'(by rw [HM.out]; exact hlt), List.getElem?_eq_getElem _⟩
      have HB : Hid (Below w.heap.size w wr) := HX.out.bel.trans (HK.out.2.mono HX.out.bel.size)
      obtain ⟨a', cap', ev, hrd⟩ := HR.out _ HB.out
      obtain ⟨rfl, hmq, rfl⟩ := Value.slice.inj ev
      clear ev hmq
      obtain ⟨g, of, rfl, hg, hcs⟩ := hrd (fun e => by rw [e] at hq; cases hq)
      obtain ⟨y0, y1⟩ := hcs i q hq
      obtain ⟨z0, z1⟩ := new2 wr (.int .u8 (q.1 : Int)) (.int .i64 q.2) 26
      have HT : Hid (cap39 (o.ms.take (i + 1)) = cap39 (o.ms.take i) ++ [(q.1, if 549755813888 < q.2 then 549755813888 else q.2)]) := by
        show cap39 _ = _
        rw [List.take_add_one, hq]
        simp [cap39]
      have hln : (cap39 (o.ms.take i)).length ≤ 1048576 := by simp [cap39]; omega
      have HK2 : Hid ((wr.alloc (.cells #[.int .u8 (q.1 : Int), .int .i64 q.2] 26)).ownsRow W1.heap.size 26 2 tv (cap39 (o.ms.take i)).length (kcl (cap39 (o.ms.take i))) ∧ Below W1.heap.size W1 (wr.alloc (.cells #[.int .u8 (q.1 : Int), .int .i64 q.2] 26))) := ⟨HK.out.1.alloc _, HK.out.2.alloc HK.out.2.size _⟩
      clear hrd hcs hq hg
      go_upto_region 16 with fail
      obtain ⟨W2, hW2⟩ : ∃ W2, wr.alloc (.cells #[.int .u8 (q.1 : Int), .int .i64 q.2] 26) = W2 := ⟨_, rfl⟩
      rw [hW2] at HK2 z0 z1 ⊢
      obtain ⟨xb, hxb⟩ : ∃ xb, wr.heap.size = xb := ⟨_, rfl⟩
      rw [hxb] at z0 z1 ⊢
      clear HK hW2 hxb y0 y1
      go_wp2_with (first
        | (at_builtin; refine app_one rfl _ _ rfl W1.heap.size _ (cap39 (o.ms.take i)) rfl (q.1, if 549755813888 < q.2 then 549755813888 else q.2) HK2.out.1 _ rfl (by omega) HK2.out.2.size ?_; intro v' w3 hown hg hob; have HK3 : Hid (w3.ownsRow W1.heap.size 26 2 v' (cap39 (o.ms.take (i + 1))).length (kcl (cap39 (o.ms.take (i + 1)))) ∧ Below W1.heap.size W1 w3) := (by rw [HT.out]; refine ⟨hown, ?_⟩; have hb := HK2.out.2.alloc HK2.out.2.size (.cells #[.int .u8 (q.1 : Int), .int .i64 (if 549755813888 < q.2 then 549755813888 else q.2)] 26); exact hb.grown hg hb.size (fun j e => (HK2.out.1.lt j e).1)); clear hown hg hob HK2))
      exact ⟨⟨i + 1, _, by omega, by go_num, rfl, HK3.out⟩, by simp [intOf]; omega⟩
    · obtain rfl : i = mn := by omega
      have htk : o.ms.take i = o.ms := List.take_of_length_le (by rw [HM.out]; exact Nat.le_refl _)
      have HK2 : Hid (wr.ownsRow W1.heap.size 26 2 tv (cap39 o.ms).length (kcl (cap39 o.ms)) ∧ Below W1.heap.size W1 wr) := by have h1 := HK.out; rw [htk] at h1; exact h1
      have HY : Hid (Px w W1 mb v.ownBlock ob bx sb mb rb v L L wr) := HX.out.below HK2.out.2
      have hcl : (cap39 o.ms).length = i := by rw [← HM.out]; simp [cap39]
      obtain ⟨ta, tc, etv, _⟩ := RdK.of_row HK2.out.1
      rw [hcl] at etv HK2
      subst etv
      have C1 := load_any HY.out.st (a := ta) (N := i) (cap := tc) hcl (by omega) (cap_fit HF.out.2.2.2.1) (fun W' hc => RdK.of_row (by rw [hcl]; exact row_ch HK2.out.1 HY.out.st hc))
      have HLN : Hid ((cap39 o.ms).length = i) := hcl
      clear HK htk hlt HX hcl
      go_wp2_with (first
        | (go_at_call 18; refine C1.mono ?_; clear C1; rintro e w2 ⟨rfl, mb2, hs2, hc2, hn2⟩; have HR2 : Hid (w2.ownsRow W1.heap.size 26 2 (.slice ta i tc) i (kcl (cap39 o.ms))) := row_ch HK2.out.1 HY.out.st hc2; have H2 : Hid (Px w W1 mb v.ownBlock ob bx sb mb2 rb v (ld [] (cap39 o.ms)) L w2) := HY.out.set hs2 hc2 hn2.x; clear hs2 hc2 hn2 HY HK2)
        | (go_at_call 32; refine (rload_any H2.out.rs HLN.out (by omega) (cap_fit HF.out.2.2.2.1) (fun W' hc => RdK.of_row (by rw [HLN.out]; exact row_chR HR2.out H2.out.rs hc))).mono ?_; rintro e w3 ⟨rfl, v3, hs3, hc3, hn3⟩; have H3 : Hid (Px w W1 mb v.ownBlock ob bx sb mb2 rb v3 (ld [] (cap39 o.ms)) (ld [] (cap39 o.ms)) w3) := H2.out.ref hs3 hc3.more (fun k hk => .inr ((hn3 k hk).resolve_left (by simp))); clear hs3 hc3 hn3 H2))
      go_ret
      exact ⟨rfl, H3.out.done HB0.out Gdl.nil.ld (Bd.ld (Bd.nil _) cap_le)⟩
set_option maxRecDepth 100000 in
set_option maxHeartbeats 2000000 in
theorem play4 (h : Pl w W sb mb rb v L k) (hf : o.fit) (hk : o.kd % 7 = 4) {da : Option Addr} {dn dc : Nat} (hvd : vd = .slice da dn dc) (hR : ∀ W2, Below w.heap.size w W2 → RdD W2 (.slice da dn dc) o.ds) (hl : o.ds.length ≤ 1048576) (hs : dls o.ds ≤ 1048576) (hkb : k ≤ 2097152) : Calls Try.prog 14 #[.pointer (some ⟨sb, 0, none⟩), .pointer (some ⟨rb, 0, none⟩), .agg (opv o vm vd)] W fun e W' => e = .returned (.bool true) ∧ Pdn w W sb mb rb v k W' := by
  have HVM : Hid (vd = .slice da dn dc) := hvd
  clear hvd
  obtain ⟨h1, h2⟩ := mod7 hk
  have HX0 : Hid (Px w (W.alloc (.cells (opv o vm vd) 34)) mb v.ownBlock W.heap.size (opv o vm vd) sb mb rb v L L (W.alloc (.cells (opv o vm vd) 34)) ∧ Below W.heap.size W (W.alloc (.cells (opv o vm vd) 34))) := h.px (opv o vm vd)
  have HC : Hid (∀ W1 ob mb' v' L' M' W', Px w W1 mb v.ownBlock ob (opv o vm vd) sb mb' rb v' L' M' W' → W'.cell? ⟨ob, 0, none⟩ = some (.int .u8 (o.kd : Int)) ∧ W'.cell? ⟨ob, 1, none⟩ = some (.int .u8 (o.nm : Int)) ∧ W'.cell? ⟨ob, 2, none⟩ = some (.int .i64 o.pl) ∧ W'.cell? ⟨ob, 3, none⟩ = some vm ∧ W'.cell? ⟨ob, 4, none⟩ = some vd) := fun W1 ob mb' v' L' M' W' hp => ⟨hp.cell 0, hp.cell 1, hp.cell 2, hp.cell 3, hp.cell 4⟩
  have HD : Hid (Gdl L ∧ Bd k L) := ⟨h.g, h.bd⟩
  have HF : Hid o.fit := hf
  have hkd : (o.kd : Int) < 256 := by have := hf.1; omega
  obtain ⟨bx, hbx⟩ : ∃ bx, opv o vm vd = bx := ⟨_, rfl⟩
  have HBX : Hid (opv o vm vd = bx) := hbx
  rw [hbx] at HX0 HC
  clear h hk hf hbx
  unfold opv at HBX ⊢
  go_enter Try.func14, Try.ntmps14
  go_upto_region 1 with fail
  rw [HBX.out]
  obtain ⟨ob, hob⟩ : ∃ ob, W.heap.size = ob := ⟨_, rfl⟩
  obtain ⟨W1, hW1⟩ : ∃ W1, W.alloc (.cells bx 34) = W1 := ⟨_, rfl⟩
  rw [hW1] at HX0 ⊢
  have HX : Hid (Px w W1 mb v.ownBlock ob bx sb mb rb v L L W1) := hob ▸ HX0.out.1
  have HB0 : Hid (Below W.heap.size W W1) := HX0.out.2
  rw [hob]
  obtain ⟨c0, c1, c2, c3, c4⟩ := HC.out _ _ _ _ _ _ _ HX.out
  clear HX0 hW1 hob HBX
  rw [HVM.out] at c4
  have HR : Hid (∀ W', Below w.heap.size w W' → RdD W' (.slice da dn dc) o.ds) := hR
  have hml : o.ds.length = dn := by obtain ⟨_, _, e, _⟩ := hR _ HX.out.bel; cases e; rfl
  rw [hml] at hl
  have HM : Hid (o.ds.length = dn ∧ dls o.ds ≤ 1048576) := ⟨hml, hs⟩
  have CF := far_any hml (by omega) (hR _ HX.out.bel) 0
  clear hR hml hs
  by_cases hlt : dn < 1000
  · cases hfar : farP 0 o.ds with
    | true =>
      rw [hfar] at CF
      clear hfar
      go_wp2_with (first
        | (go_at_call 19; refine CF.mono ?_; clear CF; rintro e w2 ⟨rfl, hb2⟩; have H2 : Hid (Px w W1 mb v.ownBlock ob bx sb mb rb v L L w2) := HX.out.below hb2; clear hb2 HX))
      go_ret
      exact ⟨rfl, H2.out.done HB0.out HD.out.1 HD.out.2.mono⟩
    | false =>
      rw [hfar] at CF
      have HDS : Hid (∀ d ∈ o.ds, 0 ≤ d.a ∧ d.a ≤ 1099511627776) := fun d hd => by
        unfold farP at hfar
        rw [Bool.or_eq_false_iff] at hfar
        have := List.any_eq_false.1 hfar.2 d hd
        simp at this
        omega
      have HLB : Hid (∀ p ∈ L, 0 ≤ p.2 ∧ p.2 ≤ 1125899906842624) := fun p hp => by have := HD.out.2 p hp; omega
      clear hfar
      go_wp2_with (first
        | (go_at_call 19; refine CF.mono ?_; clear CF; rintro e w2 ⟨rfl, hb2⟩; have H2 : Hid (Px w W1 mb v.ownBlock ob bx sb mb rb v L L w2) := HX.out.below hb2; have e4 := (HC.out _ _ _ _ _ _ _ H2.out).2.2.2.2; rw [HVM.out] at e4; clear hb2 HX)
        | (go_at_call 20; refine (move_any H2.out.st HD.out.1 HM.out.1 (by omega) HF.out.2.2.2.2 (fun W' hc => HR.out _ (H2.out.lowS hc))).mono ?_; rintro e w3 ⟨rfl, hs3, hc3⟩; have H3 : Hid (Px w W1 mb v.ownBlock ob bx sb mb rb v (mvL o.ds L) L w3) := H2.out.set hs3 hc3 (Nx.refl _ _); have f4 := (HC.out _ _ _ _ _ _ _ H3.out).2.2.2.2; rw [HVM.out] at f4; clear hs3 hc3 H2)
        | (go_at_call 29; refine (rmove_any H3.out.rs HM.out.1 (by omega) HF.out.2.2.2.2 HDS.out HM.out.2 HLB.out (fun W' hc => HR.out _ (H3.out.lowR hc))).mono ?_; rintro e w4 ⟨rfl, hs4, hc4⟩; have H4 : Hid (Px w W1 mb v.ownBlock ob bx sb mb rb v (mvL o.ds L) (mvL o.ds L) w4) := H3.out.ref hs4 hc4 (Nx.refl _ _); clear hs4 hc4 H3))
      go_ret
      exact ⟨rfl, H4.out.done HB0.out HD.out.1.move (HD.out.2.move (fun d hd => (HDS.out d hd).1) HM.out.2)⟩
  · go_wp2
    go_ret
    exact ⟨rfl, HX.out.done HB0.out HD.out.1 HD.out.2.mono⟩
end
end Go.Proofs.Ytolafffpgkgadaa
