/-
  The walk of the law MarksBack: by an edit and the one that takes it back a place comes back; deltas one by one are the same as all at once. Conditions: what the law reads is of at most 1048576 values and letters.
-/
import Derived.Test.YtiehhafbblbbiaaUMks
import Derived.Test.YtiehhafbblbbiaaELay
import Derived.Test.YtiehhafbblbbiaaEAny
import Derived.Test.YtiehhafbblbbiaaEMove
import Derived.Test.YtiehhafbblbbiaaELst
import Derived.Deep.RegionHeld3
import Derived.Deep.DeepCutAuto
namespace Go.Proofs.Ytiehhafbblbbiaa
open Go.RowKit

def dc (d : Dl) : Obj := .cells #[.int .i64 d.a, .string d.o, .string d.i] 64 (0, 0)
/-- two deltas lie in the blocks b and b' -/
structure BW (w : World) (b b' : Nat) (d d' : Dl) (W : World) : Prop where
  bel : Below w.heap.size w W
  blk : W.heap[b]? = some (dc d)
  blk' : W.heap[b']? = some (dc d')
theorem BW.cells {w W : World} {b b' : Nat} {d d' : Dl} (h : BW w b b' d d' W) : W.cell? ⟨b, 0, none⟩ = some (.int .i64 d.a) ∧ W.cell? ⟨b, 1, none⟩ = some (.string d.o) ∧ W.cell? ⟨b, 2, none⟩ = some (.string d.i) ∧ W.cell? ⟨b', 0, none⟩ = some (.int .i64 d'.a) ∧ W.cell? ⟨b', 1, none⟩ = some (.string d'.o) ∧ W.cell? ⟨b', 2, none⟩ = some (.string d'.i) := by
  simp [World.cell?, h.blk, h.blk', dc]
theorem BW.below {w W W' : World} {b b' : Nat} {d d' : Dl} (h : BW w b b' d d' W) (hb : Below W.heap.size W W') : BW w b b' d d' W' := ⟨h.bel.trans (hb.mono h.bel.size), (hb.block b (Array.getElem?_eq_some_iff.1 h.blk).1).trans h.blk, (hb.block b' (Array.getElem?_eq_some_iff.1 h.blk').1).trans h.blk'⟩
theorem BW.drew {w W : World} {b b' : Nat} {d d' : Dl} (h : BW w b b' d d' W) : BW w b b' d d' W.drew := h.below ⟨rfl, rfl, rfl, Nat.le_refl _, fun _ _ => rfl⟩
theorem BW.alloc {w W : World} {b b' : Nat} {d d' : Dl} (h : BW w b b' d d' W) (o : Obj) : BW w b b' d d' (W.alloc o) := h.below ((Below.refl _ W).alloc (Nat.le_refl _) o)
theorem rdd_one {W : World} {g : Nat} {d : Dl} (h : W.heap[g]? = some (dc d)) : RdD W (.slice (some ⟨g, 0, none⟩) 1 1) [d] := by
  refine ⟨_, _, rfl, fun _ => ⟨g, 0, rfl, (Array.getElem?_eq_some_iff.1 h).1, fun k p hk => ?_⟩⟩
  match k, hk with
  | 0, hk => cases hk; simp [World.cell?, h, dc]
  | k + 1, hk => simp at hk
theorem rdd_two (w : World) (d d' : Dl) : RdD (w.alloc (.cells #[.int .i64 d.a, .string d.o, .string d.i, .int .i64 d'.a, .string d'.o, .string d'.i] 64)) (.slice (some ⟨w.heap.size, 0, none⟩) 2 2) [d, d'] := by
  have h := World.alloc_heap_new w (.cells #[.int .i64 d.a, .string d.o, .string d.i, .int .i64 d'.a, .string d'.o, .string d'.i] 64)
  refine ⟨_, _, rfl, fun _ => ⟨w.heap.size, 0, rfl, by simp, fun k p hk => ?_⟩⟩
  match k, hk with
  | 0, hk => cases hk; refine ⟨?_, ?_, ?_⟩ <;> (unfold World.cell?; rw [h]; rfl)
  | 1, hk => cases hk; refine ⟨?_, ?_, ?_⟩ <;> (unfold World.cell?; rw [h]; rfl)
  | k + 2, hk => simp at hk
theorem b2_new (W : World) (o o' : Obj) : ((W.alloc o).alloc o').heap[W.heap.size]? = some o ∧ ((W.alloc o).alloc o').heap[W.heap.size + 1]? = some o' := by
  have h := World.alloc_heap_new (W.alloc o) o'
  rw [World.size_alloc] at h
  exact ⟨(Below.heap_alloc _ _ _ (by simp)).trans (World.alloc_heap_new W o), h⟩
theorem b2_newd (W : World) (o o' : Obj) : ((W.alloc o).alloc o').drew.heap[W.heap.size]? = some o ∧ ((W.alloc o).alloc o').drew.heap[W.heap.size + 1]? = some o' := b2_new W o o'
theorem b2_kept {W W' : World} {o o' : Obj} (h : Below ((W.alloc o).alloc o').drew.heap.size ((W.alloc o).alloc o').drew W') : W'.heap[W.heap.size]? = some o ∧ W'.heap[W.heap.size + 1]? = some o' := by
  have hs : ((W.alloc o).alloc o').drew.heap.size = W.heap.size + 1 + 1 := by
    show ((W.alloc o).alloc o').heap.size = _
    rw [World.size_alloc, World.size_alloc]
  exact ⟨(h.block _ (by omega)).trans (b2_new W o o').1, (h.block _ (by omega)).trans (b2_new W o o').2⟩
theorem b1_newd (W : World) (o : Obj) : (W.alloc o).drew.heap[W.heap.size]? = some o := World.alloc_heap_new W o
/-- a region's tail that only reads -/
theorem anyH_quiet {P : Program} {md : Region.Mode} {ops : Array Oper} {C S : World → Prop} {Q : Act → Prop} {Q' : Exit → Act → World → Prop} (hS : ∀ w, C w → S w) (hQ : ∀ a w, C w → Q a → Q' .normal a w) : ∀ (fuel : Nat) (listed : Array Bool) (a : Act) (w : World), C w →
    wpAnyQ P md ops C Q fuel listed a → wpAnyH P md ops Q' S fuel listed a w
  | 0, _, _, _, hw, h => ⟨h.1, hQ _ _ hw h.2⟩
  | fuel + 1, _, _, _, hw, h => ⟨fun h0 => hQ _ _ hw (h.1 h0), fun i hi => wpOp_of_qOp hw (fun a' w' hw' hk => ⟨hS w' hw', anyH_quiet hS hQ fuel _ a' w' hw' hk⟩) (h.2 i hi)⟩
theorem anyH_tail {P : Program} {ops : Array Oper} {S : World → Prop} {Q : Exit → Act → World → Prop} {fuel k : Nat} {l : List Oper} {listed : Array Bool} {a : Act} {w : World} (hs : Region.noSelect ops = true) (hl : ops.toList.drop k = l) (hf : l.length = fuel) (hB : Region.lexFrom .any ops fuel k listed = true)
    (hS : ∀ m, S (w.drewN m)) (h : wpQuiet P ops (fun w' => ∃ n, w' = w.drewN n) (fun a' => ∀ w', (∃ n, w' = w.drewN n) → Q .normal a' w') l a) : wpAnyH P .any ops Q S fuel listed a w := by
  subst hf
  refine anyH_quiet (C := fun w' => ∃ n, w' = w.drewN n) (Q := fun a' => ∀ w', (∃ n, w' = w.drewN n) → Q .normal a' w') (fun w' ⟨m, e⟩ => e ▸ hS m) (fun _ w' hw' h => h w' hw') _ _ _ _ ⟨0, rfl⟩ (wpAnyQ_lex hs l k listed a (fun j => ?_) hB h)
  rw [← hl, List.getElem?_drop, Array.getElem?_toList]

/-- two sets side by side -/
structure Tw (w : World) (s1 b1 s2 b2 : Nat) (M1 M2 : Ml) (W : World) : Prop where
  st1 : St W s1 (some b1) M1
  st2 : St W s2 (some b2) M2
  bel : Below w.heap.size w W
  lo : w.heap.size ≤ s1 ∧ w.heap.size ≤ b1 ∧ w.heap.size ≤ s2 ∧ w.heap.size ≤ b2
  ne : s1 ≠ s2 ∧ s1 ≠ b2 ∧ b1 ≠ s2 ∧ b1 ≠ b2
theorem Tw.below {w W W' : World} {s1 b1 s2 b2 : Nat} {M1 M2 : Ml} (h : Tw w s1 b1 s2 b2 M1 M2 W) (hb : Below W.heap.size W W') : Tw w s1 b1 s2 b2 M1 M2 W' := ⟨h.st1.below hb, h.st2.below hb, h.bel.trans (hb.mono h.bel.size), h.lo, h.ne⟩
theorem Tw.alloc {w W : World} {s1 b1 s2 b2 : Nat} {M1 M2 : Ml} (h : Tw w s1 b1 s2 b2 M1 M2 W) (o : Obj) : Tw w s1 b1 s2 b2 M1 M2 (W.alloc o) := h.below ((Below.refl _ W).alloc (Nat.le_refl _) o)
theorem Tw.move1 {w W : World} {s1 b1 s2 b2 : Nat} {M1 M2 : Ml} (h : Tw w s1 b1 s2 b2 M1 M2 W) (hL : M1 ≠ []) (hS : SortsTo M1.length) {a : Option Addr} {N cap : Nat} {ds : List Dl} (hN : ds.length = N) (hl : N ≤ 140737488351232) (hf : ∀ d ∈ ds, d.fit) (hR : RdD w (.slice a N cap) ds) :
    Calls Try.prog 25 #[.pointer (some ⟨s1, 0, none⟩), .slice a N cap] W fun e w' => e = .returned (.tuple #[]) ∧ Tw w s1 b1 s2 b2 (mvL ds M1) M2 w' := by
  have lowb : ∀ W', Ch s1 (some b1) W W' → Below w.heap.size w W' := fun W' hc => hc.low h.bel (Nat.le_refl _) h.lo.1 (fun k e => by cases e; exact h.lo.2.1)
  refine (move_own h.st1 hL hS hN hl hf (fun W' hc => hR.below (Nat.le_refl _) (lowb W' hc))).mono ?_
  rintro e w' ⟨rfl, h1, hc⟩
  exact ⟨rfl, h1, h.st2.kept hc (Ne.symm h.ne.1) (fun e => h.ne.2.2.1 (Option.some.inj e)) (fun b e => by cases e; exact ⟨Ne.symm h.ne.2.1, fun e => h.ne.2.2.2 (Option.some.inj e)⟩), lowb _ hc, h.lo, h.ne⟩
theorem Tw.move2 {w W : World} {s1 b1 s2 b2 g : Nat} {M1 M2 : Ml} (h : Tw w s1 b1 s2 b2 M1 M2 W) (hL : M2 ≠ []) (hS : SortsTo M2.length) {d : Dl} (hf : d.fit) (hg : W.heap[g]? = some (dc d)) (n1 : g ≠ s2) (n2 : g ≠ b2) :
    Calls Try.prog 25 #[.pointer (some ⟨s2, 0, none⟩), .slice (some ⟨g, 0, none⟩) 1 1] W fun e w' => e = .returned (.tuple #[]) ∧ Tw w s1 b1 s2 b2 M1 (mvL [d] M2) w' := by
  have lowb : ∀ W', Ch s2 (some b2) W W' → Below w.heap.size w W' := fun W' hc => hc.low h.bel (Nat.le_refl _) h.lo.2.2.1 (fun k e => by cases e; exact h.lo.2.2.2)
  have hlt := (Array.getElem?_eq_some_iff.1 hg).1
  refine (move_own h.st2 hL hS (ds := [d]) rfl (by simp) (fun x hx => by rw [List.mem_singleton.1 hx]; exact hf) (fun W' hc => rdd_one ((hc.2.2.2.2 g hlt n1 (fun e => n2 (Option.some.inj e).symm)).trans hg))).mono ?_
  rintro e w' ⟨rfl, h1, hc⟩
  exact ⟨rfl, h.st1.kept hc h.ne.1 (fun e => h.ne.2.1 (Option.some.inj e).symm) (fun b e => by cases e; exact ⟨h.ne.2.2.1, fun e => h.ne.2.2.2 (Option.some.inj e).symm⟩), h1, lowb _ hc, h.lo, h.ne⟩
/-- the two marks of the law -/
def az (p : Int) : Ml := [(97, p), (122, p + 1)]
theorem az_ris (p : Int) : Ris (az p) := by simp [az, Ris]
theorem az_ld {p : Int} (h : 0 ≤ p) : ld [] (az p) = az p := ld_self (az_ris p) (fun q hq => by simp [az] at hq; rcases hq with rfl | rfl <;> rfl) (fun q hq => by simp [az] at hq; rcases hq with rfl | rfl <;> simp <;> omega)
theorem az_mv (p : Int) (ds : List Dl) : mvL ds (az p) = [(97, mvs p ds), (122, mvs (p + 1) ds)] := rfl
theorem az_gd (p : Int) (ds : List Dl) : Gdl (mvL ds (az p)) := fun q hq => by rw [az_mv] at hq; simp at hq; rcases hq with rfl | rfl <;> rfl
theorem az_get (p : Int) (ds : List Dl) : getE 97 (mvL ds (az p)) = (mvs p ds, 0) := by rw [az_mv]; simp [getE, gd, got]
theorem az_step (p : Int) {ds : List Dl} {k : Nat} {d : Dl} (h : ds[k]? = some d) : mvL [d] (mvL (ds.take k) (az p)) = mvL (ds.take (k + 1)) (az p) := by
  rw [az_mv, az_mv, mvs_take p h, mvs_take (p + 1) h]
  rfl
/-- there and back -/
theorem back_same {p a : Int} {o i : ByteArray} (hp : 0 ≤ p ∧ p < 65536) (ha : 0 ≤ a) (hi : i.size ≤ 1048576) (h : p ≤ a ∨ a + (o.size : Int) < p ∨ p = a + (o.size : Int) ∧ 0 < i.size) : mvP (mvP p ⟨a, o, i⟩) ⟨a, i, o⟩ = p := by
  by_cases c1 : p ≤ a
  · have e : ∀ x y, mvP p ⟨a, x, y⟩ = p := fun x y => by unfold mvP; rw [if_pos c1]
    rw [e, e]
  · have e : mvP p ⟨a, o, i⟩ = p - (o.size : Int) + (i.size : Int) := by
      unfold mvP
      rw [if_neg c1, if_neg (by simp only; omega)]
      simp only
      omega
    rw [e]
    unfold mvP
    rw [if_neg (by simp only; omega), if_neg (by simp only; omega)]
    simp only
    omega

set_option maxRecDepth 100000 in
set_option maxHeartbeats 8000000 in
theorem walk_of (ip ia : Int) (o i : ByteArray) (sa : Option Addr) (N cap : Nat) (w : World) (hp : 0 ≤ ip ∧ ip < 65536) (ha : 0 ≤ ia ∧ ia < 65536) (ho : o.size ≤ 1048576) (hi : i.size ≤ 1048576) (ds : List Dl) (hR : RdD w (.slice sa N cap) ds) (hb : ds.length + dls ds ≤ 1048576 ∧ ∀ x ∈ ds, x.fit) :
    Calls Try.prog 8 #[.int .u16 ip, .int .u16 ia, .string o, .string i, .slice sa N cap] w fun e w' => e = .returned (.bool true) ∧ Below w.heap.size w w' := by
  have CL := lays_any w
  have HR : Hid (RdD w (.slice sa N cap) ds ∧ ds.length = N ∧ N ≤ 1048576 ∧ ∀ x ∈ ds, x.fit) := ⟨hR, by obtain ⟨_, _, e, _⟩ := hR; cases e; rfl, by obtain ⟨_, _, e, _⟩ := hR; cases e; omega, hb.2⟩
  have d1 : Dl.fit ⟨ia, o, i⟩ := ⟨⟨by simp only; omega, by simp only; omega⟩, by simp only; unfold maxLen; omega, by simp only; unfold maxLen; omega⟩
  have d2 : Dl.fit ⟨ia, i, o⟩ := ⟨⟨by simp only; omega, by simp only; omega⟩, by simp only; unfold maxLen; omega, by simp only; unfold maxLen; omega⟩
  have hpk : i64ok ip := ⟨by omega, by omega⟩
  obtain ⟨y, hy⟩ : ∃ y, mvP ip ⟨ia, o, i⟩ = y := ⟨_, rfl⟩
  obtain ⟨x, hx⟩ : ∃ x, mvP y ⟨ia, i, o⟩ = x := ⟨_, rfl⟩
  have hyk : i64ok y := hy ▸ mvP_ok hpk d1
  have C1 : Hid (∀ (W : World) (g : Nat), g = W.heap.size → Calls Try.prog 12 #[.int .i64 ip, .slice (some ⟨g, 0, none⟩) 2 2] (W.alloc (.cells #[.int .i64 ia, .string o, .string i, .int .i64 ia, .string i, .string o] 64)) fun e W' => e = .returned (.int .i64 x) ∧ Below W.heap.size W W') := fun W g hg => by
    subst hg
    have hb1 : Below W.heap.size W (W.alloc (.cells #[.int .i64 ia, .string o, .string i, .int .i64 ia, .string i, .string o] 64)) := (Below.refl _ W).alloc (Nat.le_refl _) _
    have := Moved_any (N := 2) (cap := 2) (ds := [⟨ia, o, i⟩, ⟨ia, i, o⟩]) rfl (by decide) (fun d hd => by simp at hd; rcases hd with rfl | rfl; exact d1; exact d2) (rdd_two W ⟨ia, o, i⟩ ⟨ia, i, o⟩) ip hpk
    rw [show mvs ip [⟨ia, o, i⟩, ⟨ia, i, o⟩] = x by rw [← hx, ← hy]; rfl] at this
    refine this.mono ?_
    rintro e w' ⟨rfl, hb⟩
    exact ⟨rfl, hb1.trans (hb.mono hb1.size)⟩
  have CA : Hid (∀ W g, W.heap[g]? = some (.cells #[.int .i64 ia, .string o, .string i] 64 (0, 0)) → Calls Try.prog 12 #[.int .i64 ip, .slice (some ⟨g, 0, none⟩) 1 1] W fun e W' => e = .returned (.int .i64 y) ∧ Below W.heap.size W W') := fun W g h => by
    have := Moved_any (N := 1) (ds := [⟨ia, o, i⟩]) rfl (by decide) (fun d hd => by rw [List.mem_singleton.1 hd]; exact d1) (rdd_one (d := ⟨ia, o, i⟩) h) ip hpk
    rw [show mvs ip [⟨ia, o, i⟩] = y from hy] at this
    exact this
  have CB : Hid (∀ W g, W.heap[g]? = some (.cells #[.int .i64 ia, .string i, .string o] 64 (0, 0)) → Calls Try.prog 12 #[.int .i64 y, .slice (some ⟨g, 0, none⟩) 1 1] W fun e W' => e = .returned (.int .i64 x) ∧ Below W.heap.size W W') := fun W g h => by
    have := Moved_any (N := 1) (ds := [⟨ia, i, o⟩]) rfl (by decide) (fun d hd => by rw [List.mem_singleton.1 hd]; exact d2) (rdd_one (d := ⟨ia, i, o⟩) h) y hyk
    rw [show mvs y [⟨ia, i, o⟩] = x from hx] at this
    exact this
  have hsame : (ip ≤ ia ∨ ia + (o.size : Int) < ip ∨ ip = ia + (o.size : Int) ∧ 0 < i.size) → x = ip := fun h => by rw [← hx, ← hy]; exact back_same hp ha.1 hi h
  have HSM : Hid ((ip ≤ ia ∨ ia + (o.size : Int) < ip ∨ ip = ia + (o.size : Int) ∧ 0 < i.size) → x = ip) := hsame
  clear hsame hy hx hyk hpk d1 d2 hR hb
  go_enter Try.func8, Try.ntmps8
  go_upto_region 8 with (first
    | (go_at_call 9; refine CL.mono ?_; clear CL; rintro e w1 ⟨rfl, hb1⟩; have HB1 : Hid (Below w.heap.size w w1) := hb1; clear hb1)
    | (go_at_call 12; refine (C1.out _ _ (by rw [World.size_alloc, World.size_alloc])).mono ?_; clear C1; rintro e w2 ⟨rfl, hb2⟩; have HB2 : Hid (BW w w1.heap.size (w1.heap.size + 1) ⟨ia, o, i⟩ ⟨ia, i, o⟩ w2) := (show BW w w1.heap.size (w1.heap.size + 1) ⟨ia, o, i⟩ ⟨ia, i, o⟩ ((w1.alloc (dc ⟨ia, o, i⟩)).alloc (dc ⟨ia, i, o⟩)) from ⟨(HB1.out.alloc HB1.out.size _).alloc (HB1.out.alloc HB1.out.size _).size _, (b2_new _ _ _).1, (b2_new _ _ _).2⟩).below hb2; clear hb2 HB1))
  obtain ⟨db, hdb⟩ : ∃ db, w1.heap.size = db := ⟨_, rfl⟩
  obtain ⟨eb, heb⟩ : ∃ eb, db + 1 = eb := ⟨_, rfl⟩
  simp only [hdb, heb] at HB2 ⊢
  clear hdb heb
  go_cut [79] (fun t79 wc => t79 = .bool false ∧ Hid (BW w db eb ⟨ia, o, i⟩ ⟨ia, i, o⟩ wc))
  case first =>
    have hcase : (ip ≤ ia ∧ ip = x) ∨ (¬ ip ≤ ia ∧ ia + (o.size : Int) < ip ∧ ip = x) ∨ (¬ ip ≤ ia ∧ ¬ ia + (o.size : Int) < ip ∧ ip = ia + (o.size : Int) ∧ i.toList ≠ [] ∧ ip = x) ∨ (¬ ip ≤ ia ∧ ¬ ia + (o.size : Int) < ip ∧ ip = ia + (o.size : Int) ∧ i.toList = []) ∨ (¬ ip ≤ ia ∧ ¬ ia + (o.size : Int) < ip ∧ ¬ ip = ia + (o.size : Int)) := by
      by_cases c1 : ip ≤ ia
      · exact .inl ⟨c1, (HSM.out (.inl c1)).symm⟩
      · by_cases c2 : ia + (o.size : Int) < ip
        · exact .inr (.inl ⟨c1, c2, (HSM.out (.inr (.inl c2))).symm⟩)
        · by_cases c3 : ip = ia + (o.size : Int)
          · by_cases c4 : i.toList = []
            · exact .inr (.inr (.inr (.inl ⟨c1, c2, c3, c4⟩)))
            · refine .inr (.inr (.inl ⟨c1, c2, c3, c4, (HSM.out (.inr (.inr ⟨c3, ?_⟩))).symm⟩))
              rcases Nat.eq_zero_or_pos i.size with h | h
              · refine absurd ?_ c4
                obtain rfl : i = ⟨#[]⟩ := ByteArray.ext (Array.eq_empty_of_size_eq_zero h)
                first | decide | simp [ByteArray.toList, ByteArray.toList.loop] | kernel_rfl
              · exact h
          · exact .inr (.inr (.inr (.inr ⟨c1, c2, c3⟩)))
    clear HSM
    refine wp_region_noPanic ?_
    refine wp_region_held_drew (S := fun w' => w'.cell? ⟨db, 0, none⟩ = some (.int .i64 ia) ∧ w'.cell? ⟨db, 1, none⟩ = some (.string o) ∧ w'.cell? ⟨db, 2, none⟩ = some (.string i) ∧ w'.cell? ⟨eb, 0, none⟩ = some (.int .i64 ia) ∧ w'.cell? ⟨eb, 1, none⟩ = some (.string i) ∧ w'.cell? ⟨eb, 2, none⟩ = some (.string o)) (by kernel_rfl) HB2.out.drew.cells (fun hHeld => ?_)
    refine wpAnyH_take (i := 0) (v := ?_) rfl (by kernel_rfl) (by kernel_rfl) (by kernel_rfl) (fun _ _ _ h => h) (Or.inl ⟨by rfl, ?_⟩) (by assumption) ?_
    case refine_2 => (intro w hSw; (try dsimp only at hSw); go_simp; try with_reducible rfl)
    try simp only [Act.put, List.setIfInBounds_toArray]
    refine wpAnyH_take (i := 1) (v := ?_) rfl (by kernel_rfl) (by kernel_rfl) (by kernel_rfl) (fun _ _ _ h => h) (Or.inl ⟨by rfl, ?_⟩) (by assumption) ?_
    case refine_2 => (intro w hSw; (try dsimp only at hSw); go_simp; try with_reducible rfl)
    try simp only [Act.put]
    refine wpAnyH_take (i := 2) (v := ?_) rfl (by kernel_rfl) (by kernel_rfl) (by kernel_rfl) (fun _ _ _ h => h) (Or.inl ⟨by rfl, ?_⟩) (by assumption) ?_
    case refine_2 => (intro w hSw; (try dsimp only at hSw); go_simp; try with_reducible rfl)
    try simp only [Act.put]
    refine wpAnyH_take (i := 5) (v := ?_) rfl (by kernel_rfl) (by kernel_rfl) (by kernel_rfl) (fun _ _ _ h => h) (Or.inl ⟨by rfl, ?_⟩) (by assumption) ?_
    case refine_2 => (intro w hSw; (try dsimp only at hSw); go_simp; try with_reducible rfl)
    try simp only [Act.put]
    refine wpAnyH_ready (rs := [3, 6]) (by kernel_rfl) (by simp) ?_
    refine AllReadyH.cons rfl (fun K hK => ?_) (AllReadyH.cons rfl (fun K hK => ?_) AllReadyH.nil)
    · go_simp
      refine hK.out _ _ (by (try dsimp only); first | exact HB2.out.cells | exact (HB2.out.alloc _).cells | exact HB2.out.drew.cells | exact (HB2.out.alloc _).drew.cells | exact ((HB2.out.alloc _).alloc _).cells | exact ((HB2.out.alloc _).alloc _).drew.cells) (fun hHeld2 => ?_)
      clear hK K hHeld
      have hHeld := hHeld2
      clear hHeld2
      try simp only [Act.put, List.setIfInBounds_toArray, List.set_cons_zero, List.set_cons_succ]
      refine wpAnyH_ready (rs := [4, 6]) (by kernel_rfl) (by simp) ?_
      refine AllReadyH.cons rfl (fun K hK => ?_) (AllReadyH.cons rfl (fun K hK => ?_) AllReadyH.nil)
      · go_simp
        first
          | (go_at_call 12; guard_target = Calls _ _ #[Value.int IntKind.i64 ip, _] (World.drew (World.alloc (World.alloc _ _) _)) _; refine (CA.out _ _ (by first | exact (b2_newd _ _ _).1 | exact (b2_newd _ _ _).2)).mono ?_; clear CA; rintro e w4 ⟨rfl, hb4⟩; have HK : Hid _ := b2_kept hb4; have HWn : Hid (BW w db eb ⟨ia, o, i⟩ ⟨ia, i, o⟩ w4) := ((HB2.out.alloc _).alloc _).drew.below hb4; clear HB2 hb4; have HB2 := HWn; clear HWn)
          | (go_at_call 12; guard_target = Calls _ _ #[Value.int IntKind.i64 ip, _] (World.drew (World.alloc _ _)) _; refine (CA.out _ _ (b1_newd _ _)).mono ?_; clear CA; rintro e w4 ⟨rfl, hb4⟩; have HWn : Hid (BW w db eb ⟨ia, o, i⟩ ⟨ia, i, o⟩ w4) := (HB2.out.alloc _).drew.below hb4; clear HB2 hb4; have HB2 := HWn; clear HWn)
          | (go_at_call 12; guard_target = Calls _ _ #[Value.int IntKind.i64 ip, _] (World.alloc _ _) _; refine (CA.out _ _ (World.alloc_heap_new _ _)).mono ?_; clear CA; rintro e w4 ⟨rfl, hb4⟩; have HWn : Hid (BW w db eb ⟨ia, o, i⟩ ⟨ia, i, o⟩ w4) := (HB2.out.alloc _).below hb4; clear HB2 hb4; have HB2 := HWn; clear HWn)
          | (go_at_call 12; guard_target = Calls _ _ #[Value.int IntKind.i64 ip, _] _ _; refine (CA.out _ _ (by first | exact HK.out.1 | exact HK.out.2)).mono ?_; clear CA; rintro e w4 ⟨rfl, hb4⟩; have HWn : Hid (BW w db eb ⟨ia, o, i⟩ ⟨ia, i, o⟩ w4) := HB2.out.below hb4; clear HB2 hb4; have HB2 := HWn; clear HWn)
        refine hK.out _ _ (by (try dsimp only); first | exact HB2.out.cells | exact (HB2.out.alloc _).cells | exact HB2.out.drew.cells | exact (HB2.out.alloc _).drew.cells | exact ((HB2.out.alloc _).alloc _).cells | exact ((HB2.out.alloc _).alloc _).drew.cells) (fun hHeld2 => ?_)
        clear hK K hHeld
        have hHeld := hHeld2
        clear hHeld2
        try simp only [Act.put, List.setIfInBounds_toArray, List.set_cons_zero, List.set_cons_succ]
        refine wpAnyH_ready (rs := [6]) (by kernel_rfl) (by simp) ?_
        refine AllReadyH.cons rfl (fun K hK => ?_) AllReadyH.nil
        go_simp
        refine hK.out _ _ (by (try dsimp only); first | exact HB2.out.cells | exact (HB2.out.alloc _).cells | exact HB2.out.drew.cells | exact (HB2.out.alloc _).drew.cells | exact ((HB2.out.alloc _).alloc _).cells | exact ((HB2.out.alloc _).alloc _).drew.cells) (fun hHeld2 => ?_)
        clear hK K hHeld
        have hHeld := hHeld2
        clear hHeld2
        try simp only [Act.put, List.setIfInBounds_toArray, List.set_cons_zero, List.set_cons_succ]
        refine wpAnyH_ready (rs := [7]) (by kernel_rfl) (by simp) ?_
        refine AllReadyH.cons rfl (fun K hK => ?_) AllReadyH.nil
        go_simp
        first
          | (go_at_call 12; guard_target = Calls _ _ #[Value.int IntKind.i64 y, _] (World.drew (World.alloc (World.alloc _ _) _)) _; refine (CB.out _ _ (by first | exact (b2_newd _ _ _).1 | exact (b2_newd _ _ _).2)).mono ?_; clear CB; rintro e w4 ⟨rfl, hb4⟩; have HK : Hid _ := b2_kept hb4; have HWn : Hid (BW w db eb ⟨ia, o, i⟩ ⟨ia, i, o⟩ w4) := ((HB2.out.alloc _).alloc _).drew.below hb4; clear HB2 hb4; have HB2 := HWn; clear HWn)
          | (go_at_call 12; guard_target = Calls _ _ #[Value.int IntKind.i64 y, _] (World.drew (World.alloc _ _)) _; refine (CB.out _ _ (b1_newd _ _)).mono ?_; clear CB; rintro e w4 ⟨rfl, hb4⟩; have HWn : Hid (BW w db eb ⟨ia, o, i⟩ ⟨ia, i, o⟩ w4) := (HB2.out.alloc _).drew.below hb4; clear HB2 hb4; have HB2 := HWn; clear HWn)
          | (go_at_call 12; guard_target = Calls _ _ #[Value.int IntKind.i64 y, _] (World.alloc _ _) _; refine (CB.out _ _ (World.alloc_heap_new _ _)).mono ?_; clear CB; rintro e w4 ⟨rfl, hb4⟩; have HWn : Hid (BW w db eb ⟨ia, o, i⟩ ⟨ia, i, o⟩ w4) := (HB2.out.alloc _).below hb4; clear HB2 hb4; have HB2 := HWn; clear HWn)
          | (go_at_call 12; guard_target = Calls _ _ #[Value.int IntKind.i64 y, _] _ _; refine (CB.out _ _ (by first | exact HK.out.1 | exact HK.out.2)).mono ?_; clear CB; rintro e w4 ⟨rfl, hb4⟩; have HWn : Hid (BW w db eb ⟨ia, o, i⟩ ⟨ia, i, o⟩ w4) := HB2.out.below hb4; clear HB2 hb4; have HB2 := HWn; clear HWn)
        refine hK.out _ _ (by (try dsimp only); first | exact HB2.out.cells | exact (HB2.out.alloc _).cells | exact HB2.out.drew.cells | exact (HB2.out.alloc _).drew.cells | exact ((HB2.out.alloc _).alloc _).cells | exact ((HB2.out.alloc _).alloc _).drew.cells) (fun hHeld2 => ?_)
        clear hK K hHeld
        have hHeld := hHeld2
        clear hHeld2
        try simp only [Act.put, List.setIfInBounds_toArray, List.set_cons_zero, List.set_cons_succ]
        have HD : Hid (∀ m, BW w db eb ⟨ia, o, i⟩ ⟨ia, i, o⟩ (w4.drewN m)) := fun m => HB2.out.below ⟨rfl, rfl, rfl, Nat.le_refl _, fun _ _ => rfl⟩
        rcases hcase with ⟨c1, rfl⟩ | ⟨c1, c2, rfl⟩ | ⟨c1, c2, c3, c4, rfl⟩ | ⟨c1, c2, c3, c4⟩ | ⟨c1, c2, c3⟩
        · have g1 : decide (ip ≤ ia) = true := decide_eq_true c1
          refine anyH_tail (k := 8) (by kernel_rfl) rfl rfl (by kernel_rfl) (fun m => (HD.out m).cells) ?_
          simp only [List.drop_succ_cons, List.drop_zero]
          repeat (go_big_quiet_step (fail))
          refine wpQuiet_nil ?_
          intro _ hw'
          obtain ⟨nq, hw''⟩ := hw'
          subst hw''
          refine NoPanic.normal ?_
          go_wp2
          go_meet
          case rel => exact ⟨rfl, HD.out nq⟩
        · have g1 : decide (ip ≤ ia) = false := decide_eq_false c1
          have g6 : IntKind.i64.wrap (ia + (o.size : Int)) = ia + (o.size : Int) := wi64 (by omega) (by omega)
          have g2 : decide (ia + (o.size : Int) < ip) = true := decide_eq_true c2
          refine anyH_tail (k := 8) (by kernel_rfl) rfl rfl (by kernel_rfl) (fun m => (HD.out m).cells) ?_
          simp only [List.drop_succ_cons, List.drop_zero]
          repeat (go_big_quiet_step (fail))
          refine wpQuiet_nil ?_
          intro _ hw'
          obtain ⟨nq, hw''⟩ := hw'
          subst hw''
          refine NoPanic.normal ?_
          go_wp2
          go_meet
          case rel => exact ⟨rfl, HD.out nq⟩
        · have g1 : decide (ip ≤ ia) = false := decide_eq_false c1
          have g6 : IntKind.i64.wrap (ia + (o.size : Int)) = ia + (o.size : Int) := wi64 (by omega) (by omega)
          have g2 : decide (ia + (o.size : Int) < ip) = false := decide_eq_false c2
          have g3 : (ip == ia + (o.size : Int)) = true := beq_iff_eq.2 c3
          clear c3
          have g4 : i.toList.isEmpty = false := by simpa using c4
          refine anyH_tail (k := 8) (by kernel_rfl) rfl rfl (by kernel_rfl) (fun m => (HD.out m).cells) ?_
          simp only [List.drop_succ_cons, List.drop_zero]
          repeat (go_big_quiet_step (fail))
          refine wpQuiet_nil ?_
          intro _ hw'
          obtain ⟨nq, hw''⟩ := hw'
          subst hw''
          refine NoPanic.normal ?_
          go_wp2
          go_meet
          case rel => exact ⟨rfl, HD.out nq⟩
        · have g1 : decide (ip ≤ ia) = false := decide_eq_false c1
          have g6 : IntKind.i64.wrap (ia + (o.size : Int)) = ia + (o.size : Int) := wi64 (by omega) (by omega)
          have g2 : decide (ia + (o.size : Int) < ip) = false := decide_eq_false c2
          have g3 : (ip == ia + (o.size : Int)) = true := beq_iff_eq.2 c3
          clear c3
          have g4 : i.toList.isEmpty = true := by simpa using c4
          refine anyH_tail (k := 8) (by kernel_rfl) rfl rfl (by kernel_rfl) (fun m => (HD.out m).cells) ?_
          simp only [List.drop_succ_cons, List.drop_zero]
          repeat (go_big_quiet_step (fail))
          refine wpQuiet_nil ?_
          intro _ hw'
          obtain ⟨nq, hw''⟩ := hw'
          subst hw''
          refine NoPanic.normal ?_
          go_wp2
          go_meet
          case rel => exact ⟨rfl, HD.out nq⟩
        · have g1 : decide (ip ≤ ia) = false := decide_eq_false c1
          have g6 : IntKind.i64.wrap (ia + (o.size : Int)) = ia + (o.size : Int) := wi64 (by omega) (by omega)
          have g2 : decide (ia + (o.size : Int) < ip) = false := decide_eq_false c2
          have g3 : (ip == ia + (o.size : Int)) = false := beq_eq_false_iff_ne.2 c3
          refine anyH_tail (k := 8) (by kernel_rfl) rfl rfl (by kernel_rfl) (fun m => (HD.out m).cells) ?_
          simp only [List.drop_succ_cons, List.drop_zero]
          repeat (go_big_quiet_step (fail))
          refine wpQuiet_nil ?_
          intro _ hw'
          obtain ⟨nq, hw''⟩ := hw'
          subst hw''
          refine NoPanic.normal ?_
          go_wp2
          go_meet
          case rel => exact ⟨rfl, HD.out nq⟩
      · go_simp
        refine hK.out _ _ (by (try dsimp only); first | exact HB2.out.cells | exact (HB2.out.alloc _).cells | exact HB2.out.drew.cells | exact (HB2.out.alloc _).drew.cells | exact ((HB2.out.alloc _).alloc _).cells | exact ((HB2.out.alloc _).alloc _).drew.cells) (fun hHeld2 => ?_)
        clear hK K hHeld
        have hHeld := hHeld2
        clear hHeld2
        try simp only [Act.put, List.setIfInBounds_toArray, List.set_cons_zero, List.set_cons_succ]
        refine wpAnyH_ready (rs := [4]) (by kernel_rfl) (by simp) ?_
        refine AllReadyH.cons rfl (fun K hK => ?_) AllReadyH.nil
        go_simp
        first
          | (go_at_call 12; guard_target = Calls _ _ #[Value.int IntKind.i64 ip, _] (World.drew (World.alloc (World.alloc _ _) _)) _; refine (CA.out _ _ (by first | exact (b2_newd _ _ _).1 | exact (b2_newd _ _ _).2)).mono ?_; clear CA; rintro e w4 ⟨rfl, hb4⟩; have HK : Hid _ := b2_kept hb4; have HWn : Hid (BW w db eb ⟨ia, o, i⟩ ⟨ia, i, o⟩ w4) := ((HB2.out.alloc _).alloc _).drew.below hb4; clear HB2 hb4; have HB2 := HWn; clear HWn)
          | (go_at_call 12; guard_target = Calls _ _ #[Value.int IntKind.i64 ip, _] (World.drew (World.alloc _ _)) _; refine (CA.out _ _ (b1_newd _ _)).mono ?_; clear CA; rintro e w4 ⟨rfl, hb4⟩; have HWn : Hid (BW w db eb ⟨ia, o, i⟩ ⟨ia, i, o⟩ w4) := (HB2.out.alloc _).drew.below hb4; clear HB2 hb4; have HB2 := HWn; clear HWn)
          | (go_at_call 12; guard_target = Calls _ _ #[Value.int IntKind.i64 ip, _] (World.alloc _ _) _; refine (CA.out _ _ (World.alloc_heap_new _ _)).mono ?_; clear CA; rintro e w4 ⟨rfl, hb4⟩; have HWn : Hid (BW w db eb ⟨ia, o, i⟩ ⟨ia, i, o⟩ w4) := (HB2.out.alloc _).below hb4; clear HB2 hb4; have HB2 := HWn; clear HWn)
          | (go_at_call 12; guard_target = Calls _ _ #[Value.int IntKind.i64 ip, _] _ _; refine (CA.out _ _ (by first | exact HK.out.1 | exact HK.out.2)).mono ?_; clear CA; rintro e w4 ⟨rfl, hb4⟩; have HWn : Hid (BW w db eb ⟨ia, o, i⟩ ⟨ia, i, o⟩ w4) := HB2.out.below hb4; clear HB2 hb4; have HB2 := HWn; clear HWn)
        refine hK.out _ _ (by (try dsimp only); first | exact HB2.out.cells | exact (HB2.out.alloc _).cells | exact HB2.out.drew.cells | exact (HB2.out.alloc _).drew.cells | exact ((HB2.out.alloc _).alloc _).cells | exact ((HB2.out.alloc _).alloc _).drew.cells) (fun hHeld2 => ?_)
        clear hK K hHeld
        have hHeld := hHeld2
        clear hHeld2
        try simp only [Act.put, List.setIfInBounds_toArray, List.set_cons_zero, List.set_cons_succ]
        refine wpAnyH_ready (rs := [7]) (by kernel_rfl) (by simp) ?_
        refine AllReadyH.cons rfl (fun K hK => ?_) AllReadyH.nil
        go_simp
        first
          | (go_at_call 12; guard_target = Calls _ _ #[Value.int IntKind.i64 y, _] (World.drew (World.alloc (World.alloc _ _) _)) _; refine (CB.out _ _ (by first | exact (b2_newd _ _ _).1 | exact (b2_newd _ _ _).2)).mono ?_; clear CB; rintro e w4 ⟨rfl, hb4⟩; have HK : Hid _ := b2_kept hb4; have HWn : Hid (BW w db eb ⟨ia, o, i⟩ ⟨ia, i, o⟩ w4) := ((HB2.out.alloc _).alloc _).drew.below hb4; clear HB2 hb4; have HB2 := HWn; clear HWn)
          | (go_at_call 12; guard_target = Calls _ _ #[Value.int IntKind.i64 y, _] (World.drew (World.alloc _ _)) _; refine (CB.out _ _ (b1_newd _ _)).mono ?_; clear CB; rintro e w4 ⟨rfl, hb4⟩; have HWn : Hid (BW w db eb ⟨ia, o, i⟩ ⟨ia, i, o⟩ w4) := (HB2.out.alloc _).drew.below hb4; clear HB2 hb4; have HB2 := HWn; clear HWn)
          | (go_at_call 12; guard_target = Calls _ _ #[Value.int IntKind.i64 y, _] (World.alloc _ _) _; refine (CB.out _ _ (World.alloc_heap_new _ _)).mono ?_; clear CB; rintro e w4 ⟨rfl, hb4⟩; have HWn : Hid (BW w db eb ⟨ia, o, i⟩ ⟨ia, i, o⟩ w4) := (HB2.out.alloc _).below hb4; clear HB2 hb4; have HB2 := HWn; clear HWn)
          | (go_at_call 12; guard_target = Calls _ _ #[Value.int IntKind.i64 y, _] _ _; refine (CB.out _ _ (by first | exact HK.out.1 | exact HK.out.2)).mono ?_; clear CB; rintro e w4 ⟨rfl, hb4⟩; have HWn : Hid (BW w db eb ⟨ia, o, i⟩ ⟨ia, i, o⟩ w4) := HB2.out.below hb4; clear HB2 hb4; have HB2 := HWn; clear HWn)
        refine hK.out _ _ (by (try dsimp only); first | exact HB2.out.cells | exact (HB2.out.alloc _).cells | exact HB2.out.drew.cells | exact (HB2.out.alloc _).drew.cells | exact ((HB2.out.alloc _).alloc _).cells | exact ((HB2.out.alloc _).alloc _).drew.cells) (fun hHeld2 => ?_)
        clear hK K hHeld
        have hHeld := hHeld2
        clear hHeld2
        try simp only [Act.put, List.setIfInBounds_toArray, List.set_cons_zero, List.set_cons_succ]
        have HD : Hid (∀ m, BW w db eb ⟨ia, o, i⟩ ⟨ia, i, o⟩ (w4.drewN m)) := fun m => HB2.out.below ⟨rfl, rfl, rfl, Nat.le_refl _, fun _ _ => rfl⟩
        rcases hcase with ⟨c1, rfl⟩ | ⟨c1, c2, rfl⟩ | ⟨c1, c2, c3, c4, rfl⟩ | ⟨c1, c2, c3, c4⟩ | ⟨c1, c2, c3⟩
        · have g1 : decide (ip ≤ ia) = true := decide_eq_true c1
          refine anyH_tail (k := 8) (by kernel_rfl) rfl rfl (by kernel_rfl) (fun m => (HD.out m).cells) ?_
          simp only [List.drop_succ_cons, List.drop_zero]
          repeat (go_big_quiet_step (fail))
          refine wpQuiet_nil ?_
          intro _ hw'
          obtain ⟨nq, hw''⟩ := hw'
          subst hw''
          refine NoPanic.normal ?_
          go_wp2
          go_meet
          case rel => exact ⟨rfl, HD.out nq⟩
        · have g1 : decide (ip ≤ ia) = false := decide_eq_false c1
          have g6 : IntKind.i64.wrap (ia + (o.size : Int)) = ia + (o.size : Int) := wi64 (by omega) (by omega)
          have g2 : decide (ia + (o.size : Int) < ip) = true := decide_eq_true c2
          refine anyH_tail (k := 8) (by kernel_rfl) rfl rfl (by kernel_rfl) (fun m => (HD.out m).cells) ?_
          simp only [List.drop_succ_cons, List.drop_zero]
          repeat (go_big_quiet_step (fail))
          refine wpQuiet_nil ?_
          intro _ hw'
          obtain ⟨nq, hw''⟩ := hw'
          subst hw''
          refine NoPanic.normal ?_
          go_wp2
          go_meet
          case rel => exact ⟨rfl, HD.out nq⟩
        · have g1 : decide (ip ≤ ia) = false := decide_eq_false c1
          have g6 : IntKind.i64.wrap (ia + (o.size : Int)) = ia + (o.size : Int) := wi64 (by omega) (by omega)
          have g2 : decide (ia + (o.size : Int) < ip) = false := decide_eq_false c2
          have g3 : (ip == ia + (o.size : Int)) = true := beq_iff_eq.2 c3
          clear c3
          have g4 : i.toList.isEmpty = false := by simpa using c4
          refine anyH_tail (k := 8) (by kernel_rfl) rfl rfl (by kernel_rfl) (fun m => (HD.out m).cells) ?_
          simp only [List.drop_succ_cons, List.drop_zero]
          repeat (go_big_quiet_step (fail))
          refine wpQuiet_nil ?_
          intro _ hw'
          obtain ⟨nq, hw''⟩ := hw'
          subst hw''
          refine NoPanic.normal ?_
          go_wp2
          go_meet
          case rel => exact ⟨rfl, HD.out nq⟩
        · have g1 : decide (ip ≤ ia) = false := decide_eq_false c1
          have g6 : IntKind.i64.wrap (ia + (o.size : Int)) = ia + (o.size : Int) := wi64 (by omega) (by omega)
          have g2 : decide (ia + (o.size : Int) < ip) = false := decide_eq_false c2
          have g3 : (ip == ia + (o.size : Int)) = true := beq_iff_eq.2 c3
          clear c3
          have g4 : i.toList.isEmpty = true := by simpa using c4
          refine anyH_tail (k := 8) (by kernel_rfl) rfl rfl (by kernel_rfl) (fun m => (HD.out m).cells) ?_
          simp only [List.drop_succ_cons, List.drop_zero]
          repeat (go_big_quiet_step (fail))
          refine wpQuiet_nil ?_
          intro _ hw'
          obtain ⟨nq, hw''⟩ := hw'
          subst hw''
          refine NoPanic.normal ?_
          go_wp2
          go_meet
          case rel => exact ⟨rfl, HD.out nq⟩
        · have g1 : decide (ip ≤ ia) = false := decide_eq_false c1
          have g6 : IntKind.i64.wrap (ia + (o.size : Int)) = ia + (o.size : Int) := wi64 (by omega) (by omega)
          have g2 : decide (ia + (o.size : Int) < ip) = false := decide_eq_false c2
          have g3 : (ip == ia + (o.size : Int)) = false := beq_eq_false_iff_ne.2 c3
          refine anyH_tail (k := 8) (by kernel_rfl) rfl rfl (by kernel_rfl) (fun m => (HD.out m).cells) ?_
          simp only [List.drop_succ_cons, List.drop_zero]
          repeat (go_big_quiet_step (fail))
          refine wpQuiet_nil ?_
          intro _ hw'
          obtain ⟨nq, hw''⟩ := hw'
          subst hw''
          refine NoPanic.normal ?_
          go_wp2
          go_meet
          case rel => exact ⟨rfl, HD.out nq⟩
    · go_simp
      refine hK.out _ _ (by (try dsimp only); first | exact HB2.out.cells | exact (HB2.out.alloc _).cells | exact HB2.out.drew.cells | exact (HB2.out.alloc _).drew.cells | exact ((HB2.out.alloc _).alloc _).cells | exact ((HB2.out.alloc _).alloc _).drew.cells) (fun hHeld2 => ?_)
      clear hK K hHeld
      have hHeld := hHeld2
      clear hHeld2
      try simp only [Act.put, List.setIfInBounds_toArray, List.set_cons_zero, List.set_cons_succ]
      refine wpAnyH_ready (rs := [3]) (by kernel_rfl) (by simp) ?_
      refine AllReadyH.cons rfl (fun K hK => ?_) AllReadyH.nil
      go_simp
      refine hK.out _ _ (by (try dsimp only); first | exact HB2.out.cells | exact (HB2.out.alloc _).cells | exact HB2.out.drew.cells | exact (HB2.out.alloc _).drew.cells | exact ((HB2.out.alloc _).alloc _).cells | exact ((HB2.out.alloc _).alloc _).drew.cells) (fun hHeld2 => ?_)
      clear hK K hHeld
      have hHeld := hHeld2
      clear hHeld2
      try simp only [Act.put, List.setIfInBounds_toArray, List.set_cons_zero, List.set_cons_succ]
      refine wpAnyH_ready (rs := [4]) (by kernel_rfl) (by simp) ?_
      refine AllReadyH.cons rfl (fun K hK => ?_) AllReadyH.nil
      go_simp
      first
        | (go_at_call 12; guard_target = Calls _ _ #[Value.int IntKind.i64 ip, _] (World.drew (World.alloc (World.alloc _ _) _)) _; refine (CA.out _ _ (by first | exact (b2_newd _ _ _).1 | exact (b2_newd _ _ _).2)).mono ?_; clear CA; rintro e w4 ⟨rfl, hb4⟩; have HK : Hid _ := b2_kept hb4; have HWn : Hid (BW w db eb ⟨ia, o, i⟩ ⟨ia, i, o⟩ w4) := ((HB2.out.alloc _).alloc _).drew.below hb4; clear HB2 hb4; have HB2 := HWn; clear HWn)
        | (go_at_call 12; guard_target = Calls _ _ #[Value.int IntKind.i64 ip, _] (World.drew (World.alloc _ _)) _; refine (CA.out _ _ (b1_newd _ _)).mono ?_; clear CA; rintro e w4 ⟨rfl, hb4⟩; have HWn : Hid (BW w db eb ⟨ia, o, i⟩ ⟨ia, i, o⟩ w4) := (HB2.out.alloc _).drew.below hb4; clear HB2 hb4; have HB2 := HWn; clear HWn)
        | (go_at_call 12; guard_target = Calls _ _ #[Value.int IntKind.i64 ip, _] (World.alloc _ _) _; refine (CA.out _ _ (World.alloc_heap_new _ _)).mono ?_; clear CA; rintro e w4 ⟨rfl, hb4⟩; have HWn : Hid (BW w db eb ⟨ia, o, i⟩ ⟨ia, i, o⟩ w4) := (HB2.out.alloc _).below hb4; clear HB2 hb4; have HB2 := HWn; clear HWn)
        | (go_at_call 12; guard_target = Calls _ _ #[Value.int IntKind.i64 ip, _] _ _; refine (CA.out _ _ (by first | exact HK.out.1 | exact HK.out.2)).mono ?_; clear CA; rintro e w4 ⟨rfl, hb4⟩; have HWn : Hid (BW w db eb ⟨ia, o, i⟩ ⟨ia, i, o⟩ w4) := HB2.out.below hb4; clear HB2 hb4; have HB2 := HWn; clear HWn)
      refine hK.out _ _ (by (try dsimp only); first | exact HB2.out.cells | exact (HB2.out.alloc _).cells | exact HB2.out.drew.cells | exact (HB2.out.alloc _).drew.cells | exact ((HB2.out.alloc _).alloc _).cells | exact ((HB2.out.alloc _).alloc _).drew.cells) (fun hHeld2 => ?_)
      clear hK K hHeld
      have hHeld := hHeld2
      clear hHeld2
      try simp only [Act.put, List.setIfInBounds_toArray, List.set_cons_zero, List.set_cons_succ]
      refine wpAnyH_ready (rs := [7]) (by kernel_rfl) (by simp) ?_
      refine AllReadyH.cons rfl (fun K hK => ?_) AllReadyH.nil
      go_simp
      first
        | (go_at_call 12; guard_target = Calls _ _ #[Value.int IntKind.i64 y, _] (World.drew (World.alloc (World.alloc _ _) _)) _; refine (CB.out _ _ (by first | exact (b2_newd _ _ _).1 | exact (b2_newd _ _ _).2)).mono ?_; clear CB; rintro e w4 ⟨rfl, hb4⟩; have HK : Hid _ := b2_kept hb4; have HWn : Hid (BW w db eb ⟨ia, o, i⟩ ⟨ia, i, o⟩ w4) := ((HB2.out.alloc _).alloc _).drew.below hb4; clear HB2 hb4; have HB2 := HWn; clear HWn)
        | (go_at_call 12; guard_target = Calls _ _ #[Value.int IntKind.i64 y, _] (World.drew (World.alloc _ _)) _; refine (CB.out _ _ (b1_newd _ _)).mono ?_; clear CB; rintro e w4 ⟨rfl, hb4⟩; have HWn : Hid (BW w db eb ⟨ia, o, i⟩ ⟨ia, i, o⟩ w4) := (HB2.out.alloc _).drew.below hb4; clear HB2 hb4; have HB2 := HWn; clear HWn)
        | (go_at_call 12; guard_target = Calls _ _ #[Value.int IntKind.i64 y, _] (World.alloc _ _) _; refine (CB.out _ _ (World.alloc_heap_new _ _)).mono ?_; clear CB; rintro e w4 ⟨rfl, hb4⟩; have HWn : Hid (BW w db eb ⟨ia, o, i⟩ ⟨ia, i, o⟩ w4) := (HB2.out.alloc _).below hb4; clear HB2 hb4; have HB2 := HWn; clear HWn)
        | (go_at_call 12; guard_target = Calls _ _ #[Value.int IntKind.i64 y, _] _ _; refine (CB.out _ _ (by first | exact HK.out.1 | exact HK.out.2)).mono ?_; clear CB; rintro e w4 ⟨rfl, hb4⟩; have HWn : Hid (BW w db eb ⟨ia, o, i⟩ ⟨ia, i, o⟩ w4) := HB2.out.below hb4; clear HB2 hb4; have HB2 := HWn; clear HWn)
      refine hK.out _ _ (by (try dsimp only); first | exact HB2.out.cells | exact (HB2.out.alloc _).cells | exact HB2.out.drew.cells | exact (HB2.out.alloc _).drew.cells | exact ((HB2.out.alloc _).alloc _).cells | exact ((HB2.out.alloc _).alloc _).drew.cells) (fun hHeld2 => ?_)
      clear hK K hHeld
      have hHeld := hHeld2
      clear hHeld2
      try simp only [Act.put, List.setIfInBounds_toArray, List.set_cons_zero, List.set_cons_succ]
      have HD : Hid (∀ m, BW w db eb ⟨ia, o, i⟩ ⟨ia, i, o⟩ (w4.drewN m)) := fun m => HB2.out.below ⟨rfl, rfl, rfl, Nat.le_refl _, fun _ _ => rfl⟩
      rcases hcase with ⟨c1, rfl⟩ | ⟨c1, c2, rfl⟩ | ⟨c1, c2, c3, c4, rfl⟩ | ⟨c1, c2, c3, c4⟩ | ⟨c1, c2, c3⟩
      · have g1 : decide (ip ≤ ia) = true := decide_eq_true c1
        refine anyH_tail (k := 8) (by kernel_rfl) rfl rfl (by kernel_rfl) (fun m => (HD.out m).cells) ?_
        simp only [List.drop_succ_cons, List.drop_zero]
        repeat (go_big_quiet_step (fail))
        refine wpQuiet_nil ?_
        intro _ hw'
        obtain ⟨nq, hw''⟩ := hw'
        subst hw''
        refine NoPanic.normal ?_
        go_wp2
        go_meet
        case rel => exact ⟨rfl, HD.out nq⟩
      · have g1 : decide (ip ≤ ia) = false := decide_eq_false c1
        have g6 : IntKind.i64.wrap (ia + (o.size : Int)) = ia + (o.size : Int) := wi64 (by omega) (by omega)
        have g2 : decide (ia + (o.size : Int) < ip) = true := decide_eq_true c2
        refine anyH_tail (k := 8) (by kernel_rfl) rfl rfl (by kernel_rfl) (fun m => (HD.out m).cells) ?_
        simp only [List.drop_succ_cons, List.drop_zero]
        repeat (go_big_quiet_step (fail))
        refine wpQuiet_nil ?_
        intro _ hw'
        obtain ⟨nq, hw''⟩ := hw'
        subst hw''
        refine NoPanic.normal ?_
        go_wp2
        go_meet
        case rel => exact ⟨rfl, HD.out nq⟩
      · have g1 : decide (ip ≤ ia) = false := decide_eq_false c1
        have g6 : IntKind.i64.wrap (ia + (o.size : Int)) = ia + (o.size : Int) := wi64 (by omega) (by omega)
        have g2 : decide (ia + (o.size : Int) < ip) = false := decide_eq_false c2
        have g3 : (ip == ia + (o.size : Int)) = true := beq_iff_eq.2 c3
        clear c3
        have g4 : i.toList.isEmpty = false := by simpa using c4
        refine anyH_tail (k := 8) (by kernel_rfl) rfl rfl (by kernel_rfl) (fun m => (HD.out m).cells) ?_
        simp only [List.drop_succ_cons, List.drop_zero]
        repeat (go_big_quiet_step (fail))
        refine wpQuiet_nil ?_
        intro _ hw'
        obtain ⟨nq, hw''⟩ := hw'
        subst hw''
        refine NoPanic.normal ?_
        go_wp2
        go_meet
        case rel => exact ⟨rfl, HD.out nq⟩
      · have g1 : decide (ip ≤ ia) = false := decide_eq_false c1
        have g6 : IntKind.i64.wrap (ia + (o.size : Int)) = ia + (o.size : Int) := wi64 (by omega) (by omega)
        have g2 : decide (ia + (o.size : Int) < ip) = false := decide_eq_false c2
        have g3 : (ip == ia + (o.size : Int)) = true := beq_iff_eq.2 c3
        clear c3
        have g4 : i.toList.isEmpty = true := by simpa using c4
        refine anyH_tail (k := 8) (by kernel_rfl) rfl rfl (by kernel_rfl) (fun m => (HD.out m).cells) ?_
        simp only [List.drop_succ_cons, List.drop_zero]
        repeat (go_big_quiet_step (fail))
        refine wpQuiet_nil ?_
        intro _ hw'
        obtain ⟨nq, hw''⟩ := hw'
        subst hw''
        refine NoPanic.normal ?_
        go_wp2
        go_meet
        case rel => exact ⟨rfl, HD.out nq⟩
      · have g1 : decide (ip ≤ ia) = false := decide_eq_false c1
        have g6 : IntKind.i64.wrap (ia + (o.size : Int)) = ia + (o.size : Int) := wi64 (by omega) (by omega)
        have g2 : decide (ia + (o.size : Int) < ip) = false := decide_eq_false c2
        have g3 : (ip == ia + (o.size : Int)) = false := beq_eq_false_iff_ne.2 c3
        refine anyH_tail (k := 8) (by kernel_rfl) rfl rfl (by kernel_rfl) (fun m => (HD.out m).cells) ?_
        simp only [List.drop_succ_cons, List.drop_zero]
        repeat (go_big_quiet_step (fail))
        refine wpQuiet_nil ?_
        intro _ hw'
        obtain ⟨nq, hw''⟩ := hw'
        subst hw''
        refine NoPanic.normal ?_
        go_wp2
        go_meet
        case rel => exact ⟨rfl, HD.out nq⟩
  case rest =>
    obtain ⟨rfl, HZ⟩ := hcut
    have CF := far_any HR.out.2.1 (by have := HR.out.2.2.1; omega) (HR.out.1.below (Nat.le_refl _) HZ.out.bel) 0
    have CN : Hid (∀ (W : World) (g : Nat), g = W.heap.size → Calls Try.prog 15 #[.slice (some ⟨g, 0, none⟩) 2 2] (W.alloc (.cells #[.int .u8 97, .int .i64 ip, .int .u8 122, .int .i64 (ip + 1)] 30)) fun e W' => ∃ s b, e = .returned (.pointer (some ⟨s, 0, none⟩)) ∧ St W' s (some b) (az ip) ∧ Below W.heap.size W W' ∧ W.heap.size ≤ s ∧ W.heap.size ≤ b) := fun W g hg => by
      subst hg
      have hb1 : Below W.heap.size W (W.alloc (.cells #[.int .u8 97, .int .i64 ip, .int .u8 122, .int .i64 (ip + 1)] 30)) := (Below.refl _ W).alloc (Nat.le_refl _) _
      refine (new_any (N := 2) (cap := 2) (ms := az ip) rfl (by decide) (fun q hq => by simp [az] at hq; rcases hq with rfl | rfl <;> simp [i64ok] <;> omega) (rdk_alloc W (az ip) _ rfl)).mono ?_
      rintro e w' ⟨rfl, mb, h1, h2, h3⟩
      rw [az_ld hp.1] at h1
      cases mb with
      | none => exact absurd (h1.nil rfl) (by simp [az])
      | some b => exact ⟨_, b, rfl, h1, hb1.trans (h2.mono hb1.size), by simp, by have := h3 b rfl; simp at this; omega⟩
    have CMv : Hid (∀ W s1 b1 s2 b2, Tw w s1 b1 s2 b2 (az ip) (az ip) W → Calls Try.prog 25 #[.pointer (some ⟨s1, 0, none⟩), .slice sa N cap] W fun e w' => e = .returned (.tuple #[]) ∧ Tw w s1 b1 s2 b2 (mvL ds (az ip)) (az ip) w') := fun W s1 b1 s2 b2 h => h.move1 (by simp [az]) (sort_low (by simp [az]) (by simp [az])) HR.out.2.1 (by have := HR.out.2.2.1; omega) HR.out.2.2.2 HR.out.1
    have hNb := HR.out.2.2.1
    cases hfar : farP 0 ds with
    | true =>
      rw [hfar] at CF
      clear CN CMv
      go_wp2_with (go_at_call 13; refine CF.mono ?_; clear CF; rintro e w5 ⟨rfl, hb5⟩; have H5 : Hid (Below w.heap.size w w5) := HZ.out.bel.trans (hb5.mono HZ.out.bel.size); clear hb5)
      go_ret
      exact ⟨rfl, H5.out⟩
    | false =>
      rw [hfar] at CF
      go_wp2_with (first
        | (go_at_call 13; refine CF.mono ?_; clear CF; rintro e w5 ⟨rfl, hb5⟩; have H5 : Hid (Below w.heap.size w w5) := HZ.out.bel.trans (hb5.mono HZ.out.bel.size); clear hb5 HZ)
        | (go_at_call 15; guard_target = Calls _ _ _ (World.alloc w5 _) _; refine (CN.out _ _ rfl).mono ?_; rintro e w6 ⟨s1, b1, rfl, hs6, hb6, h61, h62⟩; have H6 : Hid (St w6 s1 (some b1) (az ip) ∧ Below w.heap.size w w6 ∧ w.heap.size ≤ s1 ∧ w.heap.size ≤ b1) := ⟨hs6, H5.out.trans (hb6.mono H5.out.size), Nat.le_trans H5.out.size h61, Nat.le_trans H5.out.size h62⟩; clear hs6 hb6 h61 h62 H5)
        | (go_at_call 15; refine (CN.out _ _ rfl).mono ?_; clear CN; rintro e w7 ⟨s2, b2, rfl, hs7, hb7, h71, h72⟩; have H7 : Hid (Tw w s1 b1 s2 b2 (az ip) (az ip) w7) := ⟨H6.out.1.below hb7, hs7, H6.out.2.1.trans (hb7.mono H6.out.2.1.size), ⟨H6.out.2.2.1, H6.out.2.2.2, Nat.le_trans H6.out.2.1.size h71, Nat.le_trans H6.out.2.1.size h72⟩, (by have q1 := H6.out.1.lt; have q2 := (H6.out.1.own b1 rfl).2.lt; refine ⟨?_, ?_, ?_, ?_⟩ <;> omega)⟩; clear hs7 hb7 h71 h72 H6)
        | (go_at_call 25; refine (CMv.out _ _ _ _ _ H7.out).mono ?_; clear CMv; rintro e w8 ⟨rfl, h8⟩; have H8 : Hid (Tw w s1 b1 s2 b2 (mvL ds (az ip)) (az ip) w8) := h8; clear h8 H7))
      go_loopw [101] (fun t101 wr => ∃ k : Nat, k ≤ N ∧ t101 = .int .i64 k ∧ Hid (Tw w s1 b1 s2 b2 (mvL ds (az ip)) (mvL (ds.take k) (az ip)) wr)) (fun t101 _ => N - (intOf t101).toNat)
      case atStart => exact ⟨0, Nat.zero_le _, rfl, H8⟩
      case round =>
        obtain ⟨k, hk, rfl, HK⟩ := hrel
        clear H8
        by_cases hlt : k < N
        · obtain ⟨d, hd⟩ : ∃ d, ds[k]? = some d := ⟨ds[k]'(by rw [HR.out.2.1]; exact hlt), List.getElem?_eq_getElem _⟩
          have hdf := HR.out.2.2.2 d (List.mem_of_getElem? hd)
          obtain ⟨a', cap', ev', hrd⟩ := HR.out.1.below (Nat.le_refl _) HK.out.bel
          obtain ⟨rfl, hmq, rfl⟩ := Value.slice.inj ev'
          clear ev' hmq
          obtain ⟨g, q, rfl, hg, hcs⟩ := hrd (fun e => by rw [e] at hd; cases hd)
          obtain ⟨y0, y1, y2⟩ := hcs k d hd
          obtain ⟨z0, z1, z2⟩ := new3 wr (.int .i64 d.a) (.string d.o) (.string d.i) 64
          have CMd : Hid (∀ g', g' = wr.heap.size + 1 → Calls Try.prog 25 #[.pointer (some ⟨s2, 0, none⟩), .slice (some ⟨g', 0, none⟩) 1 1] ((wr.alloc (.cells #[.int .i64 d.a, .string d.o, .string d.i] 64)).alloc (.cells #[.int .i64 d.a, .string d.o, .string d.i] 64)) fun e w' => e = .returned (.tuple #[]) ∧ Tw w s1 b1 s2 b2 (mvL ds (az ip)) (mvL (ds.take (k + 1)) (az ip)) w') := fun g' hg' => by
            subst hg'
            have h2 := (HK.out.alloc (.cells #[.int .i64 d.a, .string d.o, .string d.i] 64)).alloc (.cells #[.int .i64 d.a, .string d.o, .string d.i] 64)
            have q1 := HK.out.st2.lt
            have q2 := (HK.out.st2.own b2 rfl).2.lt
            rw [← az_step ip hd]
            exact h2.move2 (by simp [az_mv]) (sort_low (by simp [az_mv]) (by simp [az_mv])) hdf (b2_new _ _ _).2 (by omega) (by omega)
          clear hrd hcs hd hdf hg HK
          go_wp2_with (go_at_call 25; refine (CMd.out _ (by first | rfl | rw [World.size_alloc])).mono ?_; clear CMd; rintro e w9 ⟨rfl, h9⟩; have H9 : Hid _ := h9; clear h9)
          exact ⟨⟨k + 1, by omega, by go_num, H9⟩, by simp [intOf]; omega⟩
        · obtain rfl : k = N := by omega
          have HK2 : Hid (Tw w s1 b1 s2 b2 (mvL ds (az ip)) (mvL ds (az ip)) wr) := by
            have := HK.out
            rw [List.take_of_length_le (by rw [HR.out.2.1]; exact Nat.le_refl _)] at this
            exact this
          have CT : Hid (Calls Try.prog 27 #[.pointer (some ⟨s1, 0, none⟩), .int .u8 97] wr fun e w' => e = .returned (.tuple #[.int .i64 (mvs ip ds), .int .i64 0]) ∧ w' = wr) := by
            have := get_any HK2.out.st1 (n := 97) (by decide)
            rw [az_get] at this
            exact this
          have CV : Hid (Calls Try.prog 12 #[.int .i64 ip, .slice sa k cap] wr fun e w' => e = .returned (.int .i64 (mvs ip ds)) ∧ Below wr.heap.size wr w') := Moved_any HR.out.2.1 (by omega) HR.out.2.2.2 (HR.out.1.below (Nat.le_refl _) HK2.out.bel) ip ⟨by omega, by omega⟩
          have CA : Hid (∀ W s b, St W s (some b) (mvL ds (az ip)) → Calls Try.prog 29 #[.pointer (some ⟨s, 0, none⟩)] W fun e w' => ∃ a c, e = .returned (.slice a 2 c) ∧ RdK w' (.slice a 2 c) (mvL ds (az ip)) ∧ Below W.heap.size W w') := fun W s b h => All_rd h (az_gd ip ds)
          have CS : Hid (∀ W a c a' c', RdK W (.slice a 2 c) (mvL ds (az ip)) → RdK W (.slice a' 2 c') (mvL ds (az ip)) → Calls Try.prog 32 #[.slice a 2 c, .slice a' 2 c'] W fun e w' => e = .returned (.bool true) ∧ Below W.heap.size W w') := fun W a c a' c' h1 h2 => same_any (N := 2) rfl (by decide) h1 h2
          obtain ⟨v, hv⟩ : ∃ v, mvs ip ds = v := ⟨_, rfl⟩
          rw [hv] at CT CV
          clear HK hv
          go_wp2_with (first
            | (go_at_call 27; refine CT.out.mono ?_; clear CT; rintro e w9 ⟨rfl, rfl⟩)
            | (go_at_call 12; refine CV.out.mono ?_; clear CV; rintro e w10 ⟨rfl, hb10⟩; have H10 : Hid (Tw w s1 b1 s2 b2 (mvL ds (az ip)) (mvL ds (az ip)) w10) := HK2.out.below hb10; clear hb10 HK2)
            | (go_at_call 29; guard_target = Calls _ _ #[Value.pointer (some ⟨s1, _, _⟩)] _ _; refine (CA.out _ _ _ H10.out.st1).mono ?_; rintro e w11 ⟨a11, c11, rfl, hr11, hb11⟩; have H11 : Hid (Tw w s1 b1 s2 b2 (mvL ds (az ip)) (mvL ds (az ip)) w11 ∧ RdK w11 (.slice a11 2 c11) (mvL ds (az ip))) := ⟨H10.out.below hb11, hr11⟩; clear hb11 hr11 H10)
            | (go_at_call 29; refine (CA.out _ _ _ H11.out.1.st2).mono ?_; clear CA; rintro e w12 ⟨a12, c12, rfl, hr12, hb12⟩; have H12 : Hid (Below w.heap.size w w12 ∧ RdK w12 (.slice a11 2 c11) (mvL ds (az ip)) ∧ RdK w12 (.slice a12 2 c12) (mvL ds (az ip))) := ⟨H11.out.1.bel.trans (hb12.mono H11.out.1.bel.size), H11.out.2.below (Nat.le_refl _) hb12, hr12⟩; clear hb12 hr12 H11)
            | (go_at_call 32; refine (CS.out _ _ _ _ _ H12.out.2.1 H12.out.2.2).mono ?_; clear CS; rintro e w13 ⟨rfl, hb13⟩; have H13 : Hid (Below w.heap.size w w13) := H12.out.1.trans (hb13.mono H12.out.1.size); clear hb13 H12))
          go_ret
          exact ⟨by simp, H13.out⟩
end Go.Proofs.Ytiehhafbblbbiaa
