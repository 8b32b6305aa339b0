/-
  The library's slices.AppendSeq, Collect and Sorted over the names of a map of marks: a new list of the names, in their order. Conditions: the map is there and holds a mark; slices.Sort sorts so many bytes.
-/
import Derived.Test.YtolafffpgkgadaaEKeys
namespace Go.Proofs.Ytolafffpgkgadaa
open Go.RowKit Go.Shelf Bod
attribute [local go_sem] Oper.semAt_some

theorem kf_below {B : Nat} {W W' : World} (h : Below W.heap.size W W') : KeepsFrom B W W' := ⟨h.size, fun k _ _ hk _ => (h.block k (Array.getElem?_eq_some_iff.1 hk).1).trans hk⟩
theorem kf_trans {B : Nat} {X Y Z : World} (h : KeepsFrom B X Y) (k : KeepsFrom B Y Z) : KeepsFrom B X Z := ⟨Nat.le_trans h.size k.size, fun i o a b c => k.same i o a (h.same i o a b c) c⟩
theorem kf_cells {B r : Nat} {W W' : World} {vs : Array Value} {t : TypeId} {fz : Nat × Nat} (h : W.grownBy W' (some r)) (hr : W.heap[r]? = some (.cells vs t fz)) : KeepsFrom B W W' :=
  ⟨h.size, fun k o _ hk hc => (h.block k (Array.getElem?_eq_some_iff.1 hk).1 (fun e => by cases e; rw [hr] at hk; cases hk; cases hc)).trans hk⟩
theorem KpM.trans {b : Nat} {X Y Z : World} (h : KpM b X Y) (k : KpM b Y Z) : KpM b X Z := fun o ho => k o (h o ho)
theorem KpM.grown {b : Nat} {W W' : World} {row : Option Nat} (h : W.grownBy W' row) (hr : row ≠ some b) : KpM b W W' := fun _ ho => (h.block b (Array.getElem?_eq_some_iff.1 ho).1 (fun e => hr e.symm)).trans ho
theorem KpM.putObj {b : Nat} (W : World) (l : Nat) (o' : Obj) (hl : l ≠ b) : KpM b W (W.putObj l o') := fun _ ho => (World.putObj_heap_other (Ne.symm hl)).trans ho
theorem info8 : (Try.prog.info? 5).map (fun i => (i.zero, i.size, i.bytes)) = some (some (.int .u8 0), 1, 1) := by kernel_rfl

/-- the box b holds a slice of its own that reads as l; its row lies at hi or beyond -/
structure Lb (n₀ b hi : Nat) (l : List Nat) (W : World) (v : Value) : Prop where
  box : W.heap[b]? = some (.cells #[v] 76 (0, 0))
  row : W.ownsRow n₀ 5 1 v l.length (l.map e8)
  nil : v = .slice none 0 0 ↔ l = []
  far : ∀ g, v.ownBlock = some g → hi ≤ g
theorem Lb.block {n₀ b hi : Nat} {l : List Nat} {W : World} {v : Value} (h : Lb n₀ b hi l W v) {g : Nat} (hg : v.ownBlock = some g) : ∃ vs, W.heap[g]? = some (.cells vs 5 (0, 0)) := by
  rcases h.row.2 with ⟨h0, _⟩ | ⟨g', cap', cur, hv, _, hgb, _⟩
  · rw [h0] at hg; cases hg
  · rw [hv] at hg; cases hg; exact ⟨_, hgb⟩
theorem Lb.kept {n₀ b hi : Nat} {l : List Nat} {W W' : World} {v : Value} {row : Option Nat} (h : Lb n₀ b hi l W v) (hg : W.grownBy W' row) (h1 : row ≠ some b) (h2 : ∀ g, v.ownBlock = some g → row ≠ some g) : Lb n₀ b hi l W' v :=
  ⟨(hg.block b (Array.getElem?_eq_some_iff.1 h.box).1 (fun e => h1 e.symm)).trans h.box, h.row.kept hg (by cases hb : v.ownBlock with
    | none => exact .inl rfl
    | some g => exact .inr (fun e => h2 g hb e.symm)), h.nil, h.far⟩
theorem lb_ab {n₀ b B lo hi : Nat} (hb : b < B) : Ab B lo hi (fun l W => ∃ v, Lb n₀ b hi l W v) := fun l X Y row h hg hr => h.imp fun v hv =>
  hv.kept hg (fun e => by have := (hr b e).1; omega) (fun g hg' e => by
    obtain ⟨_, (h3 | ⟨o, ho, hc⟩)⟩ := hr g e
    · have := hv.far g hg'; omega
    · obtain ⟨vs, hvs⟩ := hv.block hg'
      rw [hvs] at ho; cases ho; cases hc)
/-- behind the append -/
theorem Lb.grown {n₀ b hi : Nat} {l : List Nat} {W w1 : World} {v : Value} {o : Obj} (h : Lb n₀ b hi l W v) (hb : b < hi) (hg : (W.alloc o).grownBy w1 v.ownBlock) : w1.heap[b]? = some (.cells #[v] 76 (0, 0)) := by
  have hs := (Array.getElem?_eq_some_iff.1 h.box).1
  refine (hg.block b (by simp; omega) (fun e => ?_)).trans ((Below.heap_alloc _ _ _ hs).trans h.box)
  have := h.far b e.symm
  omega
theorem Lb.appended {n₀ b hi B m : Nat} {l : List Nat} {x : Nat} {w W w1 : World} {v v' : Value} {o : Obj} (h : Lb n₀ b hi l W v) (hb : b < hi) (hB : Below n₀ w W) (hn : n₀ ≤ b) (hm : m < n₀) (hW : hi ≤ W.heap.size) (hg : (W.alloc o).grownBy w1 v.ownBlock)
    (hown : w1.ownsRow n₀ 5 1 v' (l.length + 1) (l.map e8 ++ [.int .u8 (x : Int)])) (hob : v'.ownBlock = v.ownBlock ∨ v'.ownBlock = some (W.alloc o).heap.size) :
    KeepsFrom B W (w1.setCell ⟨b, 0, none⟩ v') ∧ KpM m W (w1.setCell ⟨b, 0, none⟩ v') ∧ (∃ v, Lb n₀ b hi (l ++ [x]) (w1.setCell ⟨b, 0, none⟩ v') v) ∧ Below n₀ w (w1.setCell ⟨b, 0, none⟩ v') := by
  have hs := (Array.getElem?_eq_some_iff.1 h.box).1
  have t0 := h.grown hb hg
  have g2 := gcell w1 b 0 v'
  have hBa : Below W.heap.size W (W.alloc o) := (Below.refl _ W).alloc (Nat.le_refl _) _
  have hfar : ∀ g, v.ownBlock = some g → hi ≤ g ∧ ∃ vs, (W.alloc o).heap[g]? = some (.cells vs 5 (0, 0)) := fun g e => by
    obtain ⟨vs, hvs⟩ := h.block e
    exact ⟨h.far g e, vs, (Below.heap_alloc _ _ _ (Array.getElem?_eq_some_iff.1 hvs).1).trans hvs⟩
  have kf1 : KeepsFrom B (W.alloc o) w1 := ⟨hg.size, fun k o' _ hk hc => (hg.block k (Array.getElem?_eq_some_iff.1 hk).1 (fun e => by
    obtain ⟨_, vs, hvs⟩ := hfar k e.symm
    rw [hvs] at hk; cases hk; cases hc)).trans hk⟩
  have far' : ∀ g, v'.ownBlock = some g → hi ≤ g := fun g e => by
    rcases hob with h1 | h1
    · rw [h1] at e; exact h.far g e
    · rw [h1] at e; cases e; simp; omega
  refine ⟨kf_trans (kf_below hBa) (kf_trans kf1 (kf_cells g2 t0)), (KpM.grown (World.grownBy_alloc W o none) (by simp)).trans ((KpM.grown hg (fun e => by have := (hfar m e).1; omega)).trans (KpM.grown g2 (fun e => by cases e; omega))), ⟨v', by simpa using set1 (i := 0) v' t0, ?_, ?_, far'⟩, ?_⟩
  · rw [List.map_append, List.length_append]
    exact hown.kept g2 (by cases hb' : v'.ownBlock with
      | none => exact .inl rfl
      | some g => exact .inr (fun e => by cases e; have := far' b hb'; omega))
  · obtain ⟨g', cap', rfl⟩ := ownsRow_succ hown
    simp
  · have h1 := hB.alloc (show n₀ ≤ W.heap.size by omega) o
    have h2 : Below n₀ w w1 := h1.grown hg (by simp; omega) (fun k e => by have := (hfar k e).1; omega)
    exact h2.setCell (p := ⟨b, 0, none⟩) hn _

/-- a row of the call's own that holds the names in some order -/
def OwnB (w : World) (L : Ml) (e : Ending) (W' : World) : Prop := ∃ v ss, e = .returned v ∧ ss.Perm (L.map (·.1)) ∧ W'.ownsRow w.heap.size 5 1 v ss.length (ss.map e8) ∧ (v = .slice none 0 0 ↔ ss = []) ∧ Below w.heap.size w W'
set_option maxRecDepth 100000 in
set_option maxHeartbeats 1000000 in
theorem appendSeq_in (n : Nat) (hn : 3 ≤ n) (Bm b : Nat) (L : Ml) (w : World) (hBm : w.heap[Bm]? = some (.cells #[.map (some b)] 47 (0, 0))) (hown : Mp w b L) :
    CallsIn Fence.wide n Try.prog 54 #[.slice none 0 0, .func (.func 52) #[] #[.pointer (some ⟨Bm, 0, none⟩)]] w (OwnB w L) := by
  have h1 : 1 ≤ n := by omega
  have hlt := (Array.getElem?_eq_some_iff.1 hBm).1
  have hl8 := len8 hown.2.1 hown.2.2
  have hbl := hown.lt
  obtain ⟨i0, hi, hz0, hz1, hz2⟩ := info_parts info8
  refine callsIn_of_wp_marks Try.func54 rfl trivial ?_ rfl
  simp only [Try.ntmps54, List.size_toArray, List.length_cons, List.length_nil, Nat.reduceAdd, Nat.reduceSub, Array.replicate_succ, Array.replicate_zero, List.push_toArray, List.append_toArray, List.nil_append, List.cons_append]
  gi_wp2
  obtain ⟨W1, hW1⟩ : ∃ W1, w.alloc (.cells #[.slice none 0 0] 76) = W1 := ⟨_, rfl⟩
  rw [hW1]
  have p0 : W1.heap[w.heap.size]? = some (.cells #[.slice none 0 0] 76 (0, 0)) := by rw [← hW1]; exact World.alloc_heap_new w _
  have hB0 : Below w.heap.size w W1 := by rw [← hW1]; exact (Below.refl _ w).alloc (Nat.le_refl _) _
  have hsz : W1.heap.size = w.heap.size + 1 := by rw [← hW1]; simp
  clear hW1
  refine range_own rfl h1 (gf := 52) (lb := #[.pointer (some ⟨Bm, 0, none⟩)]) rfl trivial (enters_of Try.func52 (by kernel_rfl) rfl)
    (keys_seq (n - 1) (by omega) Bm b (W1.heap.size + 2) L W1 (by omega) (by simp [World.cell?, (hB0.block Bm hlt).trans hBm]) (hown.of_heap (hB0.block b hbl)))
    KpM.trans (fun W l o o' h _ hl ho => KpM.putObj W l o' (by omega)) (fun _ => rfl)
    (fun pre W => (∃ v, Lb w.heap.size w.heap.size (W1.heap.size + 2) pre W v) ∧ Below w.heap.size w W)
    (fun _ _ _ => False)
    (Ab.and (lb_ab (by omega)) (ab_below (by omega) (Nat.le_refl _)))
    (fun _ _ _ _ _ hs _ _ => hs)
    ⟨⟨_, p0, World.ownsRow_nil _ _ _ _, by simp, fun g h => by cases h⟩, hB0⟩
    (fun x a' W' => a' = { tmps := #[.slice none 0 0, .func (.func 52) #[] #[.pointer (some ⟨Bm, 0, none⟩)], .pointer (some ⟨w.heap.size, 0, none⟩), undef, .slice none 0 0, .int .u8 (x : Int), .func (.func 52) #[] #[.pointer (some ⟨Bm, 0, none⟩)], .int .u8 (x : Int), undef, undef, undef, undef, undef], defers := [] })
    (fun x a' _ X Y row h hg hr => h)
    ?assign ?body ?done ?stop
  case assign =>
    rintro l pre x W K hI hK
    gi_wp2
    exact hK _ _ (kf_below (Below.refl _ W)) (fun _ h => h) hI rfl
  case body =>
    rintro l pre x a' W _ _ _ hWs ⟨⟨v, hv⟩, hB⟩ rfl ⟨hlen, hx⟩
    have hc : W.cell? ⟨w.heap.size, 0, none⟩ = some v := by simp [World.cell?, hv.box]
    have hml : pre.length + 1 ≤ maxLen := by unfold maxLen; omega
    have hbl : (pre.length + 1) * 1 ≤ 140737488355328 := by omega
    have HW : Hid (W1.heap.size + 2 ≤ W.heap.size) := hWs
    clear hWs
    gi_wp2_with (gi_at_builtin; refine wpListIn_append_own_at _ rfl _ _ 76 rfl w.heap.size 5 i0 _ 1 1 Try.underlying76 hi hz0 hz1 hz2 rfl (by decide) _ _ _ rfl (hv.row.alloc _) ⟨W.heap.size, 0, none⟩ 1 1 [.int .u8 (x : Int)] rfl rfl (World.news_of_block (World.alloc_heap_new W _)) (by simp [Value.oneCell']) hml hbl (by have := hB.size; simp; omega) ?_; intro v' w1 hown' hgrow _ hob; obtain ⟨g', cap', rfl⟩ := ownsRow_succ hown'; have t0 := hv.grown (by omega) hgrow; have tc : w1.cell? ⟨w.heap.size, 0, none⟩ = some v := (by simp [World.cell?, t0]); have tf : w1.frozen? ⟨w.heap.size, 0, none⟩ = false := (by simp [World.frozen?, t0]))
    exact hv.appended (by omega) hB (Nat.le_refl _) (by omega) HW.out hgrow hown' hob
  case done =>
    rintro D ys W hD hp ⟨⟨v, hv⟩, hB⟩ hK
    have hc : W.cell? ⟨w.heap.size, 0, none⟩ = some v := by simp [World.cell?, hv.box]
    gi_wp2
    refine ⟨by simp, .inl ⟨_, _, rfl, run_takeDeferred hK, ?_⟩⟩
    exact ⟨_, results_tmp rfl _ _ _, v, ys, rfl, hp, ownsRow_putObj hv.row _ hK rfl, hv.nil, hB.trans (belowK_b (w := w) (Nat.le_refl _) W D _ _ (by omega) hK rfl rfl)⟩
  case stop =>
    rintro D c pre W _ _ h _
    exact h.elim
theorem collect_in (n : Nat) (hn : 4 ≤ n) (Bm b : Nat) (L : Ml) (w : World) (hBm : w.heap[Bm]? = some (.cells #[.map (some b)] 47 (0, 0))) (hown : Mp w b L) :
    CallsIn Fence.wide n Try.prog 50 #[.func (.func 52) #[] #[.pointer (some ⟨Bm, 0, none⟩)]] w (OwnB w L) := by
  have h1 : 1 ≤ n := by omega
  have cA := appendSeq_in (n - 1) (by omega) Bm b L w hBm hown
  refine callsIn_of_wp Try.func50 rfl trivial ?_ rfl
  simp only [Try.ntmps50, List.size_toArray, List.length_cons, List.length_nil, Nat.reduceAdd, Nat.reduceSub, Array.replicate_succ, Array.replicate_zero, List.push_toArray, List.append_toArray, List.nil_append, List.cons_append]
  gi_wp2_with (refine ⟨trivial, ?_⟩; gi_at_call 54; refine cA.mono ?_; rintro e w1 ⟨v, ss, rfl, q⟩)
  go_ret
  exact ⟨v, ss, rfl, q⟩
theorem collect_any (Bm b : Nat) (L : Ml) (w : World) (hBm : w.heap[Bm]? = some (.cells #[.map (some b)] 47 (0, 0))) (hown : Mp w b L) :
    Calls Try.prog 50 #[.func (.func 52) #[] #[.pointer (some ⟨Bm, 0, none⟩)]] w (OwnB w L) := callsIn_wide.1 (collect_in 4 (by omega) Bm b L w hBm hown)
/-- two lists of the same names in order are one -/
theorem srt_eq : ∀ {xs ys : List Nat}, Srt xs → Srt ys → xs.Perm ys → xs = ys := fun h1 h2 hp => List.Perm.eq_of_pairwise (le := (· ≤ ·)) (fun _ _ _ _ h g => Nat.le_antisymm h g) h1 h2 hp
theorem ris_srt {L : Ml} (h : Ris L) : Srt (L.map (·.1)) := List.pairwise_map.2 (List.Pairwise.imp (fun h => by omega) h)
theorem row_bx {W : World} {base : Nat} {v : Value} {xs : List Nat} (h : W.ownsRow base 5 1 v xs.length (xs.map e8)) (h0 : xs ≠ []) : ∃ g cap rest, v = .slice (some ⟨g, 0, none⟩) xs.length cap ∧ base ≤ g ∧ Bx W g xs rest := by
  rcases h.2 with ⟨_, hz⟩ | ⟨g, cap, cur, rfl, hb, hg, h1, h2, h3, h4⟩
  · exact absurd (List.eq_nil_of_length_eq_zero hz) h0
  · refine ⟨g, cap, cur.toList.drop (xs.length * 1), rfl, hb, ?_⟩
    unfold Bx
    rw [hg, ← h4, List.take_append_drop]
set_option maxRecDepth 100000 in
theorem sorted_any (Bm b : Nat) (L : Ml) (w : World) (hBm : w.heap[Bm]? = some (.cells #[.map (some b)] 47 (0, 0))) (hown : Mp w b L) (hL : L ≠ []) (hS : SortsTo L.length) :
    Calls Try.prog 42 #[.func (.func 52) #[] #[.pointer (some ⟨Bm, 0, none⟩)]] w fun e W' => ∃ g cap rest, e = .returned (.slice (some ⟨g, 0, none⟩) L.length cap) ∧ w.heap.size ≤ g ∧ Bx W' g (L.map (·.1)) rest ∧ Below w.heap.size w W' := by
  have CC := collect_any Bm b L w hBm hown
  have HR : Hid (Ris L ∧ L ≠ []) := ⟨hown.2.1, hL⟩
  clear hown hBm
  go_enter Try.func42, Try.ntmps42
  go_wp2_with (go_at_call 50; refine CC.mono ?_; clear CC; rintro e w1 ⟨v, ss, rfl, hp, hr, hv, hb⟩; have hl : ss.length = L.length := (by simpa using hp.length_eq); obtain ⟨g, cap, rest, hvg, hgb, hx⟩ := row_bx hr (fun e => HR.out.2 (List.eq_nil_of_length_eq_zero (by rw [← hl, e]; rfl))); rw [hl] at hvg; subst hvg; have CS := hS w1 g cap ss rest hl ((List.Perm.nodup_iff hp).2 (ris_nodup HR.out.1)) hx; have HB : Hid (w.heap.size ≤ g ∧ Below w.heap.size w w1 ∧ ss.Perm (L.map (·.1))) := ⟨hgb, hb, hp⟩; clear hr hv hb hx hgb hp hl hS)
  go_wp2_with (go_at_call 51; refine CS.mono ?_; clear CS; rintro e w2 ⟨rfl, ys, h1, h2, h3, h4⟩)
  go_ret
  obtain ⟨hgb, hb, hp⟩ := HB.out
  obtain rfl := srt_eq h2 (ris_srt HR.out.1) (h1.trans hp)
  exact ⟨g, cap, rest, rfl, hgb, h3, hb.grown h4 hb.size (fun k e => by cases e; exact hgb)⟩
end Go.Proofs.Ytolafffpgkgadaa
