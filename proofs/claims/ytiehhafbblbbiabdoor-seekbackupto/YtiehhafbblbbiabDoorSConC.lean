/-
  Package seek's countedTo and search: one range over the clusters of a text. Conditions: the two tables of unicode/utf8 lie as their text lays them; the text holds at most 4398046511104 bytes.
-/
import Derived.Test.YtiehhafbblbbiabDoorSConB
import Derived.Test.YtiehhafbblbbiabDoorPkI
namespace Go.Proofs.YtiehhafbblbbiabDoor
open Go.RowKit Go.Shelf Bod Wid
attribute [local go_sem] Oper.semAt_some

theorem cnL_bd (k : Ck) (to : Int) : ∀ {l : List Clu}, (∀ d ∈ l, 0 ≤ d.n ∧ d.n ≤ 2) → 0 ≤ cnL k to l ∧ cnL k to l ≤ 2 * l.length
  | [], _ => by simp [cnL]
  | c :: l, h => by
    have h1 := itm_n k (h c List.mem_cons_self)
    have h2 := cnL_bd k to (l := l) (fun d hd => h d (List.mem_cons_of_mem _ hd))
    simp only [cnL, sb, List.length_cons]
    split <;> omega
/-- what the rounds of countedTo leave as it is, and the sum -/
structure CB (w : World) (k : Ck) (to : Int) (pre : List Clu) (W : World) : Prop where
  c : W.heap[w.heap.size]? = some (.cells #[ckv k] 74 (0, 0))
  t : W.heap[w.heap.size + 1]? = some (.cells #[.int .i64 to] 3 (0, 0))
  s : W.heap[w.heap.size + 1 + 1]? = some (.cells #[.int .i64 (cnL k to pre)] 3 (0, 0))
  b : Below w.heap.size w W
theorem CB.below {w : World} {k : Ck} {to : Int} {pre : List Clu} {W X : World} (h : CB w k to pre W) (hb : Below W.heap.size W X) : CB w k to pre X :=
  ⟨(hb.block _ (Array.getElem?_eq_some_iff.1 h.c).1).trans h.c, (hb.block _ (Array.getElem?_eq_some_iff.1 h.t).1).trans h.t, (hb.block _ (Array.getElem?_eq_some_iff.1 h.s).1).trans h.s, Below.on h.b hb⟩
theorem cb_ab {w : World} {k : Ck} {to : Int} {B lo hi : Nat} (h : w.heap.size + 1 + 1 < B) : Ab B lo hi (CB w k to) := fun pre X Y row h1 hg hr =>
  ⟨ab_block (o := fun _ : Unit => _) (show w.heap.size < B by omega) () X Y row h1.c hg hr, ab_block (o := fun _ : Unit => _) (show w.heap.size + 1 < B by omega) () X Y row h1.t hg hr, ab_block (o := fun _ : Unit => _) h () X Y row h1.s hg hr, ab_below (β := Unit) (by omega) (Nat.le_refl _) () X Y row h1.b hg hr⟩
theorem bx1 {W : World} {b : Nat} {v : Value} {t : TypeId} (h : W.heap[b]? = some (.cells #[v] t (0, 0))) : W.cell? ⟨b, 0, none⟩ = some v ∧ W.frozen? ⟨b, 0, none⟩ = false := by
  simp [World.cell?, World.frozen?, h]
theorem bx4 {W : World} {b : Nat} {c : Clu} {t : TypeId} (h : W.heap[b]? = some (.cells (cvs c) t (0, 0))) : W.cell? ⟨b, 0, none⟩ = some (.int .i64 (c.fr : Int)) ∧ W.cell? ⟨b, 1, none⟩ = some (.int .i64 (c.to : Int)) ∧ W.cell? ⟨b, 2, none⟩ = some (.int .i64 c.k) ∧ W.cell? ⟨b, 3, none⟩ = some (.int .i64 c.n) := by
  simp [World.cell?, h]
theorem cnL_snoc (k : Ck) (to : Int) (pre : List Clu) (x : Clu) : cnL k to (pre ++ [x]) = cnL k to pre + sb k to x := by rw [cnL_app]; simp [cnL]
set_option maxRecDepth 100000 in
set_option maxHeartbeats 2000000 in
theorem scounted_in (n : Nat) (hn : 6 ≤ n) (k : Ck) (s : ByteArray) (hs : s.size ≤ 4398046511104) (to : Int) (w : World) (hE : Ev w) :
    CallsIn Fence.wide n Tryd.prog 44 #[ckv k, .string s, .int .i64 to] w fun e W' => e = .returned (.int .i64 (cn k s to)) ∧ Below w.heap.size w W' := by
  have h1 : 1 ≤ n := by omega
  have hs' : s.size ≤ maxLen := by unfold maxLen; omega
  have hl1 := hE.l1
  have hl0 := hE.l0
  refine callsIn_of_wp_marks Tryd.func44 rfl trivial ?_ rfl
  simp only [Tryd.ntmps44, List.size_toArray, List.length_cons, List.length_nil, Nat.reduceAdd, Nat.reduceSub, Array.replicate_succ, Array.replicate_zero, List.push_toArray, List.append_toArray, List.nil_append, List.cons_append]
  gi_wp2_with (refine ⟨trivial, ?_⟩; gi_at_call 21; refine (walk_in (n - 1) _ _).mono ?_; rintro e w' ⟨rfl, rfl⟩)
  obtain ⟨W4, hW4⟩ : ∃ W4, ((((w.alloc (.cells #[ckv k] 74)).alloc (.cells #[.int .i64 to] 3)).alloc (.cells #[.int .i64 0] 3)).alloc (.cells #[.string s] 9)) = W4 := ⟨_, rfl⟩
  rw [hW4]
  obtain ⟨p0, p1, p2, p3⟩ : W4.heap[w.heap.size]? = some (.cells #[ckv k] 74 (0, 0)) ∧ W4.heap[w.heap.size + 1]? = some (.cells #[.int .i64 to] 3 (0, 0)) ∧ W4.heap[w.heap.size + 1 + 1]? = some (.cells #[.int .i64 0] 3 (0, 0)) ∧ W4.heap[w.heap.size + 1 + 1 + 1]? = some (.cells #[.string s] 9 (0, 0)) := by rw [← hW4]; exact push4 w.heap _ _ _ _
  have hB0 : Below w.heap.size w W4 := by rw [← hW4]; exact ((((Below.refl _ w).alloc (Nat.le_refl _) _).alloc (by simp) _).alloc (by simp; omega) _).alloc (by simp; omega) _
  have hsz : W4.heap.size = w.heap.size + 4 := by rw [← hW4]; simp
  clear hW4
  refine range_own rfl h1 (gf := 38) (lb := #[.pointer (some ⟨w.heap.size + 1 + 1 + 1, 0, none⟩)]) rfl trivial (enters_of Tryd.func38 (by kernel_rfl) rfl)
    (clu_seq (n - 1) (by omega) (w.heap.size + 1 + 1 + 1) (W4.heap.size + 2) (fun k _ => k = w.heap.size + 1 + 1) s hs' (fun _ h => by omega) (fun _ h => by omega) (fun _ h => by omega) (fun k _ h1 h2 h => by omega) (fun k _ _ h1 h => by omega)
      W4 (by omega) (by omega) (by omega) p3 (tabs_below hE.t hB0))
    KpT.trans (fun W l o o' _ _ hl ho => KpT.putObj W l o o' hl ho) (fun _ => rfl)
    (CB w k to) (fun _ _ _ => False) (cb_ab (by omega)) (fun _ _ _ _ _ hs _ _ => hs) ⟨p0, p1, p2, hB0⟩
    (fun x a' W' => ∃ Bx, w.heap.size + 1 + 1 < Bx ∧ W'.heap[Bx]? = some (.cells (cvs x) 63 (0, 0)) ∧
      a' = { tmps := #[ckv k, .string s, .int .i64 to, .pointer (some ⟨w.heap.size, 0, none⟩), undef, .pointer (some ⟨w.heap.size + 1, 0, none⟩), .int .i64 0, .pointer (some ⟨w.heap.size + 1 + 1, 0, none⟩), .pointer (some ⟨Bx, 0, none⟩), undef, undef, .string s, .func (.func 38) #[] #[.pointer (some ⟨w.heap.size + 1 + 1 + 1, 0, none⟩)], cv x, undef, undef, undef, undef, undef, undef, undef, undef, undef, undef, undef, undef, undef], defers := [] })
    (fun x a' _ X Y row h hg hr => h.imp fun Bx hx => ⟨hx.1, (hg.block Bx (Array.getElem?_eq_some_iff.1 hx.2.1).1 (fun e => by
      obtain ⟨_, (h3 | ⟨o, ho, hc⟩)⟩ := hr Bx e.symm
      · omega
      · rw [hx.2.1] at ho; cases ho; cases hc)).trans hx.2.1, hx.2.2⟩)
    ?assign ?body ?done ?stop
  case assign =>
    rintro l pre x W K hb hK
    have hsx := (Array.getElem?_eq_some_iff.1 hb.s).1
    gi_wp2
    exact hK _ _ (kf_below ((Below.refl _ W).alloc (Nat.le_refl _) _)) (KpT.of_below ((Below.refl _ W).alloc (Nat.le_refl _) _)) (hb.below ((Below.refl _ W).alloc (Nat.le_refl _) _)) ⟨W.heap.size, hsx, World.alloc_heap_new W _, rfl⟩
  case body =>
    rintro l pre x a' W _ _ _ hWs hb ⟨Bx, hBx, qx, rfl⟩ hnx
    have hxm : x ∈ cl s := hnx.subset (by simp)
    have hsp := cl_span hxm
    obtain ⟨d0, d1, d2, d3⟩ := bx4 qx
    obtain ⟨e0, _⟩ := bx1 hb.c
    have CI : Hid (Calls Tryd.prog 54 #[ckv k, cv x] W fun e W' => e = .returned (.tuple #[.int .i64 ((itm k x).1 : Int), .int .i64 (itm k x).2]) ∧ Hid (Below W.heap.size W W')) := sitem_any k x hsp.1 (by omega) W
    have hbd := cnL_bd k to (l := pre) (fun d hd => cl_n s d (hnx.subset (List.mem_append_left _ hd)))
    have hpl := (pre_bd hnx).1
    simp only [List.length_append, List.length_cons, List.length_nil] at hpl
    have hib := itm_n k (cl_n s x hxm)
    have HB : Hid (CB w k to pre W) := hb
    have HS : Hid (sb k to x = if ((itm k x).1 : Int) < to then (itm k x).2 else 0) := rfl
    obtain ⟨ia, hia⟩ : ∃ i, (itm k x).1 = i := ⟨_, rfl⟩
    obtain ⟨ib, hib2⟩ : ∃ i, (itm k x).2 = i := ⟨_, rfl⟩
    rw [hia, hib2] at CI HS
    rw [hib2] at hib
    obtain ⟨sm, hsm⟩ : ∃ y, cnL k to pre = y := ⟨_, rfl⟩
    rw [hsm] at hbd
    have HSM : Hid (cnL k to pre = sm) := hsm
    have hb1 : sm ≤ 8796093022208 := by omega
    have hb2 : 0 ≤ sm := by omega
    have hb3 : 0 ≤ ib ∧ ib ≤ 2 := hib
    clear hsm hbd hpl hib hia hib2 hnx hb qx hxm hsp
    have FX : Hid (∀ X, Hid (Below W.heap.size W X) → X.cell? ⟨w.heap.size + 1, 0, none⟩ = some (.int .i64 to) ∧ X.cell? ⟨w.heap.size + 1 + 1, 0, none⟩ = some (.int .i64 sm) ∧ X.frozen? ⟨w.heap.size + 1 + 1, 0, none⟩ = false) := fun X h => by
      have h2 := HB.out.below h.out
      have h3 := bx1 h2.s
      rw [HSM.out] at h3
      exact ⟨(bx1 h2.t).1, h3⟩
    by_cases c : (ia : Int) < to
    · have FIN : Hid (∀ X, Hid (Below W.heap.size W X) → KeepsFrom W4.heap.size W (X.setCell ⟨w.heap.size + 1 + 1, 0, none⟩ (.int .i64 (sm + ib))) ∧ KpT (fun k _ => k = w.heap.size + 1 + 1) W (X.setCell ⟨w.heap.size + 1 + 1, 0, none⟩ (.int .i64 (sm + ib))) ∧ CB w k to (pre ++ [x]) (X.setCell ⟨w.heap.size + 1 + 1, 0, none⟩ (.int .i64 (sm + ib)))) := fun X h => by
        have h2 := HB.out.below h.out
        have g := gcell X (w.heap.size + 1 + 1) 0 (.int .i64 (sm + ib))
        refine ⟨kf_trans (kf_below h.out) (kf_cells g h2.s), (KpT.of_below h.out).trans (KpT.of_grown g (fun r o e _ => by cases e; rfl)), (g.block _ (Array.getElem?_eq_some_iff.1 h2.c).1 (fun e => by have := Option.some.inj e; omega)).trans h2.c, (g.block _ (Array.getElem?_eq_some_iff.1 h2.t).1 (fun e => by have := Option.some.inj e; omega)).trans h2.t, ?_, h2.b.setCell (p := ⟨w.heap.size + 1 + 1, 0, none⟩) (by simp; omega) _⟩
        rw [cnL_snoc, HSM.out, HS.out, if_pos c]
        simpa using set1 (i := 0) (.int .i64 (sm + ib)) h2.s
      gi_wp2_with (refine ⟨trivial, (fun h => by cases h), ?_⟩; guard_target =~ CallsIn _ _ _ 54 _ _ _; refine (CallsIn.inRound l (callsIn_wide.2 CI.out)).mono ?_; clear CI; rintro e w5 ⟨rfl, H5⟩; obtain ⟨x1, x2, x3⟩ := FX.out _ H5)
      exact FIN.out _ H5
    · have FIN : Hid (∀ X, Hid (Below W.heap.size W X) → KeepsFrom W4.heap.size W X ∧ KpT (fun k _ => k = w.heap.size + 1 + 1) W X ∧ CB w k to (pre ++ [x]) X) := fun X h => by
        have h2 := HB.out.below h.out
        refine ⟨kf_below h.out, KpT.of_below h.out, h2.c, h2.t, ?_, h2.b⟩
        rw [cnL_snoc, HSM.out, HS.out, if_neg c, Int.add_zero, ← HSM.out]
        exact h2.s
      gi_wp2_with (refine ⟨trivial, (fun h => by cases h), ?_⟩; guard_target =~ CallsIn _ _ _ 54 _ _ _; refine (CallsIn.inRound l (callsIn_wide.2 CI.out)).mono ?_; clear CI; rintro e w5 ⟨rfl, H5⟩; obtain ⟨x1, x2, x3⟩ := FX.out _ H5)
      exact FIN.out _ H5
  case done =>
    rintro D ys W hD rfl hb hK
    obtain ⟨hc, _⟩ := bx1 hb.s
    gi_wp2
    refine ⟨by simp, .inl ⟨_, _, rfl, run_takeDeferred hK, ?_⟩⟩
    exact ⟨_, results_tmp rfl _ _ _, rfl, hb.b.trans (belowK_b (w := w) (Nat.le_refl _) W D _ _ (by omega) hK rfl rfl)⟩
  case stop =>
    rintro D c pre W _ _ h _
    exact h.elim
theorem counted_any' (k : Ck) (s : ByteArray) (hs : s.size ≤ 4398046511104) (to : Int) (w : World) (hE : Ev w) :
    Calls Tryd.prog 44 #[ckv k, .string s, .int .i64 to] w fun e W' => e = .returned (.int .i64 (cn k s to)) ∧ Below w.heap.size w W' := callsIn_wide.1 (scounted_in 6 (by omega) k s hs to w hE)
/-- what the rounds of search leave as it is, and what is left of the number -/
structure SB (w : World) (k : Ck) (s : ByteArray) (N : Int) (pre : List Clu) (W : World) : Prop where
  c : W.heap[w.heap.size]? = some (.cells #[ckv k] 74 (0, 0))
  n : W.heap[w.heap.size + 1]? = some (.cells #[.int .i64 (N - ful k pre)] 3 (0, 0))
  r : W.heap[w.heap.size + 1 + 1]? = some (.cells #[.int .i64 0] 3 (0, 0))
  h : ∀ rest, cl s = pre ++ rest → srch k s.size N (cl s) = srch k s.size (N - ful k pre) rest
  b : Below w.heap.size w W
theorem SB.below {w : World} {k : Ck} {s : ByteArray} {N : Int} {pre : List Clu} {W X : World} (h : SB w k s N pre W) (hb : Below W.heap.size W X) : SB w k s N pre X :=
  ⟨(hb.block _ (Array.getElem?_eq_some_iff.1 h.c).1).trans h.c, (hb.block _ (Array.getElem?_eq_some_iff.1 h.n).1).trans h.n, (hb.block _ (Array.getElem?_eq_some_iff.1 h.r).1).trans h.r, h.h, Below.on h.b hb⟩
theorem sb_ab {w : World} {k : Ck} {s : ByteArray} {N : Int} {B lo hi : Nat} (h : w.heap.size + 1 + 1 < B) : Ab B lo hi (SB w k s N) := fun pre X Y row h1 hg hr =>
  ⟨ab_block (o := fun _ : Unit => _) (show w.heap.size < B by omega) () X Y row h1.c hg hr, ab_block (o := fun _ : Unit => _) (show w.heap.size + 1 < B by omega) () X Y row h1.n hg hr, ab_block (o := fun _ : Unit => _) h () X Y row h1.r hg hr, h1.h, ab_below (β := Unit) (by omega) (Nat.le_refl _) () X Y row h1.b hg hr⟩
/-- .. and how it is left when the item is found -/
def SX (w : World) (k : Ck) (s : ByteArray) (N : Int) (c : Code) (_ : List Clu) (W : World) : Prop := c = .ret ∧ W.heap[w.heap.size + 1 + 1]? = some (.cells #[.int .i64 (pos k s N)] 3 (0, 0)) ∧ Below w.heap.size w W
theorem sx_ab {w : World} {k : Ck} {s : ByteArray} {N : Int} {c : Code} {B lo hi : Nat} (h : w.heap.size + 1 + 1 < B) : Ab B lo hi (SX w k s N c) := fun pre X Y row h1 hg hr =>
  ⟨h1.1, ab_block (o := fun _ : Unit => _) h () X Y row h1.2.1 hg hr, ab_below (β := Unit) (by omega) (Nat.le_refl _) () X Y row h1.2.2 hg hr⟩
theorem ful_bd (k : Ck) : ∀ {l : List Clu}, (∀ d ∈ l, 0 ≤ d.n ∧ d.n ≤ 2) → 0 ≤ ful k l ∧ ful k l ≤ 2 * l.length
  | [], _ => by simp [ful]
  | c :: l, h => by
    have h1 := itm_n k (h c List.mem_cons_self)
    have h2 := ful_bd k (l := l) (fun d hd => h d (List.mem_cons_of_mem _ hd))
    simp only [ful, List.length_cons]
    omega
theorem ful_snoc (k : Ck) (pre : List Clu) (x : Clu) : ful k (pre ++ [x]) = ful k pre + (itm k x).2 := by rw [ful_app]; simp [ful]
set_option maxRecDepth 100000 in
set_option maxHeartbeats 2000000 in
theorem search_in (n : Nat) (hn : 6 ≤ n) (k : Ck) (s : ByteArray) (hs : s.size ≤ 4398046511104) (N : Int) (hN : -1152921504606846976 ≤ N ∧ N ≤ 1152921504606846976) (w : World) (hE : Ev w) :
    CallsIn Fence.wide n Tryd.prog 36 #[ckv k, .string s, .int .i64 N] w fun e W' => e = .returned (.int .i64 (pos k s N)) ∧ Below w.heap.size w W' := by
  have h1 : 1 ≤ n := by omega
  have hs' : s.size ≤ maxLen := by unfold maxLen; omega
  have hl1 := hE.l1
  have hl0 := hE.l0
  refine callsIn_of_wp_marks Tryd.func36 rfl trivial ?_ rfl
  simp only [Tryd.ntmps36, List.size_toArray, List.length_cons, List.length_nil, Nat.reduceAdd, Nat.reduceSub, Array.replicate_succ, Array.replicate_zero, List.push_toArray, List.append_toArray, List.nil_append, List.cons_append]
  gi_wp2_with (refine ⟨trivial, ?_⟩; gi_at_call 21; refine (walk_in (n - 1) _ _).mono ?_; rintro e w' ⟨rfl, rfl⟩)
  obtain ⟨W4, hW4⟩ : ∃ W4, ((((w.alloc (.cells #[ckv k] 74)).alloc (.cells #[.int .i64 N] 3)).alloc (.cells #[.int .i64 0] 3)).alloc (.cells #[.string s] 9)) = W4 := ⟨_, rfl⟩
  rw [hW4]
  obtain ⟨p0, p1, p2, p3⟩ : W4.heap[w.heap.size]? = some (.cells #[ckv k] 74 (0, 0)) ∧ W4.heap[w.heap.size + 1]? = some (.cells #[.int .i64 N] 3 (0, 0)) ∧ W4.heap[w.heap.size + 1 + 1]? = some (.cells #[.int .i64 0] 3 (0, 0)) ∧ W4.heap[w.heap.size + 1 + 1 + 1]? = some (.cells #[.string s] 9 (0, 0)) := by rw [← hW4]; exact push4 w.heap _ _ _ _
  have hB0 : Below w.heap.size w W4 := by rw [← hW4]; exact ((((Below.refl _ w).alloc (Nat.le_refl _) _).alloc (by simp) _).alloc (by simp; omega) _).alloc (by simp; omega) _
  have hsz : W4.heap.size = w.heap.size + 4 := by rw [← hW4]; simp
  clear hW4
  refine range_own rfl h1 (gf := 38) (lb := #[.pointer (some ⟨w.heap.size + 1 + 1 + 1, 0, none⟩)]) rfl trivial (enters_of Tryd.func38 (by kernel_rfl) rfl)
    (clu_seq (n - 1) (by omega) (w.heap.size + 1 + 1 + 1) (W4.heap.size + 2) (fun k _ => k = w.heap.size + 1) s hs' (fun _ h => by omega) (fun _ h => by omega) (fun _ h => by omega) (fun k _ h1 h2 h => by omega) (fun k _ _ h1 h => by omega)
      W4 (by omega) (by omega) (by omega) p3 (tabs_below hE.t hB0))
    KpT.trans (fun W l o o' _ _ hl ho => KpT.putObj W l o o' hl ho) (fun _ => rfl)
    (SB w k s N) (SX w k s N) (sb_ab (by omega)) (fun _ => sx_ab (by omega)) ⟨p0, by simpa [ful] using p1, p2, fun rest h => by simp at h; simp [ful, ← h], hB0⟩
    (fun x a' W' => ∃ Bx, w.heap.size + 1 + 1 < Bx ∧ W'.heap[Bx]? = some (.cells (cvs x) 63 (0, 0)) ∧
      a' = { tmps := #[ckv k, .string s, .int .i64 N, .pointer (some ⟨w.heap.size, 0, none⟩), undef, .pointer (some ⟨w.heap.size + 1, 0, none⟩), .pointer (some ⟨w.heap.size + 1 + 1, 0, none⟩), .pointer (some ⟨Bx, 0, none⟩), undef, undef, .string s, .func (.func 38) #[] #[.pointer (some ⟨w.heap.size + 1 + 1 + 1, 0, none⟩)], cv x, undef, undef, undef, undef, undef, undef, undef, undef, undef, undef, undef, undef, undef, undef, undef], defers := [] })
    (fun x a' _ X Y row h hg hr => h.imp fun Bx hx => ⟨hx.1, (hg.block Bx (Array.getElem?_eq_some_iff.1 hx.2.1).1 (fun e => by
      obtain ⟨_, (h3 | ⟨o, ho, hc⟩)⟩ := hr Bx e.symm
      · omega
      · rw [hx.2.1] at ho; cases ho; cases hc)).trans hx.2.1, hx.2.2⟩)
    ?assign ?body ?done ?stop
  case assign =>
    rintro l pre x W K hb hK
    have hsx := (Array.getElem?_eq_some_iff.1 hb.r).1
    gi_wp2
    exact hK _ _ (kf_below ((Below.refl _ W).alloc (Nat.le_refl _) _)) (KpT.of_below ((Below.refl _ W).alloc (Nat.le_refl _) _)) (hb.below ((Below.refl _ W).alloc (Nat.le_refl _) _)) ⟨W.heap.size, hsx, World.alloc_heap_new W _, rfl⟩
  case body =>
    rintro l pre x a' W _ _ _ hWs hb ⟨Bx, hBx, qx, rfl⟩ hnx
    have hxm : x ∈ cl s := hnx.subset (by simp)
    have hsp := cl_span hxm
    obtain ⟨rest, hrest⟩ := hnx
    have hrest' : cl s = pre ++ x :: rest := by rw [← hrest]; simp
    obtain ⟨d0, d1, d2, d3⟩ := bx4 qx
    obtain ⟨e0, _⟩ := bx1 hb.c
    have CI : Hid (Calls Tryd.prog 54 #[ckv k, cv x] W fun e W' => e = .returned (.tuple #[.int .i64 ((itm k x).1 : Int), .int .i64 (itm k x).2]) ∧ Hid (Below W.heap.size W W')) := sitem_any k x hsp.1 (by omega) W
    have hbd := ful_bd k (l := pre) (fun d hd => cl_n s d (by rw [hrest']; exact List.mem_append_left _ hd))
    have hpl : pre.length ≤ s.size := by have := cl_len s; rw [hrest', List.length_append] at this; omega
    have hib := itm_n k (cl_n s x hxm)
    have HB : Hid (SB w k s N pre W) := hb
    have hH := hb.h _ hrest'
    obtain ⟨m, hm⟩ : ∃ m, N - ful k pre = m := ⟨_, rfl⟩
    have HM : Hid (N - ful k pre = m) := hm
    rw [hm] at hH
    have hb1 : m ≤ 1152921504606846976 := by omega
    have hb2 : -1152921504606846976 - 8796093022208 ≤ m := by omega
    have FX : Hid (∀ X, Hid (Below W.heap.size W X) → X.cell? ⟨w.heap.size + 1, 0, none⟩ = some (.int .i64 m) ∧ X.frozen? ⟨w.heap.size + 1, 0, none⟩ = false ∧ X.cell? ⟨w.heap.size + 1 + 1, 0, none⟩ = some (.int .i64 0) ∧ X.frozen? ⟨w.heap.size + 1 + 1, 0, none⟩ = false) := fun X h => by
      have h2 := HB.out.below h.out
      have h3 := bx1 h2.n
      rw [HM.out] at h3
      exact ⟨h3.1, h3.2, bx1 h2.r⟩
    by_cases c : m < (itm k x).2
    · have FIN : Hid (∀ X, Hid (Below W.heap.size W X) → KeepsFrom W4.heap.size W (X.setCell ⟨w.heap.size + 1 + 1, 0, none⟩ (.int .i64 ((itm k x).1 : Int))) ∧ SX w k s N .ret (pre ++ [x]) (X.setCell ⟨w.heap.size + 1 + 1, 0, none⟩ (.int .i64 ((itm k x).1 : Int)))) := fun X h => by
        have h2 := HB.out.below h.out
        have g := gcell X (w.heap.size + 1 + 1) 0 (.int .i64 ((itm k x).1 : Int))
        refine ⟨kf_trans (kf_below h.out) (kf_cells g h2.r), rfl, ?_, h2.b.setCell (p := ⟨w.heap.size + 1 + 1, 0, none⟩) (by simp; omega) _⟩
        have e : pos k s N = (itm k x).1 := by unfold pos; rw [hH]; simp only [srch]; rw [if_pos c]
        rw [e]
        simpa using set1 (i := 0) (.int .i64 ((itm k x).1 : Int)) h2.r
      obtain ⟨ia, hia⟩ : ∃ i, (itm k x).1 = i := ⟨_, rfl⟩
      obtain ⟨ib, hib2⟩ : ∃ i, (itm k x).2 = i := ⟨_, rfl⟩
      rw [hia, hib2] at CI
      rw [hia] at FIN
      rw [hib2] at c
      clear hm hbd hpl hib hia hib2 hb qx hxm hsp hH hrest hrest'
      gi_wp2_with (refine ⟨trivial, (fun h => by cases h), ?_⟩; guard_target =~ CallsIn _ _ _ 54 _ _ _; refine (CallsIn.inRound l (callsIn_wide.2 CI.out)).mono ?_; clear CI; rintro e w5 ⟨rfl, H5⟩; obtain ⟨x1, x2, x3, x4⟩ := FX.out _ H5)
      exact FIN.out _ H5
    · have FIN : Hid (∀ X, Hid (Below W.heap.size W X) → KeepsFrom W4.heap.size W (X.setCell ⟨w.heap.size + 1, 0, none⟩ (.int .i64 (m - (itm k x).2))) ∧ KpT (fun k _ => k = w.heap.size + 1) W (X.setCell ⟨w.heap.size + 1, 0, none⟩ (.int .i64 (m - (itm k x).2))) ∧ SB w k s N (pre ++ [x]) (X.setCell ⟨w.heap.size + 1, 0, none⟩ (.int .i64 (m - (itm k x).2)))) := fun X h => by
        have h2 := HB.out.below h.out
        have g := gcell X (w.heap.size + 1) 0 (.int .i64 (m - (itm k x).2))
        refine ⟨kf_trans (kf_below h.out) (kf_cells g h2.n), (KpT.of_below h.out).trans (KpT.of_grown g (fun r o e _ => by cases e; rfl)), (g.block _ (Array.getElem?_eq_some_iff.1 h2.c).1 (fun e => by have := Option.some.inj e; omega)).trans h2.c, ?_, (g.block _ (Array.getElem?_eq_some_iff.1 h2.r).1 (fun e => by have := Option.some.inj e; omega)).trans h2.r, fun rest' h3 => ?_, h2.b.setCell (p := ⟨w.heap.size + 1, 0, none⟩) (by simp) _⟩
        · rw [ful_snoc, show N - (ful k pre + (itm k x).2) = m - (itm k x).2 by have := HM.out; omega]
          simpa using set1 (i := 0) (.int .i64 (m - (itm k x).2)) h2.n
        · have e : rest' = rest := by
            rw [hrest', show pre ++ x :: rest = (pre ++ [x]) ++ rest by simp] at h3
            exact (List.append_cancel_left h3).symm
          rw [hH, ful_snoc, show N - (ful k pre + (itm k x).2) = m - (itm k x).2 by have := HM.out; omega, e]
          simp only [srch]
          rw [if_neg c]
      obtain ⟨ia, hia⟩ : ∃ i, (itm k x).1 = i := ⟨_, rfl⟩
      obtain ⟨ib, hib2⟩ : ∃ i, (itm k x).2 = i := ⟨_, rfl⟩
      rw [hia, hib2] at CI
      rw [hib2] at FIN c hib
      clear hm hbd hpl hia hib2 hb qx hxm hsp hH hrest hrest'
      gi_wp2_with (refine ⟨trivial, (fun h => by cases h), ?_⟩; guard_target =~ CallsIn _ _ _ 54 _ _ _; refine (CallsIn.inRound l (callsIn_wide.2 CI.out)).mono ?_; clear CI; rintro e w5 ⟨rfl, H5⟩; obtain ⟨x1, x2, x3, x4⟩ := FX.out _ H5)
      exact FIN.out _ H5
  case done =>
    rintro D ys W hD rfl hb hK
    have hH : pos k s N = s.size := by have := hb.h [] (by simp); unfold pos; rw [this]; rfl
    obtain ⟨hc, hf⟩ := bx1 hb.r
    have hK' : (W.setCell ⟨w.heap.size + 1 + 1, 0, none⟩ (.int .i64 (s.size : Int))).heap[D]? = some (.deferred (some [])) := ((gcell W (w.heap.size + 1 + 1) 0 (.int .i64 (s.size : Int))).block D (Array.getElem?_eq_some_iff.1 hK).1 (fun e => by have := Option.some.inj e; omega)).trans hK
    have s1 := set1 (i := 0) (.int .i64 (s.size : Int)) hb.r
    obtain ⟨c9, _⟩ := bx1 ((World.putObj_heap_other (w := W.setCell ⟨w.heap.size + 1 + 1, 0, none⟩ (.int .i64 (s.size : Int))) (o := .deferred none) (show w.heap.size + 1 + 1 ≠ D by omega)).trans (show _ = some (Obj.cells #[.int .i64 (s.size : Int)] 3 (0, 0)) from s1))
    have hB : Below w.heap.size w (W.setCell ⟨w.heap.size + 1 + 1, 0, none⟩ (.int .i64 (s.size : Int))) := hb.b.setCell (p := ⟨w.heap.size + 1 + 1, 0, none⟩) (by simp; omega) _
    have hH' : Hid (pos k s N = s.size) := hH
    clear hH
    gi_wp2
    refine ⟨by simp, .inl ⟨_, _, rfl, run_takeDeferred hK', ?_⟩⟩
    exact ⟨.int .i64 (s.size : Int), (by simp [results, Tryd.results36, go_sem, c9]), by rw [hH'.out], hB.trans (belowK_b (w := w) (Nat.le_refl _) _ D _ _ (by omega) hK' rfl rfl)⟩
  case stop =>
    rintro D c pre W hD _ ⟨rfl, hr, hb⟩ hK
    obtain ⟨c9, _⟩ := bx1 ((World.putObj_heap_other (w := W) (o := .deferred none) (show w.heap.size + 1 + 1 ≠ D by omega)).trans hr)
    gi_wp2
    refine ⟨by simp, .inl ⟨_, _, rfl, run_takeDeferred hK, ?_⟩⟩
    exact ⟨_, (by simp [results, Tryd.results36, go_sem, c9]), rfl, hb.trans (belowK_b (w := w) (Nat.le_refl _) _ D _ _ (by omega) hK rfl rfl)⟩
theorem ssearch_any (k : Ck) (s : ByteArray) (hs : s.size ≤ 4398046511104) (N : Int) (hN : -1152921504606846976 ≤ N ∧ N ≤ 1152921504606846976) (w : World) (hE : Ev w) :
    Calls Tryd.prog 36 #[ckv k, .string s, .int .i64 N] w fun e W' => e = .returned (.int .i64 (pos k s N)) ∧ Below w.heap.size w W' := callsIn_wide.1 (search_in 6 (by omega) k s hs N hN w hE)
end Go.Proofs.YtiehhafbblbbiabDoor
