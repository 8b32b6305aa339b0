/-
  What the laws of package bind ask besides: whether two rows of commands are alike (where they are), the keys of a character and of a control byte; and Single. Conditions: those of each theorem.
-/
import Derived.Test.YtmaolbibbjngcaaDoorICms
namespace Go.Proofs.YtmaolbibbjngcaaDoor
open Go.RowKit Go.Shelf Bod

theorem ccl_at : ∀ (l : List Cm) (i : Nat) (c : Cm), l[i]? = some c → (ccl l)[i * 4]? = some (.int .i64 c.kd) ∧ (ccl l)[i * 4 + 1]? = some (.int .i64 c.n) ∧ (ccl l)[i * 4 + 2]? = some (.string c.tx) ∧ (ccl l)[i * 4 + 3]? = some (.int .u8 c.mr)
  | [], _, _, h => by simp at h
  | x :: l, 0, c, h => by
    simp at h; subst h
    simp [ccl]
  | x :: l, i + 1, c, h => by
    have := ccl_at l i c (by simpa using h)
    have e : ∀ k, (ccl (x :: l))[(i + 1) * 4 + k]? = (ccl l)[i * 4 + k]? := fun k => by
      show ([Value.int .i64 x.kd, .int .i64 x.n, .string x.tx, .int .u8 x.mr] ++ ccl l)[(i + 1) * 4 + k]? = _
      rw [List.getElem?_append_right (by simp; omega)]
      congr 1
      simp; omega
    exact ⟨(e 0).trans this.1, (e 1).trans this.2.1, (e 2).trans this.2.2.1, (e 3).trans this.2.2.2⟩
/-- one command of a row -/
theorem row_cm {W : World} {base n : Nat} {v : Value} {l : List Cm} (h : W.ownsRow base 34 4 v n (ccl l)) (hn : n = l.length) : ∃ a cap, v = .slice a n cap ∧ n ≤ cap ∧ ∀ (i : Nat) c, l[i]? = some c → ∃ g, a = some ⟨g, 0, none⟩ ∧
    W.cell? ⟨g, i * 4, none⟩ = some (.int .i64 c.kd) ∧ W.cell? ⟨g, i * 4 + 1, none⟩ = some (.int .i64 c.n) ∧ W.cell? ⟨g, i * 4 + 2, none⟩ = some (.string c.tx) ∧ W.cell? ⟨g, i * 4 + 3, none⟩ = some (.int .u8 c.mr) := by
  have hc := fun g e => h.cells (g := g) e
  rcases h.2 with ⟨rfl, h0⟩ | ⟨g, cap, cur, rfl, -, -, hcap, -⟩
  · subst h0
    exact ⟨none, 0, rfl, Nat.le_refl _, fun i c hi => by
      have := (List.getElem?_eq_some_iff.1 hi).1
      omega⟩
  · refine ⟨_, cap, rfl, hcap, fun i c hi => ⟨g, rfl, ?_⟩⟩
    obtain ⟨q0, q1, q2, q3⟩ := ccl_at l i c hi
    have hc := hc g rfl
    have e : ∀ j u, (ccl l)[j]? = some u → W.cell? ⟨g, j, none⟩ = some u := fun j u hj => by
      have := hc j u hj
      rwa [Go.WideShapes.add_plain, Nat.zero_add] at this
    exact ⟨e _ _ q0, e _ _ q1, e _ _ q2, e _ _ q3⟩
/-- while Single works: its answer's box, still zero; and behind its calls -/
structure Sg (w W : World) : Prop where
  bel : Below w.heap.size w W
  sz : W.heap.size = w.heap.size + 1 + 1
  rs : W.heap[w.heap.size + 1]? = some (.cells (cmc cmz) 34 (0, 0))
theorem Sg.drew {w W : World} (h : Sg w W) : Sg w W.drew := ⟨h.bel.drew, h.sz, h.rs⟩
structure Sh (w W : World) : Prop where
  bel : Below w.heap.size w W
  rs : W.heap[w.heap.size + 1]? = some (.cells (cmc cmz) 34 (0, 0))
theorem Sh.fin {w W : World} (h : Sh w W) (u0 u1 u2 u3 : Value) : let W' := (((W.setCell ⟨w.heap.size + 1, 0, none⟩ u0).setCell ⟨w.heap.size + 1, 1, none⟩ u1).setCell ⟨w.heap.size + 1, 2, none⟩ u2).setCell ⟨w.heap.size + 1, 3, none⟩ u3
    Below w.heap.size w W' ∧ (W'.cell? ⟨w.heap.size + 1, 0, none⟩ = some u0 ∧ W'.cell? ⟨w.heap.size + 1, 1, none⟩ = some u1 ∧ W'.cell? ⟨w.heap.size + 1, 2, none⟩ = some u2 ∧ W'.cell? ⟨w.heap.size + 1, 3, none⟩ = some u3) :=
  ⟨(((h.bel.setCell (p := ⟨w.heap.size + 1, 0, none⟩) (by simp) _).setCell (p := ⟨w.heap.size + 1, 1, none⟩) (by simp) _).setCell (p := ⟨w.heap.size + 1, 2, none⟩) (by simp) _).setCell (p := ⟨w.heap.size + 1, 3, none⟩) (by simp) _, (box4 (set4 h.rs)).1⟩
section
set_option maxRecDepth 100000
set_option maxHeartbeats 2000000
theorem sam_any (l : List Cm) (hl : l.length ≤ 2097152) (v v' : Value) (p q : Nat) (w : World) (h : w.ownsRow p 34 4 v l.length (ccl l)) (h' : w.ownsRow q 34 4 v' l.length (ccl l)) : Calls Tryd.prog 22 #[v, v'] w fun e w' => e = .returned (.bool true) ∧ Below w.heap.size w w' := by
  obtain ⟨a, cap, rfl, hcap, hc⟩ := row_cm h rfl
  obtain ⟨a', cap', rfl, hcap', hc'⟩ := row_cm h' rfl
  have HC : Hid (∀ W, Below w.heap.size w W → ∀ (i : Nat) c, l[i]? = some c → ∃ g, a = some ⟨g, 0, none⟩ ∧ W.cell? ⟨g, i * 4, none⟩ = some (.int .i64 c.kd) ∧ W.cell? ⟨g, i * 4 + 1, none⟩ = some (.int .i64 c.n) ∧ W.cell? ⟨g, i * 4 + 2, none⟩ = some (.string c.tx) ∧ W.cell? ⟨g, i * 4 + 3, none⟩ = some (.int .u8 c.mr)) := fun W hW => by
    obtain ⟨a1, cap1, e, -, r⟩ := row_cm (h.kept (row := none) ⟨hW.os, hW.tape, hW.output, hW.size, fun k hk _ => hW.block k hk⟩ (by cases a <;> simp [Value.ownBlock])) rfl
    cases e
    exact r
  have HC' : Hid (∀ W, Below w.heap.size w W → ∀ (i : Nat) c, l[i]? = some c → ∃ g, a' = some ⟨g, 0, none⟩ ∧ W.cell? ⟨g, i * 4, none⟩ = some (.int .i64 c.kd) ∧ W.cell? ⟨g, i * 4 + 1, none⟩ = some (.int .i64 c.n) ∧ W.cell? ⟨g, i * 4 + 2, none⟩ = some (.string c.tx) ∧ W.cell? ⟨g, i * 4 + 3, none⟩ = some (.int .u8 c.mr)) := fun W hW => by
    obtain ⟨a1, cap1, e, -, r⟩ := row_cm (h'.kept (row := none) ⟨hW.os, hW.tape, hW.output, hW.size, fun k hk _ => hW.block k hk⟩ (by cases a' <;> simp [Value.ownBlock])) rfl
    cases e
    exact r
  clear h h' hc hc'
  obtain ⟨N, hN⟩ : ∃ N, l.length = N := ⟨_, rfl⟩
  have HN : Hid (l.length = N) := hN
  rw [hN] at hl hcap hcap' ⊢
  have hl' : (N : Int) ≤ 2097152 := by omega
  clear hN
  have HB : Hid (Below w.heap.size w w) := Below.refl _ w
  go_enter Tryd.func22, Tryd.ntmps22
  go_upto_region 4 with fail
  go_loopw [13] (fun t13 wr => ∃ i : Nat, t13 = .int .i64 i ∧ i ≤ N ∧ Hid (Below w.heap.size w wr)) (fun t13 _ => N - (intOf t13).toNat)
  case atStart => exact ⟨0, rfl, Nat.zero_le _, HB⟩
  case round =>
    clear HB
    obtain ⟨i, rfl, hi', HB⟩ := hrel
    by_cases hlt : i < N
    · have hlt' : (i : Int) < N := by omega
      obtain ⟨x, hx⟩ : ∃ x, l[i]? = some x := ⟨l[i]'(by rw [HN.out]; exact hlt), List.getElem?_eq_getElem _⟩
      obtain ⟨g, rfl, q0, q1, q2, q3⟩ := HC.out _ HB.out i x hx
      obtain ⟨g', rfl, r0, r1, r2, r3⟩ := HC'.out _ HB.out i x hx
      obtain ⟨c0, c1, c2, c3⟩ := x
      simp only at q0 q1 q2 q3 r0 r1 r2 r3
      clear hx HC HC'
      go_wp2_with fail
      go_region
      all_goals
        go_wp2
        refine ⟨⟨i + 1, by go_num, by omega, ?_⟩, by simp [intOf]; omega⟩
        exact HB.out.drew
    · have hge : ¬ ((i : Int) < N) := by omega
      go_wp2
      go_ret
      exact ⟨rfl, HB.out⟩
theorem hkey_any (c : Int) (m : Bool) (w : World) : Calls Tryd.prog 25 #[.int .i32 c, .bool m] w fun e w' => e = .returned (kyv ⟨1, c, false, m, false, ⟨#[]⟩⟩) ∧ Below w.heap.size w w' := by
  unfold kyv
  have HB : Hid (∀ o, Below w.heap.size w (w.alloc o)) := fun o => (Below.refl _ w).alloc (Nat.le_refl _) o
  go_enter Tryd.func25, Tryd.ntmps25
  go_wp2
  exact bodyPost_ret (v := .agg #[.int .i64 1, .int .i32 c, .bool false, .bool m, .bool false, .string ⟨#[]⟩]) (by simp [results, Tryd.results25, go_sem]) rfl ⟨rfl, HB.out _⟩
theorem ckey_any (c : Int) (w : World) : Calls Tryd.prog 24 #[.int .i32 c] w fun e w' => e = .returned (kyv ⟨2, c, true, false, false, ⟨#[]⟩⟩) ∧ Below w.heap.size w w' := by
  unfold kyv
  have HB : Hid (∀ o, Below w.heap.size w (w.alloc o)) := fun o => (Below.refl _ w).alloc (Nat.le_refl _) o
  go_enter Tryd.func24, Tryd.ntmps24
  go_wp2
  exact bodyPost_ret (v := .agg #[.int .i64 2, .int .i32 c, .bool true, .bool false, .bool false, .string ⟨#[]⟩]) (by simp [results, Tryd.results24, go_sem]) rfl ⟨rfl, HB.out _⟩
theorem sng_any (hM : Tryd.prog.follows .mixedOrders = true) (k : Ky) (hk : k.Ok) (w : World) (hT : Tb w) : Calls Tryd.prog 20 #[kyv k] w fun e w' => e = .returned (.tuple #[.agg (cmc (keyP bsz k).1), .bool (keyP bsz k).2.1]) ∧ Below w.heap.size w w' := by
  have CK : Hid (∀ (W : World), Sg w W → Calls Tryd.prog 15 #[.pointer (some ⟨w.heap.size + 1 + 1, 0, none⟩), kyv k] (W.alloc (.cells (bsc bsz) 53)).drew fun e w' => e = .returned (.tuple #[.agg (cmc (keyP bsz k).1), .bool (keyP bsz k).2.1]) ∧ Hid (Sh w w')) := fun W hW => by
    have hB := (hW.bel.alloc hW.bel.size (.cells (bsc bsz) 53)).drew
    have hn := World.alloc_heap_new W (.cells (bsc bsz) 53)
    have hz := hW.sz
    refine (key_any hM (w.heap.size + 1 + 1) bsz bsz_ok k hk _ (hT.below hB) (hT.ab (by omega)) (by unfold Bn; rw [← hW.sz]; exact hn)).mono fun e w' q => ⟨q.1, hB.grown q.2.2 (by show _ ≤ (W.alloc _).heap.size; simp; omega) (fun k e => by cases e; omega), ?_⟩
    refine (q.2.2.block _ (by show _ < (W.alloc _).heap.size; simp; omega) (by intro e; have := Option.some.inj e; omega)).trans ((Below.heap_alloc _ _ _ (by omega)).trans hW.rs)
  have H0 : Hid (Sg w ((w.alloc (.cells (kyc k) 30)).alloc (.cells (cmc cmz) 34))) := by
    refine ⟨((Below.refl _ w).alloc (Nat.le_refl _) _).alloc (by simp) _, by simp, ?_⟩
    have := World.alloc_heap_new (w.alloc (.cells (kyc k) 30)) (.cells (cmc cmz) 34)
    simpa using this
  generalize (keyP bsz k).2.1 = ok at CK ⊢
  generalize (keyP bsz k).1 = c at CK ⊢
  clear hM hk hT
  obtain ⟨x0, x1, x2, x3, x4, x5⟩ := k
  obtain ⟨c0, c1, c2, c3⟩ := c
  simp only [kyv, cmc, kyc, cmz] at CK H0 ⊢
  go_enter Tryd.func20, Tryd.ntmps20
  go_wp2_with (fail)
  go_region_with (first
    | (go_at_call 10; refine (new_any _).mono ?_; rintro e w1 ⟨rfl, rfl⟩)
    | (go_at_call 15; refine (CK.out _ (by first | exact H0.out | exact H0.out.drew)).mono ?_; rintro e w2 ⟨rfl, K2⟩; obtain ⟨⟨r0, r1, r2, r3⟩, ⟨s0, s1, s2, s3⟩⟩ := box4 K2.out.rs))
  all_goals
    go_wp2
    obtain ⟨p, q0, q1, q2, q3⟩ := K2.out.fin (.int .i64 c0) (.int .i64 c1) (.string c2) (.int .u8 c3)
    exact bodyPost_ret (v := .tuple #[.agg #[.int .i64 c0, .int .i64 c1, .string c2, .int .u8 c3], .bool ok]) (by simp [results, Tryd.results20, go_sem, q0, q1, q2, q3]) rfl ⟨rfl, p⟩
end
end Go.Proofs.YtmaolbibbjngcaaDoor
