/-
  Package bind's Key and Single: what a binder makes of a key. Conditions: those of waits, kindOf and command.
-/
import Derived.Test.YtmaolbibbjngcaaDoorIWai
import Derived.Test.YtmaolbibbjngcaaDoorURegL
import Derived.Deep.DeepCutAuto
namespace Go.Proofs.YtmaolbibbjngcaaDoor
open Go.RowKit Bod

/-- while Key works: what waits, the key's box, the answer's box, still zero -/
structure Ke (w : World) (b : Nat) (s : Bs) (k : Ky) (W : World) : Prop where
  lt : b < w.heap.size
  bn : Bn b s W
  kx : W.heap[w.heap.size]? = some (.cells (kyc k) 30 (0, 0))
  rs : W.heap[w.heap.size + 1]? = some (.cells (cmc cmz) 34 (0, 0))
  g : w.grownBy W (some b)
theorem Ke.below {w W X : World} {b : Nat} {s : Bs} {k : Ky} (h : Ke w b s k W) (hb : Below W.heap.size W X) : Ke w b s k X :=
  ⟨h.lt, h.bn.below hb, (hb.block _ (Array.getElem?_eq_some_iff.1 h.kx).1).trans h.kx, (hb.block _ (Array.getElem?_eq_some_iff.1 h.rs).1).trans h.rs, grown2 h.g (gof hb b)⟩
theorem Ke.to {w W X : World} {b : Nat} {s t : Bs} {k : Ky} (h : Ke w b s k W) (h1 : Bn b t X) (hg : W.grownBy X (some b)) : Ke w b t k X :=
  ⟨h.lt, h1, (hg.block _ (Array.getElem?_eq_some_iff.1 h.kx).1 (by have := h.lt; intro e; cases e; omega)).trans h.kx, (hg.block _ (Array.getElem?_eq_some_iff.1 h.rs).1 (by have := h.lt; intro e; cases e; omega)).trans h.rs, grown2 h.g hg⟩
theorem Ke.drew {w W : World} {b : Nat} {s : Bs} {k : Ky} (h : Ke w b s k W) : Ke w b s k W.drew := ⟨h.lt, h.bn, h.kx, h.rs, ⟨h.g.os, h.g.tape, h.g.output, h.g.size, h.g.block⟩⟩
theorem Ke.alloc {w W : World} {b : Nat} {s : Bs} {k : Ky} (h : Ke w b s k W) (o : Obj) : Ke w b s k (W.alloc o) := h.below ((Below.refl _ W).alloc (Nat.le_refl _) _)
theorem ke0 {w : World} {b : Nat} {s : Bs} (h : Bn b s w) (k : Ky) : Ke w b s k ((w.alloc (.cells (kyc k) 30)).alloc (.cells (cmc cmz) 34)) := by
  have e1 : (w.alloc (.cells (kyc k) 30)).heap.size = w.heap.size + 1 := by simp
  have hl := (Array.getElem?_eq_some_iff.1 h).1
  have hB : Below w.heap.size w ((w.alloc (.cells (kyc k) 30)).alloc (.cells (cmc cmz) 34)) := ((Below.refl _ w).alloc (Nat.le_refl _) _).alloc (by simp) _
  refine ⟨hl, h.below hB, ?_, ?_, gof hB b⟩
  · rw [Below.heap_alloc _ _ _ (by simp)]
    exact World.alloc_heap_new _ _
  · have := World.alloc_heap_new (w.alloc (.cells (kyc k) 30)) (.cells (cmc cmz) 34)
    rwa [e1] at this
/-- the answer is written -/
theorem Ke.fin {w W : World} {b : Nat} {s : Bs} {k : Ky} (h : Ke w b s k W) (u0 u1 u2 u3 : Value) : let W' := (((W.setCell ⟨w.heap.size + 1, 0, none⟩ u0).setCell ⟨w.heap.size + 1, 1, none⟩ u1).setCell ⟨w.heap.size + 1, 2, none⟩ u2).setCell ⟨w.heap.size + 1, 3, none⟩ u3
    Bn b s W' ∧ w.grownBy W' (some b) ∧ (W'.cell? ⟨w.heap.size + 1, 0, none⟩ = some u0 ∧ W'.cell? ⟨w.heap.size + 1, 1, none⟩ = some u1 ∧ W'.cell? ⟨w.heap.size + 1, 2, none⟩ = some u2 ∧ W'.cell? ⟨w.heap.size + 1, 3, none⟩ = some u3) := by
  have hl := h.lt
  have n1 : w.heap.size + 1 ≠ b := by omega
  have G : ∀ (X : World) (i : Nat) (u : Value), w.grownBy X (some b) → w.grownBy (X.setCell ⟨w.heap.size + 1, i, none⟩ u) (some b) := fun X i u g => by
    have e := gcell X (w.heap.size + 1) i u
    exact ⟨e.os.trans g.os, e.tape.trans g.tape, e.output.trans g.output, Nat.le_trans g.size e.size, fun k hk hr => (iset_ne (by omega)).trans (g.block k hk hr)⟩
  refine ⟨?_, G _ _ _ (G _ _ _ (G _ _ _ (G _ _ _ h.g))), (box4 (set4 h.rs)).1⟩
  unfold Bn
  rw [iset_ne n1, iset_ne n1, iset_ne n1, iset_ne n1]
  exact h.bn
/-- and the box of the command under way -/
structure Kc (w : World) (b : Nat) (s : Bs) (k : Ky) (n : Nat) (vs : Array Value) (W : World) : Prop where
  ke : Ke w b s k W
  gt : w.heap.size + 1 < n
  bx : W.heap[n]? = some (.cells vs 34 (0, 0))
theorem Kc.below {w W X : World} {b n : Nat} {s : Bs} {k : Ky} {vs : Array Value} (h : Kc w b s k n vs W) (hb : Below W.heap.size W X) : Kc w b s k n vs X :=
  ⟨h.ke.below hb, h.gt, (hb.block _ (Array.getElem?_eq_some_iff.1 h.bx).1).trans h.bx⟩
theorem Kc.to {w W X : World} {b n : Nat} {s t : Bs} {k : Ky} {vs : Array Value} (h : Kc w b s k n vs W) (h1 : Bn b t X) (hg : W.grownBy X (some b)) : Kc w b t k n vs X :=
  ⟨h.ke.to h1 hg, h.gt, (hg.block _ (Array.getElem?_eq_some_iff.1 h.bx).1 (by have := h.ke.lt; have := h.gt; intro e; cases e; omega)).trans h.bx⟩
theorem Kc.drew {w W : World} {b n : Nat} {s : Bs} {k : Ky} {vs : Array Value} (h : Kc w b s k n vs W) : Kc w b s k n vs W.drew := ⟨h.ke.drew, h.gt, h.bx⟩
theorem kc0 {w W : World} {b : Nat} {s : Bs} {k : Ky} (h : Ke w b s k W) (vs : Array Value) : Kc w b s k W.heap.size vs (W.alloc (.cells vs 34)) :=
  ⟨h.alloc _, by have := (Array.getElem?_eq_some_iff.1 h.rs).1; omega, World.alloc_heap_new _ _⟩
theorem Kc.set {w W : World} {b n : Nat} {s : Bs} {k : Ky} {vs : Array Value} (h : Kc w b s k n vs W) (i : Nat) (u : Value) : Kc w b s k n (vs.setIfInBounds i u) (W.setCell ⟨n, i, none⟩ u) := by
  have hl := h.ke.lt
  have hn := h.gt
  have g := h.ke.g
  have e := gcell W n i u
  refine ⟨⟨hl, (iset_ne (by omega)).trans h.ke.bn, (iset_ne (by omega)).trans h.ke.kx, (iset_ne (by omega)).trans h.ke.rs, ⟨e.os.trans g.os, e.tape.trans g.tape, e.output.trans g.output, Nat.le_trans g.size e.size, fun k hk hr => (iset_ne (by omega)).trans (g.block k hk hr)⟩⟩, hn, set1 u h.bx⟩
/-- the frame of the line that makes the command -/
def frK (ts : Array Value) (y : Nat → Value) : Array Value :=
  ((((((ts.setIfInBounds 15 (y 0)).setIfInBounds 16 (y 1)).setIfInBounds 17 (y 2)).setIfInBounds 18 (y 3)).setIfInBounds 19 (y 4)).setIfInBounds 6 (y 5))
/-- what each operation's slot has, once it has run -/
def PK (w : World) (b : Nat) (k : Ky) (kd : Int) (vs : Array Value) : Nat → Value → World → Prop
  | 0, y, _ => y = .pointer (some ⟨b, 0, none⟩)
  | 1, y, _ => y = kyv k
  | 2, y, _ => y = .int .i64 kd
  | 3, y, _ => y = kyv k
  | 4, y, _ => y = .agg vs
  | 5, y, W => ∃ q, y = .pointer (some ⟨q, 0, none⟩) ∧ w.heap.size + 1 < q ∧ W.heap[q]? = some (.cells (cmc cmz) 34 (0, 0))
  | _, _, _ => True
theorem PK.below {w W W' : World} {b : Nat} {k : Ky} {kd : Int} {vs : Array Value} (hb : Below W.heap.size W W') : ∀ (i : Nat) (z : Value), PK w b k kd vs i z W → PK w b k kd vs i z W'
  | 0, _, h => h
  | 1, _, h => h
  | 2, _, h => h
  | 3, _, h => h
  | 4, _, h => h
  | 5, _, ⟨q, h1, h2, h3⟩ => ⟨q, h1, h2, (hb.block _ (Array.getElem?_eq_some_iff.1 h3).1).trans h3⟩
  | _ + 6, _, _ => trivial
section
set_option maxRecDepth 100000
set_option maxHeartbeats 1000000
theorem key_nil (k : Ky) (w : World) : Calls Tryd.prog 15 #[.pointer none, kyv k] w fun e w' => e = .returned (.tuple #[.agg (cmc cmz), .bool false]) ∧ Below w.heap.size w w' := by
  obtain ⟨a, c, ct, m, sh, tx⟩ := k
  unfold kyv
  go_enter Tryd.func15, Tryd.ntmps15
  go_wp2
  exact bodyPost_ret (v := .tuple #[.agg #[.int .i64 0, .int .i64 0, .string ⟨#[]⟩, .int .u8 0], .bool false]) (by simp [results, Tryd.results15, go_sem]) rfl ⟨rfl, ((Below.refl _ w).alloc (Nat.le_refl _) _).alloc (by simp) _⟩
theorem key_wt (b : Nat) (s t : Bs) (hs : s.Ok) (k : Ky) (hk : k.Ok) (w : World) (hT : Tb w) (ha : Ab b) (h : Bn b s w) (hw : waiP s k = some t) : Calls Tryd.prog 15 #[.pointer (some ⟨b, 0, none⟩), kyv k] w fun e w' => e = .returned (.tuple #[.agg (cmc cmz), .bool false]) ∧ Bn b t w' ∧ w.grownBy w' (some b) := by
  have H0 : Hid (Ke w b s k ((w.alloc (.cells (kyc k) 30)).alloc (.cells (cmc cmz) 34))) := ke0 h k
  have CW : Hid (∀ W : World, Ke w b s k W → Calls Tryd.prog 29 #[.pointer (some ⟨b, 0, none⟩), kyv k] W fun e w' => e = .returned (.bool true) ∧ Ke w b t k w') := fun W h1 => by
    have := wai_any b s hs k hk W (hT.grown ha h1.g) ha h1.bn
    rw [hw] at this
    exact this.mono fun e w' q => ⟨q.1, h1.to q.2.1 q.2.2⟩
  clear hs hk hT ha h hw
  obtain ⟨a, c, ct, m, sh, tx⟩ := k
  unfold kyv at CW ⊢
  unfold kyc cmc cmz at H0
  unfold cmc cmz
  go_enter Tryd.func15, Tryd.ntmps15
  go_wp2_with (fail)
  go_at_call 29
  refine (CW.out _ H0.out).mono ?_
  rintro e w1 ⟨rfl, k1⟩
  have K1 : Hid (Ke w b t _ w1) := k1
  clear k1
  obtain ⟨⟨r0, r1, r2, r3⟩, ⟨s0, s1, s2, s3⟩⟩ := box4 K1.out.rs
  go_wp2
  obtain ⟨p, q, q0, q1, q2, q3⟩ := K1.out.fin (.int .i64 0) (.int .i64 0) (.string ⟨#[]⟩) (.int .u8 0)
  exact bodyPost_ret (v := .tuple #[.agg #[.int .i64 0, .int .i64 0, .string ⟨#[]⟩, .int .u8 0], .bool false]) (by simp [results, Tryd.results15, go_sem, q0, q1, q2, q3]) rfl ⟨rfl, p, q⟩
theorem key_mk (hM : Tryd.prog.follows .mixedOrders = true) (b : Nat) (s : Bs) (hs : s.Ok) (k : Ky) (hk : k.Ok) (w : World) (hT : Tb w) (ha : Ab b) (h : Bn b s w) (hw : waiP s k = none) : Calls Tryd.prog 15 #[.pointer (some ⟨b, 0, none⟩), kyv k] w fun e w' => e = .returned (.tuple #[.agg (cmc (makP s k)), .bool true]) ∧ Bn b bsz w' ∧ w.grownBy w' (some b) := by
  have H0 : Hid (Ke w b s k ((w.alloc (.cells (kyc k) 30)).alloc (.cells (cmc cmz) 34))) := ke0 h k
  have CW : Hid (∀ W : World, Ke w b s k W → Calls Tryd.prog 29 #[.pointer (some ⟨b, 0, none⟩), kyv k] W fun e w' => e = .returned (.bool false) ∧ Ke w b s k w') := fun W h1 => by
    have := wai_any b s hs k hk W (hT.grown ha h1.g) ha h1.bn
    rw [hw] at this
    exact this.mono fun e w' q => ⟨q.1, h1.to q.2.1 q.2.2⟩
  have CK : Hid (∀ W : World, Ke w b s k W → Calls Tryd.prog 31 #[.pointer (some ⟨b, 0, none⟩), kyv k] W fun e w' => e = .returned (.int .i64 (kinP s k)) ∧ Below W.heap.size W w') := fun W h1 =>
    knd_any b s k hk W (hT.grown ha h1.g) h1.bn hs.p
  have CC : Hid (∀ W : World, Calls Tryd.prog 30 #[.int .i64 (kinP s k), kyv k] W fun e w' => e = .returned (.agg (cmc (cmdP (kinP s k) k))) ∧ Below W.heap.size W w') := fun W => cmd_any k hk W (kinP s k)
  unfold makP
  obtain ⟨KD, hKD⟩ : ∃ x, kinP s k = x := ⟨_, rfl⟩
  rw [hKD] at CK CC ⊢
  obtain ⟨⟨kd, n, tx', mr⟩, hC⟩ : ∃ x, cmdP KD k = x := ⟨_, rfl⟩
  rw [hC] at CC ⊢
  have HM : Hid (Tryd.prog.follows .mixedOrders = true) := hM
  have CN : Hid (∀ W : World, Bn b s W → Calls Tryd.prog 26 #[.pointer (some ⟨b, 0, none⟩)] W fun e w' => e = .returned (.tuple #[.int .i64 s.count, .bool s.has]) ∧ w' = W) := fun W hW => cnt_any b s W hW
  have CR : Hid (∀ W : World, Bn b s W → Calls Tryd.prog 17 #[.pointer (some ⟨b, 0, none⟩)] W fun e w' => e = .returned (.tuple #[]) ∧ Bn b bsz w' ∧ W.grownBy w' (some b)) := fun W hW => rst_any b s W hW
  clear hC hKD hs hk hT ha h hw hM
  simp only
  have eC : cmc (if kd = 37 then ⟨kd, n, tx', mr⟩ else ⟨kd, s.count, tx', mr⟩) = #[.int .i64 kd, .int .i64 (if kd = 37 then n else s.count), .string tx', .int .u8 mr] := by split <;> rfl
  rw [eC]
  clear eC
  obtain ⟨n2, hn2⟩ : ∃ n2, (if kd = 37 then n else s.count) = n2 := ⟨_, rfl⟩
  rw [hn2]
  obtain ⟨a, c, ct, m, sh, tx⟩ := k
  unfold kyv at CW CK CC
  unfold kyv
  unfold kyc cmc cmz at H0
  unfold cmc at CC
  go_enter Tryd.func15, Tryd.ntmps15
  go_wp2_with (fail)
  go_at_call 29
  refine (CW.out _ H0.out).mono ?_
  rintro e w1 ⟨rfl, k1⟩
  have K1 : Hid (Ke w b s _ w1) := k1
  clear k1 H0
  obtain ⟨⟨r0, r1, r2, r3⟩, ⟨s0, s1, s2, s3⟩⟩ := box4 K1.out.rs
  obtain ⟨x0, x1, x2, x3, x4, x5, -⟩ := box6 K1.out.kx
  go_wp2_with (fail)
  go_cut [6] (fun v6 wx => ∃ q, v6 = .pointer (some ⟨q, 0, none⟩) ∧ Hid (Kc w b s ⟨a, c, ct, m, sh, tx⟩ q #[.int .i64 kd, .int .i64 n, .string tx', .int .u8 mr] wx))
  case first =>
    refine nameL fun A hA => ?_
    refine region_inv HM.out (by kernel_rfl) (fun v a' w' => ∃ y : Nat → Value, a' = ⟨frK A.tmps y, []⟩ ∧ Hid (Dlt 6 (Ke w b s ⟨a, c, ct, m, sh, tx⟩) (PK w b ⟨a, c, ct, m, sh, tx⟩ KD #[.int .i64 kd, .int .i64 n, .string tx', .int .u8 mr]) (fun y W => ∃ q, y 5 = .pointer (some ⟨q, 0, none⟩) ∧ Kc w b s ⟨a, c, ct, m, sh, tx⟩ q #[.int .i64 kd, .int .i64 n, .string tx', .int .u8 mr] W) v y w')) ?start ?step ?fin
    case start =>
      refine ⟨fun _ => undef, ?_, dlt0 K1.out.drew⟩
      subst hA
      simp [frK]
    case step =>
      intro i o v a' w' ho hv hni hop hI
      obtain ⟨y, rfl, HI⟩ := hI
      clear K1 r0 r1 r2 r3 s0 s1 s2 s3 x0 x1 x2 x3 x4 x5
      have hv : v.length = 7 := hv
      rcases i with _ | _ | _ | _ | _ | _ | _ | i
      · obtain rfl := Option.some.inj ho
        have hF := ((HI.out.a (HI.out.no (by decide) hni)).1)
        subst hA
        simp only [frK, List.setIfInBounds_toArray, List.set_cons_succ, List.set_cons_zero]
        go_wp2
        exact ⟨updL y 0 (.pointer (some ⟨b, 0, none⟩)), by simp [updL], HI.out.set (by decide) hni hF (fun _ _ h => h) rfl⟩
      · obtain rfl := Option.some.inj ho
        have hF := ((HI.out.a (HI.out.no (by decide) hni)).1)
        obtain ⟨x0, x1, x2, x3, x4, x5, -⟩ := box6 hF.kx
        subst hA
        simp only [frK, List.setIfInBounds_toArray, List.set_cons_succ, List.set_cons_zero]
        go_wp2
        exact ⟨updL y 1 (kyv ⟨a, c, ct, m, sh, tx⟩), by simp [updL, kyv], HI.out.set (by decide) hni hF (fun _ _ h => h) rfl⟩
      · obtain rfl := Option.some.inj ho
        obtain ⟨hF, hP⟩ := HI.out.a (HI.out.no (by decide) hni)
        have e0 : y 0 = _ := hP 0 (open_waits hop (by kernel_rfl))
        have e1 : y 1 = _ := hP 1 (open_waits hop (by kernel_rfl))
        clear hP
        unfold kyv at e1
        subst hA
        simp only [frK, List.setIfInBounds_toArray, List.set_cons_succ, List.set_cons_zero]
        simp only [e0, e1]
        go_wp2_with (go_at_call 31; refine (CK.out _ hF).mono ?_; rintro e w2 ⟨rfl, hb2⟩)
        exact ⟨updL y 2 (.int .i64 KD), by simp [updL, e0, e1], HI.out.set (by decide) hni (hF.below hb2) (PK.below hb2) rfl⟩
      · obtain rfl := Option.some.inj ho
        have hF := ((HI.out.a (HI.out.no (by decide) hni)).1)
        obtain ⟨x0, x1, x2, x3, x4, x5, -⟩ := box6 hF.kx
        subst hA
        simp only [frK, List.setIfInBounds_toArray, List.set_cons_succ, List.set_cons_zero]
        go_wp2
        exact ⟨updL y 3 (kyv ⟨a, c, ct, m, sh, tx⟩), by simp [updL, kyv], HI.out.set (by decide) hni hF (fun _ _ h => h) rfl⟩
      · obtain rfl := Option.some.inj ho
        obtain ⟨hF, hP⟩ := HI.out.a (HI.out.no (by decide) hni)
        have e2 : y 2 = _ := hP 2 (open_waits hop (by kernel_rfl))
        have e3 : y 3 = _ := hP 3 (open_waits hop (by kernel_rfl))
        clear hP
        unfold kyv at e3
        subst hA
        simp only [frK, List.setIfInBounds_toArray, List.set_cons_succ, List.set_cons_zero]
        simp only [e2, e3]
        go_wp2_with (go_at_call 30; refine (CC.out _).mono ?_; rintro e w2 ⟨rfl, hb2⟩)
        exact ⟨updL y 4 (.agg #[.int .i64 kd, .int .i64 n, .string tx', .int .u8 mr]), by simp [updL, e2, e3], HI.out.set (by decide) hni (hF.below hb2) (PK.below hb2) rfl⟩
      · obtain rfl := Option.some.inj ho
        obtain ⟨hF, hP⟩ := HI.out.a (HI.out.no (by decide) hni)
        clear hP
        subst hA
        simp only [frK, List.setIfInBounds_toArray, List.set_cons_succ, List.set_cons_zero]
        go_wp2
        have hb2 : ∀ o, Below w'.heap.size w' (w'.alloc o) := fun o => (Below.refl _ w').alloc (Nat.le_refl _) o
        exact ⟨updL y 5 (.pointer (some ⟨w'.heap.size, 0, none⟩)), by simp [updL], HI.out.set (by decide) hni (hF.alloc _) (PK.below (hb2 _)) ⟨_, rfl, (by have := (Array.getElem?_eq_some_iff.1 hF.rs).1; omega), World.alloc_heap_new _ _⟩⟩
      · obtain rfl := Option.some.inj ho
        obtain ⟨hF, hP⟩ := HI.out.a (dgl_no hni)
        have e4 : y 4 = _ := hP 4 (open_waits hop (by kernel_rfl))
        obtain ⟨q, e5, hq, hz⟩ := hP 5 (open_waits hop (by kernel_rfl))
        have hall : ∀ j, j < 6 → v.getD j false = true := fun j hj => by
          rcases j with _ | _ | _ | _ | _ | _ | j
          · exact open_waits hop (by kernel_rfl)
          · exact open_waits hop (by kernel_rfl)
          · exact open_waits hop (by kernel_rfl)
          · exact open_waits hop (by kernel_rfl)
          · exact open_waits hop (by kernel_rfl)
          · exact open_waits hop (by kernel_rfl)
          · omega
        clear hP
        unfold cmc cmz at hz
        obtain ⟨⟨z0, z1, z2, z3⟩, ⟨f0, f1, f2, f3⟩⟩ := box4 hz
        subst hA
        simp only [frK, List.setIfInBounds_toArray, List.set_cons_succ, List.set_cons_zero]
        simp only [e4, e5]
        go_wp2
        refine ⟨y, by simp [e4, e5], HI.out.lst hv hni hall fun hF _ => ⟨q, e5, ?_⟩⟩
        exact ((((Kc.mk hF hq hz).set 0 (.int .i64 kd)).set 1 (.int .i64 n)).set 2 (.string tx')).set 3 (.int .u8 mr)
      · cases ho
    case fin =>
      intro v a' w' hv hall hI
      obtain ⟨y, rfl, HI⟩ := hI
      obtain ⟨q, e5, hc⟩ := HI.out.fin hv hall
      subst hA
      simp only [frK, List.setIfInBounds_toArray, List.set_cons_succ, List.set_cons_zero, e5]
      go_wp2_with fail
      go_meet
      exact ⟨q, rfl, hc⟩
  case rest =>
    clear K1 r0 r1 r2 r3 s0 s1 s2 s3 x0 x1 x2 x3 x4 x5 CW CK CC
    obtain ⟨q, rfl, HC⟩ := hcut
    obtain ⟨⟨z0, z1, z2, z3⟩, ⟨f0, f1, f2, f3⟩⟩ := box4 HC.out.bx
    by_cases h37 : kd = 37
    · subst h37
      rw [if_pos rfl] at hn2
      subst hn2
      go_wp2_with (fail)
      go_at_call 17
      refine (CR.out _ HC.out.ke.bn).mono ?_
      rintro e w3 ⟨rfl, h3, g3⟩
      have K3 : Hid (Kc w b bsz _ q _ w3) := HC.out.to h3 g3
      clear h3 g3 z0 z1 z2 z3 f0 f1 f2 f3
      obtain ⟨⟨z0, z1, z2, z3⟩, -⟩ := box4 K3.out.bx
      obtain ⟨⟨r0, r1, r2, r3⟩, ⟨s0, s1, s2, s3⟩⟩ := box4 K3.out.ke.rs
      go_wp2
      obtain ⟨p, q, q0, q1, q2, q3⟩ := K3.out.ke.fin (.int .i64 37) (.int .i64 n) (.string tx') (.int .u8 mr)
      exact bodyPost_ret (v := .tuple #[.agg #[.int .i64 37, .int .i64 n, .string tx', .int .u8 mr], .bool true]) (by simp [results, Tryd.results15, go_sem, q0, q1, q2, q3]) rfl ⟨rfl, p, q⟩
    · rw [if_neg h37] at hn2
      go_wp2_with (fail)
      go_at_call 26
      refine (CN.out _ HC.out.ke.bn).mono ?_
      rintro e w2 ⟨rfl, rfl⟩
      rw [hn2]
      go_wp2_with (fail)
      have KS : Hid (Kc w b s _ q _ (w2.setCell ⟨q, 1, none⟩ (.int .i64 n2))) := HC.out.set 1 (.int .i64 n2)
      go_at_call 17
      refine (CR.out _ KS.out.ke.bn).mono ?_
      rintro e w3 ⟨rfl, h3, g3⟩
      have K3 : Hid (Kc w b bsz _ q #[.int .i64 kd, .int .i64 n2, .string tx', .int .u8 mr] w3) := KS.out.to h3 g3
      clear h3 g3 z0 z1 z2 z3 f0 f1 f2 f3
      obtain ⟨⟨z0, z1, z2, z3⟩, -⟩ := box4 K3.out.bx
      obtain ⟨⟨r0, r1, r2, r3⟩, ⟨s0, s1, s2, s3⟩⟩ := box4 K3.out.ke.rs
      go_wp2
      obtain ⟨p, q, q0, q1, q2, q3⟩ := K3.out.ke.fin (.int .i64 kd) (.int .i64 n2) (.string tx') (.int .u8 mr)
      exact bodyPost_ret (v := .tuple #[.agg #[.int .i64 kd, .int .i64 n2, .string tx', .int .u8 mr], .bool true]) (by simp [results, Tryd.results15, go_sem, q0, q1, q2, q3]) rfl ⟨rfl, p, q⟩
end
end Go.Proofs.YtmaolbibbjngcaaDoor
