/-
  The walk of the law BindCounts: digits are a count for the next command alone. Conditions: those of walk_of.
-/
import Derived.Test.YtmaolbibbjngcaaDoorIArg
import Derived.Test.YtmaolbibbjngcaaDoorIOne
namespace Go.Proofs.YtmaolbibbjngcaaDoor.bindCounts
open Go.RowKit Go.Shelf Bod

/-- what is laid while the law works: a binder, the key's box, the box of the command alone -/
structure Ct (w : World) (b : Nat) (s : Bs) (k : Ky) (ab : Nat) (vs : Array Value) (W : World) : Prop where
  bel : Below w.heap.size w W
  ge : w.heap.size ≤ b
  bn : Bn b s W
  kx : W.heap[w.heap.size]? = some (.cells (kyc k) 30 (0, 0))
  ag : w.heap.size ≤ ab
  al : W.heap[ab]? = some (.cells vs 34 (0, 0))
section
variable {w W X : World} {b ab : Nat} {s t : Bs} {k : Ky} {vs : Array Value}
theorem Ct.below (h : Ct w b s k ab vs W) (hb : Below W.heap.size W X) : Ct w b s k ab vs X :=
  have kp : ∀ {k : Nat} {o : Obj}, W.heap[k]? = some o → X.heap[k]? = some o := fun ho => (hb.block _ (Array.getElem?_eq_some_iff.1 ho).1).trans ho
  ⟨h.bel.trans (hb.mono h.bel.size), h.ge, h.bn.below hb, kp h.kx, h.ag, kp h.al⟩
theorem cells_ne {W : World} {i j : Nat} {xs ys : Array Value} {t u : TypeId} (h : W.heap[i]? = some (.cells xs t (0, 0))) (h' : W.heap[j]? = some (.cells ys u (0, 0))) (hn : t ≠ u) : i ≠ j := fun e => by
  subst e
  rw [h] at h'
  have := Option.some.inj h'
  injection this with _ h3 _
  exact hn h3
theorem Ct.n1 (h : Ct w b s k ab vs W) : ab ≠ b := cells_ne h.al h.bn (by decide)
theorem Ct.n2 (h : Ct w b s k ab vs W) : w.heap.size ≠ b := cells_ne h.kx h.bn (by decide)
theorem Ct.n3 (h : Ct w b s k ab vs W) : w.heap.size ≠ ab := cells_ne h.kx h.al (by decide)
theorem Ct.to (h : Ct w b s k ab vs W) (h1 : Bn b t X) (hg : W.grownBy X (some b)) : Ct w b t k ab vs X :=
  have kp : ∀ {k : Nat} {o : Obj}, W.heap[k]? = some o → k ≠ b → X.heap[k]? = some o := fun ho hn => (hg.block _ (Array.getElem?_eq_some_iff.1 ho).1 (fun e => hn (Option.some.inj e))).trans ho
  ⟨h.bel.grown hg (by have := h.bel.size; omega) (fun k e => by cases e; exact h.ge), h.ge, h1, kp h.kx h.n2, h.ag, kp h.al h.n1⟩
theorem Ct.set (h : Ct w b s k ab vs W) (i : Nat) (u : Value) : Ct w b s k ab (vs.setIfInBounds i u) (W.setCell ⟨ab, i, none⟩ u) :=
  ⟨h.bel.setCell (p := ⟨ab, i, none⟩) h.ag u, h.ge, (iset_ne h.n1).trans h.bn, (iset_ne h.n3.symm).trans h.kx, h.ag, set1 u h.al⟩
end
/-- the state behind some digits -/
def dgS (n : Int) (i : Nat) : Bs := ⟨⟨#[]⟩, n, decide (0 < i)⟩
theorem dgS_ok {n : Int} {i : Nat} (h0 : 0 ≤ n) (h1 : n ≤ 1000) (hz : i = 0 → n = 0) : (dgS n i).Ok := ⟨.inl rfl, h0, h1, fun e => hz (by have := of_decide_eq_false e; omega)⟩
theorem dgS_wait {n d : Int} {i : Nat} {m : Bool} (hd0 : 0 ≤ d) (hd : d ≤ 9) (hm : i = 0 → m = true) : waiP (dgS n i) ⟨1, 48 + d, false, m, false, ⟨#[]⟩⟩ = some (dgS (min (n * 10 + d) 1000) (i + 1)) := by
  unfold waiP dgS
  have h1 : digP ⟨1, 48 + d, false, m, false, ⟨#[]⟩⟩ = true := by
    unfold digP
    simp only [Bool.and_eq_true, decide_eq_true_eq, Bool.not_false, and_true, true_and]
    omega
  rw [if_pos rfl, h1]
  have h2 : (m || decide (0 < i)) = true := by
    rcases Nat.eq_zero_or_pos i with e | e
    · rw [hm e]; rfl
    · simp [e]
  simp only [h2, Bool.true_and, if_true]
  congr 2
  · congr 1
    omega
/-- a key that makes a command where nothing waits makes the same behind digits, but for the count -/
theorem behind_digits {n : Int} {i : Nat} {k : Ky} (hi : 0 < i) (hd : digP k = false) (hw : waiP bsz k = none) (h37 : (makP bsz k).kd ≠ 37) : keyP (dgS n i) k = (⟨(makP bsz k).kd, max n 1, (makP bsz k).tx, (makP bsz k).mr⟩, true, bsz) := by
  have h1 : waiP (dgS n i) k = none := by
    by_cases he : preP k = ⟨#[]⟩
    · simp [waiP, dgS, hd, he]
    · exfalso
      simp [waiP, bsz, hd, he] at hw
  unfold keyP
  rw [h1]
  have h2 : makP (dgS n i) k = ⟨(makP bsz k).kd, max n 1, (makP bsz k).tx, (makP bsz k).mr⟩ := by
    have e : kinP (dgS n i) k = kinP bsz k := rfl
    unfold makP at h37 ⊢
    rw [e]
    generalize cmdP (kinP bsz k) k = c at h37 ⊢
    simp only at h37 ⊢
    by_cases hc : c.kd = 37
    · rw [if_pos hc] at h37; exact absurd hc h37
    · rw [if_neg hc, if_neg hc]
      simp [Bs.count, dgS, hi]
  rw [h2]
set_option maxRecDepth 100000 in
set_option maxHeartbeats 4000000 in
theorem walk (hM : Tryd.prog.follows .mixedOrders = true) (a0 : Option Addr) (cap : Nat) (ds : List Int) (a1 : Option Addr) (cap1 : Nat) (ms : List Bool) (k : Ky) (w : World) (hS : RdBy w (.slice a0 ds.length cap) ds) (hS1 : RdBo w (.slice a1 ms.length cap1) ms) (hl : ds.length ≤ 1048576) (hl1 : ms.length ≤ 1048576) (hds : ∀ d ∈ ds, 0 ≤ d ∧ d < 256) (hk : k.Ok) (hT : Tb w) :
    Calls Tryd.prog 6 #[.slice a0 ds.length cap, .slice a1 ms.length cap1, kyv k] w fun e W' => e = .returned (.bool true) ∧ Below w.heap.size w W' := by
  have HR : Hid (∀ W, Below w.heap.size w W → ∀ (i : Nat) d, ds[i]? = some d → (0 ≤ d ∧ d < 256) ∧ ∃ g o, a0 = some ⟨g, o, none⟩ ∧ W.cell? ⟨g, o + i, none⟩ = some (.int .u8 d)) := fun W hW i d hi => ⟨hds d (List.mem_of_getElem? hi), hS.at hW hi⟩
  have HR1 : Hid (∀ W, Below w.heap.size w W → ∀ (i : Nat) d, ms[i]? = some d → ∃ g o, a1 = some ⟨g, o, none⟩ ∧ W.cell? ⟨g, o + i, none⟩ = some (.bool d)) := fun W hW i d hi => hS1.at hW hi
  have HA : Hid (Below w.heap.size w (w.alloc (.cells (kyc k) 30)) ∧ (w.alloc (.cells (kyc k) 30)).heap[w.heap.size]? = some (.cells (kyc k) 30 (0, 0))) := ⟨(Below.refl _ w).alloc (Nat.le_refl _) _, World.alloc_heap_new _ _⟩
  have CB : Hid (∀ W, Below w.heap.size w W ∧ W.heap[w.heap.size]? = some (.cells (kyc k) 30 (0, 0)) → Calls Tryd.prog 9 #[] W fun e w' => e = .returned (.bool true) ∧ Hid (Below w.heap.size w w' ∧ w'.heap[w.heap.size]? = some (.cells (kyc k) 30 (0, 0)))) := fun W hW => (bds_any hM W (hT.below hW.1)).mono fun e w' q => ⟨q.1, hW.1.trans (q.2.mono hW.1.size), (q.2.block _ (Array.getElem?_eq_some_iff.1 hW.2).1).trans hW.2⟩
  have CS : Hid (∀ W, Below w.heap.size w W ∧ W.heap[w.heap.size]? = some (.cells (kyc k) 30 (0, 0)) → Calls Tryd.prog 20 #[kyv k] W fun e w' => e = .returned (.tuple #[.agg (cmc (keyP bsz k).1), .bool (keyP bsz k).2.1]) ∧ Hid (Below w.heap.size w w' ∧ w'.heap[w.heap.size]? = some (.cells (kyc k) 30 (0, 0)))) := fun W hW => (sng_any hM k hk W (hT.below hW.1)).mono fun e w' q => ⟨q.1, hW.1.trans (q.2.mono hW.1.size), (q.2.block _ (Array.getElem?_eq_some_iff.1 hW.2).1).trans hW.2⟩
  have CC : Hid (∀ (c : Int) (m : Bool) (W : World) (b ab : Nat) (s : Bs) (vs : Array Value), Ct w b s k ab vs W → Calls Tryd.prog 25 #[.int .i32 c, .bool m] W fun e w' => e = .returned (kyv ⟨1, c, false, m, false, ⟨#[]⟩⟩) ∧ Hid (Ct w b s k ab vs w')) := fun c m W b ab s vs hW => (hkey_any c m W).mono fun e w' q => ⟨q.1, hW.below q.2⟩
  have CK : Hid (∀ (W : World) (b ab : Nat) (s : Bs) (vs : Array Value) (q : Ky), s.Ok → q.Ok → Ct w b s k ab vs W → Calls Tryd.prog 15 #[.pointer (some ⟨b, 0, none⟩), kyv q] W fun e w' => e = .returned (.tuple #[.agg (cmc (keyP s q).1), .bool (keyP s q).2.1]) ∧ Hid (Ct w b (keyP s q).2.2 k ab vs w')) := fun W b ab s vs q hs hq hW =>
    (key_any hM b s hs q hq W (hT.below hW.bel) (hT.ab hW.ge) hW.bn).mono fun e w' r => ⟨r.1, hW.to r.2.1 r.2.2⟩
  have CP : Hid (∀ (W : World) (b ab : Nat) (s : Bs) (vs : Array Value), Ct w b s k ab vs W → Calls Tryd.prog 18 #[.pointer (some ⟨b, 0, none⟩)] W fun e w' => e = .returned (.string s.px) ∧ w' = W) := fun W b ab s vs hW => pfx_any b s W hW.bn
  have CN : Hid (∀ (W : World) (b ab : Nat) (s : Bs) (vs : Array Value), Ct w b s k ab vs W → Calls Tryd.prog 26 #[.pointer (some ⟨b, 0, none⟩)] W fun e w' => e = .returned (.tuple #[.int .i64 s.count, .bool s.has]) ∧ w' = W) := fun W b ab s vs hW => cnt_any b s W hW.bn
  have HK : Hid k.Ok := hk
  obtain ⟨N, hN⟩ : ∃ N, ds.length = N := ⟨_, rfl⟩
  have HN : Hid (ds.length = N) := hN
  obtain ⟨M, hM1⟩ : ∃ M, ms.length = M := ⟨_, rfl⟩
  have HM1 : Hid (ms.length = M) := hM1
  rw [hN] at hl ⊢
  rw [hM1] at hl1 ⊢
  have hl' : (N : Int) ≤ 1048576 := by omega
  have hl1' : (M : Int) ≤ 1048576 := by omega
  clear hS hS1 hN hM1 hM hT hk hds
  obtain ⟨c, hc⟩ : ∃ c, (keyP bsz k).1 = c := ⟨_, rfl⟩
  obtain ⟨ok, hok⟩ : ∃ ok, (keyP bsz k).2.1 = ok := ⟨_, rfl⟩
  rw [hc, hok] at CS
  have HC : Hid (waiP bsz k = none → ok = true ∧ makP bsz k = c) := fun h => by
    unfold keyP at hc hok
    rw [h] at hc hok
    exact ⟨hok.symm, hc⟩
  have HW : Hid (ok = true → waiP bsz k = none) := fun h => by
    unfold keyP at hok
    cases hw : waiP bsz k with
    | none => rfl
    | some t => rw [hw] at hok; rw [← hok] at h; cases h
  clear hc hok
  obtain ⟨x0, x1, x2, x3, x4, x5⟩ := k
  obtain ⟨c0, c1, c2, c3⟩ := c
  simp only [kyv, kyc, cmc] at CB CS HA ⊢
  go_enter Tryd.func6, Tryd.ntmps6
  go_upto_region 4 with (first
    | (go_at_call 9; refine (CB.out _ HA.out).mono ?_; clear CB HA; rintro e w1 ⟨rfl, HA⟩; obtain ⟨q0, q1, q2, q3, q4, q5, -⟩ := box6 HA.out.2)
    | (go_at_call 20; refine (CS.out _ HA.out).mono ?_; clear CS HA; rintro e w2 ⟨rfl, HA⟩; clear q0 q1 q2 q3 q4 q5))
  have HB2 : Hid (Below w.heap.size w (w2.alloc (.cells #[.int .i64 c0, .int .i64 c1, .string c2, .int .u8 c3] 34))) := HA.out.1.alloc HA.out.1.size _
  cases ok
  · go_wp2
    go_ret
    exact ⟨rfl, HB2.out⟩
  have hW := HW.out rfl
  obtain ⟨-, hmk⟩ := HC.out hW
  clear HW HC
  by_cases h37 : c0 = 37
  · subst h37
    go_wp2
    go_ret
    exact ⟨rfl, HB2.out⟩
  by_cases hN0 : N = 0
  · subst hN0
    go_wp2
    go_ret
    exact ⟨rfl, HB2.out⟩
  have hN1 : ¬ ((N : Int) = 0) := by omega
  have hb1 : (c0 == 37) = false := by simp [h37]
  have hb2 : ((N : Int) == 0) = false := beq_eq_false_iff_ne.2 hN1
  have HBD : Hid (∀ n i, 0 < i → digP ⟨x0, x1, x2, x3, x4, x5⟩ = false → keyP (dgS n i) ⟨x0, x1, x2, x3, x4, x5⟩ = (⟨c0, max n 1, c2, c3⟩, true, bsz)) := fun n i hi hd => by
    have := behind_digits (n := n) hi hd hW (by rw [hmk]; exact h37)
    rw [hmk] at this
    exact this
  have HBZ : Hid (keyP bsz ⟨x0, x1, x2, x3, x4, x5⟩ = (⟨c0, c1, c2, c3⟩, true, bsz)) := by
    show _ = _
    unfold keyP
    rw [hW, hmk]
  have hc1 : c1 = 1 := by
    have e := congrArg Cm.n hmk
    unfold makP at e
    simp only at e
    split at e
    · exact e.symm
    · exact e.symm
  subst hc1
  go_upto_region 9 with (go_at_call 10; refine (new_any _).mono ?_; rintro e w3 ⟨rfl, rfl⟩)
  obtain ⟨ab, hab⟩ : ∃ ab, w2.heap.size = ab := ⟨_, rfl⟩
  have H0 : Hid (Ct w (ab + 1) (dgS 0 0) ⟨x0, x1, x2, x3, x4, x5⟩ ab #[.int .i64 c0, .int .i64 1, .string c2, .int .u8 c3] ((w2.alloc (.cells #[.int .i64 c0, .int .i64 1, .string c2, .int .u8 c3] 34)).alloc (.cells (bsc bsz) 53))) := by
    subst hab
    have hz := HA.out.1.size
    have hlt := (Array.getElem?_eq_some_iff.1 HA.out.2).1
    refine ⟨HB2.out.alloc HB2.out.size _, by omega, ?_, ?_, hz, ?_⟩
    · have := World.alloc_heap_new (w2.alloc (.cells #[.int .i64 c0, .int .i64 1, .string c2, .int .u8 c3] 34)) (.cells (bsc bsz) 53)
      have e : (w2.alloc (.cells #[.int .i64 c0, .int .i64 1, .string c2, .int .u8 c3] 34)).heap.size = w2.heap.size + 1 := by simp
      rw [e] at this
      exact this
    · exact (Below.heap_alloc _ _ _ (by simp; omega)).trans ((Below.heap_alloc _ _ _ hlt).trans HA.out.2)
    · exact (Below.heap_alloc _ _ _ (by simp)).trans (World.alloc_heap_new _ _)
  rw [hab]
  generalize (w2.alloc (.cells #[.int .i64 c0, .int .i64 1, .string c2, .int .u8 c3] 34)).alloc (.cells (bsc bsz) 53) = W3 at H0 ⊢
  clear HB2 HA hab hmk hW
  go_loopw [10, 43] (fun t10 t43 wr => ∃ (i : Nat) (n : Int), t43 = .int .i64 i ∧ t10 = .int .i64 n ∧ i ≤ N ∧ 0 ≤ n ∧ n ≤ 1000 ∧ (i = 0 → n = 0) ∧ Hid (Ct w (ab + 1) (dgS n i) ⟨x0, x1, x2, x3, x4, x5⟩ ab #[.int .i64 c0, .int .i64 1, .string c2, .int .u8 c3] wr)) (fun _ t43 _ => N - (intOf t43).toNat)
  case atStart => exact ⟨0, 0, rfl, rfl, Nat.zero_le _, by decide, by decide, fun _ => rfl, H0⟩
  case round =>
    clear H0
    obtain ⟨i, n, rfl, rfl, hi', n0, n1, nz, HL⟩ := hrel
    by_cases hlt : i < N
    · have hlt' : (i : Int) < N := by omega
      obtain ⟨d, hd⟩ : ∃ d, ds[i]? = some d := ⟨ds[i]'(by rw [HN.out]; exact hlt), List.getElem?_eq_getElem _⟩
      obtain ⟨⟨d0, d1⟩, g, o, rfl, q0⟩ := HR.out wr HL.out.bel i d hd
      obtain ⟨m, hm, hcase⟩ : ∃ m : Bool, (i = 0 → m = true) ∧ ((i = 0 ∧ m = true) ∨ (0 < i ∧ i < M ∧ ∃ g1 o1, a1 = some ⟨g1, o1, none⟩ ∧ wr.cell? ⟨g1, o1 + i, none⟩ = some (.bool m)) ∨ (0 < i ∧ ¬ i < M ∧ m = false)) := by
        by_cases hi0 : i = 0
        · exact ⟨true, fun _ => rfl, .inl ⟨hi0, rfl⟩⟩
        · by_cases him : i < M
          · obtain ⟨b, hb⟩ : ∃ b, ms[i]? = some b := ⟨ms[i]'(by rw [HM1.out]; exact him), List.getElem?_eq_getElem _⟩
            obtain ⟨g1, o1, e1, r1⟩ := HR1.out wr HL.out.bel i b hb
            exact ⟨b, fun e => absurd e hi0, .inr (.inl ⟨by omega, him, g1, o1, e1, r1⟩)⟩
          · exact ⟨false, fun e => absurd e hi0, .inr (.inr ⟨by omega, him, rfl⟩)⟩
      have HOk : Hid ((dgS n i).Ok) := dgS_ok n0 n1 nz
      have HM0 : Hid (i = 0 → m = true) := hm
      clear HR HR1 hd HBD HBZ nz hm
      clear hb1 hb2
      have D : Hid (∀ (W : World), Ct w (ab + 1) (dgS n i) ⟨x0, x1, x2, x3, x4, x5⟩ ab #[.int .i64 c0, .int .i64 1, .string c2, .int .u8 c3] W → Calls Tryd.prog 15 #[.pointer (some ⟨ab + 1, 0, none⟩), kyv ⟨1, 48 + d % 10, false, m, false, ⟨#[]⟩⟩] W fun e w' => e = .returned (.tuple #[.agg (cmc cmz), .bool false]) ∧ Hid (Ct w (ab + 1) (dgS (min (n * 10 + d % 10) 1000) (i + 1)) ⟨x0, x1, x2, x3, x4, x5⟩ ab #[.int .i64 c0, .int .i64 1, .string c2, .int .u8 c3] w')) := fun W hW => by
        have := CK.out W _ _ _ _ ⟨1, 48 + d % 10, false, m, false, ⟨#[]⟩⟩ HOk.out ⟨by simp only; omega, by simp only; omega, by simp only; omega, by simp only; omega, by show (0 : Nat) ≤ _; decide⟩ hW
        have e : keyP (dgS n i) ⟨1, 48 + d % 10, false, m, false, ⟨#[]⟩⟩ = (cmz, false, dgS (min (n * 10 + d % 10) 1000) (i + 1)) := by
          unfold keyP
          rw [dgS_wait (by omega) (by omega) HM0.out]
        rw [e] at this
        exact this
      have P : Hid (∀ (W : World) (s : Bs), s.px = ⟨#[]⟩ → Ct w (ab + 1) s ⟨x0, x1, x2, x3, x4, x5⟩ ab #[.int .i64 c0, .int .i64 1, .string c2, .int .u8 c3] W → Calls Tryd.prog 18 #[.pointer (some ⟨ab + 1, 0, none⟩)] W fun e w' => e = .returned (.string ⟨#[]⟩) ∧ w' = W) := fun W s hs hW => by
        have := CP.out W _ _ _ _ hW
        rw [hs] at this
        exact this
      have C : Hid (∀ (W : World), Ct w (ab + 1) (dgS n i) ⟨x0, x1, x2, x3, x4, x5⟩ ab #[.int .i64 c0, .int .i64 1, .string c2, .int .u8 c3] W → Calls Tryd.prog 25 #[.int .i32 (48 + d % 10), .bool m] W fun e w' => e = .returned (kyv ⟨1, 48 + d % 10, false, m, false, ⟨#[]⟩⟩) ∧ Hid (Ct w (ab + 1) (dgS n i) ⟨x0, x1, x2, x3, x4, x5⟩ ab #[.int .i64 c0, .int .i64 1, .string c2, .int .u8 c3] w')) := fun W hW => CC.out _ _ _ _ _ _ _ hW
      simp only [kyv, cmc, cmz] at D C
      clear CC CK CP CN HM0 HOk
      rcases hcase with ⟨hi0, rfl⟩ | ⟨h1, h2, g1, o1, rfl, r0⟩ | ⟨h1, h2, rfl⟩
      · have eb : ((i : Int) == 0) = true := beq_iff_eq.2 (by omega)
        clear hi0
        go_wp2_with (first
          | (go_at_call 25; refine (C.out _ HL.out).mono ?_; clear C HL; rintro e w3 ⟨rfl, H3⟩)
          | (go_at_call 15; refine (D.out _ H3.out).mono ?_; clear D H3; rintro e w4 ⟨rfl, H4⟩)
          | (go_at_call 18; refine (P.out _ _ rfl (H4.out.below ((Below.refl _ _).alloc (Nat.le_refl _) _))).mono ?_; rintro e w5 ⟨rfl, rfl⟩))
        exact ⟨⟨i + 1, _, by go_num, rfl, by omega, by omega, by omega, fun e => absurd e (Nat.succ_ne_zero _), H4.out.below ((Below.refl _ _).alloc (Nat.le_refl _) _)⟩, by simp [intOf]; omega⟩
      · have eb : ((i : Int) == 0) = false := beq_eq_false_iff_ne.2 (by omega)
        have e2 : (i : Int) < M := by omega
        clear h1 h2
        go_wp2_with (first
          | (go_at_call 25; refine (C.out _ HL.out).mono ?_; clear C HL; rintro e w3 ⟨rfl, H3⟩)
          | (go_at_call 15; refine (D.out _ H3.out).mono ?_; clear D H3; rintro e w4 ⟨rfl, H4⟩)
          | (go_at_call 18; refine (P.out _ _ rfl (H4.out.below ((Below.refl _ _).alloc (Nat.le_refl _) _))).mono ?_; rintro e w5 ⟨rfl, rfl⟩))
        exact ⟨⟨i + 1, _, by go_num, rfl, by omega, by omega, by omega, fun e => absurd e (Nat.succ_ne_zero _), H4.out.below ((Below.refl _ _).alloc (Nat.le_refl _) _)⟩, by simp [intOf]; omega⟩
      · have eb : ((i : Int) == 0) = false := beq_eq_false_iff_ne.2 (by omega)
        have e2 : ¬ ((i : Int) < M) := by omega
        clear h1 h2
        go_wp2_with (first
          | (go_at_call 25; refine (C.out _ HL.out).mono ?_; clear C HL; rintro e w3 ⟨rfl, H3⟩)
          | (go_at_call 15; refine (D.out _ H3.out).mono ?_; clear D H3; rintro e w4 ⟨rfl, H4⟩)
          | (go_at_call 18; refine (P.out _ _ rfl (H4.out.below ((Below.refl _ _).alloc (Nat.le_refl _) _))).mono ?_; rintro e w5 ⟨rfl, rfl⟩))
        exact ⟨⟨i + 1, _, by go_num, rfl, by omega, by omega, by omega, fun e => absurd e (Nat.succ_ne_zero _), H4.out.below ((Below.refl _ _).alloc (Nat.le_refl _) _)⟩, by simp [intOf]; omega⟩
    · have hge : ¬ ((i : Int) < N) := by omega
      have hi0 : 0 < i := by omega
      obtain ⟨m1, hm1⟩ : ∃ m1, max n 1 = m1 := ⟨_, rfl⟩
      have HM2 : Hid (max n 1 = m1) := hm1
      have HOk : Hid ((dgS n i).Ok) := dgS_ok n0 n1 nz
      have K1 : Hid (∀ (W : World), Ct w (ab + 1) (dgS n i) ⟨x0, x1, x2, x3, x4, x5⟩ ab #[.int .i64 c0, .int .i64 1, .string c2, .int .u8 c3] W → Calls Tryd.prog 26 #[.pointer (some ⟨ab + 1, 0, none⟩)] W fun e w' => e = .returned (.tuple #[.int .i64 m1, .bool true]) ∧ w' = W) := fun W hW => by
        have := CN.out W _ _ _ _ hW
        have e1 : (dgS n i).count = m1 := by simp [Bs.count, dgS, hi0, HM2.out]
        have e2 : (dgS n i).has = true := by simp [dgS, hi0]
        rw [e1, e2] at this
        exact this
      have K4 : Hid (∀ (W : World) (vs : Array Value), Ct w (ab + 1) bsz ⟨x0, x1, x2, x3, x4, x5⟩ ab vs W → Calls Tryd.prog 26 #[.pointer (some ⟨ab + 1, 0, none⟩)] W fun e w' => e = .returned (.tuple #[.int .i64 1, .bool false]) ∧ w' = W) := fun W vs hW => CN.out W _ _ _ _ hW
      have K2 : Hid (digP ⟨x0, x1, x2, x3, x4, x5⟩ = false → ∀ (W : World), Ct w (ab + 1) (dgS n i) ⟨x0, x1, x2, x3, x4, x5⟩ ab #[.int .i64 c0, .int .i64 1, .string c2, .int .u8 c3] W → Calls Tryd.prog 15 #[.pointer (some ⟨ab + 1, 0, none⟩), kyv ⟨x0, x1, x2, x3, x4, x5⟩] W fun e w' => e = .returned (.tuple #[.agg (cmc ⟨c0, m1, c2, c3⟩), .bool true]) ∧ Hid (Ct w (ab + 1) bsz ⟨x0, x1, x2, x3, x4, x5⟩ ab #[.int .i64 c0, .int .i64 1, .string c2, .int .u8 c3] w')) := fun hd W hW => by
        have := CK.out W _ _ _ _ _ HOk.out HK.out hW
        rw [HBD.out n i hi0 hd, HM2.out] at this
        exact this
      have K3 : Hid (∀ (W : World) (vs : Array Value), Ct w (ab + 1) bsz ⟨x0, x1, x2, x3, x4, x5⟩ ab vs W → Calls Tryd.prog 15 #[.pointer (some ⟨ab + 1, 0, none⟩), kyv ⟨x0, x1, x2, x3, x4, x5⟩] W fun e w' => e = .returned (.tuple #[.agg (cmc ⟨c0, 1, c2, c3⟩), .bool true]) ∧ Hid (Ct w (ab + 1) bsz ⟨x0, x1, x2, x3, x4, x5⟩ ab vs w')) := fun W vs hW => by
        have := CK.out W _ _ _ _ _ bsz_ok HK.out hW
        rw [HBZ.out] at this
        exact this
      simp only [kyv, cmc] at K2 K3
      obtain ⟨z0, z1, z2, z3, z4, z5, -⟩ := box6 HL.out.kx
      have hne : ¬ w.heap.size = ab := HL.out.n3
      have hne' : ¬ ab = w.heap.size := fun e => HL.out.n3 e.symm
      clear HR HR1 HBD HBZ nz hi0 CC CK CP CN HOk HM2
      have fin : Hid (digP ⟨x0, x1, x2, x3, x4, x5⟩ = true → x0 = 1 ∧ x2 = false ∧ 48 ≤ x1 ∧ x1 ≤ 57) := fun h => by
        simp only [digP, Bool.and_eq_true, decide_eq_true_eq, Bool.not_eq_true'] at h
        exact ⟨h.1.1.1, h.1.1.2, h.1.2, h.2⟩
      have fin2 : Hid (¬ (x0 = 1 ∧ x2 = false ∧ 48 ≤ x1 ∧ x1 ≤ 57) → digP ⟨x0, x1, x2, x3, x4, x5⟩ = false) := fun h => by
        cases hd : digP ⟨x0, x1, x2, x3, x4, x5⟩ with
        | false => rfl
        | true => exact absurd (fin.out hd) h
      clear fin
      by_cases p0 : x0 = 1
      · subst p0
        cases x2
        · by_cases p1 : 48 ≤ x1
          · by_cases p2 : x1 ≤ 57
            · clear fin2 K2 K3 K4
              go_wp2_with (go_at_call 26; refine (K1.out _ HL.out).mono ?_; clear K1; rintro e w3 ⟨rfl, rfl⟩)
              go_ret
              exact ⟨rfl, HL.out.bel⟩
            · have E : Hid (digP _ = false) := fin2.out (fun h => p2 h.2.2.2)
              clear fin2
              go_upto_region 24 with (first
                | (go_at_call 26; refine (K1.out _ HL.out).mono ?_; clear K1; rintro e w3 ⟨rfl, rfl⟩)
                | (go_at_call 15; refine (K2.out E.out _ HL.out).mono ?_; clear K2 z0 z1 z2 z3 z4 z5 HL; rintro e w4 ⟨rfl, H4⟩))
              have G4 : Hid (Ct w (ab + 1) bsz _ ab #[.int .i64 c0, .int .i64 1, .string c2, .int .u8 c3] (w4.alloc (.cells #[.int .i64 c0, .int .i64 m1, .string c2, .int .u8 c3] 34))) := H4.out.below ((Below.refl _ _).alloc (Nat.le_refl _) _)
              have B4 : Hid ((w4.alloc (.cells #[.int .i64 c0, .int .i64 m1, .string c2, .int .u8 c3] 34)).heap[w4.heap.size]? = some (.cells #[.int .i64 c0, .int .i64 m1, .string c2, .int .u8 c3] 34 (0, 0))) := World.alloc_heap_new _ _
              have N4 : Hid (¬ ab = w4.heap.size) := fun e => by have := (Array.getElem?_eq_some_iff.1 H4.out.al).1; omega
              obtain ⟨q4, hq4⟩ : ∃ q, w4.heap.size = q := ⟨_, rfl⟩
              rw [hq4] at B4 N4 ⊢
              clear hq4
              generalize w4.alloc (.cells #[.int .i64 c0, .int .i64 m1, .string c2, .int .u8 c3] 34) = V4 at G4 B4 ⊢
              clear H4
              obtain ⟨⟨y0, y1, y2, y3⟩, ⟨f0, f1, f2, f3⟩⟩ := box4 G4.out.al
              go_upto_region 25 with (fail)
              have H5 : Hid (Ct w (ab + 1) bsz _ ab #[.int .i64 c0, .int .i64 m1, .string c2, .int .u8 c3] (V4.setCell ⟨ab, 1, none⟩ (.int .i64 m1))) := G4.out.set 1 (.int .i64 m1)
              have C4 : Hid ((V4.setCell ⟨ab, 1, none⟩ (.int .i64 m1)).heap[q4]? = some (.cells #[.int .i64 c0, .int .i64 m1, .string c2, .int .u8 c3] 34 (0, 0))) := (iset_ne N4.out).trans B4.out
              clear y0 y1 y2 y3 f0 f1 f2 f3 G4 B4 N4
              generalize V4.setCell ⟨ab, 1, none⟩ (.int .i64 m1) = W5 at H5 C4 ⊢
              obtain ⟨⟨y0, y1, y2, y3⟩, -⟩ := box4 H5.out.al
              obtain ⟨⟨b0, b1, b2, b3⟩, -⟩ := box4 C4.out
              obtain ⟨z0, z1, z2, z3, z4, z5, -⟩ := box6 H5.out.kx
              go_upto_region 28 with (go_at_call 15; refine (K3.out _ _ H5.out).mono ?_; clear K3 z0 z1 z2 z3 z4 z5 y0 y1 y2 y3 b0 b1 b2 b3 H5; rintro e w6 ⟨rfl, H6⟩)
              have G6 : Hid (Ct w (ab + 1) bsz _ ab #[.int .i64 c0, .int .i64 m1, .string c2, .int .u8 c3] (w6.alloc (.cells #[.int .i64 c0, .int .i64 1, .string c2, .int .u8 c3] 34))) := H6.out.below ((Below.refl _ _).alloc (Nat.le_refl _) _)
              have B6 : Hid ((w6.alloc (.cells #[.int .i64 c0, .int .i64 1, .string c2, .int .u8 c3] 34)).heap[w6.heap.size]? = some (.cells #[.int .i64 c0, .int .i64 1, .string c2, .int .u8 c3] 34 (0, 0))) := World.alloc_heap_new _ _
              have N6 : Hid (¬ ab = w6.heap.size) := fun e => by have := (Array.getElem?_eq_some_iff.1 H6.out.al).1; omega
              obtain ⟨q6, hq6⟩ : ∃ q, w6.heap.size = q := ⟨_, rfl⟩
              rw [hq6] at B6 N6 ⊢
              clear hq6
              generalize w6.alloc (.cells #[.int .i64 c0, .int .i64 1, .string c2, .int .u8 c3] 34) = V6 at G6 B6 ⊢
              clear H6
              obtain ⟨⟨y0, y1, y2, y3⟩, ⟨f0, f1, f2, f3⟩⟩ := box4 G6.out.al
              go_upto_region 29 with (fail)
              have H7 : Hid (Ct w (ab + 1) bsz _ ab #[.int .i64 c0, .int .i64 1, .string c2, .int .u8 c3] (V6.setCell ⟨ab, 1, none⟩ (.int .i64 1))) := G6.out.set 1 (.int .i64 1)
              have C6 : Hid ((V6.setCell ⟨ab, 1, none⟩ (.int .i64 1)).heap[q6]? = some (.cells #[.int .i64 c0, .int .i64 1, .string c2, .int .u8 c3] 34 (0, 0))) := (iset_ne N6.out).trans B6.out
              clear y0 y1 y2 y3 f0 f1 f2 f3 G6 B6 N6
              generalize V6.setCell ⟨ab, 1, none⟩ (.int .i64 1) = W7 at H7 C6 ⊢
              obtain ⟨⟨y0, y1, y2, y3⟩, -⟩ := box4 H7.out.al
              obtain ⟨⟨b0, b1, b2, b3⟩, -⟩ := box4 C6.out
              go_wp2_with (go_at_call 26; refine (K4.out _ _ H7.out).mono ?_; clear K4; rintro e w8 ⟨rfl, rfl⟩)
              go_ret
              exact ⟨rfl, H7.out.bel⟩
          · have E : Hid (digP _ = false) := fin2.out (fun h => p1 h.2.2.1)
            clear fin2
            go_upto_region 24 with (first
              | (go_at_call 26; refine (K1.out _ HL.out).mono ?_; clear K1; rintro e w3 ⟨rfl, rfl⟩)
              | (go_at_call 15; refine (K2.out E.out _ HL.out).mono ?_; clear K2 z0 z1 z2 z3 z4 z5 HL; rintro e w4 ⟨rfl, H4⟩))
            have G4 : Hid (Ct w (ab + 1) bsz _ ab #[.int .i64 c0, .int .i64 1, .string c2, .int .u8 c3] (w4.alloc (.cells #[.int .i64 c0, .int .i64 m1, .string c2, .int .u8 c3] 34))) := H4.out.below ((Below.refl _ _).alloc (Nat.le_refl _) _)
            have B4 : Hid ((w4.alloc (.cells #[.int .i64 c0, .int .i64 m1, .string c2, .int .u8 c3] 34)).heap[w4.heap.size]? = some (.cells #[.int .i64 c0, .int .i64 m1, .string c2, .int .u8 c3] 34 (0, 0))) := World.alloc_heap_new _ _
            have N4 : Hid (¬ ab = w4.heap.size) := fun e => by have := (Array.getElem?_eq_some_iff.1 H4.out.al).1; omega
            obtain ⟨q4, hq4⟩ : ∃ q, w4.heap.size = q := ⟨_, rfl⟩
            rw [hq4] at B4 N4 ⊢
            clear hq4
            generalize w4.alloc (.cells #[.int .i64 c0, .int .i64 m1, .string c2, .int .u8 c3] 34) = V4 at G4 B4 ⊢
            clear H4
            obtain ⟨⟨y0, y1, y2, y3⟩, ⟨f0, f1, f2, f3⟩⟩ := box4 G4.out.al
            go_upto_region 25 with (fail)
            have H5 : Hid (Ct w (ab + 1) bsz _ ab #[.int .i64 c0, .int .i64 m1, .string c2, .int .u8 c3] (V4.setCell ⟨ab, 1, none⟩ (.int .i64 m1))) := G4.out.set 1 (.int .i64 m1)
            have C4 : Hid ((V4.setCell ⟨ab, 1, none⟩ (.int .i64 m1)).heap[q4]? = some (.cells #[.int .i64 c0, .int .i64 m1, .string c2, .int .u8 c3] 34 (0, 0))) := (iset_ne N4.out).trans B4.out
            clear y0 y1 y2 y3 f0 f1 f2 f3 G4 B4 N4
            generalize V4.setCell ⟨ab, 1, none⟩ (.int .i64 m1) = W5 at H5 C4 ⊢
            obtain ⟨⟨y0, y1, y2, y3⟩, -⟩ := box4 H5.out.al
            obtain ⟨⟨b0, b1, b2, b3⟩, -⟩ := box4 C4.out
            obtain ⟨z0, z1, z2, z3, z4, z5, -⟩ := box6 H5.out.kx
            go_upto_region 28 with (go_at_call 15; refine (K3.out _ _ H5.out).mono ?_; clear K3 z0 z1 z2 z3 z4 z5 y0 y1 y2 y3 b0 b1 b2 b3 H5; rintro e w6 ⟨rfl, H6⟩)
            have G6 : Hid (Ct w (ab + 1) bsz _ ab #[.int .i64 c0, .int .i64 m1, .string c2, .int .u8 c3] (w6.alloc (.cells #[.int .i64 c0, .int .i64 1, .string c2, .int .u8 c3] 34))) := H6.out.below ((Below.refl _ _).alloc (Nat.le_refl _) _)
            have B6 : Hid ((w6.alloc (.cells #[.int .i64 c0, .int .i64 1, .string c2, .int .u8 c3] 34)).heap[w6.heap.size]? = some (.cells #[.int .i64 c0, .int .i64 1, .string c2, .int .u8 c3] 34 (0, 0))) := World.alloc_heap_new _ _
            have N6 : Hid (¬ ab = w6.heap.size) := fun e => by have := (Array.getElem?_eq_some_iff.1 H6.out.al).1; omega
            obtain ⟨q6, hq6⟩ : ∃ q, w6.heap.size = q := ⟨_, rfl⟩
            rw [hq6] at B6 N6 ⊢
            clear hq6
            generalize w6.alloc (.cells #[.int .i64 c0, .int .i64 1, .string c2, .int .u8 c3] 34) = V6 at G6 B6 ⊢
            clear H6
            obtain ⟨⟨y0, y1, y2, y3⟩, ⟨f0, f1, f2, f3⟩⟩ := box4 G6.out.al
            go_upto_region 29 with (fail)
            have H7 : Hid (Ct w (ab + 1) bsz _ ab #[.int .i64 c0, .int .i64 1, .string c2, .int .u8 c3] (V6.setCell ⟨ab, 1, none⟩ (.int .i64 1))) := G6.out.set 1 (.int .i64 1)
            have C6 : Hid ((V6.setCell ⟨ab, 1, none⟩ (.int .i64 1)).heap[q6]? = some (.cells #[.int .i64 c0, .int .i64 1, .string c2, .int .u8 c3] 34 (0, 0))) := (iset_ne N6.out).trans B6.out
            clear y0 y1 y2 y3 f0 f1 f2 f3 G6 B6 N6
            generalize V6.setCell ⟨ab, 1, none⟩ (.int .i64 1) = W7 at H7 C6 ⊢
            obtain ⟨⟨y0, y1, y2, y3⟩, -⟩ := box4 H7.out.al
            obtain ⟨⟨b0, b1, b2, b3⟩, -⟩ := box4 C6.out
            go_wp2_with (go_at_call 26; refine (K4.out _ _ H7.out).mono ?_; clear K4; rintro e w8 ⟨rfl, rfl⟩)
            go_ret
            exact ⟨rfl, H7.out.bel⟩
        · have E : Hid (digP _ = false) := fin2.out (fun h => by cases h.2.1)
          clear fin2
          go_upto_region 24 with (first
            | (go_at_call 26; refine (K1.out _ HL.out).mono ?_; clear K1; rintro e w3 ⟨rfl, rfl⟩)
            | (go_at_call 15; refine (K2.out E.out _ HL.out).mono ?_; clear K2 z0 z1 z2 z3 z4 z5 HL; rintro e w4 ⟨rfl, H4⟩))
          have G4 : Hid (Ct w (ab + 1) bsz _ ab #[.int .i64 c0, .int .i64 1, .string c2, .int .u8 c3] (w4.alloc (.cells #[.int .i64 c0, .int .i64 m1, .string c2, .int .u8 c3] 34))) := H4.out.below ((Below.refl _ _).alloc (Nat.le_refl _) _)
          have B4 : Hid ((w4.alloc (.cells #[.int .i64 c0, .int .i64 m1, .string c2, .int .u8 c3] 34)).heap[w4.heap.size]? = some (.cells #[.int .i64 c0, .int .i64 m1, .string c2, .int .u8 c3] 34 (0, 0))) := World.alloc_heap_new _ _
          have N4 : Hid (¬ ab = w4.heap.size) := fun e => by have := (Array.getElem?_eq_some_iff.1 H4.out.al).1; omega
          obtain ⟨q4, hq4⟩ : ∃ q, w4.heap.size = q := ⟨_, rfl⟩
          rw [hq4] at B4 N4 ⊢
          clear hq4
          generalize w4.alloc (.cells #[.int .i64 c0, .int .i64 m1, .string c2, .int .u8 c3] 34) = V4 at G4 B4 ⊢
          clear H4
          obtain ⟨⟨y0, y1, y2, y3⟩, ⟨f0, f1, f2, f3⟩⟩ := box4 G4.out.al
          go_upto_region 25 with (fail)
          have H5 : Hid (Ct w (ab + 1) bsz _ ab #[.int .i64 c0, .int .i64 m1, .string c2, .int .u8 c3] (V4.setCell ⟨ab, 1, none⟩ (.int .i64 m1))) := G4.out.set 1 (.int .i64 m1)
          have C4 : Hid ((V4.setCell ⟨ab, 1, none⟩ (.int .i64 m1)).heap[q4]? = some (.cells #[.int .i64 c0, .int .i64 m1, .string c2, .int .u8 c3] 34 (0, 0))) := (iset_ne N4.out).trans B4.out
          clear y0 y1 y2 y3 f0 f1 f2 f3 G4 B4 N4
          generalize V4.setCell ⟨ab, 1, none⟩ (.int .i64 m1) = W5 at H5 C4 ⊢
          obtain ⟨⟨y0, y1, y2, y3⟩, -⟩ := box4 H5.out.al
          obtain ⟨⟨b0, b1, b2, b3⟩, -⟩ := box4 C4.out
          obtain ⟨z0, z1, z2, z3, z4, z5, -⟩ := box6 H5.out.kx
          go_upto_region 28 with (go_at_call 15; refine (K3.out _ _ H5.out).mono ?_; clear K3 z0 z1 z2 z3 z4 z5 y0 y1 y2 y3 b0 b1 b2 b3 H5; rintro e w6 ⟨rfl, H6⟩)
          have G6 : Hid (Ct w (ab + 1) bsz _ ab #[.int .i64 c0, .int .i64 m1, .string c2, .int .u8 c3] (w6.alloc (.cells #[.int .i64 c0, .int .i64 1, .string c2, .int .u8 c3] 34))) := H6.out.below ((Below.refl _ _).alloc (Nat.le_refl _) _)
          have B6 : Hid ((w6.alloc (.cells #[.int .i64 c0, .int .i64 1, .string c2, .int .u8 c3] 34)).heap[w6.heap.size]? = some (.cells #[.int .i64 c0, .int .i64 1, .string c2, .int .u8 c3] 34 (0, 0))) := World.alloc_heap_new _ _
          have N6 : Hid (¬ ab = w6.heap.size) := fun e => by have := (Array.getElem?_eq_some_iff.1 H6.out.al).1; omega
          obtain ⟨q6, hq6⟩ : ∃ q, w6.heap.size = q := ⟨_, rfl⟩
          rw [hq6] at B6 N6 ⊢
          clear hq6
          generalize w6.alloc (.cells #[.int .i64 c0, .int .i64 1, .string c2, .int .u8 c3] 34) = V6 at G6 B6 ⊢
          clear H6
          obtain ⟨⟨y0, y1, y2, y3⟩, ⟨f0, f1, f2, f3⟩⟩ := box4 G6.out.al
          go_upto_region 29 with (fail)
          have H7 : Hid (Ct w (ab + 1) bsz _ ab #[.int .i64 c0, .int .i64 1, .string c2, .int .u8 c3] (V6.setCell ⟨ab, 1, none⟩ (.int .i64 1))) := G6.out.set 1 (.int .i64 1)
          have C6 : Hid ((V6.setCell ⟨ab, 1, none⟩ (.int .i64 1)).heap[q6]? = some (.cells #[.int .i64 c0, .int .i64 1, .string c2, .int .u8 c3] 34 (0, 0))) := (iset_ne N6.out).trans B6.out
          clear y0 y1 y2 y3 f0 f1 f2 f3 G6 B6 N6
          generalize V6.setCell ⟨ab, 1, none⟩ (.int .i64 1) = W7 at H7 C6 ⊢
          obtain ⟨⟨y0, y1, y2, y3⟩, -⟩ := box4 H7.out.al
          obtain ⟨⟨b0, b1, b2, b3⟩, -⟩ := box4 C6.out
          go_wp2_with (go_at_call 26; refine (K4.out _ _ H7.out).mono ?_; clear K4; rintro e w8 ⟨rfl, rfl⟩)
          go_ret
          exact ⟨rfl, H7.out.bel⟩
      · have E : Hid (digP _ = false) := fin2.out (fun h => p0 h.1)
        have p0' : (x0 == 1) = false := by simp [p0]
        clear fin2
        go_upto_region 24 with (first
          | (go_at_call 26; refine (K1.out _ HL.out).mono ?_; clear K1; rintro e w3 ⟨rfl, rfl⟩)
          | (go_at_call 15; refine (K2.out E.out _ HL.out).mono ?_; clear K2 z0 z1 z2 z3 z4 z5 HL; rintro e w4 ⟨rfl, H4⟩))
        have G4 : Hid (Ct w (ab + 1) bsz _ ab #[.int .i64 c0, .int .i64 1, .string c2, .int .u8 c3] (w4.alloc (.cells #[.int .i64 c0, .int .i64 m1, .string c2, .int .u8 c3] 34))) := H4.out.below ((Below.refl _ _).alloc (Nat.le_refl _) _)
        have B4 : Hid ((w4.alloc (.cells #[.int .i64 c0, .int .i64 m1, .string c2, .int .u8 c3] 34)).heap[w4.heap.size]? = some (.cells #[.int .i64 c0, .int .i64 m1, .string c2, .int .u8 c3] 34 (0, 0))) := World.alloc_heap_new _ _
        have N4 : Hid (¬ ab = w4.heap.size) := fun e => by have := (Array.getElem?_eq_some_iff.1 H4.out.al).1; omega
        obtain ⟨q4, hq4⟩ : ∃ q, w4.heap.size = q := ⟨_, rfl⟩
        rw [hq4] at B4 N4 ⊢
        clear hq4
        generalize w4.alloc (.cells #[.int .i64 c0, .int .i64 m1, .string c2, .int .u8 c3] 34) = V4 at G4 B4 ⊢
        clear H4
        obtain ⟨⟨y0, y1, y2, y3⟩, ⟨f0, f1, f2, f3⟩⟩ := box4 G4.out.al
        go_upto_region 25 with (fail)
        have H5 : Hid (Ct w (ab + 1) bsz _ ab #[.int .i64 c0, .int .i64 m1, .string c2, .int .u8 c3] (V4.setCell ⟨ab, 1, none⟩ (.int .i64 m1))) := G4.out.set 1 (.int .i64 m1)
        have C4 : Hid ((V4.setCell ⟨ab, 1, none⟩ (.int .i64 m1)).heap[q4]? = some (.cells #[.int .i64 c0, .int .i64 m1, .string c2, .int .u8 c3] 34 (0, 0))) := (iset_ne N4.out).trans B4.out
        clear y0 y1 y2 y3 f0 f1 f2 f3 G4 B4 N4
        generalize V4.setCell ⟨ab, 1, none⟩ (.int .i64 m1) = W5 at H5 C4 ⊢
        obtain ⟨⟨y0, y1, y2, y3⟩, -⟩ := box4 H5.out.al
        obtain ⟨⟨b0, b1, b2, b3⟩, -⟩ := box4 C4.out
        obtain ⟨z0, z1, z2, z3, z4, z5, -⟩ := box6 H5.out.kx
        go_upto_region 28 with (go_at_call 15; refine (K3.out _ _ H5.out).mono ?_; clear K3 z0 z1 z2 z3 z4 z5 y0 y1 y2 y3 b0 b1 b2 b3 H5; rintro e w6 ⟨rfl, H6⟩)
        have G6 : Hid (Ct w (ab + 1) bsz _ ab #[.int .i64 c0, .int .i64 m1, .string c2, .int .u8 c3] (w6.alloc (.cells #[.int .i64 c0, .int .i64 1, .string c2, .int .u8 c3] 34))) := H6.out.below ((Below.refl _ _).alloc (Nat.le_refl _) _)
        have B6 : Hid ((w6.alloc (.cells #[.int .i64 c0, .int .i64 1, .string c2, .int .u8 c3] 34)).heap[w6.heap.size]? = some (.cells #[.int .i64 c0, .int .i64 1, .string c2, .int .u8 c3] 34 (0, 0))) := World.alloc_heap_new _ _
        have N6 : Hid (¬ ab = w6.heap.size) := fun e => by have := (Array.getElem?_eq_some_iff.1 H6.out.al).1; omega
        obtain ⟨q6, hq6⟩ : ∃ q, w6.heap.size = q := ⟨_, rfl⟩
        rw [hq6] at B6 N6 ⊢
        clear hq6
        generalize w6.alloc (.cells #[.int .i64 c0, .int .i64 1, .string c2, .int .u8 c3] 34) = V6 at G6 B6 ⊢
        clear H6
        obtain ⟨⟨y0, y1, y2, y3⟩, ⟨f0, f1, f2, f3⟩⟩ := box4 G6.out.al
        go_upto_region 29 with (fail)
        have H7 : Hid (Ct w (ab + 1) bsz _ ab #[.int .i64 c0, .int .i64 1, .string c2, .int .u8 c3] (V6.setCell ⟨ab, 1, none⟩ (.int .i64 1))) := G6.out.set 1 (.int .i64 1)
        have C6 : Hid ((V6.setCell ⟨ab, 1, none⟩ (.int .i64 1)).heap[q6]? = some (.cells #[.int .i64 c0, .int .i64 1, .string c2, .int .u8 c3] 34 (0, 0))) := (iset_ne N6.out).trans B6.out
        clear y0 y1 y2 y3 f0 f1 f2 f3 G6 B6 N6
        generalize V6.setCell ⟨ab, 1, none⟩ (.int .i64 1) = W7 at H7 C6 ⊢
        obtain ⟨⟨y0, y1, y2, y3⟩, -⟩ := box4 H7.out.al
        obtain ⟨⟨b0, b1, b2, b3⟩, -⟩ := box4 C6.out
        go_wp2_with (go_at_call 26; refine (K4.out _ _ H7.out).mono ?_; clear K4; rintro e w8 ⟨rfl, rfl⟩)
        go_ret
        exact ⟨rfl, H7.out.bel⟩
theorem walk_of {H : Type} {d0 d1 d2 : DataW H} (a0 : Option Addr) (len0 cap0 : Nat) (a1 : Option Addr) (len1 cap1 : Nat) (k : Ky) (w : World) (hT : Tb w) (l : List Int) (hS : RdBy w (.slice a0 len0 cap0) l) (hu : l.length ≤ Rows.uptoBulk d0 ∧ ∀ x ∈ l, 0 ≤ x ∧ x < 256) (l1 : List Bool) (hS1 : RdBo w (.slice a1 len1 cap1) l1) (hu1 : l1.length ≤ Rows.uptoBulk d1) (hz : k.tx.size + 1 ≤ Rows.uptoBulk d2 ∧ (-2147483648 ≤ k.ch ∧ k.ch ≤ 2147483647) ∧ (-9223372036854775808 ≤ k.kd ∧ k.kd ≤ 9223372036854775807)) (hk : Rows.uptoSmall H ([d0, d1, d2] ++ []) = true) :
    Calls Tryd.prog 6 #[.slice a0 len0 cap0, .slice a1 len1 cap1, kyv k] w fun e w' => e = .returned (.bool true) ∧ Below w.heap.size w w' := by
  have h : Rows.uptoBulkAll ([d0, d1, d2] ++ []) ≤ 1048576 := of_decide_eq_true hk
  simp only [List.cons_append, List.nil_append, Rows.uptoBulkAll] at h
  obtain ⟨a, cap', e, hc⟩ := id hS
  cases e
  obtain ⟨a', cap'', e', hc'⟩ := id hS1
  cases e'
  have q0 := hu.1
  have q2 := hz.1
  exact walk (by kernel_rfl) a0 cap0 l a1 cap1 l1 k w hS hS1 (by omega) (by omega) hu.2 ⟨hz.2.1.1, hz.2.1.2, hz.2.2.1, hz.2.2.2, by omega⟩ hT
end Go.Proofs.YtmaolbibbjngcaaDoor.bindCounts
