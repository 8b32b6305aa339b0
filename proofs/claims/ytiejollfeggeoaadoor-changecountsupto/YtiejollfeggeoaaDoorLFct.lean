/-
  The walk of the law ChangeCounts: a count is so many of the command, one behind the other. Conditions: those of walk_of.
-/
import Derived.Test.YtiejollfeggeoaaDoorFBox
namespace Go.Proofs.YtiejollfeggeoaaDoor.changeCounts
open Go.RowKit Go.Shelf Bod Wid

/-- what is killed -/
def kl (k : Int) (s : ByteArray) (a t : Nat) : ByteArray := if k = 14 then ⟨#[]⟩ else s.extract a t
theorem of_step {s : ByteArray} {k c i : Int} {a n : Nat} (hk : k = 14 ∨ k = 16 ∨ k = 18) (ha : snp s i = a) (hn : cntP c = n) :
    (rpt (stF k s) n a = a → ofP s k c i (-1) = (chz, 8)) ∧ (a < rpt (stF k s) n a → ofP s k c i (-1) = (⟨a, rpt (stF k s) n a - a, ⟨#[]⟩, a, kl k s a (rpt (stF k s) n a), false⟩, 0)) := by
  have hd : doesP k = true := by rcases hk with rfl | rfl | rfl <;> decide
  unfold ofP
  rw [if_pos hd, ha, hn]
  obtain ⟨R, hR⟩ : ∃ R, rpt (stF k s) n a = R := ⟨_, rfl⟩
  unfold makP kl
  rw [hR]
  by_cases h14 : k = 14
  · rw [if_pos (.inl h14), if_pos h14]
    unfold cutP
    refine ⟨fun h => by rw [if_pos h], fun h => ?_⟩
    rw [if_neg (by omega), Nat.min_eq_left (by omega), Nat.max_eq_right (by omega)]
  · rw [if_neg (by omega), if_pos (by omega), if_neg h14]
    unfold killP
    refine ⟨fun h => by rw [if_pos h], fun h => ?_⟩
    rw [if_neg (by omega), Nat.min_eq_left (by omega), Nat.max_eq_right (by omega), decide_eq_false (by omega)]
theorem right_no {k : Int} (hk : k = 14 ∨ k = 16 ∨ k = 18) : lefts k = false := by rcases hk with rfl | rfl | rfl <;> rfl
theorem box3 {W : World} {b : Nat} {v0 v1 v2 : Value} {t : TypeId} (h : W.heap[b]? = some (.cells #[v0, v1, v2] t (0, 0))) : W.cell? ⟨b, 0, none⟩ = some v0 ∧ W.cell? ⟨b, 1, none⟩ = some v1 ∧ W.cell? ⟨b, 2, none⟩ = some v2 := by
  simp [World.cell?, h]
/-- three numbers by turns -/
def kd (j : Nat) : Int := if j = 0 then 14 else if j = 1 then 16 else 18
theorem kd_at {W : World} {b j : Nat} {t : TypeId} (h : W.heap[b]? = some (.cells #[.int .i64 14, .int .i64 16, .int .i64 18] t (0, 0))) (hj : j < 3) : W.cell? ⟨b, j, none⟩ = some (.int .i64 (kd j)) := by
  obtain ⟨h0, h1, h2⟩ := box3 h
  unfold kd
  match j, hj with
  | 0, _ => exact h0
  | 1, _ => exact h1
  | 2, _ => exact h2
theorem kd_is {j : Nat} : kd j = 14 ∨ kd j = 16 ∨ kd j = 18 := by unfold kd; split; exact .inl rfl; split; exact .inr (.inl rfl); exact .inr (.inr rfl)
theorem rem3 (a : Int) {m : Int} (hm : 0 < m) : ∃ j : Nat, (a.tmod m + m).tmod m = j ∧ (j : Int) < m ∧ -m < a.tmod m ∧ a.tmod m < m := by
  have h1 := Int.lt_tmod_of_pos a hm
  have h2 := Int.tmod_lt_of_pos a hm
  have h3 : 0 ≤ a.tmod m + m := by omega
  have h4 : 0 ≤ (a.tmod m + m).tmod m := Int.tmod_nonneg _ h3
  have h5 := Int.tmod_lt_of_pos (a.tmod m + m) hm
  exact ⟨((a.tmod m + m).tmod m).toNat, by omega, by omega, by omega, h2⟩
theorem neg7 (c : Int) : cntP (wrap64 (-bits .and .i64 c 7)) = 1 := by
  have h : (BitVec.ofInt 64 c &&& BitVec.ofInt 64 7).toNat ≤ 7 := by
    rw [BitVec.toNat_and]
    exact Nat.le_trans Nat.and_le_right (by decide)
  obtain ⟨v, hv⟩ : ∃ v, (BitVec.ofInt 64 c &&& BitVec.ofInt 64 7).toNat = v := ⟨_, rfl⟩
  have e : bits .and .i64 c 7 = (v : Int) := by
    have e1 : bits .and .i64 c 7 = IntKind.i64.wrap ((BitVec.ofInt 64 c &&& BitVec.ofInt 64 7).toNat : Int) := rfl
    rw [e1, hv]
    rw [hv] at h
    show (if _ then _ else _) = _
    simp [IntKind.bits]
    rw [if_neg (fun q => by have := q.2; omega)]
    omega
  rw [hv] at h
  rw [e, show wrap64 (-(v : Int)) = -v by unfold wrap64; omega]
  unfold cntP
  omega
set_option maxRecDepth 100000 in
set_option maxHeartbeats 2000000 in
theorem walk (hM : Tryd.prog.follows .mixedOrders = true) (s : ByteArray) (hs : s.size ≤ 1048576) (x : Ak) (hx : x.fit) (w : World) (hT : Tw w) :
    Calls Tryd.prog 5 #[.string s, akv x] w fun e W' => e = .returned (.bool true) ∧ Below w.heap.size w W' := by
  have C0 : Hid (∀ W, Bx w x [] W → Calls Tryd.prog 7 #[] W fun e W' => e = .returned (.bool true) ∧ Hid (Bx w x [] W')) := fun W hW => (awake_any hM W (hT.below hW.bel)).mono fun e W' ⟨k1, k2⟩ => ⟨k1, hW.below k2⟩
  have HB : Hid (Bx w x [] (w.alloc (.cells #[.int .i64 x.k, .int .i64 x.c, .int .i64 x.i, .int .i64 x.r] 31))) := bx0 w x
  obtain ⟨j, hj, hj3, hj1, hj2⟩ := rem3 x.k (m := 3) (by decide)
  obtain ⟨m, hm, hm5, hm1, hm2⟩ := rem3 x.c (m := 5) (by decide)
  have hkd := kd_is (j := j)
  have HKD : Hid (∀ (W : World) (b : Nat), W.heap[b]? = some (.cells #[.int .i64 14, .int .i64 16, .int .i64 18] 36 (0, 0)) → W.cell? ⟨b, j, none⟩ = some (.int .i64 (kd j))) := fun W b h => kd_at h (by omega)
  obtain ⟨k, hk⟩ : ∃ k, kd j = k := ⟨_, rfl⟩
  rw [hk] at hkd HKD
  obtain ⟨n, hn⟩ : ∃ n, 1 + m = n := ⟨_, rfl⟩
  have hn' : (1 : Int) + m = n := by omega
  have hcn : cntP (n : Int) = n := by unfold cntP; omega
  have hn6 : 1 ≤ n ∧ n ≤ 5 := by omega
  have CO0 := fun (c i : Int) (hi : i ≤ 9223372036854775807) W (hW : Below w.heap.size w W) => Of_any hM s (by omega) k c i (-1) hi (by decide) ⟨#[]⟩ 0 W (hT.below hW)
  have ha : cbZ s (snp s x.i) = true := (snp_is s x.i).cb
  obtain ⟨a, hae⟩ : ∃ a, snp s x.i = a := ⟨_, rfl⟩
  rw [hae] at ha
  have hal := cb_le ha
  have CE : Hid (∀ (c i : Int) (p : Nat), i ≤ 9223372036854775807 → snp s i = p → p = s.size → ∀ W L, Bx w x L W → Calls Tryd.prog 10 #[.agg #[.int .i64 k, .int .i64 c, .string ⟨#[]⟩, .int .u8 0], .string s, .int .i64 i, .int .i64 (-1)] W fun e W' => e = .returned (.tuple #[.agg #[.int .i64 0, .int .i64 0, .string ⟨#[]⟩, .int .i64 0, .string ⟨#[]⟩, .bool false], .int .i64 8]) ∧ Hid (Bx w x L W')) := fun c i p hi hp hps W L hW => by
    have h := CO0 c i hi W hW.bel
    have hpc : cbZ s p = true := by rw [← hp]; exact (snp_is s i).cb
    have hr := rst_right (k := k) (s := s) (right_no hkd) (cntP c) p hpc
    rw [(of_step hkd hp rfl).1 (by omega)] at h
    exact h.mono fun e W' ⟨k1, k2⟩ => ⟨k1, hW.below k2⟩
  have CG : Hid (∀ (c i : Int) (p n : Nat), i ≤ 9223372036854775807 → snp s i = p → p < s.size → cntP c = n → ∀ W L, Bx w x L W → Calls Tryd.prog 10 #[.agg #[.int .i64 k, .int .i64 c, .string ⟨#[]⟩, .int .u8 0], .string s, .int .i64 i, .int .i64 (-1)] W fun e W' => e = .returned (.tuple #[.agg #[.int .i64 p, .int .i64 (rpt (stF k s) n p - p : Nat), .string ⟨#[]⟩, .int .i64 p, .string (kl k s p (rpt (stF k s) n p)), .bool false], .int .i64 0]) ∧ Hid (Bx w x L W')) := fun c i p n hi hp hps hn W L hW => by
    have h := CO0 c i hi W hW.bel
    have hpc : cbZ s p = true := by rw [← hp]; exact (snp_is s i).cb
    have hr := rst_right (k := k) (s := s) (right_no hkd) n p hpc
    have hn1 := (cnt_in c).1
    rw [(of_step hkd hp hn).2 (hr.2.2 (by omega) hps)] at h
    exact h.mono fun e W' ⟨k1, k2⟩ => ⟨k1, hW.below k2⟩
  have hi := hx.2.2.1.2
  have HR : Hid (∀ n, a ≤ rpt (stF k s) n a ∧ rpt (stF k s) n a ≤ s.size ∧ cbZ s (rpt (stF k s) n a) = true) := fun n => by
    have h := rst_right (k := k) (s := s) (right_no hkd) n a ha
    exact ⟨h.1, h.2.1, rst_cb n ha⟩
  have HS : Hid (∀ p : Nat, cbZ s p = true → p ≤ stF k s p ∧ stF k s p ≤ s.size) := fun p hp => ⟨(stF_right (right_no hkd) hp).1, (stF_right (right_no hkd) hp).2.1⟩
  clear CO0 hT hM hk hkd
  unfold akv
  go_enter Tryd.func5, Tryd.ntmps5
  go_upto_region 4 with (go_at_call 7; refine (C0.out _ HB.out).mono ?_; clear C0 HB; rintro e w1 ⟨rfl, HB⟩)
  have HC : Hid (Bx w x [] (w1.alloc (.cells #[.int .i64 14, .int .i64 16, .int .i64 18] 36))) := HB.out.below ((Below.refl _ w1).alloc (Nat.le_refl _) _)
  have hy := HKD.out _ _ (World.alloc_heap_new w1 (.cells #[.int .i64 14, .int .i64 16, .int .i64 18] 36))
  generalize w1.alloc (.cells #[.int .i64 14, .int .i64 16, .int .i64 18] 36) = w2 at HC hy ⊢
  generalize w1.heap.size = g at hy ⊢
  clear HB HKD
  obtain ⟨c0, c1, c2, -⟩ := HC.out.get
  go_upto_region 6 with fail
  clear hy hj hj1 hj2 hj3 hm1 hm2 hm5 hm c0 hn hn'
  by_cases hend : a = s.size
  · have HN : Hid (∀ W L, Bx w x L W → Bx w x L (W.alloc (.cells #[.int .i64 0, .int .i64 0, .string ⟨#[]⟩, .int .i64 0, .string ⟨#[]⟩, .bool false] 33))) := fun W L h => h.below ((Below.refl _ W).alloc (Nat.le_refl _) _)
    have D : Hid (∀ (c : Int) W L, Bx w x L W → Calls Tryd.prog 10 #[.agg #[.int .i64 k, .int .i64 c, .string ⟨#[]⟩, .int .u8 0], .string s, .int .i64 x.i, .int .i64 (-1)] W fun e W' => e = .returned (.tuple #[.agg #[.int .i64 0, .int .i64 0, .string ⟨#[]⟩, .int .i64 0, .string ⟨#[]⟩, .bool false], .int .i64 8]) ∧ Hid (Bx w x L W')) := fun c W L hW => CE.out c x.i a hi hae hend W L hW
    clear CE CG HR HS
    go_upto_region 7 with (go_at_call 10; refine (D.out _ _ _ HC.out).mono ?_; clear HC c1 c2; rintro e w3 ⟨rfl, HB⟩)
    have HC : Hid (Bx w x [] (w3.alloc (.cells #[.int .i64 0, .int .i64 0, .string ⟨#[]⟩, .int .i64 0, .string ⟨#[]⟩, .bool false] 33))) := HN.out _ _ HB.out
    generalize w3.alloc (.cells #[.int .i64 0, .int .i64 0, .string ⟨#[]⟩, .int .i64 0, .string ⟨#[]⟩, .bool false] 33) = w4 at HC ⊢
    clear HB
    obtain ⟨-, c1, c2, -⟩ := HC.out.get
    go_upto_region 8 with (go_at_call 10; refine (D.out _ _ _ HC.out).mono ?_; clear HC c1 c2; rintro e w5 ⟨rfl, HB⟩)
    have HC : Hid (Bx w x [] (w5.alloc (.cells #[.int .i64 0, .int .i64 0, .string ⟨#[]⟩, .int .i64 0, .string ⟨#[]⟩, .bool false] 33))) := HN.out _ _ HB.out
    have hz := World.alloc_heap_new w5 (.cells #[.int .i64 0, .int .i64 0, .string ⟨#[]⟩, .int .i64 0, .string ⟨#[]⟩, .bool false] 33)
    generalize w5.alloc (.cells #[.int .i64 0, .int .i64 0, .string ⟨#[]⟩, .int .i64 0, .string ⟨#[]⟩, .bool false] 33) = w6 at HC hz ⊢
    generalize w5.heap.size = b2 at hz ⊢
    have HC' : Hid (Bx w x [(b2, chz)] w6) := ⟨HC.out.bel, HC.out.ask, fun p hp => by simp at hp; subst hp; exact hz⟩
    clear HB HC hz
    obtain ⟨-, c1, c2, -⟩ := HC'.out.get
    go_upto_region 9 with (go_at_call 10; refine (D.out _ _ _ HC'.out).mono ?_; clear HC' c1 c2; rintro e w7 ⟨rfl, HB⟩)
    have HC : Hid (Bx w x ([(b2, chz)] ++ [(w7.heap.size, chz)]) (w7.alloc (.cells #[.int .i64 0, .int .i64 0, .string ⟨#[]⟩, .int .i64 0, .string ⟨#[]⟩, .bool false] 33))) := HB.out.new chz
    generalize w7.alloc (.cells #[.int .i64 0, .int .i64 0, .string ⟨#[]⟩, .int .i64 0, .string ⟨#[]⟩, .bool false] 33) = w8 at HC ⊢
    generalize w7.heap.size = b3 at HC ⊢
    clear HB
    obtain ⟨m0, m1, m2, m3, m4, m5⟩ := HC.out.at' (b := b2) (c := chz) (by simp)
    obtain ⟨n0, n1, n2, n3, n4, n5⟩ := HC.out.at' (b := b3) (c := chz) (by simp)
    simp only [chz] at m0 m1 m2 m3 m4 m5 n0 n1 n2 n3 n4 n5
    go_wp2
    go_ret
    exact ⟨rfl, HC.out.bel⟩
  · have hlt : a < s.size := by omega
    have HRn : Hid (∀ i, i ≤ n → rpt (stF k s) i a = s.size → rpt (stF k s) n a = s.size) := fun i hin he => by
      have h1 := rpt_add (stF k s) i (n - i) a
      rw [show i + (n - i) = n by omega, he] at h1
      rw [h1]
      refine rpt_fix ?_ _
      have hc := (HR.out i).2.2
      rw [he] at hc
      have := HS.out s.size hc
      omega
    have hRl := HR.out n
    have D1 : Hid (∀ W L, Bx w x L W → Calls Tryd.prog 10 #[.agg #[.int .i64 k, .int .i64 n, .string ⟨#[]⟩, .int .u8 0], .string s, .int .i64 x.i, .int .i64 (-1)] W fun e W' => e = .returned (.tuple #[.agg #[.int .i64 a, .int .i64 (rpt (stF k s) n a - a : Nat), .string ⟨#[]⟩, .int .i64 a, .string (kl k s a (rpt (stF k s) n a)), .bool false], .int .i64 0]) ∧ Hid (Bx w x L W')) := CG.out n x.i a n hi hae hlt hcn
    have D2 : Hid (∀ c, cntP c = 1 → ∀ W L, Bx w x L W → Calls Tryd.prog 10 #[.agg #[.int .i64 k, .int .i64 c, .string ⟨#[]⟩, .int .u8 0], .string s, .int .i64 x.i, .int .i64 (-1)] W fun e W' => e = .returned (.tuple #[.agg #[.int .i64 a, .int .i64 (rpt (stF k s) 1 a - a : Nat), .string ⟨#[]⟩, .int .i64 a, .string (kl k s a (rpt (stF k s) 1 a)), .bool false], .int .i64 0]) ∧ Hid (Bx w x L W')) := fun c hc => CG.out c x.i a 1 hi hae hlt hc
    have D3 : Hid (∀ p : Nat, cbZ s p = true → p < s.size → ∃ y, ∀ W L, Bx w x L W → Calls Tryd.prog 10 #[.agg #[.int .i64 k, .int .i64 1, .string ⟨#[]⟩, .int .u8 0], .string s, .int .i64 p, .int .i64 (-1)] W fun e W' => e = .returned (.tuple #[.agg #[.int .i64 p, .int .i64 (stF k s p - p : Nat), .string ⟨#[]⟩, .int .i64 p, .string y, .bool false], .int .i64 0]) ∧ Hid (Bx w x L W')) := fun p hc hp => ⟨_, CG.out 1 p p 1 (by omega) (snp_self hc) hp (by decide)⟩
    have D4 : Hid (∀ p : Nat, cbZ s p = true → p = s.size → ∀ W L, Bx w x L W → Calls Tryd.prog 10 #[.agg #[.int .i64 k, .int .i64 1, .string ⟨#[]⟩, .int .u8 0], .string s, .int .i64 p, .int .i64 (-1)] W fun e W' => e = .returned (.tuple #[.agg #[.int .i64 0, .int .i64 0, .string ⟨#[]⟩, .int .i64 0, .string ⟨#[]⟩, .bool false], .int .i64 8]) ∧ Hid (Bx w x L W')) := fun p hc hp => CE.out 1 p p (by omega) (snp_self hc) hp
    have D5 : Hid (∀ c, cntP (wrap64 (-bits .and .i64 c 7)) = 1) := neg7
    obtain ⟨Rn, hRne⟩ : ∃ Rn, rpt (stF k s) n a = Rn := ⟨_, rfl⟩
    obtain ⟨R1, hR1e⟩ : ∃ R1, rpt (stF k s) 1 a = R1 := ⟨_, rfl⟩
    rw [hRne] at HRn hRl D1
    rw [hR1e] at D2
    obtain ⟨y1, hy1⟩ : ∃ y1, kl k s a Rn = y1 := ⟨_, rfl⟩
    obtain ⟨y2, hy2⟩ : ∃ y2, kl k s a R1 = y2 := ⟨_, rfl⟩
    rw [hy1] at D1
    rw [hy2] at D2
    have HNE : Hid (rpt (stF k s) n a = Rn) := hRne
    have hRl1 := hRl.1
    have hRl2 := hRl.2.1
    clear CE CG hRne hR1e hy1 hy2 hRl hend
    go_upto_region 7 with (go_at_call 10; refine (D1.out _ _ HC.out).mono ?_; clear HC c1 c2 D1; rintro e w3 ⟨rfl, HB⟩)
    have HC : Hid (Bx w x [(w3.heap.size, ⟨a, Rn - a, ⟨#[]⟩, a, y1, false⟩)] (w3.alloc (.cells #[.int .i64 a, .int .i64 (Rn - a : Nat), .string ⟨#[]⟩, .int .i64 a, .string y1, .bool false] 33))) := HB.out.new ⟨a, Rn - a, ⟨#[]⟩, a, y1, false⟩
    generalize w3.alloc (.cells #[.int .i64 a, .int .i64 (Rn - a : Nat), .string ⟨#[]⟩, .int .i64 a, .string y1, .bool false] 33) = w4 at HC ⊢
    generalize w3.heap.size = b1 at HC ⊢
    clear HB
    obtain ⟨-, c1, c2, -⟩ := HC.out.get
    go_upto_region 8 with (go_at_call 10; refine (D2.out _ (by decide) _ _ HC.out).mono ?_; clear HC c1 c2; rintro e w5 ⟨rfl, HB⟩)
    have HC : Hid (Bx w x [(b1, ⟨a, Rn - a, ⟨#[]⟩, a, y1, false⟩), (w5.heap.size, ⟨a, R1 - a, ⟨#[]⟩, a, y2, false⟩)] (w5.alloc (.cells #[.int .i64 a, .int .i64 (R1 - a : Nat), .string ⟨#[]⟩, .int .i64 a, .string y2, .bool false] 33))) := HB.out.new ⟨a, R1 - a, ⟨#[]⟩, a, y2, false⟩
    generalize w5.alloc (.cells #[.int .i64 a, .int .i64 (R1 - a : Nat), .string ⟨#[]⟩, .int .i64 a, .string y2, .bool false] 33) = w6 at HC ⊢
    generalize w5.heap.size = b2 at HC ⊢
    clear HB
    obtain ⟨-, c1, c2, -⟩ := HC.out.get
    go_upto_region 9 with (go_at_call 10; refine (D2.out _ (D5.out _) _ _ HC.out).mono ?_; clear HC c1 c2 D2 D5; rintro e w7 ⟨rfl, HB⟩)
    have HC : Hid (Bx w x [(b1, ⟨a, Rn - a, ⟨#[]⟩, a, y1, false⟩), (b2, ⟨a, R1 - a, ⟨#[]⟩, a, y2, false⟩), (w7.heap.size, ⟨a, R1 - a, ⟨#[]⟩, a, y2, false⟩)] (w7.alloc (.cells #[.int .i64 a, .int .i64 (R1 - a : Nat), .string ⟨#[]⟩, .int .i64 a, .string y2, .bool false] 33))) := HB.out.new ⟨a, R1 - a, ⟨#[]⟩, a, y2, false⟩
    generalize w7.alloc (.cells #[.int .i64 a, .int .i64 (R1 - a : Nat), .string ⟨#[]⟩, .int .i64 a, .string y2, .bool false] 33) = w8 at HC ⊢
    generalize w7.heap.size = b3 at HC ⊢
    clear HB
    obtain ⟨l0, -, -, -, -, -⟩ := HC.out.at' (b := b1) (c := ⟨a, Rn - a, ⟨#[]⟩, a, y1, false⟩) (by simp)
    obtain ⟨m0, m1, m2, m3, m4, m5⟩ := HC.out.at' (b := b2) (c := ⟨a, R1 - a, ⟨#[]⟩, a, y2, false⟩) (by simp)
    obtain ⟨n0, n1, n2, n3, n4, n5⟩ := HC.out.at' (b := b3) (c := ⟨a, R1 - a, ⟨#[]⟩, a, y2, false⟩) (by simp)
    simp only at l0 m0 m1 m2 m3 m4 m5 n0 n1 n2 n3 n4 n5
    go_wp2
    clear l0 m0 m1 m2 m3 m4 m5 n0 n1 n2 n3 n4 n5
    have HL : Hid (Bx w x [(b1, ⟨a, Rn - a, ⟨#[]⟩, a, y1, false⟩)] w8) := ⟨HC.out.bel, HC.out.ask, fun p hp => HC.out.bs p (by simp at hp; subst hp; simp)⟩
    clear HC
    go_loopw [14, 16] (fun t14 t16 wr => ∃ p i : Nat, t14 = .int .i64 (p - a : Nat) ∧ t16 = .int .i64 i ∧ i ≤ n ∧ Hid (rpt (stF k s) i a = p) ∧ Hid (Bx w x [(b1, ⟨a, Rn - a, ⟨#[]⟩, a, y1, false⟩)] wr)) (fun _ t16 _ => n - (intOf t16).toNat)
    case atStart => exact ⟨a, 0, by simp, rfl, by omega, rfl, HL⟩
    case round =>
      obtain ⟨p, i, rfl, rfl, hin, HP, HB⟩ := hrel
      clear HL
      have hp := HR.out i
      rw [HP.out] at hp
      obtain ⟨p1, p2, p3⟩ := hp
      have s1 : (a : Int) + (p - a : Nat) = p := by omega
      by_cases hlt' : i < n
      · by_cases hps : p = s.size
        · have hRp : Rn = p := by rw [HRn.out i hin (by rw [HP.out]; exact hps)]; exact hps.symm
          have D : Hid (∀ W L, Bx w x L W → Calls Tryd.prog 10 #[.agg #[.int .i64 k, .int .i64 1, .string ⟨#[]⟩, .int .u8 0], .string s, .int .i64 p, .int .i64 (-1)] W fun e W' => e = .returned (.tuple #[.agg #[.int .i64 0, .int .i64 0, .string ⟨#[]⟩, .int .i64 0, .string ⟨#[]⟩, .bool false], .int .i64 8]) ∧ Hid (Bx w x L W')) := D4.out p p3 hps
          clear D3 D4 HR HS HRn p3 HNE hps
          go_upto_region 19 with (go_at_call 10; refine (D.out _ _ HB.out).mono ?_; clear HB; rintro e w9 ⟨rfl, HB⟩)
          have HC : Hid (Bx w x [(b1, ⟨a, Rn - a, ⟨#[]⟩, a, y1, false⟩)] (w9.alloc (.cells #[.int .i64 0, .int .i64 0, .string ⟨#[]⟩, .int .i64 0, .string ⟨#[]⟩, .bool false] 33))) := HB.out.below ((Below.refl _ w9).alloc (Nat.le_refl _) _)
          generalize w9.alloc (.cells #[.int .i64 0, .int .i64 0, .string ⟨#[]⟩, .int .i64 0, .string ⟨#[]⟩, .bool false] 33) = w10 at HC ⊢
          clear HB
          obtain ⟨l0, l1, l2, l3, l4, l5⟩ := HC.out.at' (b := b1) (c := ⟨a, Rn - a, ⟨#[]⟩, a, y1, false⟩) (by simp)
          simp only at l0 l1 l2 l3 l4 l5
          subst hRp
          go_wp2
          go_ret
          exact ⟨by simp, HC.out.bel⟩
        · have hpl : p < s.size := by omega
          obtain ⟨y, hD⟩ := D3.out p p3 hpl
          have D : Hid _ := hD
          have hq := HS.out p p3
          have HQ : Hid (rpt (stF k s) (i + 1) a = stF k s p) := by
            show _ = _
            rw [rpt_snoc, HP.out]
          clear hD
          obtain ⟨q, hqe⟩ : ∃ q, stF k s p = q := ⟨_, rfl⟩
          rw [hqe] at D hq HQ
          have s2 : ((p - a : Nat) : Int) + (q - p : Nat) = (q - a : Nat) := by omega
          have s3 : ((q - a : Nat) : Int) ≤ 1048576 := by omega
          clear D3 D4 HR HS HRn p3 HNE hqe HP
          go_upto_region 19 with (go_at_call 10; refine (D.out _ _ HB.out).mono ?_; clear HB; rintro e w9 ⟨rfl, HB⟩)
          have HC : Hid (Bx w x [(b1, ⟨a, Rn - a, ⟨#[]⟩, a, y1, false⟩), (w9.heap.size, ⟨p, q - p, ⟨#[]⟩, p, y, false⟩)] (w9.alloc (.cells #[.int .i64 p, .int .i64 (q - p : Nat), .string ⟨#[]⟩, .int .i64 p, .string y, .bool false] 33))) := HB.out.new ⟨p, q - p, ⟨#[]⟩, p, y, false⟩
          generalize w9.alloc (.cells #[.int .i64 p, .int .i64 (q - p : Nat), .string ⟨#[]⟩, .int .i64 p, .string y, .bool false] 33) = w10 at HC ⊢
          generalize w9.heap.size = b4 at HC ⊢
          clear HB
          obtain ⟨o0, o1, -, -, -, -⟩ := HC.out.at' (b := b4) (c := ⟨p, q - p, ⟨#[]⟩, p, y, false⟩) (by simp)
          simp only at o0 o1
          go_wp2
          exact ⟨⟨q, i + 1, by go_num, by go_num, by omega, HQ, ⟨HC.out.bel, HC.out.ask, fun p hp => HC.out.bs p (by simp at hp; subst hp; simp)⟩⟩, by simp [Go.RowKit.intOf]; omega⟩
      · have hie : i = n := by omega
        have hRp : Rn = p := by rw [← HNE.out, ← hie]; exact HP.out
        obtain ⟨l0, l1, l2, l3, l4, l5⟩ := HB.out.at' (b := b1) (c := ⟨a, Rn - a, ⟨#[]⟩, a, y1, false⟩) (by simp)
        simp only at l0 l1 l2 l3 l4 l5
        clear D3 D4 HR HS HRn p3 HNE HP
        subst hRp
        go_wp2
        go_ret
        exact ⟨by simp, HB.out.bel⟩
theorem walk_of {H : Type} {d : DataW H} (s : ByteArray) (x : Ak) (w : World) (hT : Lib.Utf8Tabs 1 2 w) (hlo0 : 1 < w.heap.size) (hlo1 : 2 < w.heap.size) (_hs : s.size ≤ 140737488351232) (hx : x.fit) (hk : Rows.uptoSmall H ([DataW.lit (.string s.data.toList), d] ++ []) = true) :
    Calls Tryd.prog 5 #[.string s, akv x] w fun e w' => e = .returned (.bool true) ∧ Below w.heap.size w w' := by
  have h : Rows.uptoBulkAll ([DataW.lit (H := H) (.string s.data.toList), d] ++ []) ≤ 1048576 := of_decide_eq_true hk
  simp only [List.append_nil, Rows.uptoBulkAll, Rows.uptoBulk] at h
  exact walk (by kernel_rfl) s (by rw [Lib.size_eq]; omega) x hx w ⟨hT, hlo0, hlo1⟩
end Go.Proofs.YtiejollfeggeoaaDoor.changeCounts
