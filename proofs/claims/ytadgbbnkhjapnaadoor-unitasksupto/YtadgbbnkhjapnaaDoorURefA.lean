/-
  The walks of the document's answers on one text and one number: Bounds, Boundary, Down, Up, Next, Prev, At, and package unit's At. Conditions: the text is so short that its list can be made.
-/
import Derived.Test.YtadgbbnkhjapnaaDoorURefU
import Derived.Test.YtadgbbnkhjapnaaDoorUMathI
namespace Go.Proofs.YtadgbbnkhjapnaaDoor
open Go.RowKit Bod

theorem ret_bool {a b : Bool} (h : a = b) : Ending.returned (.bool a) = .returned (.bool b) := by rw [h]
theorem ret_at {s : ByteArray} {i c z : Int} {o : Bool} (h1 : atC s i = c) (h2 : atS s i = z) (h3 : atB s i = o) : Ending.returned (.tuple #[.agg #[.int .i32 c, .int .i64 z], .bool o]) = .returned (.tuple #[.agg #[.int .i32 (atC s i), .int .i64 (atS s i)], .bool (atB s i)]) := by rw [h1, h2, h3]
theorem info3 : (Tryd.prog.info? 3).map (fun i => (i.zero, i.size, i.bytes)) = some (some (.int .i64 0), 1, 8) := by kernel_rfl
def icells (xs : List Nat) : List Value := xs.map fun (i : Nat) => Value.int .i64 (i : Int)
theorem icells_get (xs : List Nat) (j : Nat) (h : j < xs.length) : (icells xs)[j]? = some (.int .i64 (xs.getD j 0 : Nat)) := by
  unfold icells
  rw [List.getElem?_map, List.getElem?_eq_getElem h, List.getD, List.getElem?_eq_getElem h]; rfl
theorem cell_one_new (w : World) (a : Value) (t : TypeId) : ∀ j u, [a][j]? = some u → (w.alloc (.cells #[a] t)).cell? ((⟨w.heap.size, 0, none⟩ : Addr).add j) = some u := by
  intro j u hj
  match j, hj with
  | 0, hj => simp at hj; subst hj; simp [Addr.add]
theorem own_one (w : World) (base : Nat) (hb : base ≤ w.heap.size) : (w.alloc (.cells #[.int .i64 0] 3)).ownsRow base 3 1 (.slice (some ⟨w.heap.size, 0, none⟩) 1 1) 1 [.int .i64 0] :=
  ⟨rfl, .inr ⟨w.heap.size, 1, #[.int .i64 0], rfl, hb, World.alloc_heap_new w _, by omega, by unfold maxLen; omega, rfl, rfl⟩⟩

set_option maxRecDepth 100000 in
set_option maxHeartbeats 2000000 in
theorem rbounds_any (s : ByteArray) (hs : s.size ≤ 1048576) (w : World) :
    Calls Tryd.prog 45 #[.string s] w fun e W' => ∃ g cap, e = .returned (.slice (some ⟨g, 0, none⟩) (bl s).length cap) ∧ (∀ j, j < (bl s).length → W'.cell? ⟨g, j, none⟩ = some (.int .i64 (blAt s j))) ∧ g < W'.heap.size ∧ Below w.heap.size w W' := by
  obtain ⟨i0, hi, hz0, hz1, hz2⟩ := info_parts info3
  have cU := runits_any s (by omega) w
  obtain ⟨N, hN⟩ : ∃ N, (offs s 0).length = N := ⟨_, rfl⟩
  have hNs : N ≤ s.size := by rw [← hN]; exact offs_len_le s
  have CU : Hid (Calls Tryd.prog 10 #[.string s] w fun e W' => ∃ a cap, e = .returned (.slice a N cap) ∧ (N ≠ 0 → ∃ b o, a = some ⟨b, o, none⟩ ∧ b < W'.heap.size ∧ ∀ j, j < N → W'.cell? ⟨b, o + j * 2, none⟩ = some (.int .i32 (chAt s (offs s 0) j)) ∧ W'.cell? ⟨b, o + j * 2 + 1, none⟩ = some (.int .i64 (szAt s (offs s 0) j))) ∧ Below w.heap.size w W') := by
    refine cU.mono ?_
    rintro e W' ⟨v, rfl, hrow, hb⟩
    obtain ⟨a, cap, rfl, g⟩ := Rd.of_own hrow
    rw [hN] at g ⊢
    refine ⟨a, cap, rfl, fun h0 => ?_, hb⟩
    obtain ⟨b, o, rfl, k⟩ := g h0
    refine ⟨b, o, rfl, ?_, k⟩
    have := (k 0 (by omega)).1
    unfold World.cell? at this
    cases ho : W'.heap[b]? with
    | none => simp [ho] at this
    | some o => exact (Array.getElem?_eq_some_iff.1 ho).1
  have HN : Hid ((offs s 0).length = N) := hN
  clear hN cU
  go_enter Tryd.func45, Tryd.ntmps45
  go_wp2_with (go_at_call 10; refine (Hid.out CU).mono ?_; rintro e W2 ⟨a0, c0, rfl, hl, hb1⟩; have hB2 : Hid (Below w.heap.size w W2) := hb1; have HL : Hid _ := hl; clear hb1 hl)
  have HR0 : Hid ((W2.alloc (.cells #[.int .i64 0] 3)).ownsRow W2.heap.size 3 1 (.slice (some ⟨W2.heap.size, 0, none⟩) 1 1) 1 [.int .i64 0]) := own_one W2 W2.heap.size (Nat.le_refl _)
  go_loopw [4, 5, 6] (fun v t k wr => ∃ (pre : List Nat) (a : Nat), t = .int .i64 a ∧ k = .int .i64 pre.length ∧ pre.length ≤ N ∧ a ≤ s.size ∧ pre ++ offs s a = offs s 0 ∧ wr.ownsRow W2.heap.size 3 1 v (pre.length + 1) (icells (pre ++ [a])) ∧ Below W2.heap.size W2 wr) (fun _ _ k _ => N - (intOf k).toNat)
  case atStart => exact ⟨[], 0, rfl, rfl, by simp, by omega, rfl, HR0.out, (Below.refl _ _).alloc (Nat.le_refl _) _⟩
  case round =>
    obtain ⟨pre, a, rfl, rfl, hpl, has, hpre, hrow, hB⟩ := hrel
    have HP : Hid (pre ++ offs s a = offs s 0) := hpre
    clear hpre
    have hBs := hB.size
    by_cases hlt : pre.length < N
    · have ha : a < s.size := by
        by_cases h : a < s.size
        · exact h
        · have := HP.out; rw [offs_end (by omega)] at this
          have h2 := HN.out; rw [← this] at h2; simp at h2; omega
      have hget : (offs s 0).getD pre.length 0 = a := by rw [← HP.out, offs_step ha]; simp
      obtain ⟨b, o, rfl, hbl, hcs⟩ := HL.out (by omega)
      obtain ⟨c0_, c1⟩ := hcs pre.length hlt
      unfold szAt at c1
      rw [hget] at c1
      have d1 : wr.cell? ⟨b, o + pre.length * 2 + 1, none⟩ = some (.int .i64 (sz s a)) := (hB.cell (p := ⟨b, o + pre.length * 2 + 1, none⟩) hbl).trans c1
      clear c0_ c1 hcs hget
      have hzi := sz_in ha
      have HR : Hid ((wr.alloc (.cells #[.int .i64 ((a : Int) + sz s a)] 3)).ownsRow W2.heap.size 3 1 _ (pre.length + 1) (icells (pre ++ [a]))) := hrow.alloc _
      go_wp2_with (at_builtin; refine wpList_append_own _ rfl _ _ 54 rfl W2.heap.size 3 i0 _ 1 8 Tryd.underlying54 hi hz0 hz1 hz2 rfl (by decide) _ (pre.length + 1) _ rfl HR.out ⟨wr.heap.size, 0, none⟩ 1 1 [.int .i64 ((a : Int) + sz s a)] rfl rfl (cell_one_new _ _ _) (by simp [Value.oneCell']) (by unfold maxLen; omega) (by omega) (by simp; omega) ?_; intro v3 w3 hrow3 hg3 _)
      exact ⟨⟨pre ++ [a], a + sz s a, by go_num, by simp, by simp; omega, by omega, by rw [← HP.out, offs_step ha]; simp, by simpa [icells] using hrow3, (hB.alloc hBs _).grown hg3 (by simp; omega) (fun j e => (hrow.lt j e).1)⟩, by simp [intOf]; omega⟩
    · have ha : a = s.size := by
        by_cases h : a < s.size
        · have h2 := HN.out
          rw [← HP.out, offs_step h] at h2; simp at h2; omega
        · omega
      subst ha
      have hpe : pre = offs s 0 := by have := HP.out; rw [offs_end (Nat.le_refl _), List.append_nil] at this; exact this
      subst hpe
      have hrd : ∀ j, j < (bl s).length → j < (icells (bl s)).length := fun j h => by unfold icells; rw [List.length_map]; exact h
      rcases hrow.2 with ⟨rfl, h0⟩ | ⟨g, cap, cur, rfl, hbg, _⟩
      · omega
      go_wp2
      go_ret
      refine ⟨g, cap, by rw [bl_len]; rfl, fun j hj => ?_, (hrow.lt g rfl).2, hB2.out.trans (hB.mono hB2.out.size)⟩
      exact (hrow.cellAt j (by rw [bl_len] at hj; omega)).trans (icells_get (bl s) j hj)

set_option maxRecDepth 100000 in
set_option maxHeartbeats 1000000 in
theorem rdown_any (s : ByteArray) (i : Int) (hs : s.size ≤ 1048576) (w : World) :
    Calls Tryd.prog 31 #[.string s, .int .i64 i] w fun e w' => e = .returned (.int .i64 (downZ s i)) ∧ Below w.heap.size w w' := by
  have cB := rbounds_any s hs w
  obtain ⟨M, hM⟩ : ∃ M, (bl s).length = M := ⟨_, rfl⟩
  have hMs : M ≤ s.size + 1 := by rw [← hM, bl_len]; have := offs_len_le s; omega
  have HM : Hid ((bl s).length = M) := hM
  rw [hM] at cB
  clear hM
  go_enter Tryd.func31, Tryd.ntmps31
  go_wp2_with (go_at_call 45; refine cB.mono ?_; clear cB; rintro e W2 ⟨g, cap, rfl, hc, hg, hb1⟩; have hB2 : Hid (Below w.heap.size w W2) := hb1; have HC : Hid (∀ j, j < M → W2.cell? ⟨g, j, none⟩ = some (.int .i64 (blAt s j))) := hc; clear hb1 hc)
  go_loopw [6, 7] (fun t k wr => ∃ (n d : Nat), t = .int .i64 d ∧ k = .int .i64 n ∧ n ≤ M ∧ wr = W2 ∧ B s d ∧ (i < 0 → d = 0) ∧ (0 ≤ i → (d : Int) ≤ i) ∧ ∀ m, m < n → (blAt s m : Int) ≤ i → blAt s m ≤ d) (fun _ k _ => M - (intOf k).toNat)
  case atStart => exact ⟨0, 0, rfl, rfl, by omega, rfl, B_zero s, fun _ => rfl, fun h => by simpa using h, fun m h => by omega⟩
  case round =>
    obtain ⟨n, d, rfl, rfl, hn, rfl, hd, h1, h2, h3⟩ := hrel
    have HD : Hid (B s d ∧ (i < 0 → d = 0) ∧ (0 ≤ i → (d : Int) ≤ i) ∧ ∀ m, m < n → (blAt s m : Int) ≤ i → blAt s m ≤ d) := ⟨hd, h1, h2, h3⟩
    clear hd h1 h2 h3
    by_cases hlt : n < M
    · have hcn := HC.out n hlt
      obtain ⟨x, hx⟩ : ∃ x, blAt s n = x := ⟨_, rfl⟩
      have HX : Hid (blAt s n = x) := hx
      have HXB : Hid (B s x) := hx ▸ blAt_B (by rw [HM.out]; exact hlt)
      have HXL : Hid (∀ m, m < n → blAt s m < x) := fun m hm => hx ▸ blAt_lt (by rw [HM.out]; exact hlt) hm
      rw [hx] at hcn
      clear hx
      by_cases hle : (x : Int) ≤ i
      · go_wp2
        refine ⟨⟨n + 1, x, rfl, by go_num, by omega, trivial, HXB.out, fun h => by omega, fun h => by omega, fun m hm hmi => ?_⟩, by simp [intOf]; omega⟩
        by_cases e : m = n
        · subst e; rw [HX.out]; exact Nat.le_refl _
        · exact Nat.le_of_lt (HXL.out m (by omega))
      · go_wp2
        go_roundw
        case rel =>
          refine ⟨n + 1, d, rfl, by go_num, by omega, trivial, HD.out.1, HD.out.2.1, HD.out.2.2.1, fun m hm hmi => ?_⟩
          by_cases e : m = n
          · subst e; rw [HX.out] at hmi; omega
          · exact HD.out.2.2.2 m (by omega) hmi
        case measure => simp [intOf]; omega
    · have hr := down_of (s := s) (i := i) (d := d) ⟨HD.out.1, HD.out.2.1, HD.out.2.2.1, fun b hb hbi => by
        obtain ⟨k, hk, rfl⟩ := mem_blAt hb
        exact HD.out.2.2.2 k (by rw [HM.out] at hk; omega) hbi⟩
      go_wp2
      go_ret
      exact ⟨ret_int (by rw [← hr]), hB2.out⟩

set_option maxRecDepth 100000 in
set_option maxHeartbeats 1000000 in
theorem rprev_any (s : ByteArray) (i : Int) (hs : s.size ≤ 1048576) (w : World) :
    Calls Tryd.prog 35 #[.string s, .int .i64 i] w fun e w' => e = .returned (.int .i64 (prevZ s i)) ∧ Below w.heap.size w w' := by
  have cB := rbounds_any s hs w
  obtain ⟨M, hM⟩ : ∃ M, (bl s).length = M := ⟨_, rfl⟩
  have hMs : M ≤ s.size + 1 := by rw [← hM, bl_len]; have := offs_len_le s; omega
  have HM : Hid ((bl s).length = M) := hM
  rw [hM] at cB
  clear hM
  go_enter Tryd.func35, Tryd.ntmps35
  go_wp2_with (go_at_call 45; refine cB.mono ?_; clear cB; rintro e W2 ⟨g, cap, rfl, hc, hg, hb1⟩; have hB2 : Hid (Below w.heap.size w W2) := hb1; have HC : Hid (∀ j, j < M → W2.cell? ⟨g, j, none⟩ = some (.int .i64 (blAt s j))) := hc; clear hb1 hc)
  go_loopw [6, 7] (fun t k wr => ∃ (n d : Nat), t = .int .i64 d ∧ k = .int .i64 n ∧ n ≤ M ∧ wr = W2 ∧ B s d ∧ ((i - 1) < 0 → d = 0) ∧ (0 ≤ (i - 1) → (d : Int) ≤ (i - 1)) ∧ ∀ m, m < n → (blAt s m : Int) ≤ (i - 1) → blAt s m ≤ d) (fun _ k _ => M - (intOf k).toNat)
  case atStart => exact ⟨0, 0, rfl, rfl, by omega, rfl, B_zero s, fun _ => rfl, fun h => by simpa using h, fun m h => by omega⟩
  case round =>
    obtain ⟨n, d, rfl, rfl, hn, rfl, hd, h1, h2, h3⟩ := hrel
    have HD : Hid (B s d ∧ ((i - 1) < 0 → d = 0) ∧ (0 ≤ (i - 1) → (d : Int) ≤ (i - 1)) ∧ ∀ m, m < n → (blAt s m : Int) ≤ (i - 1) → blAt s m ≤ d) := ⟨hd, h1, h2, h3⟩
    clear hd h1 h2 h3
    by_cases hlt : n < M
    · have hcn := HC.out n hlt
      obtain ⟨x, hx⟩ : ∃ x, blAt s n = x := ⟨_, rfl⟩
      have HX : Hid (blAt s n = x) := hx
      have HXB : Hid (B s x) := hx ▸ blAt_B (by rw [HM.out]; exact hlt)
      have HXL : Hid (∀ m, m < n → blAt s m < x) := fun m hm => hx ▸ blAt_lt (by rw [HM.out]; exact hlt) hm
      rw [hx] at hcn
      clear hx
      by_cases hle : (x : Int) < i
      · go_wp2
        refine ⟨⟨n + 1, x, rfl, by go_num, by omega, trivial, HXB.out, fun h => by omega, fun h => by omega, fun m hm hmi => ?_⟩, by simp [intOf]; omega⟩
        by_cases e : m = n
        · subst e; rw [HX.out]; exact Nat.le_refl _
        · exact Nat.le_of_lt (HXL.out m (by omega))
      · go_wp2
        go_roundw
        case rel =>
          refine ⟨n + 1, d, rfl, by go_num, by omega, trivial, HD.out.1, HD.out.2.1, HD.out.2.2.1, fun m hm hmi => ?_⟩
          by_cases e : m = n
          · subst e; rw [HX.out] at hmi; omega
          · exact HD.out.2.2.2 m (by omega) hmi
        case measure => simp [intOf]; omega
    · have hr := down_of (s := s) (i := (i - 1)) (d := d) ⟨HD.out.1, HD.out.2.1, HD.out.2.2.1, fun b hb hbi => by
        obtain ⟨k, hk, rfl⟩ := mem_blAt hb
        exact HD.out.2.2.2 k (by rw [HM.out] at hk; omega) hbi⟩
      go_wp2
      go_ret
      exact ⟨ret_int (by rw [prev_eq, ← hr]), hB2.out⟩

set_option maxRecDepth 100000 in
set_option maxHeartbeats 1000000 in
theorem rnext_any (s : ByteArray) (i : Int) (hs : s.size ≤ 1048576) (w : World) :
    Calls Tryd.prog 33 #[.string s, .int .i64 i] w fun e w' => e = .returned (.int .i64 (nextZ s i)) ∧ Below w.heap.size w w' := by
  have cB := rbounds_any s hs w
  obtain ⟨M, hM⟩ : ∃ M, (bl s).length = M := ⟨_, rfl⟩
  have hMs : M ≤ s.size + 1 := by rw [← hM, bl_len]; have := offs_len_le s; omega
  have HM : Hid ((bl s).length = M) := hM
  rw [hM] at cB
  clear hM
  go_enter Tryd.func33, Tryd.ntmps33
  go_wp2_with (go_at_call 45; refine cB.mono ?_; clear cB; rintro e W2 ⟨g, cap, rfl, hc, hg, hb1⟩; have hB2 : Hid (Below w.heap.size w W2) := hb1; have HC : Hid (∀ j, j < M → W2.cell? ⟨g, j, none⟩ = some (.int .i64 (blAt s j))) := hc; clear hb1 hc)
  go_loopw [6] (fun k wr => ∃ (n : Nat), k = .int .i64 n ∧ n ≤ M ∧ wr = W2 ∧ ∀ m, m < n → ¬ (i < (blAt s m : Int))) (fun k _ => M - (intOf k).toNat)
  case atStart => exact ⟨0, rfl, by omega, rfl, fun m h => by omega⟩
  case round =>
    obtain ⟨n, rfl, hn, rfl, h3⟩ := hrel
    have HD : Hid (∀ m, m < n → ¬ (i < (blAt s m : Int))) := h3
    clear h3
    by_cases hlt : n < M
    · have hcn := HC.out n hlt
      obtain ⟨x, hx⟩ : ∃ x, blAt s n = x := ⟨_, rfl⟩
      have HX : Hid (blAt s n = x) := hx
      have HXB : Hid (B s x) := hx ▸ blAt_B (by rw [HM.out]; exact hlt)
      rw [hx] at hcn
      clear hx
      by_cases hle : i < (x : Int)
      · have hr := next_of (s := s) (i := i) (u := x) ⟨HXB.out, fun b hb hbi => by
          obtain ⟨k, hk, rfl⟩ := mem_blAt hb
          by_cases e : k < n
          · exact absurd hbi (HD.out k e)
          · by_cases e2 : k = n
            · subst e2; rw [HX.out]; exact Nat.le_refl _
            · have := blAt_lt (s := s) (j := n) hk (by omega)
              rw [HX.out] at this; omega, .inl (by omega)⟩
        go_wp2
        go_ret
        exact ⟨ret_int (by rw [← hr]), hB2.out⟩
      · go_wp2
        go_roundw
        case rel =>
          refine ⟨n + 1, by go_num, by omega, trivial, fun m hm => ?_⟩
          by_cases e : m = n
          · subst e; rw [HX.out]; omega
          · exact HD.out m (by omega)
        case measure => simp [intOf]; omega
    · have hr := next_of (s := s) (i := i) (u := s.size) ⟨B_end s, fun b hb hbi => by
        obtain ⟨k, hk, rfl⟩ := mem_blAt hb
        exact absurd hbi (HD.out k (by rw [HM.out] at hk; omega)), .inr rfl⟩
      go_wp2
      go_ret
      exact ⟨ret_int (by rw [← hr]), hB2.out⟩

set_option maxRecDepth 100000 in
set_option maxHeartbeats 1000000 in
theorem rup_any (s : ByteArray) (i : Int) (hs : s.size ≤ 1048576) (w : World) :
    Calls Tryd.prog 32 #[.string s, .int .i64 i] w fun e w' => e = .returned (.int .i64 (upZ s i)) ∧ Below w.heap.size w w' := by
  have cB := rbounds_any s hs w
  obtain ⟨M, hM⟩ : ∃ M, (bl s).length = M := ⟨_, rfl⟩
  have hMs : M ≤ s.size + 1 := by rw [← hM, bl_len]; have := offs_len_le s; omega
  have HM : Hid ((bl s).length = M) := hM
  rw [hM] at cB
  clear hM
  go_enter Tryd.func32, Tryd.ntmps32
  go_wp2_with (go_at_call 45; refine cB.mono ?_; clear cB; rintro e W2 ⟨g, cap, rfl, hc, hg, hb1⟩; have hB2 : Hid (Below w.heap.size w W2) := hb1; have HC : Hid (∀ j, j < M → W2.cell? ⟨g, j, none⟩ = some (.int .i64 (blAt s j))) := hc; clear hb1 hc)
  go_loopw [6] (fun k wr => ∃ (n : Nat), k = .int .i64 n ∧ n ≤ M ∧ wr = W2 ∧ ∀ m, m < n → ¬ ((i - 1) < (blAt s m : Int))) (fun k _ => M - (intOf k).toNat)
  case atStart => exact ⟨0, rfl, by omega, rfl, fun m h => by omega⟩
  case round =>
    obtain ⟨n, rfl, hn, rfl, h3⟩ := hrel
    have HD : Hid (∀ m, m < n → ¬ ((i - 1) < (blAt s m : Int))) := h3
    clear h3
    by_cases hlt : n < M
    · have hcn := HC.out n hlt
      obtain ⟨x, hx⟩ : ∃ x, blAt s n = x := ⟨_, rfl⟩
      have HX : Hid (blAt s n = x) := hx
      have HXB : Hid (B s x) := hx ▸ blAt_B (by rw [HM.out]; exact hlt)
      rw [hx] at hcn
      clear hx
      by_cases hle : i ≤ (x : Int)
      · have hr := next_of (s := s) (i := (i - 1)) (u := x) ⟨HXB.out, fun b hb hbi => by
          obtain ⟨k, hk, rfl⟩ := mem_blAt hb
          by_cases e : k < n
          · exact absurd hbi (HD.out k e)
          · by_cases e2 : k = n
            · subst e2; rw [HX.out]; exact Nat.le_refl _
            · have := blAt_lt (s := s) (j := n) hk (by omega)
              rw [HX.out] at this; omega, .inl (by omega)⟩
        go_wp2
        go_ret
        exact ⟨ret_int (by rw [up_eq, ← hr]), hB2.out⟩
      · go_wp2
        go_roundw
        case rel =>
          refine ⟨n + 1, by go_num, by omega, trivial, fun m hm => ?_⟩
          by_cases e : m = n
          · subst e; rw [HX.out]; omega
          · exact HD.out m (by omega)
        case measure => simp [intOf]; omega
    · have hr := next_of (s := s) (i := (i - 1)) (u := s.size) ⟨B_end s, fun b hb hbi => by
        obtain ⟨k, hk, rfl⟩ := mem_blAt hb
        exact absurd hbi (HD.out k (by rw [HM.out] at hk; omega)), .inr rfl⟩
      go_wp2
      go_ret
      exact ⟨ret_int (by rw [up_eq, ← hr]), hB2.out⟩

set_option maxRecDepth 100000 in
set_option maxHeartbeats 1000000 in
theorem rbound_any (s : ByteArray) (i : Int) (hs : s.size ≤ 1048576) (w : World) :
    Calls Tryd.prog 29 #[.string s, .int .i64 i] w fun e w' => e = .returned (.bool (bdZ s i)) ∧ Below w.heap.size w w' := by
  have cB := rbounds_any s hs w
  obtain ⟨M, hM⟩ : ∃ M, (bl s).length = M := ⟨_, rfl⟩
  have hMs : M ≤ s.size + 1 := by rw [← hM, bl_len]; have := offs_len_le s; omega
  have HM : Hid ((bl s).length = M) := hM
  rw [hM] at cB
  clear hM
  go_enter Tryd.func29, Tryd.ntmps29
  go_wp2_with (go_at_call 45; refine cB.mono ?_; clear cB; rintro e W2 ⟨g, cap, rfl, hc, hg, hb1⟩; have hB2 : Hid (Below w.heap.size w W2) := hb1; have HC : Hid (∀ j, j < M → W2.cell? ⟨g, j, none⟩ = some (.int .i64 (blAt s j))) := hc; clear hb1 hc)
  go_loopw [6] (fun k wr => ∃ (n : Nat), k = .int .i64 n ∧ n ≤ M ∧ wr = W2 ∧ ∀ m, m < n → (blAt s m : Int) ≠ i) (fun k _ => M - (intOf k).toNat)
  case atStart => exact ⟨0, rfl, by omega, rfl, fun m h => by omega⟩
  case round =>
    obtain ⟨n, rfl, hn, rfl, h3⟩ := hrel
    have HD : Hid (∀ m, m < n → (blAt s m : Int) ≠ i) := h3
    clear h3
    by_cases hlt : n < M
    · have hcn := HC.out n hlt
      obtain ⟨x, hx⟩ : ∃ x, blAt s n = x := ⟨_, rfl⟩
      have HX : Hid (blAt s n = x) := hx
      have HXB : Hid (B s x) := hx ▸ blAt_B (by rw [HM.out]; exact hlt)
      rw [hx] at hcn
      clear hx
      by_cases hle : (x : Int) = i
      · subst hle
        have hr : Hid (bdZ s x = true) := (bdZ_iff s x).2 HXB.out
        go_wp2
        go_ret
        exact ⟨ret_bool hr.out.symm, hB2.out⟩
      · have hne : ((x : Int) == i) = false := by simpa using hle
        go_wp2
        go_roundw
        case rel =>
          refine ⟨n + 1, by go_num, by omega, trivial, fun m hm => ?_⟩
          by_cases e : m = n
          · subst e; rw [HX.out]; exact hle
          · exact HD.out m (by omega)
        case measure => simp [intOf]; omega
    · have hr : bdZ s i = false := by
        by_cases c : i < 0 ∨ (s.size : Int) < i
        · exact bdZ_out s i c
        · obtain ⟨k, rfl⟩ := Int.eq_ofNat_of_zero_le (show 0 ≤ i by omega)
          rw [← Bool.not_eq_true, bdZ_iff]
          intro hb
          obtain ⟨m, hm, e⟩ := mem_blAt hb
          exact HD.out m (by rw [HM.out] at hm; omega) (by rw [e])
      have HR : Hid (bdZ s i = false) := hr
      clear hr
      go_wp2
      go_ret
      exact ⟨ret_bool HR.out.symm, hB2.out⟩

set_option maxRecDepth 100000 in
set_option maxHeartbeats 2000000 in
theorem rat_any (s : ByteArray) (i : Int) (hs : s.size ≤ 1048576) (w : World) :
    Calls Tryd.prog 28 #[.string s, .int .i64 i] w fun e w' => e = .returned (.tuple #[.agg #[.int .i32 (atC s i), .int .i64 (atS s i)], .bool (atB s i)]) ∧ Below w.heap.size w w' := by
  obtain ⟨N, hN⟩ : ∃ N, (offs s 0).length = N := ⟨_, rfl⟩
  have hNs : N ≤ s.size := by rw [← hN]; exact offs_len_le s
  have cU : ∀ W : World, Calls Tryd.prog 10 #[.string s] W fun e W' => ∃ a cap, e = .returned (.slice a N cap) ∧ (N ≠ 0 → ∃ b o, a = some ⟨b, o, none⟩ ∧ b < W'.heap.size ∧ W.heap.size ≤ b ∧ ∀ j, j < N → W'.cell? ⟨b, o + j * 2, none⟩ = some (.int .i32 (chAt s (offs s 0) j)) ∧ W'.cell? ⟨b, o + j * 2 + 1, none⟩ = some (.int .i64 (szAt s (offs s 0) j))) ∧ Below W.heap.size W W' := fun W => by
    refine (runits_any s (by omega) W).mono ?_
    rintro e W' ⟨v, rfl, hrow, hb⟩
    rcases hrow.2 with ⟨rfl, h0⟩ | ⟨g, cap, cur, rfl, hbg, _⟩
    · rw [hN] at h0
      subst h0
      exact ⟨none, 0, rfl, fun q => absurd rfl q, hb⟩
    · rw [hN] at hrow ⊢
      refine ⟨some ⟨g, 0, none⟩, cap, rfl, fun _ => ⟨g, 0, rfl, (hrow.lt g rfl).2, hbg, fun j hj => ?_⟩, hb⟩
      obtain ⟨e1, e2⟩ := ucells_get s (offs s 0) j (by omega)
      rw [Nat.zero_add]
      exact ⟨(hrow.cellAt (j * 2) (by omega)).trans e1, (hrow.cellAt (j * 2 + 1) (by omega)).trans e2⟩
  have HN : Hid ((offs s 0).length = N) := hN
  clear hN
  go_enter Tryd.func28, Tryd.ntmps28
  go_wp2_with (go_at_call 10; refine (cU _).mono ?_; clear cU; rintro e W2 ⟨a0, c0, rfl, hl, hb1⟩; rw [World.size_alloc] at hb1; have hB2 : Hid (Below (w.heap.size + 1) (w.alloc (.cells #[.int .i32 0, .int .i64 0] 36)) W2) := hb1; have HL : Hid _ := hl; clear hb1 hl)
  have hu0 : W2.cell? ⟨w.heap.size, 0, none⟩ = some (.int .i32 0) := by rw [hB2.out.cell (p := ⟨w.heap.size, 0, none⟩) (by simp)]; simp
  have hu1 : W2.cell? ⟨w.heap.size, 1, none⟩ = some (.int .i64 0) := by rw [hB2.out.cell (p := ⟨w.heap.size, 1, none⟩) (by simp)]; simp
  have hf0 : W2.frozen? ⟨w.heap.size, 0, none⟩ = false := by rw [hB2.out.frozen (p := ⟨w.heap.size, 0, none⟩) (by simp)]; simp
  have hf1 : W2.frozen? ⟨w.heap.size, 1, none⟩ = false := by rw [hB2.out.frozen (p := ⟨w.heap.size, 1, none⟩) (by simp)]; simp
  have hlt2 : w.heap.size < W2.heap.size := by have := hB2.out.size; simp at this; omega
  have fin : ∀ (a b : Value), Below w.heap.size w ((W2.setCell ⟨w.heap.size, 0, none⟩ a).setCell ⟨w.heap.size, 1, none⟩ b) := fun a b =>
    ((((Below.refl _ w).alloc (Nat.le_refl _) _).trans (hB2.out.mono (by omega))).setCell (Nat.le_refl _) _).setCell (Nat.le_refl _) _
  have FIN : Hid (∀ (a b : Value), Below w.heap.size w ((W2.setCell ⟨w.heap.size, 0, none⟩ a).setCell ⟨w.heap.size, 1, none⟩ b)) := fin
  clear fin
  go_loopw [7, 8] (fun t k wr => ∃ (pre : List Nat) (a : Nat), t = .int .i64 a ∧ k = .int .i64 pre.length ∧ pre.length ≤ N ∧ a ≤ s.size ∧ pre ++ offs s a = offs s 0 ∧ (∀ j ∈ pre, (j : Int) ≠ i) ∧ wr = W2) (fun _ k _ => N - (intOf k).toNat)
  case atStart => exact ⟨[], 0, rfl, rfl, by simp, by omega, rfl, fun j h => (by cases h), rfl⟩
  case round =>
    obtain ⟨pre, a, rfl, rfl, hpl, has, hpre, hni, rfl⟩ := hrel
    have HP : Hid (pre ++ offs s a = offs s 0) := hpre
    have HI : Hid (∀ j ∈ pre, (j : Int) ≠ i) := hni
    clear hpre hni
    by_cases hlt : pre.length < N
    · have ha : a < s.size := by
        by_cases h : a < s.size
        · exact h
        · have := HP.out; rw [offs_end (by omega)] at this
          have h2 := HN.out; rw [← this] at h2; simp at h2; omega
      have hget : (offs s 0).getD pre.length 0 = a := by rw [← HP.out, offs_step ha]; simp
      obtain ⟨b, o, rfl, hbl, _, hcs⟩ := HL.out (by omega)
      obtain ⟨d0, d1⟩ := hcs pre.length hlt
      unfold chAt at d0
      unfold szAt at d1
      rw [hget] at d0 d1
      clear hcs hget
      have hzi := sz_in ha
      by_cases hai : (a : Int) = i
      · have hB1 : atB s i = true := by
          rw [← hai, atB_iff, ← HP.out, offs_step ha]; simp
        have e1 : atC s i = ch s a := by unfold atC; rw [if_pos hB1, ← hai]; rfl
        have e2 : atS s i = sz s a := by unfold atS; rw [if_pos hB1, ← hai]; rfl
        have HE : Hid (atC s i = ch s a ∧ atS s i = sz s a ∧ atB s i = true) := ⟨e1, e2, hB1⟩
        clear hB1 e1 e2
        subst hai
        go_wp2
        exact bodyPost_ret (v := .tuple #[.agg #[.int .i32 (ch s a), .int .i64 (sz s a)], .bool true]) (by simp [results, Tryd.results28, go_sem, hu0, hu1]) rfl ⟨ret_at HE.out.1 HE.out.2.1 HE.out.2.2, FIN.out _ _⟩
      · have hne : ((a : Int) == i) = false := by simpa using hai
        go_wp2
        go_roundw
        case rel =>
          refine ⟨pre ++ [a], a + sz s a, by go_num, by simp, by simp; omega, by omega, by rw [← HP.out, offs_step ha]; simp, fun j hj => ?_, trivial⟩
          rw [List.mem_append, List.mem_singleton] at hj
          rcases hj with hj | rfl
          · exact HI.out j hj
          · exact hai
        case measure => simp [intOf]; omega
    · have ha : s.size ≤ a := by
        by_cases h : a < s.size
        · have h2 := HN.out
          rw [← HP.out, offs_step h] at h2; simp at h2; omega
        · omega
      have hpe : pre = offs s 0 := by have := HP.out; rw [offs_end ha, List.append_nil] at this; exact this
      have hB1 : atB s i = false := by
        by_cases c : i < 0
        · exact atB_neg s i c
        · obtain ⟨k, rfl⟩ := Int.eq_ofNat_of_zero_le (show 0 ≤ i by omega)
          rw [← Bool.not_eq_true, atB_iff, ← hpe]
          exact fun h => HI.out k h rfl
      have e1 : atC s i = 0 := by unfold atC; rw [hB1]; rfl
      have e2 : atS s i = 0 := by unfold atS; rw [hB1]; rfl
      have HE : Hid (atC s i = 0 ∧ atS s i = 0 ∧ atB s i = false) := ⟨e1, e2, hB1⟩
      clear hB1 e1 e2 hpe
      go_wp2
      exact bodyPost_ret (v := .tuple #[.agg #[.int .i32 0, .int .i64 0], .bool false]) (by simp [results, Tryd.results28, go_sem, hu0, hu1]) rfl ⟨ret_at HE.out.1 HE.out.2.1 HE.out.2.2, FIN.out _ _⟩

set_option maxRecDepth 100000 in
set_option maxHeartbeats 1000000 in
theorem at_any (s : ByteArray) (i : Int) (hs : s.size ≤ maxLen) (w : World) (hT : Lib.Utf8Tabs 0 1 w) :
    Calls Tryd.prog 27 #[.string s, .int .i64 i] w fun e w' => e = .returned (.tuple #[.agg #[.int .i32 (atC s i), .int .i64 (atS s i)], .bool (atB s i)]) ∧ Below w.heap.size w w' := by
  have hs' := hs
  unfold maxLen at hs
  have hT1 : ∀ o, Lib.Utf8Tabs 0 1 (w.alloc o) := fun o => tabs_below hT ((Below.refl _ w).alloc (Nat.le_refl _) o)
  have fin : ∀ (w' : World) (a b : Value), Below (w.heap.size + 1) (w.alloc (.cells #[.int .i32 0, .int .i64 0] 36)) w' → Below w.heap.size w ((w'.setCell ⟨w.heap.size, 0, none⟩ a).setCell ⟨w.heap.size, 1, none⟩ b) := fun w' a b hb =>
    ((((Below.refl _ w).alloc (Nat.le_refl _) _).trans (hb.mono (by omega))).setCell (Nat.le_refl _) _).setCell (Nat.le_refl _) _
  by_cases h1 : (s.size : Int) ≤ i
  · have hB1 : atB s i = false := by unfold atB; rw [decide_eq_false (by omega), Bool.and_false]
    have e1 : atC s i = 0 := by unfold atC; rw [hB1]; rfl
    have e2 : atS s i = 0 := by unfold atS; rw [hB1]; rfl
    rw [hB1, e1, e2]
    clear hB1 e1 e2
    go_enter Tryd.func27, Tryd.ntmps27
    go_wp2
    exact bodyPost_ret (v := .tuple #[.agg #[.int .i32 0, .int .i64 0], .bool false]) (by simp [results, Tryd.results27, go_sem]) rfl ⟨rfl, (Below.refl _ w).alloc (Nat.le_refl _) _⟩
  · have cB : ∀ o, Calls Tryd.prog 24 #[.string s, .int .i64 i] (w.alloc o) fun e w' => e = .returned (.bool (bdZ s i)) ∧ Below (w.alloc o).heap.size (w.alloc o) w' := fun o => bound_any s i hs' (w.alloc o) (hT1 o)
    have hB0 : atB s i = bdZ s i := by unfold atB; rw [decide_eq_true (by omega), Bool.and_true]
    cases hb : bdZ s i with
    | false =>
      rw [hb] at hB0 cB
      have e1 : atC s i = 0 := by unfold atC; rw [hB0]; rfl
      have e2 : atS s i = 0 := by unfold atS; rw [hB0]; rfl
      rw [hB0, e1, e2]
      clear hB0 e1 e2
      go_enter Tryd.func27, Tryd.ntmps27
      go_wp2_with (go_at_call 24; refine (cB _).mono ?_; clear cB; rintro e w' ⟨rfl, hb⟩; obtain ⟨hc, hf⟩ := bcell hb; have hz : w.heap.size < w'.heap.size := by have := hb.size; simp at this; omega)
      exact bodyPost_ret (v := .tuple #[.agg #[.int .i32 0, .int .i64 0], .bool false]) (by simp [results, Tryd.results27, go_sem, hc]) rfl ⟨rfl, fin _ _ _ (by simpa using hb)⟩
    | true =>
      have h0 : 0 ≤ i := by
        by_cases c : i < 0
        · rw [bdZ_out s i (.inl c)] at hb; cases hb
        · omega
      obtain ⟨k, rfl⟩ := Int.eq_ofNat_of_zero_le h0
      rw [hb] at hB0 cB
      have e1 : atC s k = ch s k := by unfold atC; rw [if_pos hB0]; rfl
      have e2 : atS s k = sz s k := by unfold atS; rw [if_pos hB0]; rfl
      rw [hB0, e1, e2]
      clear hB0 e1 e2
      have cR : ∀ W : World, Below (w.alloc (.cells #[.int .i32 0, .int .i64 0] 36)).heap.size (w.alloc (.cells #[.int .i32 0, .int .i64 0] 36)) W → Calls Tryd.prog 44 #[.string s, .int .i64 k] W fun e w' => e = .returned (.agg #[.int .i32 (ch s k), .int .i64 (sz s k)]) ∧ Below W.heap.size W w' := fun W h => read_any s k hs' (by omega) W (tabs_below (hT1 _) h)
      go_enter Tryd.func27, Tryd.ntmps27
      go_wp2_with (first | (go_at_call 24; refine (cB _).mono ?_; clear cB; rintro e w1 ⟨rfl, hb1⟩; have HB : Hid (Below (w.alloc (.cells #[.int .i32 0, .int .i64 0] 36)).heap.size (w.alloc (.cells #[.int .i32 0, .int .i64 0] 36)) w1) := hb1; clear hb1) | (go_at_call 44; refine (cR _ HB.out).mono ?_; clear cR; rintro e w2 ⟨rfl, hb2⟩; have hb := HB.out.trans (hb2.mono HB.out.size); clear hb2; obtain ⟨hc, hf⟩ := bcell hb; have hz : w.heap.size < w2.heap.size := by have := hb.size; simp at this; omega))
      exact bodyPost_ret (v := .tuple #[.agg #[.int .i32 (ch s k), .int .i64 (sz s k)], .bool true]) (by simp [results, Tryd.results27, go_sem, hc]) rfl ⟨rfl, fin _ _ _ (by simpa using hb)⟩
end Go.Proofs.YtadgbbnkhjapnaaDoor
