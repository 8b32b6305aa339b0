/-
  Package paint, walked: within, is, fitCells, fitRow, Fit. Conditions: the tables of unicode/utf8 lie as their text lays them; texts and rows of at most 2^31.
-/
import Derived.Deep.CutRange
import Derived.Deep.RegionHeld3
import Derived.Test.YtcgnfjcbafmbgaaDoorUAt
import Derived.Test.YtcgnfjcbafmbgaaDoorVWalkB
import Derived.Test.YtcgnfjcbafmbgaaDoorCPlaces
import Derived.Test.YtcgnfjcbafmbgaaDoorPMth
namespace Go.Proofs.YtcgnfjcbafmbgaaDoor
open Go.RowKit Go.Shelf Bod Wid
set_option maxRecDepth 100000 in
set_option maxHeartbeats 1000000 in
theorem wthn_any (n b : Int) (w : World) : Calls Tryd.prog 24 #[.int .i64 n, .int .i64 b] w fun e w' => e = .returned (.bool (decide (0 ≤ n) && decide (n < b))) ∧ Below w.heap.size w w' := by
  by_cases h1 : 0 ≤ n
  · by_cases h2 : n < b
    · rw [decide_eq_true h1, decide_eq_true h2]
      go_enter Tryd.func24, Tryd.ntmps24
      go_wp2
      go_ret
      exact ⟨rfl, Below.refl _ _⟩
    · rw [decide_eq_true h1, decide_eq_false h2]
      go_enter Tryd.func24, Tryd.ntmps24
      go_wp2
      go_ret
      exact ⟨rfl, Below.refl _ _⟩
  · rw [decide_eq_false h1]
    have h3 : decide (0 ≤ n) = false := decide_eq_false h1
    go_enter Tryd.func24, Tryd.ntmps24
    go_wp2
    go_ret
    exact ⟨rfl, Below.refl _ _⟩
theorem atB_zero {s : ByteArray} : atB s 0 = decide (0 < s.size) := by
  unfold atB
  by_cases h : 0 < s.size
  · rw [decide_eq_true h, decide_eq_true (by omega), Bool.and_true]
    exact (bdZ_iff s 0).2 (B_zero s)
  · rw [decide_eq_false h, decide_eq_false (by omega), Bool.and_false]
theorem is_next (s : ByteArray) : ∃ m, IsNext s 0 m := by
  have ht := cl_tile s
  cases e : cl s with
  | nil => rw [e] at ht; have h : (0 : Nat) = s.size := ht; exact ⟨s.size, cb_end s, .inr ⟨rfl, by omega⟩, fun j h1 h2 => by omega⟩
  | cons c r =>
    rw [e] at ht
    have hc := cl_cb s c (by rw [e]; exact List.mem_cons_self)
    have hs := cl_span (s := s) (c := c) (by rw [e]; exact List.mem_cons_self)
    have hfr : c.fr = 0 := ht.1
    exact ⟨c.to, hc.1, .inl (by omega), by have := hc.2; rw [hfr] at this; exact this⟩
set_option maxRecDepth 100000 in
set_option maxHeartbeats 1000000 in
theorem is_any (s : ByteArray) (k : Int) (hs : s.size ≤ maxLen) (w : World) (hT : Lib.Utf8Tabs 1 2 w) :
    Calls Tryd.prog 48 #[.string s, .int .i64 k] w fun e w' => e = .returned (.bool (isB s k)) ∧ Below w.heap.size w w' := by
  have CA := at_any s 0 hs w hT
  have CC : Hid (∀ c X, Calls Tryd.prog 60 #[.int .i32 c] X fun e w' => e = .returned (.int .i64 (cls c)) ∧ Hid (Below X.heap.size X w')) := fun c X => class_any c X
  have CN : Hid (∀ X, Below w.heap.size w X → Calls Tryd.prog 34 #[.string s, .int .i64 0] X fun e w' => ∃ m : Nat, e = .returned (.int .i64 m) ∧ Hid (IsNext s 0 m ∧ Below X.heap.size X w')) := fun X hX => cnext_any s 0 hs X (tabs_below hT hX)
  have hat := atB_zero (s := s)
  by_cases h0 : 0 < s.size
  · have hb : atB s 0 = true := by rw [hat]; exact decide_eq_true h0
    have hc : atC s 0 = ch s 0 := by unfold atC; rw [if_pos hb]; rfl
    rw [hb, hc] at CA
    obtain ⟨m, hm⟩ : ∃ m, IsNext s 0 m := is_next s
    rw [isB_yes h0 hm]
    have HI : Hid (∀ m', IsNext s 0 m' → m' = m) := fun m' h => h.uniq hm
    have hat : True := trivial
    generalize atS s 0 = z at CA
    generalize ch s 0 = c at CA ⊢
    have hk : cls c = k ∨ cls c ≠ k := by omega
    generalize hq : cls c = q at hk
    have CQ : Hid (∀ X, Calls Tryd.prog 60 #[.int .i32 c] X fun e w' => e = .returned (.int .i64 q) ∧ Hid (Below X.heap.size X w')) := fun X => by rw [← hq]; exact CC.out c X
    have HB : Hid (∀ a b X Y, Below w.heap.size w X → Below (X.alloc (.cells #[.int .i32 a, .int .i64 b] 73)).heap.size (X.alloc (.cells #[.int .i32 a, .int .i64 b] 73)) Y → Below w.heap.size w Y) := fun a b X Y h1 h2 => (h1.alloc h1.size _).trans (h2.mono (by have := h1.size; simp; omega))
    clear CC hq hc hb h0 hm
    rcases hk with rfl | hk
    · by_cases he : m = s.size
      · have e2 : ((m : Int) = (s.size : Int)) := by omega
        have e3 : decide (m = s.size) = true := decide_eq_true he
        rw [decide_eq_true rfl, e3]
        go_enter Tryd.func48, Tryd.ntmps48
        go_wp2_with (first
          | (go_at_call 57; refine CA.mono ?_; clear CA; rintro e w1 ⟨rfl, hb1⟩; have H1 : Hid (Below w.heap.size w w1) := hb1; clear hb1)
          | (go_at_call 60; refine (CQ.out _).mono ?_; clear CQ; rintro e w2 ⟨rfl, H2⟩; have H3 : Hid (Below w.heap.size w w2) := HB.out _ _ _ _ H1.out H2.out; clear H2)
          | (go_at_call 34; refine (CN.out _ H3.out).mono ?_; clear CN; rintro e w3 ⟨m', rfl, H4⟩; obtain rfl := HI.out m' H4.out.1))
        go_ret
        exact ⟨rfl, H3.out.trans (H4.out.2.mono H3.out.size)⟩
      · have e2 : ¬ ((m : Int) = (s.size : Int)) := by omega
        have e3 : decide (m = s.size) = false := decide_eq_false he
        have e4 : ((m : Int) == (s.size : Int)) = false := by simp; omega
        rw [e3, Bool.and_false]
        go_enter Tryd.func48, Tryd.ntmps48
        go_wp2_with (first
          | (go_at_call 57; refine CA.mono ?_; clear CA; rintro e w1 ⟨rfl, hb1⟩; have H1 : Hid (Below w.heap.size w w1) := hb1; clear hb1)
          | (go_at_call 60; refine (CQ.out _).mono ?_; clear CQ; rintro e w2 ⟨rfl, H2⟩; have H3 : Hid (Below w.heap.size w w2) := HB.out _ _ _ _ H1.out H2.out; clear H2)
          | (go_at_call 34; refine (CN.out _ H3.out).mono ?_; clear CN; rintro e w3 ⟨m', rfl, H4⟩; obtain rfl := HI.out m' H4.out.1))
        go_ret
        exact ⟨rfl, H3.out.trans (H4.out.2.mono H3.out.size)⟩
    · have e1 : decide (q = k) = false := decide_eq_false hk
      rw [e1, Bool.false_and]
      clear CN HI
      go_enter Tryd.func48, Tryd.ntmps48
      go_wp2_with (first
        | (go_at_call 57; refine CA.mono ?_; clear CA; rintro e w1 ⟨rfl, hb1⟩; have H1 : Hid (Below w.heap.size w w1) := hb1; clear hb1)
        | (go_at_call 60; refine (CQ.out _).mono ?_; clear CQ; rintro e w2 ⟨rfl, H2⟩; have H3 : Hid (Below w.heap.size w w2) := HB.out _ _ _ _ H1.out H2.out; clear H2))
      go_ret
      exact ⟨rfl, H3.out⟩
  · have hb : atB s 0 = false := by rw [hat]; exact decide_eq_false h0
    rw [hb] at CA
    rw [isB_no (by omega)]
    generalize atC s 0 = c at CA
    generalize atS s 0 = z at CA
    clear CC CN hat hb h0
    go_enter Tryd.func48, Tryd.ntmps48
    go_wp2_with (go_at_call 57; refine CA.mono ?_; clear CA; rintro e w1 ⟨rfl, hb1⟩)
    go_ret
    exact ⟨rfl, hb1.alloc hb1.size _⟩
theorem cel_eql (t t' : ByteArray) (n n' : Int) (w : World) : (binOp .eql 40 (.agg #[.string t, .int .i64 n]) (.agg #[.string t', .int .i64 n'])).run Tryd.prog w = .ok (.bool (decide (t = t') && decide (n = n'))) w := by
  have h0 : Tryd.prog.underlying 40 = some (.struct (Tryd.prog.fieldsOf 40)) := by kernel_rfl
  have h1 : Tryd.prog.stoodInHeld 40 = false := by kernel_rfl
  rw [run_eql_struct, run_equalIn_agg (d := 9999) _ _ _ _ h0 h1]
  simp [go_sem, Op.eqFields]
  by_cases e : t = t' <;> by_cases e2 : n = n' <;> simp [tl_same, e, e2]
theorem box2f {W : World} {b : Nat} {v0 v1 : Value} {t : TypeId} (h : W.heap[b]? = some (.cells #[v0, v1] t (0, 0))) : W.cell? ⟨b, 0, none⟩ = some v0 ∧ W.cell? ⟨b, 1, none⟩ = some v1 := by simp [World.cell?, h]
/-- the first two cells of a row -/
theorem RdCe.two {W : World} {a : Option Addr} {n k : Nat} {c : Cel} {r : List Cel} (h : RdCe W (.slice a n k) (c :: r)) : ∃ g o, a = some ⟨g, o, none⟩ ∧ n = r.length + 1 ∧ r.length + 1 ≤ k ∧ W.cell? ⟨g, o, none⟩ = some (.string c.tx) ∧ W.cell? ⟨g, o + 1, none⟩ = some (.int .i64 c.sp) ∧ ∀ d r', r = d :: r' → W.cell? ⟨g, o + 2, none⟩ = some (.string d.tx) ∧ W.cell? ⟨g, o + 3, none⟩ = some (.int .i64 d.sp) := by
  obtain ⟨a', k', e, h⟩ := h
  obtain ⟨hl, g, o, e2, -, hc⟩ := h (by simp)
  injection e with e3 e4 e5
  subst e3 e4 e5
  have c0 := hc 0 c rfl
  simp only [Nat.zero_mul, Nat.add_zero] at c0
  refine ⟨g, o, e2, rfl, hl, c0.1, c0.2, fun d r' hr => ?_⟩
  subst hr
  exact hc 1 d rfl
theorem RdCe.drop {W : World} {g o n k j : Nat} {l : List Cel} (h : RdCe W (.slice (some ⟨g, o, none⟩) n k) l) (hj : j ≤ n) : RdCe W (.slice (some ⟨g, o + j * 2, none⟩) (n - j) (k - j)) (l.drop j) := by
  obtain ⟨a', k', e, h⟩ := h
  injection e with e3 e4 e5
  subst e3 e4 e5
  refine ⟨_, _, by rw [List.length_drop], fun h0 => ?_⟩
  obtain ⟨hl, g', o', e, hg, hc⟩ := h (by rintro rfl; simp at h0)
  injection e with e
  injection e with e1 e2 e3
  subst e1 e2
  refine ⟨by rw [List.length_drop]; omega, g, o + j * 2, rfl, hg, fun i x hi => ?_⟩
  rw [List.getElem?_drop] at hi
  have := hc (j + i) x hi
  rw [show o + j * 2 + i * 2 = o + (j + i) * 2 by omega]
  exact this
theorem fitC_one {c : Cel} {r : List Cel} (h : oneC c = true) : fitC (c :: r) = 1 := by cases r <;> simp [fitC, h]
theorem fitC_none {c : Cel} {r : List Cel} (h : oneC c = false) (h2 : ∀ d r', r = d :: r' → twoC c d = false) : fitC (c :: r) = 0 := by
  cases r with
  | nil => simp [fitC, h]
  | cons d r => simp [fitC, h, h2 d r rfl]
set_option maxRecDepth 100000 in
set_option maxHeartbeats 1000000 in
theorem fcells_any (a : Option Addr) (n k : Nat) (c : Cel) (r : List Cel) (_hn : n ≤ 2147483648) (hs : c.tx.size ≤ maxLen) (w : World) (hT : Lib.Utf8Tabs 1 2 w) (h : RdCe w (.slice a n k) (c :: r)) :
    Calls Tryd.prog 37 #[.slice a n k] w fun e w' => e = .returned (.int .i64 (fitC (c :: r) : Nat)) ∧ Below w.heap.size w w' := by
  have heq := cel_eql
  obtain ⟨g, o, rfl, hnr, hk, x0, x1, hd⟩ := h.two
  have n0 : 0 < n := by omega
  have n1 : (0 : Int) < (n : Int) := by omega
  have hr : r.length = n - 1 := by omega
  have HI0 : Hid (∀ X, Below w.heap.size w X → Calls Tryd.prog 48 #[.string c.tx, .int .i64 0] X fun e w' => e = .returned (.bool (isB c.tx 0)) ∧ Hid (Below X.heap.size X w')) := fun X hX => is_any c.tx 0 hs X (tabs_below hT hX)
  have HI4 : Hid (∀ X, Below w.heap.size w X → Calls Tryd.prog 48 #[.string c.tx, .int .i64 4] X fun e w' => e = .returned (.bool (isB c.tx 4)) ∧ Hid (Below X.heap.size X w')) := fun X hX => is_any c.tx 4 hs X (tabs_below hT hX)
  have HB0 : Hid (Below w.heap.size w (w.alloc (.cells #[.string c.tx, .int .i64 c.sp] 40)) ∧ (w.alloc (.cells #[.string c.tx, .int .i64 c.sp] 40)).heap[w.heap.size]? = some (.cells #[.string c.tx, .int .i64 c.sp] 40 (0, 0))) := ⟨(Below.refl _ w).alloc (Nat.le_refl _) _, World.alloc_heap_new _ _⟩
  have F1 : oneC c = true → fitC (c :: r) = 1 := fitC_one
  have F2 : oneC c = false → (∀ d r', r = d :: r' → twoC c d = false) → fitC (c :: r) = 0 := fitC_none
  have F3 : ∀ d r', oneC c = false → r = d :: r' → twoC c d = true → fitC (c :: r) = 2 := fun d r' h1 h2 h3 => by subst h2; simp [fitC, h1, h3]
  have o1 : oneC c = (decide (c.sp = 1) && isB c.tx 0) := rfl
  have o2 : ∀ d, twoC c d = (decide (c.sp = 2) && isB c.tx 4 && (decide (d.tx = ⟨#[]⟩) && decide (d.sp = 0))) := fun _ => rfl
  generalize fitC (c :: r) = q at F1 F2 F3 ⊢
  generalize oneC c = b1 at F1 F2 F3 o1
  generalize isB c.tx 0 = i0 at HI0 o1
  generalize isB c.tx 4 = i4 at HI4 o2
  generalize twoC c = tw at F2 F3 o2
  obtain ⟨t, z⟩ := c
  simp only at x0 x1 HI0 HI4 HB0 o1 o2
  clear hnr hk hs hT h
  by_cases h1 : z = 1
  · subst h1
    cases i0 with
    | true =>
      obtain rfl := F1 (by rw [o1]; rfl)
      clear F1 F2 F3 o1 o2 HI4 hd heq hr
      go_enter Tryd.func37, Tryd.ntmps37
      go_wp2_with (go_at_call 48; refine (HI0.out _ HB0.out.1).mono ?_; rintro e w1 ⟨rfl, HB1⟩; have HB2 : Hid (Below w.heap.size w w1) := HB0.out.1.trans (HB1.out.mono HB0.out.1.size))
      go_ret
      exact ⟨rfl, HB2.out⟩
    | false =>
      obtain rfl := F2 (by rw [o1]; rfl) (fun d r' _ => by rw [o2]; rfl)
      clear F1 F2 F3 o1 o2 HI4 hd heq hr
      go_enter Tryd.func37, Tryd.ntmps37
      go_wp2_with (go_at_call 48; refine (HI0.out _ HB0.out.1).mono ?_; rintro e w1 ⟨rfl, HB1⟩; have HB2 : Hid (Below w.heap.size w w1) := HB0.out.1.trans (HB1.out.mono HB0.out.1.size); have y1 : w1.cell? ⟨w.heap.size, 1, none⟩ = some (.int .i64 1) := (box2f ((HB1.out.block _ (Array.getElem?_eq_some_iff.1 HB0.out.2).1).trans HB0.out.2)).2)
      go_ret
      exact ⟨rfl, HB2.out⟩
  · have e1 : (z == 1) = false := by simp [h1]
    have ho : b1 = false := by rw [o1, decide_eq_false h1]; rfl
    by_cases h2 : z = 2
    · subst h2
      cases i4 with
      | false =>
        obtain rfl := F2 ho (fun d r' _ => by rw [o2]; rfl)
        clear F1 F2 F3 o1 o2 HI0 hd heq hr
        go_enter Tryd.func37, Tryd.ntmps37
        go_wp2_with (go_at_call 48; refine (HI4.out _ HB0.out.1).mono ?_; rintro e w1 ⟨rfl, HB1⟩; have HB2 : Hid (Below w.heap.size w w1) := HB0.out.1.trans (HB1.out.mono HB0.out.1.size))
        go_ret
        exact ⟨rfl, HB2.out⟩
      | true =>
        cases r with
        | nil =>
          obtain rfl : n = 1 := by simp at hr; omega
          obtain rfl := F2 ho (fun d r' h => by cases h)
          clear F1 F2 F3 o1 o2 HI0 hd heq hr
          go_enter Tryd.func37, Tryd.ntmps37
          go_wp2_with (go_at_call 48; refine (HI4.out _ HB0.out.1).mono ?_; rintro e w1 ⟨rfl, HB1⟩; have HB2 : Hid (Below w.heap.size w w1) := HB0.out.1.trans (HB1.out.mono HB0.out.1.size))
          go_ret
          exact ⟨rfl, HB2.out⟩
        | cons d r =>
          obtain ⟨y0, y1⟩ := hd d r rfl
          have n2 : 1 < n := by simp at hr; omega
          have n3 : (1 : Int) < (n : Int) := by omega
          have n4 : decide (1 < n) = true := by simp; omega
          have HY : Hid (w.cell? ⟨g, o + 2, none⟩ = some (.string d.tx) ∧ w.cell? ⟨g, o + 3, none⟩ = some (.int .i64 d.sp)) := ⟨y0, y1⟩
          have he := heq d.tx ⟨#[]⟩ d.sp 0
          by_cases hs : d.tx = ⟨#[]⟩ ∧ d.sp = 0
          · rw [decide_eq_true hs.1, decide_eq_true hs.2] at he
            have hv : tw d = true := by rw [o2, decide_eq_true hs.1, decide_eq_true hs.2]; rfl
            obtain rfl := F3 d r ho rfl hv
            clear F1 F2 F3 o1 o2 HI0 hd heq hr y0 y1
            go_enter Tryd.func37, Tryd.ntmps37
            go_wp2_with (go_at_call 48; refine (HI4.out _ HB0.out.1).mono ?_; rintro e w1 ⟨rfl, HB1⟩; have HB2 : Hid (Below w.heap.size w w1) := HB0.out.1.trans (HB1.out.mono HB0.out.1.size); have y0 := (HB2.out.cell (p := ⟨g, o + 2, none⟩) (World.block_lt_of_cell? w _ HY.out.1)).trans HY.out.1; have y1 := (HB2.out.cell (p := ⟨g, o + 3, none⟩) (World.block_lt_of_cell? w _ HY.out.2)).trans HY.out.2)
            go_ret
            exact ⟨rfl, HB2.out⟩
          · have hv : (decide (d.tx = ⟨#[]⟩) && decide (d.sp = 0)) = false := by
              by_cases e1 : d.tx = ⟨#[]⟩ <;> by_cases e2 : d.sp = 0 <;> simp [e1, e2]
              exact hs ⟨e1, e2⟩
            rw [hv] at he
            obtain rfl := F2 ho (fun d' r' h => by cases h; rw [o2, hv, Bool.and_false])
            clear F1 F2 F3 o1 o2 HI0 hd heq hr y0 y1 hv
            go_enter Tryd.func37, Tryd.ntmps37
            go_wp2_with (go_at_call 48; refine (HI4.out _ HB0.out.1).mono ?_; rintro e w1 ⟨rfl, HB1⟩; have HB2 : Hid (Below w.heap.size w w1) := HB0.out.1.trans (HB1.out.mono HB0.out.1.size); have y0 := (HB2.out.cell (p := ⟨g, o + 2, none⟩) (World.block_lt_of_cell? w _ HY.out.1)).trans HY.out.1; have y1 := (HB2.out.cell (p := ⟨g, o + 3, none⟩) (World.block_lt_of_cell? w _ HY.out.2)).trans HY.out.2)
            go_ret
            exact ⟨rfl, HB2.out⟩
    · have e2 : (z == 2) = false := by simp [h2]
      obtain rfl := F2 ho (fun d r' _ => by rw [o2, decide_eq_false h2]; rfl)
      clear F1 F2 F3 o1 o2 HI0 HI4 hd heq hr
      go_enter Tryd.func37, Tryd.ntmps37
      go_wp2
      go_ret
      exact ⟨rfl, HB0.out.1⟩
set_option maxRecDepth 100000 in
set_option maxHeartbeats 1000000 in
theorem frow_any (v : Value) (l : List Cel) (W0 : Int) (hn : l.length ≤ 2147483648) (hs : ∀ c ∈ l, c.tx.size ≤ maxLen) (w : World) (hT : Lib.Utf8Tabs 1 2 w) (h : RdCe w v l) :
    Calls Tryd.prog 25 #[v, .int .i64 W0] w fun e w' => e = .returned (.bool (fitR W0 l)) ∧ Below w.heap.size w w' := by
  have hfr : fitR W0 l = (decide ((l.length : Int) ≤ W0) && (!lastE l && fitL l)) := rfl
  obtain ⟨a, k, rfl, hrow⟩ := id h
  have H0 : Hid (Below w.heap.size w (w.alloc (.cells #[.string ⟨#[32]⟩, .int .i64 1] 40)) ∧ (w.alloc (.cells #[.string ⟨#[32]⟩, .int .i64 1] 40)).heap[w.heap.size]? = some (.cells #[.string ⟨#[32]⟩, .int .i64 1] 40 (0, 0))) := ⟨(Below.refl _ w).alloc (Nat.le_refl _) _, World.alloc_heap_new _ _⟩
  by_cases hW : (l.length : Int) ≤ W0
  · have hgt : ¬ ((l.length : Int) > W0) := by omega
    rw [decide_eq_true hW, Bool.true_and] at hfr
    by_cases hl0 : l = []
    · subst hl0
      have e : fitR W0 [] = true := hfr
      rw [e]
      simp only [List.length_nil] at hW hgt ⊢
      clear hrow h hn hs hfr e
      go_enter Tryd.func25, Tryd.ntmps25
      go_wp2
      go_quiet (fail)
      go_wp2
      go_loopw [0] (fun t wr => t = .slice a 0 k ∧ Hid (Below w.heap.size w wr)) (fun _ _ => 0)
      case atStart => exact ⟨rfl, ⟨H0.out.1.os, H0.out.1.tape, H0.out.1.output, H0.out.1.size, H0.out.1.block⟩⟩
      case round =>
        obtain ⟨rfl, HB⟩ := hrel
        go_wp2
        go_ret
        exact ⟨rfl, HB.out⟩
    · obtain ⟨hk, g, o, rfl, hg, hc⟩ := hrow hl0
      obtain ⟨m, hm⟩ : ∃ m, l.length = m + 1 := ⟨l.length - 1, by have := List.length_pos_iff.2 hl0; omega⟩
      obtain ⟨c, hcl⟩ : ∃ c, l[m]? = some c := ⟨l[m]'(by omega), List.getElem?_eq_getElem _⟩
      have hla : lastE l = blkE c := by unfold lastE; rw [List.getLast?_eq_getElem?, hm, Nat.add_sub_cancel, hcl]
      obtain ⟨x0, x1⟩ := hc m c hcl
      obtain ⟨n, hln⟩ : ∃ n, l.length = n := ⟨_, rfl⟩
      have hm1 : IntKind.i64.wrap ((n : Int) - 1) = (m : Int) := by rw [IntKind.wrap_i64]; omega
      have n0 : 0 < n := by omega
      have n1 : (0 : Int) < (n : Int) := by omega
      have n2 : (n : Int) > 0 := by omega
      have n3 : m < n := by omega
      have n4 : (m : Int) < (n : Int) := by omega
      have n5 : (0 : Int) ≤ (m : Int) := by omega
      have n6 : decide (0 < n) = true := by simp; omega
      rw [hln] at hgt h hn hk hW ⊢
      have he := cel_eql c.tx ⟨#[32]⟩ c.sp 1
      have hbl : blkE c = (decide (c.tx = ⟨#[32]⟩) && decide (c.sp = 1)) := rfl
      obtain ⟨⟨z0, z1⟩⟩ : Nonempty ((w.alloc (.cells #[.string ⟨#[32]⟩, .int .i64 1] 40)).cell? ⟨w.heap.size, 0, none⟩ = some (.string ⟨#[32]⟩) ∧ (w.alloc (.cells #[.string ⟨#[32]⟩, .int .i64 1] 40)).cell? ⟨w.heap.size, 1, none⟩ = some (.int .i64 1)) := ⟨box2f H0.out.2⟩
      have HL : Hid (l.length = n ∧ n ≤ 2147483648 ∧ n ≤ k ∧ (∀ c ∈ l, c.tx.size ≤ maxLen) ∧ RdCe w (.slice (some ⟨g, o, none⟩) n k) l) := ⟨hln, hn, hk, hs, h⟩
      rw [← hbl] at he
      replace x0 := (H0.out.1.cell (p := ⟨g, o + m * 2, none⟩) hg).trans x0
      replace x1 := (H0.out.1.cell (p := ⟨g, o + m * 2 + 1, none⟩) hg).trans x1
      rw [hla] at hfr
      have HT : Hid (Lib.Utf8Tabs 1 2 w) := hT
      clear hc hg hla hbl hs h hln hn hk hm hcl hrow hl0 hT
      cases hb : blkE c with
      | true =>
        rw [hb] at he hfr
        rw [hfr]
        clear hfr hb
        go_enter Tryd.func25, Tryd.ntmps25
        go_wp2
        go_quiet (fail)
        go_wp2
        go_ret
        exact ⟨rfl, ⟨H0.out.1.os, H0.out.1.tape, H0.out.1.output, H0.out.1.size, H0.out.1.block⟩⟩
      | false =>
        rw [hb] at he hfr
        rw [hfr]
        clear hfr hb
        have HFC : Hid (∀ j q X, j + q = n → 0 < q → Below w.heap.size w X → ∃ x : Nat, (x = 0 → fitL (l.drop j) = false) ∧ (x ≠ 0 → x ≤ q ∧ fitL (l.drop j) = fitL (l.drop (j + x))) ∧ Calls Tryd.prog 37 #[.slice (some ⟨g, o + j * 2, none⟩) q (k - j)] X fun e w' => e = .returned (.int .i64 (x : Int)) ∧ Hid (Below X.heap.size X w')) := fun j q X hq h0 hX => by
          have hd := (HL.out.2.2.2.2.drop (j := j) (by omega)).below (Nat.le_refl _) hX
          have hlen : (l.drop j).length = q := by rw [List.length_drop, HL.out.1]; omega
          have hne : l.drop j ≠ [] := fun e => by rw [e] at hlen; simp at hlen; omega
          obtain ⟨f1, f2⟩ := fitL_step hne
          refine ⟨fitC (l.drop j), f1, fun h => ⟨by have := (f2 h).1; omega, by rw [(f2 h).2, List.drop_drop]⟩, ?_⟩
          rw [show n - j = q by omega] at hd
          cases e : l.drop j with
          | nil => exact absurd e hne
          | cons c r =>
            rw [e] at hd
            have hc := HL.out.2.2.2.1 c (List.mem_of_mem_drop (i := j) (by rw [e]; exact List.mem_cons_self))
            exact fcells_any _ q (k - j) c r (by have := HL.out; omega) hc X (tabs_below HT.out hX) hd
        go_enter Tryd.func25, Tryd.ntmps25
        go_wp2
        go_quiet (fail)
        go_wp2
        go_loopw [0] (fun t wr => ∃ j q b, j + q = n ∧ t = .slice b q (k - j) ∧ (0 < q → b = some ⟨g, o + j * 2, none⟩) ∧ Hid (Below w.heap.size w wr ∧ fitL (l.drop j) = fitL l)) (fun t _ => match t with | .slice _ q _ => q | _ => 0)
        case atStart => exact ⟨0, n, _, by omega, rfl, fun _ => rfl, ⟨H0.out.1.os, H0.out.1.tape, H0.out.1.output, H0.out.1.size, H0.out.1.block⟩, rfl⟩
        case round =>
          obtain ⟨j, q, b, hjq, rfl, hb, HB⟩ := hrel
          have HK : Hid (n ≤ k ∧ n ≤ 2147483648) := ⟨HL.out.2.2.1, HL.out.2.1⟩
          by_cases hq : 0 < q
          · obtain rfl := hb hq
            clear hb
            obtain ⟨x, hx0, hx1, hcall⟩ := HFC.out j q wr hjq hq HB.out.1
            have HC : Hid (Calls Tryd.prog 37 #[.slice (some ⟨g, o + j * 2, none⟩) q (k - j)] wr fun e w' => e = .returned (.int .i64 (x : Int)) ∧ Hid (Below wr.heap.size wr w')) := hcall
            have q1 : (0 : Int) < (q : Int) := by omega
            have q2 : (q : Int) > 0 := by omega
            by_cases hx : x = 0
            · have hf := (HB.out.2.symm.trans (hx0 hx))
              subst hx
              clear hx0 hx1 hcall HFC
              go_wp2_with (go_at_call 37; refine HC.out.mono ?_; rintro e w2 ⟨rfl, HB2⟩)
              go_ret
              rw [hf]
              exact ⟨rfl, HB.out.1.trans (HB2.out.mono HB.out.1.size)⟩
            · have HX : Hid (x ≤ q ∧ fitL (l.drop j) = fitL (l.drop (j + x))) := hx1 hx
              have x1 : x ≤ q := HX.out.1
              have x2 : (x : Int) ≤ (q : Int) := by omega
              have x3 : (0 : Int) ≤ (x : Int) := by omega
              have x4 : q ≤ k - j := by have := HK.out; omega
              have x5 : ((x : Int) == 0) = false := by simp [hx]
              clear hx0 hx1 hcall HFC
              go_wp2_with (go_at_call 37; refine HC.out.mono ?_; rintro e w2 ⟨rfl, HB2⟩)
              exact ⟨⟨j + x, q - x, _, by have := HX.out.1; omega, by rw [Nat.sub_sub], fun h0 => by rw [if_neg (by have := HX.out.1; omega), show o + j * 2 + x * 2 = o + (j + x) * 2 by omega], HB.out.1.trans (HB2.out.mono HB.out.1.size), HX.out.2.symm.trans HB.out.2⟩, by show q - x < q; omega⟩
          · obtain rfl : q = 0 := by omega
            have hf : fitL l = true := by
              rw [← HB.out.2, List.drop_eq_nil_of_le (by have := HL.out.1; omega)]
              rfl
            clear HFC
            go_wp2
            go_ret
            rw [hf]
            exact ⟨rfl, HB.out.1⟩
  · rw [decide_eq_false hW, Bool.false_and] at hfr
    have hgt : (l.length : Int) > W0 := by omega
    rw [hfr]
    generalize l.length = n at hgt hW
    clear hrow h hn hs hfr H0
    go_enter Tryd.func25, Tryd.ntmps25
    go_wp2
    go_ret
    exact ⟨rfl, Below.refl _ _⟩
end Go.Proofs.YtcgnfjcbafmbgaaDoor
