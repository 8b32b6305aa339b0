/-
  The document's own Shaped, asked of the leaves of a tree that has the shape: true. Conditions: the text holds at most 1099511627776 bytes.
-/
import Derived.Test.YtffipfmnpffdaaaGreatDoorRLaw
import Derived.Test.YtffipfmnpffdaaaGreatDoorPkTH
namespace Go.Proofs.YtffipfmnpffdaaaGreatDoor
open Go.RowKit Go.Shelf Bod Wid

theorem near8 {a : ByteArray} {i : Nat} (h0 : 0 < i) (h1 : i < a.size) : cbZ (a.extract (i - 8) (min a.size (i + 8))) ((i - (i - 8) : Nat) : Int) = cbZ a i := by
  have hs := size_extract a (i - 8) (min a.size (i + 8)) (by omega)
  refine cb_near (by omega) (by rw [hs]; omega) h0 h1 (by omega) fun d h2 h3 => ?_
  rw [un_extract a (i - 8) (min a.size (i + 8)) (i - (i - 8) - d) (by omega) (by omega) (by omega)]
  congr 1
  omega
set_option maxRecDepth 100000 in
set_option maxHeartbeats 1000000 in
theorem bound7_any (s : ByteArray) (i : Nat) (hs : s.size ≤ 1099511627776) (hi : i ≤ s.size) (w : World) : Calls Tryz.prog 139 #[.string s, .int .i64 i] w fun e W' => e = .returned (.bool (cbZ s i)) ∧ Below w.heap.size w W' := by
  by_cases c0 : i = 0
  · subst c0
    rw [show cbZ s ((0 : Nat) : Int) = true from cb_zero s]
    go_enter Tryz.func139, Tryz.ntmps139
    go_wp2
    go_ret
    exact ⟨rfl, Below.refl _ w⟩
  by_cases c1 : i = s.size
  · subst c1
    rw [show cbZ s ((s.size : Nat) : Int) = true from cb_end s]
    have c0' : ¬ (s.size : Int) = 0 := by omega
    go_enter Tryz.func139, Tryz.ntmps139
    go_wp2
    go_ret
    exact ⟨rfl, Below.refl _ w⟩
  · obtain ⟨lo, hlo⟩ : ∃ k, i - 8 = k := ⟨_, rfl⟩
    obtain ⟨hi', hhi⟩ : ∃ k, min s.size (i + 8) = k := ⟨_, rfl⟩
    obtain ⟨d, hd⟩ : ∃ k, i - lo = k := ⟨_, rfl⟩
    have e0 := near8 (a := s) (i := i) (by omega) (by omega)
    rw [hhi, hlo, hd] at e0
    have z : (s.extract lo hi').size ≤ 1048576 := by rw [size_extract _ _ _ (by omega)]; omega
    have C : Hid (∀ W (x : ByteArray) (k : Int), x = s.extract lo hi' → k = d → Calls Tryz.prog 153 #[.string x, .int .i64 k] W fun e W' => e = .returned (.bool (cbZ s i)) ∧ Below W.heap.size W W') := fun W x k hx hk => by
      rw [hx, hk]
      exact (rbound_any _ d (Nat.le_trans z (by decide)) W).mono fun e W' ⟨k1, k2⟩ => ⟨by rw [k1, e0], k2⟩
    have c0' : ¬ (i : Int) = 0 := by omega
    have c1' : ¬ (i : Int) = s.size := by omega
    have e3 : (i : Int) - lo = (d : Int) := by omega
    have b1 : lo ≤ hi' := by omega
    have b2 : hi' ≤ s.size := by omega
    have t0 : ((i : Int) == 0) = false := by simp; omega
    have t1 : ((i : Int) == (s.size : Int)) = false := by simp; omega
    generalize cbZ s (i : Int) = q at C ⊢
    clear e0 z c0' c1'
    by_cases d1 : i < 8
    · have l0 : lo = 0 := by omega
      have d1' : (i : Int) - 8 < 0 := by omega
      subst l0
      by_cases d2 : s.size < i + 8
      · have h0 : hi' = s.size := by omega
        have d2' : (s.size : Int) < (i : Int) + 8 := by omega
        subst h0
        go_enter Tryz.func139, Tryz.ntmps139
        go_wp2_with (go_at_call 153; refine (C.out _ _ _ (by first | rfl | (congr 1; omega) | simp) (by omega)).mono ?_; clear C; rintro e w1 ⟨rfl, h1⟩)
        go_ret
        exact ⟨rfl, h1⟩
      · have h0 : (i : Int) + 8 = (hi' : Int) := by omega
        have d2' : ¬ (s.size : Int) < (hi' : Int) := by omega
        go_enter Tryz.func139, Tryz.ntmps139
        go_wp2_with (go_at_call 153; refine (C.out _ _ _ (by first | rfl | (congr 1; omega) | simp) (by omega)).mono ?_; clear C; rintro e w1 ⟨rfl, h1⟩)
        go_ret
        exact ⟨rfl, h1⟩
    · have l0 : (i : Int) - 8 = (lo : Int) := by omega
      have d1' : ¬ (lo : Int) < 0 := by omega
      by_cases d2 : s.size < i + 8
      · have h0 : hi' = s.size := by omega
        have d2' : (s.size : Int) < (i : Int) + 8 := by omega
        subst h0
        go_enter Tryz.func139, Tryz.ntmps139
        go_wp2_with (go_at_call 153; refine (C.out _ _ _ (by first | rfl | (congr 1; omega) | simp) (by omega)).mono ?_; clear C; rintro e w1 ⟨rfl, h1⟩)
        go_ret
        exact ⟨rfl, h1⟩
      · have h0 : (i : Int) + 8 = (hi' : Int) := by omega
        have d2' : ¬ (s.size : Int) < (hi' : Int) := by omega
        go_enter Tryz.func139, Tryz.ntmps139
        go_wp2_with (go_at_call 153; refine (C.out _ _ _ (by first | rfl | (congr 1; omega) | simp) (by omega)).mono ?_; clear C; rintro e w1 ⟨rfl, h1⟩)
        go_ret
        exact ⟨rfl, h1⟩
set_option maxRecDepth 100000 in
set_option maxHeartbeats 1000000 in
theorem cuttable_no (s : ByteArray) (f t : Nat) (hs : s.size ≤ 1099511627776) (ht : t ≤ s.size) (hf : f ≤ t) (hno : ∀ i : Nat, f + 32 ≤ i → i + 32 ≤ t → cbZ s i = false) (w : World) : Calls Tryz.prog 140 #[.string s, .int .i64 f, .int .i64 t] w fun e W' => e = .returned (.bool false) ∧ Below w.heap.size w W' := by
  have C : Hid (∀ (i : Nat) W, f + 32 ≤ i → i + 32 ≤ t → Hid (Below w.heap.size w W) → Calls Tryz.prog 139 #[.string s, .int .i64 i] W fun e W' => e = .returned (.bool false) ∧ Hid (Below w.heap.size w W')) := fun i W h1 h2 hW => (bound7_any s i hs (by omega) W).mono fun e W' ⟨k1, k2⟩ => ⟨by rw [k1, hno i h1 h2], Below.on hW k2⟩
  have b1 : f ≤ 1099511627776 := by omega
  have b2 : t ≤ 1099511627776 := by omega
  clear hno
  go_enter Tryz.func140, Tryz.ntmps140
  go_wp2
  go_loopw [7] (fun v wr => ∃ i : Nat, v = .int .i64 i ∧ f + 32 ≤ i ∧ i ≤ 3298534883328 ∧ Hid (Below w.heap.size w wr)) (fun v _ => 3298534883329 - (intOf v).toNat)
  case atStart => exact ⟨f + 32, by go_num, Nat.le_refl _, by omega, Below.refl _ w⟩
  case round =>
    obtain ⟨i, rfl, h1, h2, HB⟩ := hrel
    by_cases c : i + 32 ≤ t
    · have c' : (i : Int) ≤ (t : Int) - 32 := by omega
      have C' : Hid (Calls Tryz.prog 139 #[.string s, .int .i64 i] wr fun e W' => e = .returned (.bool false) ∧ Hid (Below w.heap.size w W')) := C.out i wr h1 c HB
      clear C
      go_wp2_with (go_at_call 139; refine C'.out.mono ?_; clear C'; rintro e w1 ⟨rfl, hb⟩)
      exact ⟨⟨i + 1, by go_num, by omega, by omega, hb⟩, by simp [intOf]; omega⟩
    · have c' : ¬ (i : Int) ≤ (t : Int) - 32 := by omega
      go_wp2
      go_ret
      exact ⟨rfl, HB.out⟩
theorem fib_le : ∀ {a b : Nat}, a ≤ b → fib a ≤ fib b := fun {a b} h => by
  induction b with
  | zero => obtain rfl : a = 0 := by omega
            exact Nat.le_refl _
  | succ b ih =>
    rcases Nat.lt_or_ge b a with g | g
    · obtain rfl : a = b + 1 := by omega
      exact Nat.le_refl _
    · exact Nat.le_trans (ih g) (fib_mono b)
set_option maxRecDepth 100000 in
set_option maxHeartbeats 1000000 in
theorem least_any (h : Nat) (hh : h ≤ 1099511627776) (hf : fib h ≤ 1099511627777) (w : World) : Calls Tryz.prog 141 #[.int .i64 h] w fun e W' => e = .returned (.int .i64 (fib h)) ∧ w = W' := by
  go_enter Tryz.func141, Tryz.ntmps141
  go_wp2
  go_loopw [3, 4, 5] (fun a b i wr => ∃ k : Nat, i = .int .i64 k ∧ a = .int .i64 (fib k) ∧ b = .int .i64 (fib (k + 1)) ∧ k ≤ h ∧ w = wr) (fun _ _ i _ => h - (intOf i).toNat)
  case atStart => exact ⟨0, rfl, rfl, rfl, Nat.zero_le _, rfl⟩
  case round =>
    obtain ⟨k, rfl, rfl, rfl, hk, rfl⟩ := hrel
    by_cases c : k < h
    · have f1 := fib_le (show k + 1 ≤ h by omega)
      have f2 := fib_le (show k ≤ h by omega)
      have f3 : fib (k + 2) = fib (k + 1) + fib k := rfl
      generalize hx : fib k = x at *
      generalize hy : fib (k + 1) = y at *
      have c' : (k : Int) < h := by omega
      have b1 : x ≤ 1099511627777 := by omega
      have b2 : y ≤ 1099511627777 := by omega
      have f4 : ((fib (k + 1 + 1) : Nat) : Int) = (x : Int) + y := by rw [show k + 1 + 1 = k + 2 from rfl, f3]; omega
      have HF4 : Hid _ := f4
      have HY : Hid (fib (k + 1) = y) := hy
      clear hf f4 hx hy f3
      go_wp2
      exact ⟨⟨k + 1, by go_num, by rw [HY.out], by rw [HF4.out], by omega, by first | rfl | trivial⟩, by simp [intOf]; omega⟩
    · have hkh : k = h := by omega
      subst hkh
      have c' : ¬ (k : Int) < k := by omega
      go_wp2
      go_ret
      exact ⟨rfl, rfl⟩
/-- what Shaped asks of the leaf number k -/
structure Lk (s : ByteArray) (ls : List ByteArray) (k : Nat) (x : ByteArray) : Prop where
  f1 : 1 < ls.length → 32 ≤ x.size
  f2 : (jo (ls.take k)).size + x.size ≤ s.size
  f3 : s.extract (jo (ls.take k)).size ((jo (ls.take k)).size + x.size) = x
  f4 : cbZ s (((jo (ls.take k)).size + x.size : Nat) : Int) = true
  f5 : 64 < x.size → ∀ i : Nat, (jo (ls.take k)).size + 32 ≤ i → i + 32 ≤ (jo (ls.take k)).size + x.size → cbZ s (i : Int) = false
theorem jo_take {ls : List ByteArray} {k : Nat} {x : ByteArray} (h : ls[k]? = some x) : (jo (ls.take (k + 1))).size = (jo (ls.take k)).size + x.size := by
  rw [List.take_add_one, h, jo_size]
  show _ + (jo [x]).size = _
  rw [jo_one]
theorem good_lk {t : Tr} (h : Good t) {k : Nat} {x : ByteArray} (hx : t.lv[k]? = some x) : Lk t.text t.lv k x := by
  obtain ⟨a, b, e, ha⟩ : ∃ a b, t.lv = a ++ x :: b ∧ a = t.lv.take k := ⟨t.lv.take k, t.lv.drop (k + 1), by
    have hk := (List.getElem?_eq_some_iff.1 hx)
    obtain ⟨hk, hk'⟩ := hk
    rw [← hk', ← List.drop_eq_getElem_cons hk, List.take_append_drop], rfl⟩
  have tx : t.text = jo a ++ (x ++ jo b) := by rw [text_lv, e, jo_app]; rfl
  by_cases h0 : t.text.size = 0
  · have ht : t = .leaf noB := by
      rcases h.fine with k | k
      · exact k
      · exact absurd h0 k.ne
    subst ht
    have hx0 : x.size = 0 := by rw [tx, size_app, size_app] at h0; omega
    have ha0 : (jo a).size = 0 := by rw [tx, size_app] at h0; omega
    refine ⟨fun h => by simp [Tr.lv] at h, by rw [← ha]; omega, ?_, ?_, fun h => by omega⟩ <;> rw [← ha]
    · rw [noB_of hx0]
      exact noB_of (by rw [noB_size]; rw [ha0]; rfl)
    · rw [ha0, hx0]; exact cb_zero _
  · obtain ⟨s1, p1⟩ := h.sh_lv h0
    have zx : t.text.size = (jo a).size + (x.size + (jo b).size) := by rw [tx, size_app, size_app]
    refine ⟨fun hl => ?_, by rw [← ha]; omega, ?_, ?_, fun hl i h1 h2 => ?_⟩ <;> (try rw [← ha] at *)
    · rcases s1.sz with g | g
      · omega
      · exact g x (by rw [e]; simp)
    · rw [tx, ext_app, ext_nil (by omega), noB_app, Nat.sub_self, show (jo a).size + x.size - (jo a).size = x.size by omega, ext_left (Nat.le_refl _), ext_all]
    · cases b with
      | nil =>
        have : (jo a).size + x.size = t.text.size := by rw [zx]; show _ = _ + (_ + noB.size); rw [noB_size]; omega
        rw [this]; exact cb_end _
      | cons y b =>
        have big : ∀ z ∈ t.lv, 32 ≤ z.size := by
          rcases s1.sz with g | g
          · rw [e] at g; simp at g; omega
          · exact g
        have hsx := big x (by rw [e]; simp)
        have hsy := big y (by rw [e]; simp)
        have hse : Seam x y := by have := s1.ch; rw [e] at this; exact this.seam
        have := cb_mid (a := jo a) (x := x ++ y) (b := jo b) (i := x.size) (by omega) (by rw [size_app]; omega)
        rw [show t.text = jo a ++ (x ++ y ++ jo b) by rw [tx]; show _ = jo a ++ (x ++ y ++ jo b); rw [app_assoc]; rfl, this]
        exact hse
    · have hu := s1.un x (by rw [e]; simp) hl (i - (jo a).size) (by omega) (by omega)
      have := cb_mid (a := jo a) (x := x) (b := jo b) (i := i - (jo a).size) (by omega) (by omega)
      rw [← tx, show (jo a).size + (i - (jo a).size) = i by omega] at this
      rw [this]
      exact hu
set_option maxRecDepth 100000 in
set_option maxHeartbeats 2000000 in
theorem shaped_any {s : ByteArray} {ls : List ByteArray} {g cap h : Nat} {w : World} (hs : s.size ≤ 1099511627776) (hrow : ∀ k x, ls[k]? = some x → w.cell? ⟨g, k, none⟩ = some (.string x)) (hg : g < w.heap.size) (_hcap : ls.length ≤ cap) (hN0 : ls.length ≤ 1099511627777) (hjo : jo ls = s) (hL : ∀ k x, ls[k]? = some x → Lk s ls k x) (hh : h ≤ 1099511627776) (hf : fib h ≤ ls.length) :
    Calls Tryz.prog 63 #[.string s, .slice (some ⟨g, 0, none⟩) ls.length cap, .int .i64 h] w fun e W' => e = .returned (.bool true) ∧ Below w.heap.size w W' := by
  have HM : Hid (Tryz.prog.follows .mixedOrders = true) := by show _ = _; kernel_rfl
  obtain ⟨N, hN⟩ : ∃ N, ls.length = N := ⟨_, rfl⟩
  have HN : Hid (ls.length = N) := hN
  have HR : Hid _ := hrow
  have HL : Hid (∀ k x, ls[k]? = some x → Lk s ls k x) := hL
  have HJ : Hid ((jo (ls.take N)).size = s.size) := by show _ = _; rw [← hN, List.take_length, hjo]
  have CLe : Hid (∀ W, Calls Tryz.prog 141 #[.int .i64 h] W fun e W' => e = .returned (.int .i64 (fib h)) ∧ W = W') := fun W => least_any h hh (by omega) W
  rw [hN] at _hcap hN0 hf ⊢
  have hf' : ((fib h : Nat) : Int) ≤ N := by omega
  generalize fib h = F at CLe hf'
  have b0 : N ≤ 1099511627777 := hN0
  clear hN hrow hL hjo hf hN0
  go_enter Tryz.func63, Tryz.ntmps63
  go_wp2
  go_loopw [7, 8] (fun a i wr => ∃ k at' : Nat, i = .int .i64 k ∧ a = .int .i64 at' ∧ k ≤ N ∧ at' ≤ s.size ∧ Hid ((jo (ls.take k)).size = at' ∧ Below w.heap.size w wr)) (fun _ i _ => N - (intOf i).toNat)
  case atStart => exact ⟨0, 0, rfl, rfl, Nat.zero_le _, Nat.zero_le _, rfl, Below.refl _ w⟩
  case round =>
    obtain ⟨k, at', rfl, rfl, hk, hat, HI⟩ := hrel
    by_cases c : k < N
    · obtain ⟨x, hx⟩ : ∃ x, ls[k]? = some x := ⟨ls[k]'(by rw [HN.out]; exact c), List.getElem?_eq_getElem _⟩
      have d0 : wr.cell? ⟨g, k, none⟩ = some (.string x) := (HI.out.2.cell (p := ⟨g, _, none⟩) hg).trans ((Hid.out HR) k x hx)
      obtain ⟨f1, f2, f3, f4, f5⟩ := HL.out k x hx
      have hjt := jo_take hx
      rw [HI.out.1] at f2 f3 f4 f5 hjt
      obtain ⟨n, hn⟩ : ∃ n, x.size = n := ⟨_, rfl⟩
      rw [hn] at f1 f2 f3 f4 f5 hjt
      obtain ⟨a2, ha2⟩ : ∃ a2, at' + n = a2 := ⟨_, rfl⟩
      rw [ha2] at f2 f3 f4 f5 hjt
      rw [HN.out] at f1
      have e1 : (at' : Int) + n = (a2 : Int) := by omega
      have C1 : Hid (∀ W, Below W.heap.size wr W → True) := fun _ _ => trivial
      have Q1 : Hid (∀ W : World, ∀ dd os, Calls Tryz.prog 139 #[.string s, .int .i64 a2] (Go.Sort.grow (redrawn W dd) os) fun e w'' => e = .returned (.bool true) ∧ ∃ p : Regrown, w'' = Go.Sort.grow (redrawn W p.d) p.os) := fun W => regrown fun X _ => (bound7_any s a2 hs f2 X).mono fun e W' ⟨k1, k2⟩ => ⟨by rw [k1, f4], k2⟩
      have C2 : Hid (64 < n → ∀ W, Calls Tryz.prog 140 #[.string s, .int .i64 at', .int .i64 a2] W fun e W' => e = .returned (.bool false) ∧ Below W.heap.size W W') := fun hl W => cuttable_no s at' a2 hs f2 (by omega) (f5 hl) W
      have HJT : Hid ((jo (ls.take (k + 1))).size = a2) := hjt
      have HB : Hid (Below w.heap.size w wr) := HI.out.2
      have c' : (k : Int) < N := by omega
      obtain ⟨rr, hrr⟩ : ∃ rr : Nat, s.size - at' = rr := ⟨_, rfl⟩
      have g3 : IntKind.i64.wrap ((s.size : Int) - at') = (rr : Int) := by rw [IntKind.wrap_i64]; omega
      have g4 : IntKind.i64.wrap ((at' : Int) + n) = (a2 : Int) := by rw [IntKind.wrap_i64]; omega
      have g5 : (s.size : Int) - at' = (rr : Int) := by omega
      have g2 : decide ((rr : Int) < n) = false := by simp; omega
      have g6 : decide (rr < n) = false := by simp; omega
      have g7 : rr ≤ 1099511627776 := by omega
      have b7 : n ≤ 1099511627776 := by omega
      have b1 : at' ≤ a2 := by omega
      have zs : s.size ≤ 1099511627776 := hs
      have hq : ((1 : Int) < N ∧ ¬ (n : Int) < 32) ∨ ¬ (1 : Int) < N := by
        by_cases q : 1 < N
        · have := f1 q; exact .inl ⟨by omega, by omega⟩
        · exact .inr (by omega)
      have hv : ((64 : Int) < n ∧ ∀ W, Calls Tryz.prog 140 #[.string s, .int .i64 at', .int .i64 a2] W fun e W' => e = .returned (.bool false) ∧ Below W.heap.size W W') ∨ ¬ (64 : Int) < n := by
        by_cases q : 64 < n
        · exact .inl ⟨by omega, C2.out q⟩
        · exact .inr (by omega)
      have y0 := fun d os => cell_regrown d0 d os
      have QQ := Q1.out wr
      have HB2 : Hid (∀ dd os, Below w.heap.size w (Go.Sort.grow (redrawn wr dd) os)) := fun dd os => Below.on HB.out (below_regrown wr dd os)
      clear f1 f4 f5 hjt HI C1 hx C2 Q1
      rcases hq with ⟨u1, u2⟩ | u1 <;> rcases hv with ⟨v1, v2⟩ | v1
      all_goals go_wp2
      all_goals refine wp_region_quiet_below HM.out (by kernel_rfl) ?_
      all_goals repeat (go_big_quiet_step (fail))
      all_goals go_big_quiet_step (exact QQ _ _)
      all_goals repeat (go_big_quiet_step (fail))
      all_goals refine wpQuiet_nil ?_
      all_goals intro _ hw'
      all_goals obtain ⟨⟨dq, osq⟩, hw''⟩ := hw'
      all_goals subst hw''
      all_goals dsimp only
      all_goals have HB3 : Hid (Below w.heap.size w (Go.Sort.grow (redrawn wr dq) osq)) := HB2.out dq osq
      all_goals clear QQ HB2 y0
      all_goals go_wp2_with (go_at_call 140; refine (v2 _).mono ?_; clear v2; rintro e w2 ⟨rfl, hb2⟩; have HB4 : Hid (Below w.heap.size w w2) := Below.on HB3.out hb2; clear HB3 hb2; have HB3 := HB4; clear HB4)
      all_goals exact ⟨⟨k + 1, a2, by go_num, by go_num, by omega, f2, HJT.out, HB3.out⟩, by simp [intOf]; omega⟩
    · have hkN : k = N := by omega
      have hat2 : at' = s.size := by rw [← HI.out.1, hkN, HJ.out]
      subst hat2
      have HB : Hid (Below w.heap.size w wr) := HI.out.2
      have c' : ¬ (k : Int) < N := by omega
      have z0 : (0 : Int) ≤ h := by omega
      clear HI HR HL HJ hkN
      go_wp2_with (go_at_call 141; refine (CLe.out _).mono ?_; clear CLe; rintro e w2 ⟨rfl, rfl⟩)
      go_ret
      exact ⟨by simp_all, HB.out⟩
end Go.Proofs.YtffipfmnpffdaaaGreatDoor
