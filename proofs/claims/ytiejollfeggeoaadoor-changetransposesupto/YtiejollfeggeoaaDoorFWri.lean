/-
  Package change's makers that write a text in another form. Conditions: those of each theorem.
-/
import Derived.Test.YtiejollfeggeoaaDoorFDel
import Derived.Test.YtiejollfeggeoaaDoorFWab
import Derived.Test.YtiejollfeggeoaaDoorFSwp
import Derived.Test.YtiejollfeggeoaaDoorWConF
namespace Go.Proofs.YtiejollfeggeoaaDoor
open Go.RowKit Go.Shelf Go.Sort Bod Wid

/-- a function value that answers a text in a form -/
structure Frm (w : World) (φ : ByteArray → ByteArray) (fv : Value) : Prop where
  ex : ∃ f, fv = .func (.func f) #[] #[] ∧ (∀ args W, (callFunc f args).run Tryd.prog W = .ok (.enter f args) W) ∧
    ∀ W (x : ByteArray), Below w.heap.size w W → x.size ≤ 1099511627776 → Calls Tryd.prog f #[.string x] W fun r W' => r = .returned (.string (φ x)) ∧ Below W.heap.size W W'
  sz : ∀ x, (φ x).size = x.size
theorem frm_up {w : World} (hT : Tw w) : Frm w (frm 26) (.func (.func 55) #[] #[]) :=
  ⟨⟨55, rfl, enters_of Tryd.func55 (by kernel_rfl) rfl, fun W x hW hx => by have hT' := hT.below hW; exact upper_any x (by unfold maxLen; omega) (by omega) W hT'.t hT'.lo0 hT'.lo1⟩, fun x => fm_size gd_up x⟩
theorem frm_low {w : World} (hT : Tw w) : Frm w (frm 27) (.func (.func 56) #[] #[]) :=
  ⟨⟨56, rfl, enters_of Tryd.func56 (by kernel_rfl) rfl, fun W x hW hx => by have hT' := hT.below hW; exact lower_any x (by unfold maxLen; omega) (by omega) W hT'.t hT'.lo0 hT'.lo1⟩, fun x => fm_size gd_low x⟩
theorem frm_cap {w : World} (hT : Tw w) : Frm w (frm 28) (.func (.func 57) #[] #[]) :=
  ⟨⟨57, rfl, enters_of Tryd.func57 (by kernel_rfl) rfl, fun W x hW hx => by have hT' := hT.below hW; exact capital_any x (by unfold maxLen; omega) (by omega) W hT'.t hT'.lo0 hT'.lo1⟩, fun x => fm_size (gd_cap _) x⟩
set_option maxRecDepth 100000 in
set_option maxHeartbeats 2000000 in
theorem wri1_any (hM : Tryd.prog.follows .mixedOrders = true) {w : World} (hT : Tw w) {k : Int} {fv : Value} (h : Frm w (frm k) fv) {s : ByteArray} (hs : s.size ≤ 1099511627776) (a : Nat) (ha : cbZ s a = true) (r : Int) (n : Nat) (hn : n ≤ 1000) (bx : Nat) (hx : w.cell? ⟨bx, 0, none⟩ = some fv) (hbx : bx < w.heap.size) :
    Calls Tryd.prog 79 #[scv s a r n, .pointer (some ⟨bx, 0, none⟩)] w fun e W' => e = .returned (rsv (caseP k s a (rpt (aheadW (words s) s.size) n a))) ∧ Below w.heap.size w W' := by
  have hal := cb_le ha
  have hst := stp_ahead hT hs
  have hrb := cb_le (rpt_inv (P := fun p : Nat => cbZ s p = true) hst.cb n a ha)
  have hra : a ≤ rpt (aheadW (words s) s.size) n a := by
    have := rst_right (k := 16) (s := s) rfl n a ha
    have e : stF 16 s = aheadW (words s) s.size := rfl
    rw [e] at this
    exact this.1
  obtain ⟨R, hR⟩ : ∃ R, rpt (aheadW (words s) s.size) n a = R := ⟨_, rfl⟩
  rw [hR] at hrb hra
  obtain ⟨⟨f, rfl, en, C⟩, hsz⟩ := h
  have HF : Hid (Fd w s a r n bx (.func (.func f) #[] #[]) ((w.alloc (.cells #[.string s, .int .i64 a, .int .i64 r, .int .i64 n] 57)).alloc (.cells #[.int .i64 0, .int .i64 0, .string ⟨#[]⟩, .int .i64 0, .string ⟨#[]⟩, .bool false] 33))) := ⟨fb0 w s a r n, ((fb0 w s a r n).bel.cell (p := ⟨bx, 0, none⟩) hbx).trans hx, hbx⟩
  have C1 : Hid (∀ W, Fd w s a r n bx (.func (.func f) #[] #[]) W → Calls Tryd.prog 71 #[.int .i64 n, .func (.func 46) #[] #[]] W fun e W' => ∃ b, e = .returned (.func (.func 87) #[] #[.pointer (some ⟨b, 0, none⟩), .pointer (some ⟨b + 1, 0, none⟩)]) ∧ Hid (Fd w s a r n bx (.func (.func f) #[] #[]) W' ∧ Tb w n (.func (.func 46) #[] #[]) b W')) := fun W hW => (times_any W n 46).mono fun e W' ⟨b, k1, k2⟩ => ⟨b, k1, hW.below k2.bel, ⟨below_on hW.f.bel k2.bel, k2.c, k2.f, k2.lt⟩⟩
  have C2 : Hid (∀ W b, Fd w s a r n bx (.func (.func f) #[] #[]) W ∧ Tb w n (.func (.func 46) #[] #[]) b W → Calls Tryd.prog 87 #[.string s, .int .i64 a, .pointer (some ⟨b, 0, none⟩), .pointer (some ⟨b + 1, 0, none⟩)] W fun e W' => e = .returned (.int .i64 R) ∧ Hid (Fd w s a r n bx (.func (.func f) #[] #[]) W')) := fun W b hW => by
    have := times1_any hst hW.2 hs hn a ha
    rw [hR] at this
    exact this.mono fun e W' ⟨k1, k2⟩ => ⟨k1, hW.1.below k2⟩
  have hz := size_extract s a R hrb
  have hz2 := hsz (s.extract a R)
  obtain ⟨y, hy⟩ : ∃ y, frm k (s.extract a R) = y := ⟨_, rfl⟩
  rw [hy] at hz2
  have C3 : Hid (∀ W, Below w.heap.size w W → Calls Tryd.prog f #[.string (s.extract a R)] W fun e W' => e = .returned (.string y) ∧ Below W.heap.size W W') := fun W hW => by rw [← hy]; exact C W _ hW (by omega)
  have C4 : Hid (∀ W, Calls Tryd.prog 80 #[.int .i64 a, .int .i64 R, .string y] W fun e W' => e = .returned (.agg #[.int .i64 a, .int .i64 (R - a : Nat), .string y, .int .i64 (a + y.size : Nat), .string ⟨#[]⟩, .bool false]) ∧ Below W.heap.size W W') := fun W => put_any W a R y hra (by omega) (by omega)
  rw [hR]
  unfold scv caseP
  rw [hy]
  obtain ⟨res, hres⟩ : ∃ res, (if R = a then (chz, (8 : Int)) else (⟨a, R - a, y, a + y.size, ⟨#[]⟩, false⟩, 0)) = res := ⟨_, rfl⟩
  rw [hres]
  have HR : Hid ((if R = a then (chz, (8 : Int)) else (⟨a, R - a, y, a + y.size, ⟨#[]⟩, false⟩, 0)) = res) := hres
  clear hres
  have HM : Hid (Tryd.prog.follows .mixedOrders = true) := hM
  have hn1 : ¬ bx = w.heap.size + 1 := by omega
  have hn2 : ¬ w.heap.size + 1 = bx := by omega
  clear hst hR hy C hsz hx hM hT
  go_enter Tryd.func79, Tryd.ntmps79
  go_wp2
  generalize (w.alloc (.cells #[.string s, .int .i64 a, .int .i64 r, .int .i64 n] 57)).alloc (.cells #[.int .i64 0, .int .i64 0, .string ⟨#[]⟩, .int .i64 0, .string ⟨#[]⟩, .bool false] 33) = W0 at HF ⊢
  obtain ⟨c0, c1, c2, c3, c4⟩ := HF.out.get
  have HD : Hid (Fd w s a r n bx (.func (.func f) #[] #[]) W0.drew) := HF.out.below ⟨rfl, rfl, rfl, Nat.le_refl _, fun _ _ => rfl⟩
  clear HF
  go_region_held3 (fun W => W.cell? ⟨w.heap.size, 0, none⟩ = some (.string s) ∧ W.cell? ⟨w.heap.size, 1, none⟩ = some (.int .i64 a) ∧ W.cell? ⟨w.heap.size, 2, none⟩ = some (.int .i64 r) ∧ W.cell? ⟨w.heap.size, 3, none⟩ = some (.int .i64 n) ∧ W.cell? ⟨bx, 0, none⟩ = some (.func (.func f) #[] #[]))
    (first | go_keep | exact HD.out.get)
    (first
      | (go_at_call 71; refine (C1.out _ HD.out).mono ?_; clear C1 HD; rintro e' w1 ⟨b, rfl, H1⟩; have HD : Hid (Fd w s a r n bx (.func (.func f) #[] #[]) w1) := H1.out.1)
      | (go_at_call 87; refine (C2.out _ _ H1.out).mono ?_; clear C2 HD H1; rintro e' w2 ⟨rfl, HD⟩))
  clear c0 c1 c2 c3 c4
  obtain ⟨c0, c1, c2, c3, c4⟩ := HD.out.get
  obtain ⟨-, ⟨f0, f1, f2, f3, f4, f5⟩, ⟨z0, z1, z2, z3, z4, z5⟩⟩ := HD.out.f.get
  by_cases h0 : R = a
  · subst h0
    have HE : Hid (res = (chz, 8)) := by show _ = _; rw [← HR.out, if_pos rfl]
    clear HR
    go_wp2
    obtain ⟨k1, k2, k3, k4, k5, k6, k7⟩ := HD.out.f.fin (.int .i64 0) (.int .i64 0) (.string ⟨#[]⟩) (.int .i64 0) (.string ⟨#[]⟩) (.bool false)
    exact bodyPost_ret (v := rsv (chz, 8)) (by simp [results, Tryd.results79, go_sem, rsv, chc, chz, k2, k3, k4, k5, k6, k7]) rfl ⟨by rw [HE.out], k1⟩
  · have HE : Hid (res = (⟨a, R - a, y, a + y.size, ⟨#[]⟩, false⟩, 0)) := by show _ = _; rw [← HR.out, if_neg h0]
    clear HR
    have h1 : ¬ ((R : Int) = a) := by omega
    have h2 : ((R : Int) == a) = false := by simp; omega
    go_wp2
    have t0 := cell_rgw c0
    have t1 := cell_rgw c1
    have t2 := cell_rgw c4
    have cP := call_rgw (W := w2) (f := f) (args := #[.string (s.extract a R)]) (v := .string y) (fun W hW => C3.out W (below_on HD.out.f.bel hW))
    have cQ := call_rgw (W := w2) (f := 80) (args := #[.int .i64 a, .int .i64 R, .string y]) (v := .agg #[.int .i64 a, .int .i64 (R - a : Nat), .string y, .int .i64 (a + y.size : Nat), .string ⟨#[]⟩, .bool false]) (fun W _ => C4.out W)
    have b1 : (0 : Int) ≤ a ∧ (a : Int) ≤ R ∧ (R : Int) ≤ s.size := by omega
    clear c0 c1 c2 c3 c4 C3 C4 z0 z1 z2 z3 z4 z5 f0 f1 f2 f3 f4 f5
    refine region_then2 HM.out (by kernel_rfl) (by kernel_rfl) (by kernel_rfl) (by kernel_rfl) rfl rfl rfl rfl ?_
    dsimp only [List.dropLast, List.getLast]
    repeat (go_big_quiet_step (first | exact cP _ _ | exact cQ _ _))
    refine wpQuiet_nil ?_
    intro _ hw'
    obtain ⟨⟨dq, osq⟩, hw''⟩ := hw'
    subst hw''
    have HX : Hid (Fb w s a r n (grow (redrawn w2 dq) osq)) := HD.out.f.below (below_regrown w2 dq osq)
    simp only at HX ⊢
    generalize grow (redrawn w2 dq) osq = W1 at HX ⊢
    clear t0 t1 t2 cP cQ HD
    obtain ⟨-, ⟨f0, f1, f2, f3, f4, f5⟩, ⟨z0, z1, z2, z3, z4, z5⟩⟩ := HX.out.get
    refine .inr ⟨(((((W1.setCell ⟨w.heap.size + 1, 0, none⟩ (.int .i64 a)).setCell ⟨w.heap.size + 1, 1, none⟩ (.int .i64 (R - a : Nat))).setCell ⟨w.heap.size + 1, 2, none⟩ (.string y)).setCell ⟨w.heap.size + 1, 3, none⟩ (.int .i64 (a + y.size : Nat))).setCell ⟨w.heap.size + 1, 4, none⟩ (.string ⟨#[]⟩)).setCell ⟨w.heap.size + 1, 5, none⟩ (.bool false), (by go_simp), ?_⟩
    obtain ⟨k1, k2, k3, k4, k5, k6, k7⟩ := HX.out.fin (.int .i64 a) (.int .i64 (R - a : Nat)) (.string y) (.int .i64 (a + y.size : Nat)) (.string ⟨#[]⟩) (.bool false)
    have HK : Hid (Below w.heap.size w ((((((W1.setCell ⟨w.heap.size + 1, 0, none⟩ (.int .i64 a)).setCell ⟨w.heap.size + 1, 1, none⟩ (.int .i64 (R - a : Nat))).setCell ⟨w.heap.size + 1, 2, none⟩ (.string y)).setCell ⟨w.heap.size + 1, 3, none⟩ (.int .i64 (a + y.size : Nat))).setCell ⟨w.heap.size + 1, 4, none⟩ (.string ⟨#[]⟩)).setCell ⟨w.heap.size + 1, 5, none⟩ (.bool false))) := k1
    generalize (((((W1.setCell ⟨w.heap.size + 1, 0, none⟩ (.int .i64 a)).setCell ⟨w.heap.size + 1, 1, none⟩ (.int .i64 (R - a : Nat))).setCell ⟨w.heap.size + 1, 2, none⟩ (.string y)).setCell ⟨w.heap.size + 1, 3, none⟩ (.int .i64 (a + y.size : Nat))).setCell ⟨w.heap.size + 1, 4, none⟩ (.string ⟨#[]⟩)).setCell ⟨w.heap.size + 1, 5, none⟩ (.bool false) = W2 at HK k2 k3 k4 k5 k6 k7 ⊢
    clear k1 z0 z1 z2 z3 z4 z5 f0 f1 f2 f3 f4 f5 HX
    refine .inl ⟨.int .i64 0, W2, (by dsimp only [Act.put]; go_simp), ?_⟩
    dsimp only [Act.put]
    go_wp2
    exact bodyPost_ret (v := rsv (⟨a, R - a, y, a + y.size, ⟨#[]⟩, false⟩, 0)) (by simp [results, Tryd.results79, go_sem, rsv, chc, k2, k3, k4, k5, k6, k7]) rfl ⟨by rw [HE.out], HK.out⟩
end Go.Proofs.YtiejollfeggeoaaDoor
