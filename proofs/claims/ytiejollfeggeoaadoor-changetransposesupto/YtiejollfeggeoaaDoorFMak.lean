/-
  Package change's makers by lines and regions: killLineStart, killRegion, copyRegion, transposeChars. Conditions: those of each theorem.
-/
import Derived.Test.YtiejollfeggeoaaDoorFLin
import Derived.Test.YtiejollfeggeoaaDoorFSwp
namespace Go.Proofs.YtiejollfeggeoaaDoor
open Go.RowKit Go.Shelf Bod Wid

theorem killP_le {s : ByteArray} {a t : Nat} : ∃ c e, killP s a t = (c, e) := ⟨_, _, rfl⟩
set_option maxRecDepth 100000 in
set_option maxHeartbeats 1000000 in
theorem killLineStart_any (s : ByteArray) (hs : s.size ≤ 1099511627776) (a : Nat) (ha : cbZ s a = true) (r : Int) (n : Nat) (w : World) :
    Calls Tryd.prog 49 #[scv s a r n] w fun e W' => e = .returned (rsv (killP s a (lnP s a).1)) ∧ Below w.heap.size w W' := by
  have hal := cb_le ha
  have hle := (lnP_pl ha).le
  have HF : Hid (Fb w s a r n ((w.alloc (.cells #[.string s, .int .i64 a, .int .i64 r, .int .i64 n] 57)).alloc (.cells #[.int .i64 0, .int .i64 0, .string ⟨#[]⟩, .int .i64 0, .string ⟨#[]⟩, .bool false] 33))) := fb0 w s a r n
  have C1 := fun W (hW : Fb w s a r n W) => (lineStart_any s hs a ha W).mono fun e W' q => (⟨q.1, hW.below q.2⟩ : e = .returned (.int .i64 (lnP s a).1) ∧ Fb w s a r n W')
  generalize (lnP s a).1 = p at *
  obtain ⟨c, e, hce⟩ : ∃ c e, killP s a p = (c, e) := ⟨_, _, rfl⟩
  obtain ⟨q0, q1, q2, q3, q4, q5⟩ := c
  have C2 : Hid (∀ W, Fb w s a r n W → Calls Tryd.prog 76 #[.string s, .int .i64 a] W fun e W' => e = .returned (.int .i64 p) ∧ Hid (Fb w s a r n W')) := C1
  have C3 : Hid (∀ W, Fb w s a r n W → Calls Tryd.prog 73 #[.agg #[.string s, .int .i64 a, .int .i64 r, .int .i64 n], .int .i64 p] W fun e' W' => e' = .returned (.tuple #[.agg #[.int .i64 q0, .int .i64 q1, .string q2, .int .i64 q3, .string q4, .bool q5], .int .i64 e]) ∧ Hid (Fb w s a r n W')) := fun W hW => by
    have := killTo_any W s a r n p hs hal (by omega)
    rw [hce] at this
    exact this.mono fun e W' ⟨k1, k2⟩ => ⟨k1, hW.below k2⟩
  rw [hce]
  unfold scv
  clear C1 hce
  go_enter Tryd.func49, Tryd.ntmps49
  go_wp2
  generalize (w.alloc (.cells #[.string s, .int .i64 a, .int .i64 r, .int .i64 n] 57)).alloc (.cells #[.int .i64 0, .int .i64 0, .string ⟨#[]⟩, .int .i64 0, .string ⟨#[]⟩, .bool false] 33) = W0 at HF ⊢
  obtain ⟨⟨c0, c1, c2, c3⟩, -⟩ := HF.out.get
  have HD : Hid (Fb w s a r n W0.drew) := HF.out.below ⟨rfl, rfl, rfl, Nat.le_refl _, fun _ _ => rfl⟩
  clear HF
  go_region_held3 (fun W => W.cell? ⟨w.heap.size, 0, none⟩ = some (.string s) ∧ W.cell? ⟨w.heap.size, 1, none⟩ = some (.int .i64 a) ∧ W.cell? ⟨w.heap.size, 2, none⟩ = some (.int .i64 r) ∧ W.cell? ⟨w.heap.size, 3, none⟩ = some (.int .i64 n))
    (first | go_keep | exact HD.out.get.1)
    (first
      | (go_at_call 76; refine (C2.out _ HD.out).mono ?_; clear C2 HD; rintro e' w1 ⟨rfl, HD⟩)
      | (go_at_call 73; refine (C3.out _ HD.out).mono ?_; clear C3 HD; rintro e' w3 ⟨rfl, HD⟩; obtain ⟨⟨y0, y1, y2, y3⟩, ⟨f0, f1, f2, f3, f4, f5⟩, ⟨z0, z1, z2, z3, z4, z5⟩⟩ := HD.out.get))
  go_wp2
  obtain ⟨k1, k2, k3, k4, k5, k6, k7⟩ := HD.out.fin (.int .i64 q0) (.int .i64 q1) (.string q2) (.int .i64 q3) (.string q4) (.bool q5)
  exact bodyPost_ret (v := rsv (⟨q0, q1, q2, q3, q4, q5⟩, e)) (by simp [results, Tryd.results49, go_sem, rsv, chc, k2, k3, k4, k5, k6, k7]) rfl ⟨rfl, k1⟩
/-- the region as a scene has it -/
def rgv : Option Nat → Int
  | none => -1
  | some r => r
def killR (s : ByteArray) (a : Nat) : Option Nat → Chg × Int
  | none => (chz, 7)
  | some r => killP s a r
def copyR (s : ByteArray) (a : Nat) : Option Nat → Chg × Int
  | none => (chz, 7)
  | some r => copyP s a r
set_option maxRecDepth 100000 in
set_option maxHeartbeats 1000000 in
theorem killRegion_any (s : ByteArray) (hs : s.size ≤ 1099511627776) (a : Nat) (ha : a ≤ s.size) (r : Option Nat) (hr : ∀ x, r = some x → x ≤ s.size) (n : Nat) (w : World) :
    Calls Tryd.prog 50 #[scv s a (rgv r) n] w fun e W' => e = .returned (rsv (killR s a r)) ∧ Below w.heap.size w W' := by
  have HF : Hid (Fb w s a (rgv r) n ((w.alloc (.cells #[.string s, .int .i64 a, .int .i64 (rgv r), .int .i64 n] 57)).alloc (.cells #[.int .i64 0, .int .i64 0, .string ⟨#[]⟩, .int .i64 0, .string ⟨#[]⟩, .bool false] 33))) := fb0 w s a (rgv r) n
  unfold scv
  cases r with
  | none =>
    unfold rgv killR
    unfold rgv at HF
    simp only at HF ⊢
    go_enter Tryd.func50, Tryd.ntmps50
    go_wp2
    exact bodyPost_ret (v := rsv (chz, 7)) (by simp [results, Tryd.results50, go_sem, rsv, chc, chz]) rfl ⟨rfl, HF.out.bel⟩
  | some x =>
    have hx := hr x rfl
    unfold killR
    obtain ⟨c, e, hce⟩ : ∃ c e, killP s a x = (c, e) := ⟨_, _, rfl⟩
    obtain ⟨q0, q1, q2, q3, q4, q5⟩ := c
    simp only
    have C3 : Hid (∀ W, Fb w s a x n W → Calls Tryd.prog 73 #[.agg #[.string s, .int .i64 a, .int .i64 x, .int .i64 n], .int .i64 x] W fun e' W' => e' = .returned (.tuple #[.agg #[.int .i64 q0, .int .i64 q1, .string q2, .int .i64 q3, .string q4, .bool q5], .int .i64 e]) ∧ Hid (Fb w s a x n W')) := fun W hW => by
      have := killTo_any W s a x n x hs ha hx
      rw [hce] at this
      exact this.mono fun e W' ⟨k1, k2⟩ => ⟨k1, hW.below k2⟩
    rw [hce]
    unfold rgv at HF ⊢
    simp only at HF ⊢
    have h0 : ¬ ((x : Int) = -1) := by omega
    have h1 : ((x : Int) == -1) = false := by simp <;> omega
    clear hce hr
    go_enter Tryd.func50, Tryd.ntmps50
    go_wp2_with (go_at_call 73; refine (C3.out _ HF.out).mono ?_; clear C3 HF; rintro e' w3 ⟨rfl, HD⟩; obtain ⟨⟨y0, y1, y2, y3⟩, ⟨f0, f1, f2, f3, f4, f5⟩, ⟨z0, z1, z2, z3, z4, z5⟩⟩ := HD.out.get)
    obtain ⟨k1, k2, k3, k4, k5, k6, k7⟩ := HD.out.fin (.int .i64 q0) (.int .i64 q1) (.string q2) (.int .i64 q3) (.string q4) (.bool q5)
    exact bodyPost_ret (v := rsv (⟨q0, q1, q2, q3, q4, q5⟩, e)) (by simp [results, Tryd.results50, go_sem, rsv, chc, k2, k3, k4, k5, k6, k7]) rfl ⟨rfl, k1⟩
set_option maxRecDepth 100000 in
set_option maxHeartbeats 1000000 in
theorem copyRegion_any (s : ByteArray) (hs : s.size ≤ 1099511627776) (a : Nat) (ha : a ≤ s.size) (r : Option Nat) (hr : ∀ x, r = some x → x ≤ s.size) (n : Nat) (w : World) :
    Calls Tryd.prog 51 #[scv s a (rgv r) n] w fun e W' => e = .returned (rsv (copyR s a r)) ∧ Below w.heap.size w W' := by
  have HF : Hid (Fb w s a (rgv r) n ((w.alloc (.cells #[.string s, .int .i64 a, .int .i64 (rgv r), .int .i64 n] 57)).alloc (.cells #[.int .i64 0, .int .i64 0, .string ⟨#[]⟩, .int .i64 0, .string ⟨#[]⟩, .bool false] 33))) := fb0 w s a (rgv r) n
  have hk : (∃ e, killR s a r = (chz, e) ∧ copyR s a r = (chz, e) ∧ e ≠ 0) ∨ ∃ c : Chg, killR s a r = (c, 0) ∧ copyR s a r = (⟨0, 0, ⟨#[]⟩, a, c.kill, false⟩, 0) := by
    cases r with
    | none => exact .inl ⟨7, rfl, rfl, by decide⟩
    | some x =>
      unfold killR copyR killP copyP
      by_cases h : x = a
      · exact .inl ⟨8, by simp [h], by simp [h], by decide⟩
      · exact .inr ⟨_, by simp only; rw [if_neg h], by simp only; rw [if_neg h]⟩
  have C := fun W (hW : Fb w s a (rgv r) n W) => (killRegion_any s hs a ha r hr n W).mono fun e W' q => (⟨q.1, hW.below q.2⟩ : e = .returned (rsv (killR s a r)) ∧ Fb w s a (rgv r) n W')
  generalize rgv r = x at *
  unfold scv at C ⊢
  rcases hk with ⟨e, k1, k2, k3⟩ | ⟨c, k1, k2⟩
  · rw [k1] at C
    rw [k2]
    have C3 : Hid (∀ W, Fb w s a x n W → Calls Tryd.prog 50 #[.agg #[.string s, .int .i64 a, .int .i64 x, .int .i64 n]] W fun e' W' => e' = .returned (.tuple #[.agg #[.int .i64 0, .int .i64 0, .string ⟨#[]⟩, .int .i64 0, .string ⟨#[]⟩, .bool false], .int .i64 e]) ∧ Hid (Fb w s a x n W')) := C
    have h1 : (e == 0) = false := by simp <;> omega
    have h2 : decide (e = 0) = false := by simp <;> omega
    clear C k1 k2 hr
    go_enter Tryd.func51, Tryd.ntmps51
    go_upto_region 2 with (go_at_call 50; refine (C3.out _ HF.out).mono ?_; clear C3 HF; rintro e' w1 ⟨rfl, HF⟩)
    have HG : Hid (Fb w s a x n (w1.alloc (.cells #[.int .i64 0, .int .i64 0, .string ⟨#[]⟩, .int .i64 0, .string ⟨#[]⟩, .bool false] 33))) := HF.out.below ((Below.refl _ w1).alloc (Nat.le_refl _) _)
    generalize w1.alloc (.cells #[.int .i64 0, .int .i64 0, .string ⟨#[]⟩, .int .i64 0, .string ⟨#[]⟩, .bool false] 33) = w2 at HG ⊢
    clear HF
    obtain ⟨-, ⟨f0, f1, f2, f3, f4, f5⟩, ⟨z0, z1, z2, z3, z4, z5⟩⟩ := HG.out.get
    go_wp2
    obtain ⟨k1, k2, k3, k4, k5, k6, k7⟩ := HG.out.fin (.int .i64 0) (.int .i64 0) (.string ⟨#[]⟩) (.int .i64 0) (.string ⟨#[]⟩) (.bool false)
    exact bodyPost_ret (v := rsv (chz, e)) (by simp [results, Tryd.results51, go_sem, rsv, chc, chz, k2, k3, k4, k5, k6, k7]) rfl ⟨rfl, k1⟩
  · rw [k1] at C
    rw [k2]
    obtain ⟨q0, q1, q2, q3, q4, q5⟩ := c
    simp only
    have C3 : Hid (∀ W, Fb w s a x n W → Calls Tryd.prog 50 #[.agg #[.string s, .int .i64 a, .int .i64 x, .int .i64 n]] W fun e' W' => e' = .returned (.tuple #[.agg #[.int .i64 q0, .int .i64 q1, .string q2, .int .i64 q3, .string q4, .bool q5], .int .i64 0]) ∧ Hid (Fb w s a x n W')) := C
    clear C k1 k2 hr
    go_enter Tryd.func51, Tryd.ntmps51
    go_upto_region 2 with (go_at_call 50; refine (C3.out _ HF.out).mono ?_; clear C3 HF; rintro e' w1 ⟨rfl, HF⟩)
    have HG : Hid (Fc w s a x n w1.heap.size ⟨q0, q1, q2, q3, q4, q5⟩ (w1.alloc (.cells #[.int .i64 q0, .int .i64 q1, .string q2, .int .i64 q3, .string q4, .bool q5] 33))) := HF.out.new _
    generalize w1.alloc (.cells #[.int .i64 q0, .int .i64 q1, .string q2, .int .i64 q3, .string q4, .bool q5] 33) = w2 at HG ⊢
    generalize w1.heap.size = b at HG ⊢
    clear HF
    obtain ⟨⟨y0, y1, y2, y3, y4, y5⟩, g4, g5, hl⟩ := HG.out.get
    simp only at y0 y1 y2 y3 y4 y5
    obtain ⟨⟨c0, c1, c2, c3⟩, ⟨f0, f1, f2, f3, f4, f5⟩, ⟨z0, z1, z2, z3, z4, z5⟩⟩ := HG.out.f.get
    go_wp2
    obtain ⟨k1, k2, k3, k4, k5, k6, k7⟩ := HG.out.f.fin (.int .i64 0) (.int .i64 0) (.string ⟨#[]⟩) (.int .i64 a) (.string q4) (.bool false)
    exact bodyPost_ret (v := rsv (⟨0, 0, ⟨#[]⟩, a, q4, false⟩, 0)) (by simp [results, Tryd.results51, go_sem, rsv, chc, k2, k3, k4, k5, k6, k7]) rfl ⟨rfl, k1⟩
end Go.Proofs.YtiejollfeggeoaaDoor
