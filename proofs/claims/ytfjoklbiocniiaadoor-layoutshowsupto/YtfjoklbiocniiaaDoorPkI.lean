/-
  cluster.Walk as an iterator, and what is counted by it. Conditions: those of each theorem.
-/
import Derived.Laws.EntriesVeiled
import Derived.Test.YtfjoklbiocniiaaDoorPkX
import Derived.Test.YtfjoklbiocniiaaDoorCWalk
import Derived.Test.YtfjoklbiocniiaaDoorPkB
namespace Go.Proofs.YtfjoklbiocniiaaDoor
open Go.RowKit Go.Shelf Bod Wid
attribute [local go_sem] Oper.semAt_some

abbrev encC (c : Clu) : Array Value := #[cv c]

theorem isEmpty_of {s : ByteArray} (h0 : s.size = 0) : s.toList.isEmpty = true := by
  rw [Lib.toList_data]
  have : s.data.toList = [] := List.eq_nil_of_length_eq_zero (by rw [← Lib.size_eq]; exact h0)
  rw [this]; rfl
theorem notEmpty_of {s : ByteArray} (h0 : ¬ s.size = 0) : s.toList.isEmpty = false := by
  rw [Lib.toList_data]
  cases h : s.data.toList with
  | nil => exact absurd (by rw [Lib.size_eq, h]; rfl) h0
  | cons _ _ => rfl
theorem kf_below {B : Nat} {W W' : World} (h : Below W.heap.size W W') : KeepsFrom B W W' := ⟨h.size, fun k _ _ hk _ => (h.block k (Array.getElem?_eq_some_iff.1 hk).1).trans hk⟩
theorem kf_cells {B r : Nat} {W W' : World} {vs : Array Value} {t : TypeId} {fz : Nat × Nat} (h : W.grownBy W' (some r)) (hr : W.heap[r]? = some (.cells vs t fz)) : KeepsFrom B W W' :=
  ⟨h.size, fun k _ _ hk hc => (h.block k (Array.getElem?_eq_some_iff.1 hk).1 (fun e => by cases e; rw [hr] at hk; cases hk; cases hc)).trans hk⟩
theorem kf_trans {B : Nat} {X Y Z : World} (h : KeepsFrom B X Y) (k : KeepsFrom B Y Z) : KeepsFrom B X Z := ⟨Nat.le_trans h.size k.size, fun i o a b c => k.same i o a (h.same i o a b c) c⟩

theorem kf_mono {B B' : Nat} {X Y : World} (h : KeepsFrom B X Y) (hB : B ≤ B') : KeepsFrom B' X Y := ⟨h.size, fun i o a b c => h.same i o (Nat.le_trans hB a) b c⟩
/-- what holds between two rounds of the loop over the units: b0 the block of yield, b1 that of the cluster under way, b2 that of the character ahead -/
structure CI (s : ByteArray) (l Bs b0 b1 b2 : Nat) (J : List Clu → World → Prop) (pre : List Nat) (W : World) : Prop where
  inv : ∃ i, Inv s pre i
  j : J (st s pre).1 W
  q0 : W.heap[b0]? = some (.cells #[.func (.yield l) #[] #[]] 86 (0, 0))
  q1 : W.heap[b1]? = some (.cells (cvs (st s pre).2.1) 56 (0, 0))
  q2 : W.heap[b2]? = some (.cells #[.int .i32 (st s pre).2.2] 21 (0, 0))
  qs : W.heap[Bs]? = some (.cells #[.string s] 9 (0, 0))
theorem ci_ab {s : ByteArray} {l Bs b0 b1 b2 B lo hi B' lo' hi' : Nat} {J : List Clu → World → Prop} (hJ : Ab B' lo' hi' J) (h1 : B' ≤ B) (h2 : ∀ r, lo ≤ r → r < hi → lo' ≤ r ∧ r < hi') (hb0 : b0 < B) (hb1 : b1 < B) (hb2 : b2 < B) (hbs : Bs < B) : Ab B lo hi (CI s l Bs b0 b1 b2 J) := fun _ X Y row h hg hr =>
  ⟨h.inv, (hJ.wide h1 h2) _ X Y row h.j hg hr, ab_block (o := fun _ : Unit => _) hb0 () X Y row h.q0 hg hr, ab_block (o := fun _ : Unit => _) hb1 () X Y row h.q1 hg hr, ab_block (o := fun _ : Unit => _) hb2 () X Y row h.q2 hg hr, ab_block (o := fun _ : Unit => _) hbs () X Y row h.qs hg hr⟩
/-- behind a round in which the cluster under way and the character ahead were written -/
theorem ci_next {s : ByteArray} {l Bs b0 b1 b2 B B4 i : Nat} {J : List Clu → World → Prop} {M : Nat → Obj → Prop} {pre : List Nat} {c : Clu} {v : Value} {vs : Array Value} {W w1 : World} (hinv : Inv s pre i) (hi : i < s.size) (hJ : Ab B B (B + 4) J)
    (hb : b0 ≠ b1 ∧ b0 ≠ b2 ∧ b1 ≠ b2 ∧ Bs ≠ b1 ∧ Bs ≠ b2) (h1 : B ≤ b1 ∧ b1 < B + 4) (h2 : B ≤ b2 ∧ b2 < B + 4) (m1 : ∀ o, M b1 o) (m2 : ∀ o, M b2 o)
    (hk : KpT M W w1) (kf : KeepsFrom B4 W w1) (hj : J (st s (pre ++ [i])).1 w1) (hc : (st s (pre ++ [i])).2.1 = c) (ha : (st s (pre ++ [i])).2.2 = ch s i)
    (q0 : w1.heap[b0]? = some (.cells #[.func (.yield l) #[] #[]] 86 (0, 0))) (q1 : w1.heap[b1]? = some (.cells vs 56 (0, 0))) (hvs : ∃ v0 v1 v2 v3, vs = #[v0, v1, v2, v3]) (q2 : w1.heap[b2]? = some (.cells #[v] 21 (0, 0))) (qs : w1.heap[Bs]? = some (.cells #[.string s] 9 (0, 0))) :
    ∀ W', W' = (((((w1.setCell ⟨b1, 0, none⟩ (.int .i64 c.fr)).setCell ⟨b1, 1, none⟩ (.int .i64 c.to)).setCell ⟨b1, 2, none⟩ (.int .i64 c.k)).setCell ⟨b1, 3, none⟩ (.int .i64 c.n)).setCell ⟨b2, 0, none⟩ (.int .i32 (ch s i))) →
    KeepsFrom B4 W W' ∧ KpT M W W' ∧ CI s l Bs b0 b1 b2 J (pre ++ [i]) W' := by
  intro W' hW'
  obtain ⟨v0, v1, v2, v3, rfl⟩ := hvs
  obtain ⟨hb1, hb2, hb3, hb4, hb5⟩ := hb
  have g1 := grown4 w1 b1 (.int .i64 c.fr) (.int .i64 c.to) (.int .i64 c.k) (.int .i64 c.n)
  have s1 := set4 (u0 := .int .i64 c.fr) (u1 := .int .i64 c.to) (u2 := .int .i64 c.k) (u3 := .int .i64 c.n) q1
  revert hW'
  generalize ((((w1.setCell ⟨b1, 0, none⟩ (.int .i64 c.fr)).setCell ⟨b1, 1, none⟩ (.int .i64 c.to)).setCell ⟨b1, 2, none⟩ (.int .i64 c.k)).setCell ⟨b1, 3, none⟩ (.int .i64 c.n)) = w2 at g1 s1
  intro hW'
  have keep1 : ∀ {k : Nat} {o : Obj}, w1.heap[k]? = some o → k ≠ b1 → w2.heap[k]? = some o := fun ho hne => (g1.block _ (Array.getElem?_eq_some_iff.1 ho).1 (fun e => hne (by cases e; rfl))).trans ho
  have p2 := keep1 q2 (fun e => hb3 e.symm)
  have g2 := gcell w2 b2 0 (.int .i32 (ch s i))
  have s2 := set1 (i := 0) (.int .i32 (ch s i)) p2
  rw [← hW'] at g2 s2
  have keep2 : ∀ {k : Nat} {o : Obj}, w2.heap[k]? = some o → k ≠ b2 → W'.heap[k]? = some o := fun ho hne => (g2.block _ (Array.getElem?_eq_some_iff.1 ho).1 (fun e => hne (by cases e; rfl))).trans ho
  refine ⟨kf_trans kf (kf_trans (kf_cells g1 q1) (kf_cells g2 p2)), hk.trans ((KpT.of_grown g1 (fun r o e _ => by cases e; exact m1 o)).trans (KpT.of_grown g2 (fun r o e _ => by cases e; exact m2 o))), ⟨⟨_, inv_step hinv hi⟩, hJ.own (hJ.own hj g1 h1.1 h1.1 h1.2) g2 h2.1 h2.1 h2.2, keep2 (keep1 q0 hb1) hb2, ?_, ?_, keep2 (keep1 qs hb4) hb5⟩⟩
  · rw [hc]; exact keep2 s1 hb3
  · rw [ha]; exact s2

set_option maxRecDepth 100000 in
set_option maxHeartbeats 1000000 in
theorem clu_seq (n : Nat) (hn : 3 ≤ n) (Bs B : Nat) (M : Nat → Obj → Prop) (s : ByteArray) (hs : s.size ≤ maxLen) (hM0 : ∀ o, ¬ M 0 o) (hM1 : ∀ o, ¬ M 1 o) (hMB : ∀ o, ¬ M Bs o) (hMO : ∀ k o, B ≤ k → k < B + 4 → ¬ M k o) (hMU : ∀ k vs fz, B ≤ k → ¬ M k (.cells vs 82 fz))
    (w : World) (hwB : w.heap.size ≤ B) (_h0 : 0 < w.heap.size) (_h1 : 1 < w.heap.size) (hBs : w.heap[Bs]? = some (.cells #[.string s] 9 (0, 0))) (hT : Lib.Utf8Tabs 0 1 w) :
    SeqC Fence.wide n Tryd.prog 43 #[.pointer (some ⟨Bs, 0, none⟩)] encC (KpT M) (fun ys => ys = cl s) (fun pre => pre <+: cl s) (fun pre x => pre ++ [x] <+: cl s) 4 B w := by
  intro l J Jx W hWB hW hJ hJx hY hJ0
  have hlt : Bs < w.heap.size := (Array.getElem?_eq_some_iff.1 hBs).1
  have hBW : W.heap[Bs]? = some (.cells #[.string s] 9 (0, 0)) := (hW.block Bs hlt).trans hBs
  have hTW : Lib.Utf8Tabs 0 1 W := tabs_below hT hW
  have hcs : W.cell? ⟨Bs, 0, none⟩ = some (.string s) := by simp [World.cell?, hBW]
  have hn1 : 1 ≤ n := by omega
  have hn2 : 1 ≤ n - 1 := by omega
  have hn3 : 1 ≤ n - 1 - 1 := by omega
  subst hWB
  have hcA : ∀ o1 o2 o3, (((W.alloc o1).alloc o2).alloc o3).cell? ⟨Bs, 0, none⟩ = some (.string s) := fun o1 o2 o3 => (KpT.of_below (M := fun _ _ => False) ((((Below.refl _ W).alloc (Nat.le_refl _) _).alloc (by simp) _).alloc (by simp; omega) _)).cell (fun _ _ h => h) hcs
  refine callsIn_of_wp_marks Tryd.func43 rfl trivial ?_ rfl
  simp only [Tryd.ntmps43, List.size_toArray, List.length_cons, List.length_nil, Nat.reduceAdd, Nat.reduceSub, Array.replicate_succ, Array.replicate_zero, List.push_toArray, List.append_toArray, List.nil_append, List.cons_append]
  gi_wp2_with (refine ⟨trivial, ?_⟩; gi_at_call 44; refine (uwalk_in (n - 1) _ _).mono ?_; rintro e w' ⟨rfl, rfl⟩)
  obtain ⟨W4, hW4⟩ : ∃ W4, ((((W.alloc (.cells #[.func (.yield l) #[] #[]] 86)).alloc (.cells #[.int .i64 0, .int .i64 0, .int .i64 0, .int .i64 0] 56)).alloc (.cells #[.int .i32 0] 21)).alloc (.cells #[.string s] 9)) = W4 := ⟨_, rfl⟩
  rw [hW4]
  have hsz : W4.heap.size = W.heap.size + 4 := by rw [← hW4]; simp
  have hB4 : Below W.heap.size W W4 := by rw [← hW4]; exact ((((Below.refl _ W).alloc (Nat.le_refl _) _).alloc (by simp) _).alloc (by simp; omega) _).alloc (by simp; omega) _
  obtain ⟨p0, p1, p2, p3⟩ : W4.heap[W.heap.size]? = some (.cells #[.func (.yield l) #[] #[]] 86 (0, 0)) ∧ W4.heap[W.heap.size + 1]? = some (.cells #[.int .i64 0, .int .i64 0, .int .i64 0, .int .i64 0] 56 (0, 0)) ∧ W4.heap[W.heap.size + 1 + 1]? = some (.cells #[.int .i32 0] 21 (0, 0)) ∧ W4.heap[W.heap.size + 1 + 1 + 1]? = some (.cells #[.string s] 9 (0, 0)) := by rw [← hW4]; exact push4 W.heap _ _ _ _
  have hBW4 : W4.heap[Bs]? = some (.cells #[.string s] 9 (0, 0)) := (hB4.block Bs (by have := hW.size; omega)).trans hBW
  have hJ4 : J [] W4 := by rw [← hW4]; exact hJ.alloc _ (hJ.alloc _ (hJ.alloc _ (hJ.alloc _ hJ0)))
  have hWs := hW.size
  clear hW4 hcA hcs
  refine range_own rfl hn1 (gf := 64) (lb := #[.pointer (some ⟨W.heap.size + 1 + 1 + 1, 0, none⟩)]) rfl trivial (enters_of Tryd.func64 (by kernel_rfl) rfl)
    (unit_seq (n - 1) hn2 (W.heap.size + 1 + 1 + 1) (W4.heap.size + 2) (fun k o => M k o ∨ k = W.heap.size + 1 ∨ k = W.heap.size + 1 + 1) s hs
      (fun o h => by rcases h with h | h | h; exact hM0 o h; all_goals omega) (fun o h => by rcases h with h | h | h; exact hM1 o h; all_goals omega)
      (fun o h => by rcases h with h | h | h; exact hMO _ o (by omega) (by omega) h; all_goals omega) (fun k vs fz hk h => by rcases h with h | h | h; exact hMU k vs fz (by omega) h; all_goals omega)
      W4 (by simp [World.cell?, p3]) (tabs_below hTW hB4))
    KpT.trans (fun W l o o' _ _ hl ho => KpT.putObj W l o o' hl ho) (fun _ => rfl)
    (CI s l Bs W.heap.size (W.heap.size + 1) (W.heap.size + 1 + 1) J)
    (fun c _ W' => c = .ret ∧ ∃ em, em <+: cl s ∧ Jx em W')
    (ci_ab hJ (by omega) (fun r h1 h2 => by omega) (by omega) (by omega) (by omega) (by omega))
    (fun c p X Y row h hg hr => ⟨h.1, h.2.imp fun em he => ⟨he.1, hJx.wide (B' := W4.heap.size) (lo' := W4.heap.size + 2) (hi' := W4.heap.size + 2 + 0) (by omega) (fun r h1 h2 => by omega) em X Y row he.2 hg hr⟩⟩)
    ⟨⟨0, inv_start s⟩, hJ4, p0, p1, p2, hBW4⟩
    (fun x a' W' => ∃ Bx, W.heap.size + 1 + 1 < Bx ∧ W'.heap[Bx]? = some (.cells #[.int .i32 (ch s x), .int .i64 (sz s x)] 82 (0, 0)) ∧
      a' = { tmps := #[.func (.yield l) #[] #[], .pointer (some ⟨Bs, 0, none⟩), .pointer (some ⟨W.heap.size, 0, none⟩), .pointer (some ⟨W.heap.size + 1, 0, none⟩), .pointer (some ⟨W.heap.size + 1 + 1, 0, none⟩), .int .i64 x, .pointer (some ⟨Bx, 0, none⟩), .string s, .func (.func 64) #[] #[.pointer (some ⟨W.heap.size + 1 + 1 + 1, 0, none⟩)], .int .i64 x, .agg #[.int .i32 (ch s x), .int .i64 (sz s x)], undef, undef, undef, undef, undef, undef, undef, undef, undef, undef, undef, undef, undef, undef, undef, undef, undef, undef, undef, undef, undef, undef, undef, undef, undef, undef, undef, undef], defers := [] })
    (fun x a' _ X Y row h hg hr => h.imp fun Bx hx => ⟨hx.1, (hg.block Bx (Array.getElem?_eq_some_iff.1 hx.2.1).1 (fun e => by
      obtain ⟨_, (h3 | ⟨o, ho, hc⟩)⟩ := hr Bx e.symm
      · omega
      · rw [hx.2.1] at ho; cases ho; cases hc)).trans hx.2.1, hx.2.2⟩)
    ?assign ?body ?done ?stop
  case assign =>
    rintro l' pre x Wx K hi hK
    have hsx := (Array.getElem?_eq_some_iff.1 hi.q2).1
    have hbx := (Array.getElem?_eq_some_iff.1 hi.qs).1
    gi_wp2
    exact hK _ _ (kf_below ((Below.refl _ Wx).alloc (Nat.le_refl _) _)) (KpT.of_below ((Below.refl _ Wx).alloc (Nat.le_refl _) _))
      (ci_ab (B := W4.heap.size) (lo := W4.heap.size) (hi := W4.heap.size) hJ (by omega) (fun r h1 h2 => by omega) (by omega) (by omega) (by omega) (by omega) pre _ _ none hi (World.grownBy_alloc Wx _ none) (fun r e => by cases e)) ⟨Wx.heap.size, hsx, World.alloc_heap_new Wx _, rfl⟩
  case body =>
    rintro l' pre x a' Wx _ _ _ hWx hci ⟨Bx, hBx, qx, rfl⟩ hnx
    obtain ⟨⟨i, hinv⟩, hj, q0, q1, q2, qs⟩ := hci
    obtain ⟨rfl, hi⟩ := inv_next hinv hnx
    have hin := sz_in hi
    have c0 : Wx.cell? ⟨W.heap.size, 0, none⟩ = some (.func (.yield l) #[] #[]) := by simp [World.cell?, q0]
    have cx0 : Wx.cell? ⟨Bx, 0, none⟩ = some (.int .i32 (ch s x)) := by simp [World.cell?, qx]
    have cx1 : Wx.cell? ⟨Bx, 1, none⟩ = some (.int .i64 (sz s x)) := by simp [World.cell?, qx]
    have c2 : Wx.cell? ⟨W.heap.size + 1 + 1, 0, none⟩ = some (.int .i32 (st s pre).2.2) := by simp [World.cell?, q2]
    obtain ⟨⟨d0, d1, d2, d3⟩, _⟩ := box4 q1
    -- behind a call that only makes memory all lies as it lay
    have HL : Hid (∀ w1 : World, Below Wx.heap.size Wx w1 → ((w1.cell? ⟨W.heap.size + 1, 0, none⟩ = some (.int .i64 (st s pre).2.1.fr) ∧ w1.cell? ⟨W.heap.size + 1, 1, none⟩ = some (.int .i64 (st s pre).2.1.to) ∧ w1.cell? ⟨W.heap.size + 1, 2, none⟩ = some (.int .i64 (st s pre).2.1.k) ∧ w1.cell? ⟨W.heap.size + 1, 3, none⟩ = some (.int .i64 (st s pre).2.1.n)) ∧ w1.frozen? ⟨W.heap.size + 1, 0, none⟩ = false ∧ w1.frozen? ⟨W.heap.size + 1, 1, none⟩ = false ∧ w1.frozen? ⟨W.heap.size + 1, 2, none⟩ = false ∧ w1.frozen? ⟨W.heap.size + 1, 3, none⟩ = false) ∧
        w1.cell? ⟨W.heap.size + 1 + 1, 0, none⟩ = some (.int .i32 (st s pre).2.2) ∧ w1.frozen? ⟨W.heap.size + 1 + 1, 0, none⟩ = false ∧ w1.cell? ⟨Bx, 0, none⟩ = some (.int .i32 (ch s x)) ∧ w1.cell? ⟨Bx, 1, none⟩ = some (.int .i64 (sz s x)) ∧ w1.cell? ⟨W.heap.size, 0, none⟩ = some (.func (.yield l) #[] #[]) ∧
        w1.heap[W.heap.size]? = some (.cells #[.func (.yield l) #[] #[]] 86 (0, 0)) ∧ w1.heap[W.heap.size + 1]? = some (.cells (cvs (st s pre).2.1) 56 (0, 0)) ∧ w1.heap[W.heap.size + 1 + 1]? = some (.cells #[.int .i32 (st s pre).2.2] 21 (0, 0)) ∧ w1.heap[Bs]? = some (.cells #[.string s] 9 (0, 0)) ∧ w1.heap[Bx]? = some (.cells #[.int .i32 (ch s x), .int .i64 (sz s x)] 82 (0, 0)) ∧ J (st s pre).1 w1) := fun w1 hb => by
      have kp : ∀ {k : Nat} {o : Obj}, Wx.heap[k]? = some o → w1.heap[k]? = some o := fun ho => (hb.block _ (Array.getElem?_eq_some_iff.1 ho).1).trans ho
      exact ⟨box4 (kp q1), by simp [World.cell?, kp q2], by simp [World.frozen?, kp q2], by simp [World.cell?, kp qx], by simp [World.cell?, kp qx], by simp [World.cell?, kp q0], kp q0, kp q1, kp q2, kp qs, kp qx, hJ.grow hj (grown_of_below hb)⟩
    have hms : s.size ≤ 9223372036854775807 := by unfold maxLen at hs; omega
    have HI : Hid (Inv s pre x) := hinv
    have HWx : Hid (W4.heap.size + 2 + 0 ≤ Wx.heap.size) := hWx
    clear hWx
    have HJ' : Hid (J (st s pre).1 Wx) := hj
    have hcases := hinv.2.2
    clear hinv hj q0 q1 q2 qs qx
    rcases hcases with ⟨_, hx0⟩ | ⟨hne, hpos, hto, hfr⟩
    · have hx1 : ((x : Int) == 0) = true := by rw [hx0]; rfl
      have HX : Hid (x = 0) := hx0
      clear hx0
      gi_wp2_with (refine ⟨trivial, ?_⟩; gi_at_call 45; refine (CallsIn.inRound l' (callsIn_wide.2 (begun_any x (sz s x) (ch s x) (by omega) _))).mono ?_; rintro e w1 ⟨rfl, hb1⟩; have HB : Hid (Below Wx.heap.size Wx w1) := hb1; obtain ⟨⟨⟨z0, z1, z2, z3⟩, f0, f1, f2, f3⟩, g0, g1, gx0, gx1, gy, e0, e1, e2, es, ex, j1⟩ := HL.out w1 hb1; clear hb1)
      exact ci_next (B := W.heap.size) (c := beg s x) HI.out hi hJ ⟨by omega, by omega, by omega, by omega, by omega⟩ ⟨by omega, by omega⟩ ⟨by omega, by omega⟩ (fun o => .inr (.inl rfl)) (fun o => .inr (.inr rfl)) (KpT.of_below HB.out) (kf_below HB.out) (by rw [st_zero HX.out]; exact j1) (by rw [st_zero HX.out]) (by rw [st_zero HX.out]) e0 e1 ⟨_, _, _, _, rfl⟩ e2 es _ (by simp [beg])
    · have hx1 : ((x : Int) == 0) = false := by simp; omega
      have HX : Hid (x ≠ 0) := by show x ≠ 0; omega
      have HP : Hid (pre ≠ []) := hne
      have cJ := joined_any (st s pre).2.2 (ch s x) Wx
      cases hjn : jn (st s pre).2.2 (ch s x) with
      | true =>
        rw [hjn] at cJ
        have hle : (st s pre).2.1.to + sz s x ≤ 9223372036854775807 := by omega
        clear hto hfr hpos hne
        have cG : Hid (∀ W', Calls Tryd.prog 47 #[.agg #[.int .i64 (st s pre).2.1.fr, .int .i64 (st s pre).2.1.to, .int .i64 (st s pre).2.1.k, .int .i64 (st s pre).2.1.n], .agg #[.int .i32 (ch s x), .int .i64 (sz s x)]] W' fun e w' => e = .returned (.agg #[.int .i64 (st s pre).2.1.fr, .int .i64 ((st s pre).2.1.to + sz s x), .int .i64 (gro s (st s pre).2.1 x).k, .int .i64 (gro s (st s pre).2.1 x).n]) ∧ Below W'.heap.size W' w') := fun W' => grown_any (st s pre).2.1.fr (st s pre).2.1.to (sz s x) (st s pre).2.1.k (st s pre).2.1.n (ch s x) hle W'
        generalize hk' : (gro s (st s pre).2.1 x).k = k' at cG
        generalize hn' : (gro s (st s pre).2.1 x).n = n' at cG
        have HK : Hid ((gro s (st s pre).2.1 x).k = k' ∧ (gro s (st s pre).2.1 x).n = n') := ⟨hk', hn'⟩
        clear hk' hn'
        gi_wp2_with (first | (refine ⟨trivial, ?_⟩; gi_at_call 46; refine (CallsIn.inRound l' (callsIn_wide.2 cJ)).mono ?_; clear cJ; rintro e w1 ⟨rfl, hb1⟩; obtain ⟨⟨⟨y0, y1, y2, y3⟩, _, _, _, _⟩, _, _, yx0, yx1, yy, _, _, _, _, _, _⟩ := HL.out w1 hb1; have HB1 : Hid (Below Wx.heap.size Wx w1) := hb1; clear hb1) | (refine ⟨trivial, ?_⟩; gi_at_call 47; refine (CallsIn.inRound l' (callsIn_wide.2 (cG.out _))).mono ?_; rintro e w2 ⟨rfl, hb2⟩; have HB : Hid (Below Wx.heap.size Wx w2) := HB1.out.trans (hb2.mono HB1.out.size); obtain ⟨⟨⟨z0, z1, z2, z3⟩, f0, f1, f2, f3⟩, g0, g1, gx0, gx1, gy, e0, e1, e2, es, ex, j1⟩ := HL.out w2 HB.out; clear hb2))
        exact ci_next (B := W.heap.size) (c := gro s (st s pre).2.1 x) HI.out hi hJ ⟨by omega, by omega, by omega, by omega, by omega⟩ ⟨by omega, by omega⟩ ⟨by omega, by omega⟩ (fun o => .inr (.inl rfl)) (fun o => .inr (.inr rfl)) (KpT.of_below HB.out) (kf_below HB.out) (by rw [st_join HX.out hjn]; exact j1) (by rw [st_join HX.out hjn]) (by rw [st_join HX.out hjn]) e0 e1 ⟨_, _, _, _, rfl⟩ e2 es _ (by rw [HK.out.1, HK.out.2]; simp [gro])
      | false =>
        rw [hjn] at cJ
        have HO : Hid ((st s pre).1 ++ [(st s pre).2.1] <+: cl s) := inv_out HI.out hne hi hjn
        have HY : Hid (∀ w1, J (st s pre).1 w1 → Wx.heap.size ≤ w1.heap.size → YieldAt Fence.wide (n - 1 - 1 - 1) Tryd.prog l (encC (st s pre).2.1) w1 fun e W' => KeepsFrom W.heap.size w1 W' ∧ ((e = .returned (.bool true) ∧ J ((st s pre).1 ++ [(st s pre).2.1]) W' ∧ KpT M w1 W') ∨ (e = .returned (.bool false) ∧ Jx ((st s pre).1 ++ [(st s pre).2.1]) W'))) := fun w1 j1 hsw => yield_deep (hY _ _ w1 j1 (by have := HWx.out; omega) HO.out)
        clear hto hfr hpos hne
        gi_wp2_with (first | (refine ⟨trivial, ?_⟩; gi_at_call 46; refine (CallsIn.inRound l' (callsIn_wide.2 cJ)).mono ?_; clear cJ; rintro e w1 ⟨rfl, hb1⟩; obtain ⟨⟨⟨y0, y1, y2, y3⟩, _, _, _, _⟩, _, _, yx0, yx1, yy, e0, e1, e2, es, ex, j1⟩ := HL.out w1 hb1; obtain ⟨fn, tmps, assign, body, hy, hR⟩ := HY.out w1 j1 hb1.size; dsimp only [encC] at hy; have HB1 : Hid (Below Wx.heap.size Wx w1) := hb1; have HE : Hid _ := And.intro e0 (And.intro e1 (And.intro e2 (And.intro es ex))); clear hb1 e0 e1 e2 es ex))
        refine hR.mono ?_
        rintro e W3 ⟨kf3, (⟨rfl, j3, k3⟩ | ⟨rfl, jx3⟩)⟩
        · clear HY hy hR yy y0 y1 y2 y3 yx0 yx1 j1
          obtain ⟨e0, e1, e2, es, ex⟩ := HE.out
          have t0 := k3.2 _ _ e0 rfl (hMO _ _ (by omega) (by omega))
          have t1 := k3.2 _ _ e1 rfl (hMO _ _ (by omega) (by omega))
          have t2 := k3.2 _ _ e2 rfl (hMO _ _ (by omega) (by omega))
          have ts := k3.2 _ _ es rfl (hMB _)
          have tx := k3.2 _ _ ex rfl (hMU _ _ _ (by omega))
          clear e0 e1 e2 es ex HE
          have cx0 : W3.cell? ⟨Bx, 0, none⟩ = some (.int .i32 (ch s x)) := by simp [World.cell?, tx]
          have cx1 : W3.cell? ⟨Bx, 1, none⟩ = some (.int .i64 (sz s x)) := by simp [World.cell?, tx]
          have HL3 : Hid (∀ w1 : World, Below W3.heap.size W3 w1 → ((w1.cell? ⟨W.heap.size + 1, 0, none⟩ = some (.int .i64 (st s pre).2.1.fr) ∧ w1.cell? ⟨W.heap.size + 1, 1, none⟩ = some (.int .i64 (st s pre).2.1.to) ∧ w1.cell? ⟨W.heap.size + 1, 2, none⟩ = some (.int .i64 (st s pre).2.1.k) ∧ w1.cell? ⟨W.heap.size + 1, 3, none⟩ = some (.int .i64 (st s pre).2.1.n)) ∧ w1.frozen? ⟨W.heap.size + 1, 0, none⟩ = false ∧ w1.frozen? ⟨W.heap.size + 1, 1, none⟩ = false ∧ w1.frozen? ⟨W.heap.size + 1, 2, none⟩ = false ∧ w1.frozen? ⟨W.heap.size + 1, 3, none⟩ = false) ∧
              w1.cell? ⟨W.heap.size + 1 + 1, 0, none⟩ = some (.int .i32 (st s pre).2.2) ∧ w1.frozen? ⟨W.heap.size + 1 + 1, 0, none⟩ = false ∧ w1.cell? ⟨Bx, 0, none⟩ = some (.int .i32 (ch s x)) ∧
              w1.heap[W.heap.size]? = some (.cells #[.func (.yield l) #[] #[]] 86 (0, 0)) ∧ w1.heap[W.heap.size + 1]? = some (.cells (cvs (st s pre).2.1) 56 (0, 0)) ∧ w1.heap[W.heap.size + 1 + 1]? = some (.cells #[.int .i32 (st s pre).2.2] 21 (0, 0)) ∧ w1.heap[Bs]? = some (.cells #[.string s] 9 (0, 0))) := fun w1 hb => by
            have kp : ∀ {k : Nat} {o : Obj}, W3.heap[k]? = some o → w1.heap[k]? = some o := fun ho => (hb.block _ (Array.getElem?_eq_some_iff.1 ho).1).trans ho
            exact ⟨box4 (kp t1), by simp [World.cell?, kp t2], by simp [World.frozen?, kp t2], by simp [World.cell?, kp tx], kp t0, kp t1, kp t2, kp ts⟩
          clear t0 t1 t2 ts tx
          gi_wp2_with (refine ⟨trivial, ?_⟩; gi_at_call 45; refine (CallsIn.inRound l' (callsIn_wide.2 (begun_any x (sz s x) (ch s x) (by omega) _))).mono ?_; rintro e w4 ⟨rfl, hb4⟩; have HB : Hid (Below W3.heap.size W3 w4) := hb4; obtain ⟨⟨⟨z0, z1, z2, z3⟩, f0, f1, f2, f3⟩, g0, g1, gx0, e0, e1, e2, es⟩ := HL3.out w4 hb4; clear hb4)
          exact ci_next (B := W.heap.size) (c := beg s x) HI.out hi hJ ⟨by omega, by omega, by omega, by omega, by omega⟩ ⟨by omega, by omega⟩ ⟨by omega, by omega⟩ (fun o => .inr (.inl rfl)) (fun o => .inr (.inr rfl)) ((KpT.of_below HB1.out).trans ((k3.mono fun _ _ _ h => .inl h).trans (KpT.of_below HB.out))) (kf_trans (kf_below HB1.out) (kf_trans (kf_mono kf3 (by omega)) (kf_below HB.out))) (by rw [st_part HX.out hjn]; exact hJ.grow j3 (grown_of_below HB.out)) (by rw [st_part HX.out hjn]) (by rw [st_part HX.out hjn]) e0 e1 ⟨_, _, _, _, rfl⟩ e2 es _ (by simp [beg])
        · gi_wp2
          exact ⟨kf_trans (kf_below HB1.out) (kf_mono kf3 (by omega)), rfl, _, HO.out, jx3⟩
  case stop =>
    rintro D c pre W' hD _ ⟨rfl, em, hem, hjx⟩ hK
    gi_wp2
    refine ⟨by simp, .inl ⟨_, _, rfl, run_takeDeferred hK, ?_⟩⟩
    exact ⟨_, results_none rfl _ _ _, ⟨_, rfl⟩, .inr ⟨em, hem, hJx.put _ hjx (by omega) hK rfl⟩⟩
  case done =>
    rintro D ys W' hD rfl ⟨⟨i, hinv⟩, hj, q0, q1, q2, qs⟩ hK
    obtain rfl := inv_all hinv rfl
    have c0 : W'.cell? ⟨W.heap.size, 0, none⟩ = some (.func (.yield l) #[] #[]) := by simp [World.cell?, q0]
    have cs : W'.cell? ⟨Bs, 0, none⟩ = some (.string s) := by simp [World.cell?, qs]
    obtain ⟨⟨d0, d1, d2, d3⟩, _⟩ := box4 q1
    by_cases h0s : s.size = 0
    · have hne : s.toList.isEmpty = true := isEmpty_of h0s
      gi_wp2
      refine ⟨by simp, .inl ⟨_, _, rfl, run_takeDeferred hK, ?_⟩⟩
      exact ⟨_, results_none rfl _ _ _, ⟨_, rfl⟩, .inl ⟨[], (cl_nil h0s).symm, hJ.put _ (by rw [offs_nil h0s] at hj; exact hj) (by omega) hK rfl⟩⟩
    · have hne : s.toList.isEmpty = false := notEmpty_of h0s
      obtain ⟨fn, tmps, assign, body, hy, hR⟩ := hY _ _ W' hj (by have := (Array.getElem?_eq_some_iff.1 hK).1; omega) (by rw [inv_end hinv (offs_ne (by omega))]; exact List.prefix_refl _)
      dsimp only [encC] at hy
      have hend := inv_end hinv (offs_ne (by omega))
      rw [hend] at hR
      gi_wp2
      refine hR.mono ?_
      rintro e W3 ⟨kf3, (⟨rfl, j3, k3⟩ | ⟨rfl, jx3⟩)⟩
      · have hK3 := kf3.same D _ (by omega) hK rfl
        clear hy hR
        gi_wp2
        refine ⟨by simp, .inl ⟨_, _, rfl, run_takeDeferred hK3, ?_⟩⟩
        exact ⟨_, results_none rfl _ _ _, ⟨_, rfl⟩, .inl ⟨_, rfl, hJ.put _ j3 (by omega) hK3 rfl⟩⟩
      · have hK3 := kf3.same D _ (by omega) hK rfl
        clear hy hR
        gi_wp2
        refine ⟨by simp, .inl ⟨_, _, rfl, run_takeDeferred hK3, ?_⟩⟩
        exact ⟨_, results_none rfl _ _ _, ⟨_, rfl⟩, .inr ⟨_, List.prefix_refl _, hJx.put _ jx3 (by omega) hK3 rfl⟩⟩

theorem walk_in (n : Nat) (s : ByteArray) (w : World) :
    CallsIn Fence.wide n Tryd.prog 26 #[.string s] w fun e w' => e = .returned (.func (.func 43) #[] #[.pointer (some ⟨w.heap.size, 0, none⟩)]) ∧ w' = w.alloc (.cells #[.string s] 9) := by
  refine callsIn_of_wp Tryd.func26 rfl trivial ?_ rfl
  simp only [Tryd.ntmps26, List.size_toArray, List.length_cons, List.length_nil, Nat.reduceAdd, Nat.reduceSub, Array.replicate_succ, Array.replicate_zero, List.push_toArray, List.append_toArray, List.nil_append, List.cons_append]
  gi_wp2
  go_ret
  exact ⟨rfl, rfl⟩
theorem walk_any (s : ByteArray) (w : World) :
    Calls Tryd.prog 26 #[.string s] w fun e w' => e = .returned (.func (.func 43) #[] #[.pointer (some ⟨w.heap.size, 0, none⟩)]) ∧ w' = w.alloc (.cells #[.string s] 9) := callsIn_wide.1 (walk_in 1 s w)
end Go.Proofs.YtfjoklbiocniiaaDoor
namespace Go.Proofs.YtfjoklbiocniiaaDoor
open Go.RowKit Go.Shelf Bod Wid
attribute [local go_sem] Oper.semAt_some

theorem push2 (a : Array Obj) (o0 o1 : Obj) : ((a.push o0).push o1)[a.size]? = some o0 ∧ ((a.push o0).push o1)[a.size + 1]? = some o1 := by
  refine ⟨?_, ?_⟩
  · rw [Array.getElem?_push, if_neg (by simp only [Array.size_push]; omega), Array.getElem?_push_size]
  · rw [← Array.size_push o0, Array.getElem?_push_size]
end Go.Proofs.YtfjoklbiocniiaaDoor
