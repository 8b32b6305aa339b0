/-
  The walk of 'walked': a range over package unit's Walk, broken off or not, with another range within its first step, yields the units. Conditions: the two tables of unicode/utf8 lie as their text lays them; the list that is handed in holds the text's units.
-/
import Derived.Test.YtadgbbnkhjapnaaDoorUIterM
import Derived.Test.YtadgbbnkhjapnaaDoorUAlike
import Derived.Laws.EntriesVeiled
import Derived.Test.YtadgbbnkhjapnaaDoorUQuietR
namespace Go.Proofs.YtadgbbnkhjapnaaDoor
open Go.RowKit Go.Shelf Bod
attribute [local go_sem] Oper.semAt_some

/-- the boxes of 'walked' between two rounds: the list, the limit, the result, the text, the iterator, n, at -/
structure WI (B0 N cap : Nat) (a0 : Option Addr) (lim : Int) (s : ByteArray) (k a : Nat) (W : World) : Prop where
  want : Boxed W (B0) 24 (.slice a0 N cap)
  lim : Boxed W (B0 + 1) 3 (.int .i64 lim)
  res : Boxed W (B0 + 1 + 1) 4 (.bool false)
  txt : Boxed W (B0 + 1 + 1 + 1) 9 (.string s)
  it : Boxed W (B0 + 1 + 1 + 1 + 1) 39 (.func (.func 43) #[] #[.pointer (some ⟨B0 + 1 + 1 + 1, 0, none⟩)])
  n : Boxed W (B0 + 1 + 1 + 1 + 1 + 1) 3 (.int .i64 k)
  at' : Boxed W (B0 + 1 + 1 + 1 + 1 + 1 + 1) 3 (.int .i64 a)
theorem boxed_kept {X Y : World} {b : Nat} {t : TypeId} {v : Value} {row : Option Nat} (h : Boxed X b t v) (hg : X.grownBy Y row) (hr : ∀ r, row = some r → ∃ o : Obj, X.heap[r]? = some o ∧ o.isCells = false) : Boxed Y b t v :=
  boxed_own b t (fun _ : Unit => v) () X Y row h hg hr
theorem WI.kept {B0 N cap : Nat} {a0 : Option Addr} {lim : Int} {s : ByteArray} {k a : Nat} {X Y : World} {row : Option Nat} (h : WI B0 N cap a0 lim s k a X) (hg : X.grownBy Y row) (hr : ∀ r, row = some r → ∃ o : Obj, X.heap[r]? = some o ∧ o.isCells = false) : WI B0 N cap a0 lim s k a Y :=
  ⟨boxed_kept h.want hg hr, boxed_kept h.lim hg hr, boxed_kept h.res hg hr, boxed_kept h.txt hg hr, boxed_kept h.it hg hr, boxed_kept h.n hg hr, boxed_kept h.at' hg hr⟩
theorem WI.alloc {B0 N cap : Nat} {a0 : Option Addr} {lim : Int} {s : ByteArray} {k a : Nat} {X : World} (h : WI B0 N cap a0 lim s k a X) (o : Obj) : WI B0 N cap a0 lim s k a (X.alloc o) :=
  h.kept (World.grownBy_alloc X o none) (fun r e => by cases e)
theorem WI.other {B0 N cap : Nat} {a0 : Option Addr} {lim : Int} {s : ByteArray} {k a : Nat} {X : World} {b : Nat} (h : WI B0 N cap a0 lim s k a X) (hb : B0 + 7 ≤ b) (u : Value) : WI B0 N cap a0 lim s k a (X.setCell ⟨b, 0, none⟩ u) :=
  ⟨h.want.other (by omega) u, h.lim.other (by omega) u, h.res.other (by omega) u, h.txt.other (by omega) u, h.it.other (by omega) u, h.n.other (by omega) u, h.at'.other (by omega) u⟩
theorem WI.drew {B0 N cap : Nat} {a0 : Option Addr} {lim : Int} {s : ByteArray} {k a : Nat} {X : World} (h : WI B0 N cap a0 lim s k a X) (m : Nat) : WI B0 N cap a0 lim s k a (X.drewN m) := ⟨h.want, h.lim, h.res, h.txt, h.it, h.n, h.at'⟩
theorem WI.step {B0 N cap : Nat} {a0 : Option Addr} {lim : Int} {s : ByteArray} {k a : Nat} {X : World} (h : WI B0 N cap a0 lim s k a X) (z : Nat) : WI B0 N cap a0 lim s (k + 1) (a + z) ((X.setCell ⟨B0 + 1 + 1 + 1 + 1 + 1, 0, none⟩ (.int .i64 ((k : Int) + 1))).setCell ⟨B0 + 1 + 1 + 1 + 1 + 1 + 1, 0, none⟩ (.int .i64 ((a : Int) + (z : Int)))) :=
  ⟨(h.want.other (by omega) _).other (by omega) _, (h.lim.other (by omega) _).other (by omega) _, (h.res.other (by omega) _).other (by omega) _, (h.txt.other (by omega) _).other (by omega) _, (h.it.other (by omega) _).other (by omega) _, by
    have := (h.n.set (.int .i64 ((k : Int) + 1))).other (B' := B0 + 1 + 1 + 1 + 1 + 1 + 1) (by omega) (.int .i64 ((a : Int) + (z : Int)))
    exact_mod_cast this, by
    have := (h.at'.other (B' := B0 + 1 + 1 + 1 + 1 + 1) (by omega) (.int .i64 ((k : Int) + 1))).set (.int .i64 ((a : Int) + (z : Int)))
    exact_mod_cast this⟩
theorem act_name {c : Code} {F : Fence} {n : Nat} {P : Program} {Q : Exit → Act → World → Prop} {a : Act} {w : World} (h : ∀ A, A = a → c.wpIn F n P Q A w) : c.wpIn F n P Q a w := h a rfl
theorem cell_other {W : World} {b : Nat} {a : Addr} {v u : Value} (h : W.cell? a = some v) (hne : a.block ≠ b) : (W.setCell ⟨b, 0, none⟩ u).cell? a = some v := by
  obtain ⟨o, ho, _⟩ := cells_of_cell h
  rw [World.cell?_of_block (w := W) ((grownBy_setCell' W b u).block a.block (Array.getElem?_eq_some_iff.1 ho).1 (fun e => hne (by cases e; rfl)))]
  exact h
theorem KpM.set_new {M : Nat → Prop} {W W' : World} {b : Nat} (h : KpM M W W') (hb : W.heap.size ≤ b) (u : Value) : KpM M W (W'.setCell ⟨b, 0, none⟩ u) := by
  have hg := grownBy_setCell' W' b u
  refine ⟨Nat.le_trans h.1 hg.size, fun k o hm hk hc => ?_⟩
  have hk' := h.2 k o hm hk hc
  have hlt := (Array.getElem?_eq_some_iff.1 hk).1
  exact (hg.block k (Array.getElem?_eq_some_iff.1 hk').1 (fun e => by cases e; omega)).trans hk'
/-- the boxes that the rounds write -/
def MW (B0 k : Nat) : Prop := B0 ≤ k ∧ k < B0 + 7 ∧ k ≠ B0 + 3
theorem KpM.of_non {M : Nat → Prop} {W W' : World} {row : Option Nat} (h : W.grownBy W' row) (hr : ∀ r, row = some r → ∃ o : Obj, W.heap[r]? = some o ∧ o.isCells = false) : KpM M W W' :=
  ⟨h.size, fun _ _ _ hk hc => (grownBy_keeps_cells h hr hk hc).trans hk⟩
theorem KpM.set {M : Nat → Prop} (W : World) {b : Nat} (hb : M b) (u : Value) : KpM M W (W.setCell ⟨b, 0, none⟩ u) :=
  KpM.of_grown (grownBy_setCell' W b u) (fun r e => by cases e; exact hb)

set_option maxRecDepth 100000 in
set_option maxHeartbeats 4000000 in
theorem walked_in (n : Nat) (hn : 6 ≤ n) (s : ByteArray) (hs : s.size ≤ 1048576) (a0 : Option Addr) (cap N : Nat) (lim : Int) (w : World) (hT : Lib.Utf8Tabs 0 1 w) (_hlo0 : 0 < w.heap.size) (hlo1 : 1 < w.heap.size) (hN : (offs s 0).length = N)
    (hc : N ≠ 0 → ∃ b o, a0 = some ⟨b, o, none⟩ ∧ b < w.heap.size ∧ ∀ j, j < N → w.cell? ⟨b, o + j * 2, none⟩ = some (.int .i32 (chAt s (offs s 0) j)) ∧ w.cell? ⟨b, o + j * 2 + 1, none⟩ = some (.int .i64 (szAt s (offs s 0) j))) :
    CallsIn Fence.wide n Tryd.prog 14 #[.string s, .slice a0 N cap, .int .i64 lim] w fun e W' => e = .returned (.bool true) ∧ Below w.heap.size w W' := by
  have h1 : 1 ≤ n := by omega
  have hfn := func_nil
  refine callsIn_of_wp_marks Tryd.func14 rfl trivial ?_ rfl
  simp only [Tryd.ntmps14, List.size_toArray, List.length_cons, List.length_nil, Nat.reduceAdd, Nat.reduceSub, Array.replicate_succ, Array.replicate_zero, List.push_toArray, List.append_toArray, List.nil_append, List.cons_append]
  gi_wp2_with (refine ⟨trivial, ?_⟩; gi_at_call 21; refine (walk_in (n - 1) _ _).mono ?_; rintro e w' ⟨rfl, rfl⟩)
  obtain ⟨B0, hB0e⟩ : ∃ B0, w.heap.size = B0 := ⟨_, rfl⟩
  obtain ⟨W0, hW0⟩ : ∃ W0, (((((((w.alloc (.cells #[.slice a0 N cap] 24)).alloc (.cells #[.int .i64 lim] 3)).alloc (.cells #[.bool false] 4)).alloc (.cells #[.string s] 9)).alloc (.cells #[.func (.func 43) #[] #[.pointer (some ⟨w.heap.size + 1 + 1 + 1, 0, none⟩)]] 39)).alloc (.cells #[.int .i64 0] 3)).alloc (.cells #[.int .i64 0] 3)) = W0 := ⟨_, rfl⟩
  have hsz : W0.heap.size = w.heap.size + 7 := by rw [← hW0]; simp
  have hWI : WI w.heap.size N cap a0 lim s 0 0 W0 := by
    rw [← hW0]
    refine ⟨?_, ?_, ?_, ?_, ?_, ?_, ?_⟩
    · exact ((((((Boxed.new w 24 (.slice a0 N cap)).alloc _).alloc _).alloc _).alloc _).alloc _).alloc _
    · have := (((((Boxed.new (w.alloc (.cells #[.slice a0 N cap] 24)) 3 (.int .i64 lim)).alloc (.cells #[.bool false] 4)).alloc (.cells #[.string s] 9)).alloc (.cells #[.func (.func 43) #[] #[.pointer (some ⟨w.heap.size + 1 + 1 + 1, 0, none⟩)]] 39)).alloc (.cells #[.int .i64 0] 3)).alloc (.cells #[.int .i64 0] 3)
      simpa only [World.size_alloc] using this
    · have := ((((Boxed.new ((w.alloc (.cells #[.slice a0 N cap] 24)).alloc (.cells #[.int .i64 lim] 3)) 4 (.bool false)).alloc (.cells #[.string s] 9)).alloc (.cells #[.func (.func 43) #[] #[.pointer (some ⟨w.heap.size + 1 + 1 + 1, 0, none⟩)]] 39)).alloc (.cells #[.int .i64 0] 3)).alloc (.cells #[.int .i64 0] 3)
      simpa only [World.size_alloc] using this
    · have := (((Boxed.new (((w.alloc (.cells #[.slice a0 N cap] 24)).alloc (.cells #[.int .i64 lim] 3)).alloc (.cells #[.bool false] 4)) 9 (.string s)).alloc (.cells #[.func (.func 43) #[] #[.pointer (some ⟨w.heap.size + 1 + 1 + 1, 0, none⟩)]] 39)).alloc (.cells #[.int .i64 0] 3)).alloc (.cells #[.int .i64 0] 3)
      simpa only [World.size_alloc] using this
    · have := ((Boxed.new ((((w.alloc (.cells #[.slice a0 N cap] 24)).alloc (.cells #[.int .i64 lim] 3)).alloc (.cells #[.bool false] 4)).alloc (.cells #[.string s] 9)) 39 (.func (.func 43) #[] #[.pointer (some ⟨w.heap.size + 1 + 1 + 1, 0, none⟩)])).alloc (.cells #[.int .i64 0] 3)).alloc (.cells #[.int .i64 0] 3)
      simpa only [World.size_alloc] using this
    · have := (Boxed.new (((((w.alloc (.cells #[.slice a0 N cap] 24)).alloc (.cells #[.int .i64 lim] 3)).alloc (.cells #[.bool false] 4)).alloc (.cells #[.string s] 9)).alloc (.cells #[.func (.func 43) #[] #[.pointer (some ⟨w.heap.size + 1 + 1 + 1, 0, none⟩)]] 39)) 3 (.int .i64 0)).alloc (.cells #[.int .i64 0] 3)
      simp only [World.size_alloc] at this
      exact this
    · have := (Boxed.new ((((((w.alloc (.cells #[.slice a0 N cap] 24)).alloc (.cells #[.int .i64 lim] 3)).alloc (.cells #[.bool false] 4)).alloc (.cells #[.string s] 9)).alloc (.cells #[.func (.func 43) #[] #[.pointer (some ⟨w.heap.size + 1 + 1 + 1, 0, none⟩)]] 39)).alloc (.cells #[.int .i64 0] 3)) 3 (.int .i64 0))
      simp only [World.size_alloc] at this
      exact this
  have hB0 : Below w.heap.size w W0 := by
    rw [← hW0]
    exact (((((((Below.refl _ w).alloc (Nat.le_refl _) _).alloc (by simp) _).alloc (by simp; omega) _).alloc (by simp; omega) _).alloc (by simp; omega) _).alloc (by simp; omega) _).alloc (by simp; omega) _
  rw [hW0]
  clear hW0 hB0e
  have hs' : s.size ≤ maxLen := by unfold maxLen; omega
  refine wpIn_rangeFunc_ownH rfl h1 (gf := 43) (lb := #[.pointer (some ⟨w.heap.size + 1 + 1 + 1, 0, none⟩)]) rfl trivial (enters_of Tryd.func43 (by kernel_rfl) rfl)
    (walkM_stops (n - 1) (by omega) (w.heap.size + 1 + 1 + 1) (MW w.heap.size) s hs' (fun h => by have := h.1; omega) (fun h => by have := h.1; omega) (fun h => h.2.2 rfl) W0 (fun k hk h => by have := h.2.1; omega) hWI.txt.cell (tabs_below hT hB0)) KpM.trans (fun W l o o' _ hl ho _ => KpM.putObj W l o o' hl ho) (Below.refl _ _) (fun _ => rfl)
    (fun pre W => ∃ a : Nat, WI w.heap.size N cap a0 lim s pre.length a W ∧ a ≤ s.size ∧ pre ++ offs s a = offs s 0 ∧ Below w.heap.size w W)
    (fun c pre W => c = .ret ∧ ∃ v, Boxed W (w.heap.size + 1 + 1) 4 (.bool v) ∧ (v = true ∨ ¬ pre <+: offs s 0) ∧ Below w.heap.size w W)
    (fun pre X Y row h hg hr => by
      obtain ⟨a, h1, h2, h3, h4⟩ := h
      exact ⟨a, h1.kept hg (fun r e => (hr r e).2), h2, h3, ownFrom_below (β := Unit) (Nat.le_refl _) (by omega) () X Y row h4 hg hr⟩)
    (fun c pre X Y row h hg hr => by
      obtain ⟨h0, v, h1, h2, h4⟩ := h
      exact ⟨h0, v, boxed_kept h1 hg (fun r e => (hr r e).2), h2, ownFrom_below (β := Unit) (Nat.le_refl _) (by omega) () X Y row h4 hg hr⟩)
    ⟨0, hWI, by omega, rfl, hB0⟩
    (fun x a' W => ∃ Bx, w.heap.size + 7 ≤ Bx ∧ W.cell? ⟨Bx, 0, none⟩ = some (.int .i32 (ch s x)) ∧ W.cell? ⟨Bx, 1, none⟩ = some (.int .i64 (sz s x)) ∧
      a' = { tmps := #[.string s, .slice a0 N cap, .int .i64 lim, undef, .pointer (some ⟨w.heap.size, 0, none⟩), .pointer (some ⟨w.heap.size + 1, 0, none⟩), .pointer (some ⟨w.heap.size + 1 + 1, 0, none⟩), .pointer (some ⟨w.heap.size + 1 + 1 + 1 + 1, 0, none⟩), .pointer (some ⟨w.heap.size + 1 + 1 + 1 + 1 + 1, 0, none⟩), .pointer (some ⟨w.heap.size + 1 + 1 + 1 + 1 + 1 + 1, 0, none⟩), .int .i64 x, .pointer (some ⟨Bx, 0, none⟩), undef, .string s, .func (.func 43) #[] #[.pointer (some ⟨w.heap.size + 1 + 1 + 1, 0, none⟩)], .func (.func 43) #[] #[.pointer (some ⟨w.heap.size + 1 + 1 + 1, 0, none⟩)], .bool false, .func (.func 43) #[] #[.pointer (some ⟨w.heap.size + 1 + 1 + 1, 0, none⟩)], .int .i64 x, .agg #[.int .i32 (ch s x), .int .i64 (sz s x)], undef, undef, undef, undef, undef, undef, undef, undef, undef, undef, undef, undef, undef, undef, undef, undef, undef, undef, undef, undef, undef, undef, undef, undef, undef, undef, undef, undef, undef, undef, undef, undef, undef, undef, undef, undef, undef, undef, undef, undef, undef], defers := [] })
    (fun x a' => fun _ A B row hs hg hr => by obtain ⟨Bx, h1, h2, h3, h4⟩ := hs; exact ⟨Bx, h1, cell_kept h2 hg (fun r e => (hr r e).2), cell_kept h3 hg (fun r e => (hr r e).2), h4⟩)
    ?assign ?body ?done ?stop
  case assign =>
    rintro l pre x W K ⟨a, hW, h2, h3, hB⟩ hK
    have hlt := hW.at'.lt
    gi_wp2
    exact hK _ _ ((KeepsOthers.alloc _ _).from _) (KpM.of_below ((Below.refl _ W).alloc (Nat.le_refl _) _)) ⟨a, hW.alloc _, h2, h3, hB.alloc hB.size _⟩ ⟨W.heap.size, by omega, by simp, by simp, rfl⟩
  case body =>
    rintro l pre x a' W hl ⟨r, hr⟩ ⟨a, hW, ha, hpre, hB⟩ ⟨Bx, hBx, cx0, cx1, rfl⟩ hlt
    have has : a < s.size := by
      by_cases h : a < s.size
      · exact h
      · rw [offs_end (by omega), List.append_nil] at hpre
        rw [hpre] at hlt; omega
    have hget : (offs s 0).getD pre.length 0 = a := by rw [← hpre, offs_step has]; simp
    rw [hN] at hlt
    obtain ⟨b, o, rfl, hbl, hcs⟩ := hc (by omega)
    obtain ⟨d0, d1⟩ := hcs pre.length hlt
    unfold chAt at d0
    unfold szAt at d1
    rw [hget] at d0 d1
    replace d0 : W.cell? ⟨b, o + pre.length * 2, none⟩ = some (.int .i32 (ch s a)) := (hB.cell (p := ⟨b, o + pre.length * 2, none⟩) hbl).trans d0
    replace d1 : W.cell? ⟨b, o + pre.length * 2 + 1, none⟩ = some (.int .i64 (sz s a)) := (hB.cell (p := ⟨b, o + pre.length * 2 + 1, none⟩) hbl).trans d1
    have cW := hW.want.cell
    have cL := hW.lim.cell
    have cR := hW.res.cell
    have fR := hW.res.frozen
    have cI := hW.it.cell
    have cN := hW.n.cell
    have fN := hW.n.frozen
    have cA := hW.at'.cell
    have fA := hW.at'.frozen
    have t1 : decide ((N : Int) ≤ (pre.length : Int)) = false := by simp; omega
    have t1n : decide (N ≤ pre.length) = false := by simp; omega
    have hzi := sz_in has
    clear hcs hget
    by_cases hx : x = a
    · subst hx
      have HP : Hid (pre ++ offs s x = offs s 0) := hpre
      clear hpre
      gi_wp2
      refine region_quiet (by kernel_rfl) (by kernel_rfl) (by kernel_rfl) ?_
      repeat (gi_big_quiet_step (fail))
      refine wpQuietIn_nil ?_
      intro _ hw'
      obtain ⟨nq, hw''⟩ := hw'
      subst hw''
      have hWX := hW.drew nq
      have hBX : Below w.heap.size w (W.drewN nq) := ⟨hB.os, hB.tape, hB.output, hB.size, hB.block⟩
      have hKF : KeepsFrom W0.heap.size W (W.drewN nq) := ⟨Nat.le_refl _, fun _ _ _ h _ => h⟩
      have hKM : KpM (MW w.heap.size) W (W.drewN nq) := ⟨Nat.le_refl _, fun _ _ _ h _ => h⟩
      have cX1 : (W.drewN nq).cell? ⟨Bx, 1, none⟩ = some (.int .i64 (sz s x)) := cx1
      have hrX : (W.drewN nq).heap[l]? = some (.loop r) := hr
      have hszX : W.heap.size ≤ (W.drewN nq).heap.size := Nat.le_refl _
      have hBxW : Bx < W.heap.size := by
        obtain ⟨o, ho, _⟩ := cells_of_cell cx1
        exact (Array.getElem?_eq_some_iff.1 ho).1
      obtain ⟨X, hX⟩ : ∃ X, W.drewN nq = X := ⟨_, rfl⟩
      rw [hX] at hWX hBX hKF hKM cX1 hrX hszX ⊢
      clear hX cW cL cR fR cI cN fN cA fA d0 d1 cx0 cx1 t1 t1n
      have hNs : N ≤ s.size := by rw [← hN]; exact offs_len_le s
      have hWs := hB.size
      by_cases hp0 : pre.length = 0
      · have hq : ((pre.length : Int) == 0) = true := by rw [beq_iff_eq]; omega
        have cN2 := hWX.n.cell
        have cI2 := hWX.it.cell
        have cI3 := (hWX.alloc (.cells #[.int .i64 0] 3)).it.cell
        clear hp0
        have hX7 := hWX.at'.lt
        gi_wp2
        have hrX1 : (X.alloc (.cells #[.int .i64 0] 3)).heap[l]? = some (.loop r) := (Below.heap_alloc X _ l (Array.getElem?_eq_some_iff.1 hrX).1).trans hrX
        have bI := Boxed.new X 3 (.int .i64 0)
        refine act_name fun A hA => ?_
        have hge : A.eval (.tmp 39) = .func (.func 43) #[] #[.pointer (some ⟨w.heap.size + 1 + 1 + 1, 0, none⟩)] := by rw [hA]; rfl
        have hBX1 : Below w.heap.size w (X.alloc (.cells #[.int .i64 0] 3)) := hBX.alloc hBX.size _
        refine wpIn_rangeFunc_ownN (l₀ := l) (r₀ := r) rfl hrX1 (by omega) (gf := 43) (lb := #[.pointer (some ⟨w.heap.size + 1 + 1 + 1, 0, none⟩)]) hge trivial (enters_of Tryd.func43 (by kernel_rfl) rfl)
          ((walkM_stops (n - 1 - 1 - 1) (by omega) (w.heap.size + 1 + 1 + 1) (fun k => k = X.heap.size) s hs' (by omega) (by omega) (by omega) (X.alloc (.cells #[.int .i64 0] 3)) (fun k hk h => by subst h; simp at hk; omega) (hWX.alloc _).txt.cell (tabs_below hT hBX1)).inRound l) KpM.trans (fun W l o o' _ hl ho _ => KpM.putObj W l o o' hl ho) (Below.refl _ _) (fun _ => rfl)
          (fun ys W' => Boxed W' X.heap.size 3 (.int .i64 ys.length) ∧ WI w.heap.size N cap (some ⟨b, o, none⟩) lim s pre.length x W' ∧ W'.cell? ⟨Bx, 1, none⟩ = some (.int .i64 (sz s x)) ∧ Below w.heap.size w W' ∧ KeepsFrom W0.heap.size W W' ∧ KpM (MW w.heap.size) W W')
          (fun _ _ _ => False)
          (fun ys A B row h hg hr => ⟨boxed_kept h.1 hg (fun r e => (hr r e).2), h.2.1.kept hg (fun r e => (hr r e).2), cell_kept h.2.2.1 hg (fun r e => (hr r e).2), ownFrom_below (β := Unit) (Nat.le_refl _) (by simp; omega) () A B row h.2.2.2.1 hg hr, ownFrom_keepsFrom (β := Unit) (by simp; omega) () A B row h.2.2.2.2.1 hg hr, h.2.2.2.2.2.trans (KpM.of_non hg (fun r e => (hr r e).2))⟩)
          (fun _ _ _ _ _ hs _ _ => hs)
          ⟨bI, hWX.alloc _, cell_kept cX1 (World.grownBy_alloc X _ none) (fun r e => by cases e), hBX1, hKF.trans ((KeepsOthers.alloc _ _).from _), hKM.trans (KpM.of_below ((Below.refl _ X).alloc (Nat.le_refl _) _))⟩
          (fun y a'' _ => a'' = { tmps := ((#[40, 41] : Array Tmp).zip (enc2 s y)).foldl (fun t (p, v) => t.setIfInBounds p v) A.tmps, defers := [] })
          (fun _ _ _ _ _ _ hs _ _ => hs)
          ?assign2 ?body2 ?done2 ?stop2
        case assign2 =>
          rintro l2 ys y W' K hi hK
          refine wpIn_skip ?_
          exact hK _ _ (KeepsFrom.refl _ _) (KpM.refl _ _) hi rfl
        case body2 =>
          rintro l2 ys y a'' W' _ _ ⟨g1, g2, g3, g4, g5, g6⟩ rfl hys
          subst hA
          have c1 := g1.cell
          have f1 := g1.frozen
          rw [hN] at hys
          gi_wp2
          exact ⟨(KeepsOthers.setCell _ _ _).from _, KpM.set (M := fun k => k = X.heap.size) _ rfl _, by simpa using g1.set (.int .i64 ((ys.length : Int) + 1)), g2.other (by omega) _, cell_other g3 (by show Bx ≠ X.heap.size; omega), g4.setCell (p := ⟨X.heap.size, 0, none⟩) (by simp; omega) _, g5.trans ((KeepsOthers.setCell _ _ _).from _), g6.set_new (by omega) _⟩
        case done2 =>
          rintro ys Y rfl ⟨g1, hY, cY1, g4, g5, g6⟩
          subst hA
          rw [hN] at g1
          have c1 := g1.cell
          have HBY : Hid (Below w.heap.size w Y) := g4
          have HKF : Hid (KeepsFrom W0.heap.size W Y) := g5
          have HKM : Hid (KpM (MW w.heap.size) W Y) := g6
          clear g4 g5 g6 hBX hKF hKM hBX1
          have cN2 := hY.n.cell
          have fN2 := hY.n.frozen
          have cA2 := hY.at'.cell
          have fA2 := hY.at'.frozen
          have cL2 := hY.lim.cell
          have cR2 := hY.res.cell
          have fR2 := hY.res.frozen
          have cW2 := hY.want.cell
          have HY : Hid (WI w.heap.size N cap (some ⟨b, o, none⟩) lim s pre.length x Y) := hY
          by_cases hlim : (pre.length : Int) + 1 = lim
          · have hl1 : ((pre.length : Int) + 1 == lim) = true := by simpa using hlim
            clear hlim
            gi_wp2
            refine ⟨HKF.out.trans ((((KeepsOthers.setCell _ _ _).trans (KeepsOthers.setCell _ _ _)).trans (KeepsOthers.setCell _ _ _)).from _), rfl, true, (HY.out.step (sz s x)).res.set _, .inl rfl, ((HBY.out.setCell (p := ⟨w.heap.size + 1 + 1 + 1 + 1 + 1, 0, none⟩) (by simp; omega) _).setCell (p := ⟨w.heap.size + 1 + 1 + 1 + 1 + 1 + 1, 0, none⟩) (by simp; omega) _).setCell (p := ⟨w.heap.size + 1 + 1, 0, none⟩) (by simp; omega) _⟩
          · have hl1 : ((pre.length : Int) + 1 == lim) = false := by simpa using hlim
            clear hlim
            gi_wp2
            refine ⟨HKF.out.trans (((KeepsOthers.setCell _ _ _).trans (KeepsOthers.setCell _ _ _)).from _), HKM.out.trans ((KpM.set _ (b := w.heap.size + 1 + 1 + 1 + 1 + 1) ⟨by omega, by omega, by omega⟩ _).trans (KpM.set _ (b := w.heap.size + 1 + 1 + 1 + 1 + 1 + 1) ⟨by omega, by omega, by omega⟩ _)), x + sz s x, by rw [List.length_append]; exact HY.out.step (sz s x), by omega, by rw [← HP.out, offs_step has]; simp, (HBY.out.setCell (p := ⟨w.heap.size + 1 + 1 + 1 + 1 + 1, 0, none⟩) (by simp; omega) _).setCell (p := ⟨w.heap.size + 1 + 1 + 1 + 1 + 1 + 1, 0, none⟩) (by simp; omega) _⟩
        case stop2 =>
          rintro c ys W' _ h
          exact h.elim
      · have hq : ((pre.length : Int) == 0) = false := by rw [beq_eq_false_iff_ne]; omega
        have hY := hWX
        have HBY : Hid (Below w.heap.size w X) := hBX
        have HKF : Hid (KeepsFrom W0.heap.size W X) := hKF
        have HKM : Hid (KpM (MW w.heap.size) W X) := hKM
        clear hBX hKF hKM
        have cN2 := hY.n.cell
        have fN2 := hY.n.frozen
        have cA2 := hY.at'.cell
        have fA2 := hY.at'.frozen
        have cL2 := hY.lim.cell
        have cR2 := hY.res.cell
        have fR2 := hY.res.frozen
        have cW2 := hY.want.cell
        have HY : Hid (WI w.heap.size N cap (some ⟨b, o, none⟩) lim s pre.length x X) := hY
        by_cases hlim : (pre.length : Int) + 1 = lim
        · have hl1 : ((pre.length : Int) + 1 == lim) = true := by simpa using hlim
          clear hlim
          gi_wp2
          refine ⟨HKF.out.trans ((((KeepsOthers.setCell _ _ _).trans (KeepsOthers.setCell _ _ _)).trans (KeepsOthers.setCell _ _ _)).from _), rfl, true, (HY.out.step (sz s x)).res.set _, .inl rfl, ((HBY.out.setCell (p := ⟨w.heap.size + 1 + 1 + 1 + 1 + 1, 0, none⟩) (by simp; omega) _).setCell (p := ⟨w.heap.size + 1 + 1 + 1 + 1 + 1 + 1, 0, none⟩) (by simp; omega) _).setCell (p := ⟨w.heap.size + 1 + 1, 0, none⟩) (by simp; omega) _⟩
        · have hl1 : ((pre.length : Int) + 1 == lim) = false := by simpa using hlim
          clear hlim
          gi_wp2
          refine ⟨HKF.out.trans (((KeepsOthers.setCell _ _ _).trans (KeepsOthers.setCell _ _ _)).from _), HKM.out.trans ((KpM.set _ (b := w.heap.size + 1 + 1 + 1 + 1 + 1) ⟨by omega, by omega, by omega⟩ _).trans (KpM.set _ (b := w.heap.size + 1 + 1 + 1 + 1 + 1 + 1) ⟨by omega, by omega, by omega⟩ _)), x + sz s x, by rw [List.length_append]; exact HY.out.step (sz s x), by omega, by rw [← HP.out, offs_step has]; simp, (HBY.out.setCell (p := ⟨w.heap.size + 1 + 1 + 1 + 1 + 1, 0, none⟩) (by simp; omega) _).setCell (p := ⟨w.heap.size + 1 + 1 + 1 + 1 + 1 + 1, 0, none⟩) (by simp; omega) _⟩
    · have t2 : ((x : Int) == (a : Int)) = false := by simp; omega
      have t3 : decide ((x : Int) = (a : Int)) = false := by simp; omega
      have t4 : ((x : Int) != (a : Int)) = true := by simp; omega
      have t3n : decide (x = a) = false := by simp; omega
      have t2n : (x == a) = false := by simp; omega
      gi_wp2
      refine region_quiet (by kernel_rfl) (by kernel_rfl) (by kernel_rfl) ?_
      repeat (gi_big_quiet_step (fail))
      refine wpQuietIn_nil ?_
      intro _ hw'
      obtain ⟨nq, hw''⟩ := hw'
      subst hw''
      have fR' : (W.drewN nq).frozen? ⟨w.heap.size + 1 + 1, 0, none⟩ = false := fR
      have cR' : (W.drewN nq).cell? ⟨w.heap.size + 1 + 1, 0, none⟩ = some (.bool false) := cR
      gi_wp2
      refine ⟨KeepsFrom.trans (show KeepsFrom W0.heap.size W (W.drewN nq) from ⟨Nat.le_refl _, fun _ _ _ h _ => h⟩) ((KeepsOthers.setCell _ _ _).from _), rfl, false, (hW.drew nq).res.set _, .inr (fun hp => ?_), ?_⟩
      · obtain ⟨q, hq⟩ := hp
        rw [← hpre, offs_step has, List.append_assoc] at hq
        have := List.append_cancel_left hq
        simp at this
        exact hx this.1
      · exact (show Below w.heap.size w (W.drewN nq) from ⟨hB.os, hB.tape, hB.output, hB.size, hB.block⟩).setCell (p := ⟨w.heap.size + 1 + 1, 0, none⟩) (by simp; omega) _
  case done =>
    rintro D ys W hD rfl ⟨a, hW, ha, hpre, hB⟩ hK
    rw [hN] at hW
    have cW := hW.want.cell
    have cN := hW.n.cell
    have cR := hW.res.cell
    have fR := hW.res.frozen
    have bR := hW.res.set (.bool true)
    have hK' : (W.setCell ⟨w.heap.size + 1 + 1, 0, none⟩ (.bool true)).heap[D]? = some (.deferred (some [])) := (KeepsOthers.setCell _ _ _).same D _ hK rfl
    have cR2 : ((W.setCell ⟨w.heap.size + 1 + 1, 0, none⟩ (.bool true)).putObj D (.deferred none)).cell? ⟨w.heap.size + 1 + 1, 0, none⟩ = some (.bool true) := cell_kept bR.cell (grownBy_putObj' _ D (.deferred none)) (fun r e => by cases e; exact ⟨_, hK', rfl⟩)
    gi_wp2
    refine ⟨by simp, .inl ⟨_, _, rfl, run_takeDeferred hK', ?_⟩⟩
    exact ⟨_, (by simp [results, Tryd.results14, go_sem, cR2]), rfl, (hB.setCell (p := ⟨w.heap.size + 1 + 1, 0, none⟩) (by simp; omega) _).trans (belowK_b (w := w) (Nat.le_refl _) _ D _ _ (by omega) hK' rfl rfl)⟩
  case stop =>
    rintro D c pre W hD hSp ⟨rfl, v, hv, hvv, hB⟩ hK
    obtain rfl : v = true := hvv.resolve_right (fun h => h hSp)
    have cR2 : (W.putObj D (.deferred none)).cell? ⟨w.heap.size + 1 + 1, 0, none⟩ = some (.bool true) := cell_kept hv.cell (grownBy_putObj' _ D (.deferred none)) (fun r e => by cases e; exact ⟨_, hK, rfl⟩)
    gi_wp2
    refine ⟨by simp, .inl ⟨_, _, rfl, run_takeDeferred hK, ?_⟩⟩
    exact ⟨_, (by simp [results, Tryd.results14, go_sem, cR2]), rfl, hB.trans (belowK_b (w := w) (Nat.le_refl _) _ D _ _ (by omega) hK rfl rfl)⟩
end Go.Proofs.YtadgbbnkhjapnaaDoor
