/-
  How a store moves from kind to kind; a new store. Conditions: those of each theorem.
-/
import Derived.Test.YtplieccalmkloaaGreatDoorPkTA
import Derived.Test.YtplieccalmkloaaGreatDoorPkRR
namespace Go.Proofs.YtplieccalmkloaaGreatDoor.Sto
open Go.RowKit Go.Shelf Bod Wid
open Gap (Gp gNew)

def misK (x : Option Tx) (k : Sk) (n : Nat) : Bool := decide (kdK k = 3) && (if (Tx.or x).bk = 1 then decide (hiK k ≤ (n : Int)) else decide ((n : Int) ≤ loK k))
/-- the numbers are ints -/
def Sk.fit (k : Sk) : Prop := k.hi ≤ 9223372036854775807 ∧ -9223372036854775808 ≤ k.hi ∧ k.lo ≤ 9223372036854775807 ∧ -9223372036854775808 ≤ k.lo
set_option maxRecDepth 100000 in
set_option maxHeartbeats 1000000 in
theorem mis_any {w : World} {v : Value} {x : Option Tx} {k : Sk} {K : Kp} (h : Spt w v x k) (hH : Hold w (Tx.or x) K) (hk : k.fit) : Calls Tryz.prog 41 #[v] w fun e W' => e = .returned (.bool (misK x k K.text.size)) ∧ Below w.heap.size w W' := by
  have C1 : Hid (Calls Tryz.prog 73 #[v] w fun e W' => e = .returned (.int .i64 (kdK k)) ∧ Hid (Below w.heap.size w W')) := kind_any h
  have C2 : Hid (∀ W, Hid (Below w.heap.size w W) → Calls Tryz.prog 74 #[v] W fun e W' => e = .returned (.tuple #[.int .i64 (loK k), .int .i64 (hiK k)]) ∧ Hid (Below w.heap.size w W')) := fun W hW => (thr_any (h.below hW.out) hk).mono fun e W' ⟨h1, h2⟩ => ⟨h1, Below.on hW.out h2⟩
  have C3 : Hid (∀ W, Hid (Below w.heap.size w W) → Calls Tryz.prog 75 #[v] W fun e W' => e = .returned (.int .i64 (Tx.or x).bk) ∧ W' = W) := fun W hW => Backend_any (h.below hW.out)
  have C4 : Hid (∀ W, Hid (Below w.heap.size w W) → Calls Tryz.prog 69 #[v] W fun e W' => e = .returned (.int .i64 K.text.size) ∧ Hid (Below w.heap.size w W')) := fun W hW => (slen_any (h.below hW.out) (hH.below hW.out)).mono fun e W' ⟨h1, h2⟩ => ⟨h1, Below.on hW.out h2⟩
  unfold misK
  generalize K.text.size = n at C4 ⊢
  generalize kdK k = kd at C1 ⊢
  generalize loK k = lo at C2 ⊢
  generalize hiK k = hi at C2 ⊢
  have hbk : (Tx.or x).bk = 1 ∨ (Tx.or x).bk = 2 := by cases Tx.or x <;> simp [Tx.bk]
  generalize (Tx.or x).bk = bk at C3 hbk ⊢
  clear h hH hk
  by_cases c1 : kd = 3
  · subst c1
    rcases hbk with rfl | rfl
    · go_enter Tryz.func41, Tryz.ntmps41
      go_wp2_with (first | (go_at_call 73; refine C1.out.mono ?_; clear C1; rintro e w1 ⟨rfl, HB⟩) | (go_at_call 74; refine (C2.out _ HB).mono ?_; clear C2 HB; rintro e w2 ⟨rfl, HB⟩) | (go_at_call 75; refine (C3.out _ HB).mono ?_; clear C3; rintro e w3 ⟨rfl, rfl⟩) | (go_at_call 69; refine (C4.out _ HB).mono ?_; clear C4 HB; rintro e w4 ⟨rfl, HB⟩))
      go_ret
      exact ⟨by simp, HB.out⟩
    · go_enter Tryz.func41, Tryz.ntmps41
      go_wp2_with (first | (go_at_call 73; refine C1.out.mono ?_; clear C1; rintro e w1 ⟨rfl, HB⟩) | (go_at_call 74; refine (C2.out _ HB).mono ?_; clear C2 HB; rintro e w2 ⟨rfl, HB⟩) | (go_at_call 75; refine (C3.out _ HB).mono ?_; clear C3; rintro e w3 ⟨rfl, rfl⟩) | (go_at_call 69; refine (C4.out _ HB).mono ?_; clear C4 HB; rintro e w4 ⟨rfl, HB⟩))
      go_ret
      exact ⟨by simp, HB.out⟩
  · have e1 : (kd == 3) = false := by simp [c1]
    have e2 : decide (kd = 3) = false := by simp [c1]
    rw [e2, Bool.false_and]
    go_enter Tryz.func41, Tryz.ntmps41
    go_wp2_with (first | (go_at_call 73; refine C1.out.mono ?_; clear C1; rintro e w1 ⟨rfl, HB⟩))
    go_ret
    exact ⟨rfl, HB.out⟩
theorem as_gap1 (W : World) (v : Value) : (Instr.typeAssert (.iface 77 v) 41 77 true).run Tryz.prog W = .ok (.tuple #[v, .bool true]) W := by kernel_rfl
theorem as_rope1 (W : World) (v : Value) : (Instr.typeAssert (.iface 148 v) 41 77 true).run Tryz.prog W = .ok (.tuple #[.pointer none, .bool false]) W := by kernel_rfl
/-- the text brought to the other backend is new -/
def Moved (w : World) (x : Tx) (s : ByteArray) (l : Nat) (e : Ending) (W' : World) : Prop := ∃ y K, e = .returned y.val ∧ Hold W' y K ∧ y.bk = 3 - x.bk ∧ K.text = s ∧ K.lim = l ∧ Below w.heap.size w W' ∧ match K with
  | .gap o _ _ => ∃ b r, o = some (b, r) ∧ w.heap.size ≤ b ∧ ∀ k, r = some k → w.heap.size ≤ k
  | .rope b _ _ _ => w.heap.size ≤ b
set_option maxRecDepth 100000 in
set_option maxHeartbeats 1000000 in
theorem moved_gap {w : World} {v : Value} {o : Option (Nat × Option Nat)} {g : Gp} {n l : Nat} (h : Gap.Is w v o g n) (hE : Ev w) (hl : g.s.size ≤ l) (hl2 : l ≤ 1073741824) : Calls Tryz.prog 76 #[.iface 77 v, .int .i64 l] w (Moved w (.gap v) g.s l) := by
  have C1 : Hid (Calls Tryz.prog 35 #[v] w fun e W' => e = .returned (.string g.s) ∧ Hid (Below w.heap.size w W')) := Gap.text_is h
  have C2 : Hid (∀ W, Hid (Below w.heap.size w W) → Calls Tryz.prog 106 #[.string g.s] W fun e W' => ∃ b, e = .returned (.pointer (some ⟨b, 0, none⟩)) ∧ Hid (Rp W' (tof g.s) (.pointer (some ⟨b, 0, none⟩)) ∧ Below w.heap.size w W')) := fun W hW => (rnew_any g.s (by unfold B40; omega) W (hE.below hW.out)).mono fun e W' ⟨b, x, h1, h2, h3, h4⟩ => ⟨b, h1, .inr ⟨b, x, rfl, h2, .inr h3⟩, Below.on hW.out h4⟩
  have HL : Hid (g.s.size ≤ l ∧ l ≤ 1073741824) := ⟨hl, hl2⟩
  have ha := fun W => as_gap1 W v
  generalize g.s = s at C1 C2 HL ⊢
  clear h hE hl
  go_enter Tryz.func76, Tryz.ntmps76
  go_wp2_with (first | (go_at_call 35; refine C1.out.mono ?_; clear C1; rintro e w1 ⟨rfl, HB⟩) | (go_at_call 106; refine (C2.out _ HB).mono ?_; clear C2 HB; rintro e w2 ⟨b, rfl, HB⟩))
  go_ret
  have hb := (Below.refl _ w2).alloc (Nat.le_refl _) (.cells #[.pointer (some ⟨b, 0, none⟩), .int .i64 (l : Int)] 152)
  exact ⟨.rope (.pointer (some ⟨w2.heap.size, 0, none⟩)), .rope w2.heap.size (.pointer (some ⟨b, 0, none⟩)) (tof s) l, rfl, ⟨rfl, ⟨World.alloc_heap_new w2 _, HB.out.1.below hb⟩, tof_good s, by rw [tof_text]; exact HL.out.1, HL.out.2⟩, rfl, tof_text s, rfl, Below.on HB.out.2 hb, HB.out.2.size⟩
set_option maxRecDepth 100000 in
set_option maxHeartbeats 1000000 in
theorem moved_rope {w : World} {b : Nat} {v : Value} {t : Tr} {l l' : Nat} (h : Rq w b v t l) (hl : t.text.size ≤ l') (hl2 : l' ≤ 1073741824) : Calls Tryz.prog 76 #[.iface 148 (.pointer (some ⟨b, 0, none⟩)), .int .i64 l'] w (Moved w (.rope (.pointer (some ⟨b, 0, none⟩))) t.text l') := by
  obtain ⟨c0, _, _, hlt⟩ := qcells h.box
  obtain ⟨s, hs⟩ : ∃ s, t.text = s := ⟨_, rfl⟩
  have C1 : Hid (Calls Tryz.prog 107 #[v] w fun e W' => e = .returned (.string s) ∧ Hid (Below w.heap.size w W')) := by
    have := rtext_any h.rp (by unfold B40; omega)
    rw [hs] at this
    exact this
  rw [hs] at hl ⊢
  have hg : gNew s l' = some ⟨s, s.size, l'⟩ := by
    have : Gap.lim (l' : Int) = l' := by unfold Gap.lim; omega
    unfold gNew
    rw [this, if_pos hl]
  have C2 : Hid (∀ W, Hid (Below w.heap.size w W) → Calls Tryz.prog 34 #[.string s, .int .i64 l'] W fun e W' => ∃ r n, e = .returned (.tuple #[.pointer (some ⟨W.heap.size, 0, none⟩), .int .i64 0]) ∧ Hid (Gap.PB W' W.heap.size r ⟨s, s.size, l'⟩ n ∧ Below w.heap.size w W' ∧ w.heap.size ≤ W.heap.size ∧ ∀ k, r = some k → w.heap.size ≤ k)) := fun W hW => by
    have := Gap.new_any s (l' : Int) W
    rw [hg] at this
    refine this.mono ?_
    rintro e W' ⟨h1, r, n, h2, h3, h4⟩
    have hz := hW.out.size
    exact ⟨r, n, h1, h2, Below.on hW.out h3, hz, fun k e => by have := h4 k e; omega⟩
  have ha := fun W => as_rope1 W (.pointer (some ⟨b, 0, none⟩))
  have ha2 := fun W => as_rope W (.pointer (some ⟨b, 0, none⟩))
  clear h hs hg hl
  go_enter Tryz.func76, Tryz.ntmps76
  go_wp2_with (first | (go_at_call 107; refine C1.out.mono ?_; clear C1; rintro e w1 ⟨rfl, HB⟩) | (go_at_call 34; refine (C2.out _ HB).mono ?_; clear C2 HB; rintro e w2 ⟨r, n, rfl, HB⟩))
  go_ret
  exact ⟨.gap (.pointer (some ⟨w1.heap.size, 0, none⟩)), .gap (some (w1.heap.size, r)) ⟨s, s.size, l'⟩ n, rfl, ⟨rfl, HB.out.1⟩, rfl, rfl, rfl, HB.out.2.1, w1.heap.size, r, rfl, HB.out.2.2.1, HB.out.2.2.2⟩
theorem moved_any {w : World} {x : Tx} {K : Kp} (h : Hold w x K) (hE : Ev w) : Calls Tryz.prog 76 #[x.val, .int .i64 K.lim] w (Moved w x K.text K.lim) := by
  have hz := h.size
  cases x <;> cases K <;> first | exact h.elim | skip
  · exact moved_gap h hE hz.1 hz.2
  · obtain ⟨rfl, h1, h2, h3, h4⟩ := h
    exact moved_rope h1 h3 h4
end Go.Proofs.YtplieccalmkloaaGreatDoor.Sto
namespace Go.Proofs.YtplieccalmkloaaGreatDoor.Sto
open Go.RowKit Go.Shelf Bod Wid
open Gap (Gp gNew)

theorem ne_type {W : World} {b c : Nat} {u v : Array Value} {S T : TypeId} (h1 : W.heap[b]? = some (.cells u S (0, 0))) (h2 : W.heap[c]? = some (.cells v T (0, 0))) (hne : S ≠ T) : b ≠ c := fun e => by
  rw [e, h2] at h1; injection h1 with h1; injection h1 with _ ht _; exact hne ht.symm
/-- the text stays while a store's own block is turned -/
theorem Hold.turn {W W' : World} {x : Tx} {K : Kp} {b : Nat} {cur : Array Value} (h : Hold W x K) (hb : W.heap[b]? = some (.cells cur 90 (0, 0))) (hg : W.grownBy W' (some b)) : Hold W' x K := by
  cases x <;> cases K <;> first | exact h.elim | skip
  · rename_i v o g n
    cases o with
    | none => exact h
    | some p =>
      obtain ⟨c, r⟩ := p
      obtain ⟨h1, h2⟩ := h
      refine ⟨h1, h2.kept (b' := b) (r' := none) ⟨hg.os, hg.tape, hg.output, hg.size, fun k hk hn _ => hg.block k hk (fun e => hn (Option.some.inj e))⟩ ?_ (by simp) (fun k hk => ⟨?_, by simp⟩)⟩
      · obtain ⟨A, e, hp, _⟩ := h2.ex
        exact ne_type hp.box hb (by decide)
      · obtain ⟨A, e, hp, _⟩ := h2.ex
        exact ne_type (hp.row k hk).2 hb (by decide)
  · obtain ⟨h1, ⟨h2, h3⟩, h4⟩ := h
    refine ⟨h1, ⟨(hg.block _ (Array.getElem?_eq_some_iff.1 h2).1 (fun e => ?_)).trans h2, rp_turn h3 hb (by decide) (by decide) (by decide) hg⟩, h4⟩
    exact ne_type h2 hb (by decide) (Option.some.inj e)
/-- what keeps the text is new -/
def Kp.new (n : Nat) : Kp → Prop
  | .gap o _ _ => ∃ b r, o = some (b, r) ∧ n ≤ b ∧ ∀ k, r = some k → n ≤ k
  | .rope b _ _ _ => n ≤ b
theorem scl_set (x y : Value) (k : Sk) : (scl x k).setIfInBounds 0 y = scl y k := rfl
set_option maxRecDepth 100000 in
set_option maxHeartbeats 1000000 in
theorem move_any {w : World} {b : Nat} {x : Option Tx} {k : Sk} {K : Kp} (h : w.heap[b]? = some (.cells (scl (Tx.at x) k) 90 (0, 0))) (hH : Hold w (Tx.or x) K) (hl : k.limit = K.lim) (hE : Ev w) :
    Calls Tryz.prog 42 #[.pointer (some ⟨b, 0, none⟩)] w fun e W' => e = .returned (.tuple #[]) ∧ ∃ y K', W'.heap[b]? = some (.cells (scl y.val k) 90 (0, 0)) ∧ Hold W' y K' ∧ y.bk = 3 - (Tx.or x).bk ∧ K'.text = K.text ∧ K'.lim = K.lim ∧ w.grownBy W' (some b) ∧ K'.new w.heap.size := by
  obtain ⟨_, _, _, _, c4, _, _, _, hlt⟩ := scells h
  obtain ⟨X, hX⟩ : ∃ X, (Tx.or x).val = X := ⟨_, rfl⟩
  have hbd : Below w.heap.size w w.drew := (Below.refl _ w).drew
  have C1 : Hid (Calls Tryz.prog 77 #[.pointer (some ⟨b, 0, none⟩)] w.drew fun e W' => e = .returned X ∧ W' = w.drew) := by
    have := body_any (w := w.drew) (v := .pointer (some ⟨b, 0, none⟩)) (x := x) (k := k) (.inr ⟨b, rfl, h⟩)
    rw [hX] at this
    exact this
  have C2 : Hid (Calls Tryz.prog 76 #[X, .int .i64 k.limit] w.drew fun e W' => ∃ T u, e = .returned (.iface T u) ∧ W'.cell? ⟨b, 0, none⟩ = some (Tx.at x) ∧ W'.frozen? ⟨b, 0, none⟩ = false ∧ b < W'.heap.size ∧ Hid (∃ y K', y.val = .iface T u ∧ Hold W' y K' ∧ y.bk = 3 - (Tx.or x).bk ∧ K'.text = K.text ∧ K'.lim = K.lim ∧ Below w.heap.size w W' ∧ K'.new w.heap.size ∧ W'.heap[b]? = some (.cells (scl (Tx.at x) k) 90 (0, 0)))) := by
    have := moved_any (hH.below hbd) (hE.below hbd)
    rw [hX, ← hl] at this
    refine this.mono ?_
    rintro e W' ⟨y, K', h1, h2, h3, h4, h5, h6, h7⟩
    have hbw : Below w.heap.size w W' := Below.on hbd h6
    have hbx := (hbw.block b hlt).trans h
    have hf : W'.frozen? ⟨b, 0, none⟩ = false := by unfold World.frozen?; rw [hbx]; rfl
    obtain ⟨T, u, e1⟩ : ∃ T u, y.val = .iface T u := by cases y <;> exact ⟨_, _, rfl⟩
    refine ⟨T, u, by rw [h1, e1], (scells hbx).1, hf, (Array.getElem?_eq_some_iff.1 hbx).1, y, K', e1, h2, h3, h4, h5, hbw, ?_, hbx⟩
    cases K' <;> exact h7
  have HL : Hid (k.limit = K.lim) := hl
  clear h hH hl hE hX hbd
  go_enter Tryz.func42, Tryz.ntmps42
  go_region_with (first | (go_at_call 77; refine C1.out.mono ?_; clear C1; rintro e w1 ⟨rfl, rfl⟩) | (go_at_call 76; refine C2.out.mono ?_; clear C2; rintro e w2 ⟨T, u, rfl, y0, f0, hlt2, HB⟩))
  all_goals
    obtain ⟨y, K', e1, h2, h3, h4, h5, h6, h7, h8⟩ := HB.out
    refine bodyPost_end (v := .tuple #[]) (by simp [results, Tryz.results42]) rfl ⟨rfl, y, K', ?_, h2.turn h8 (gcell w2 b 0 (.iface T u)), h3, h4, h5, grown_of h6 (gcell w2 b 0 (.iface T u)), h7⟩
    rw [e1, ← scl_set (Tx.at x)]
    exact set1 (i := 0) (.iface T u) h8
end Go.Proofs.YtplieccalmkloaaGreatDoor.Sto
namespace Go.Proofs.YtplieccalmkloaaGreatDoor.Sto
open Go.RowKit Go.Shelf Bod Wid

/-- at b lies a store of the numbers k, whose text K is kept by x -/
structure Pst (W : World) (b : Nat) (x : Option Tx) (k : Sk) (K : Kp) : Prop where
  box : W.heap[b]? = some (.cells (scl (Tx.at x) k) 90 (0, 0))
  hold : Hold W (Tx.or x) K
  lim : k.limit = K.lim
theorem Pst.below {W W' : World} {b : Nat} {x : Option Tx} {k : Sk} {K : Kp} (h : Pst W b x k K) (hb : Below W.heap.size W W') : Pst W' b x k K := ⟨(hb.block _ (Array.getElem?_eq_some_iff.1 h.box).1).trans h.box, h.hold.below hb, h.lim⟩
theorem Pst.spt {W : World} {b : Nat} {x : Option Tx} {k : Sk} {K : Kp} (h : Pst W b x k K) : Spt W (.pointer (some ⟨b, 0, none⟩)) x k := .inr ⟨b, rfl, h.box⟩
theorem sfroz {W : World} {b i : Nat} {x : Value} {k : Sk} (h : W.heap[b]? = some (.cells (scl x k) 90 (0, 0))) : W.frozen? ⟨b, i, none⟩ = false := by unfold World.frozen?; rw [h]; simp
/-- the text goes to the other backend: what a store is after it -/
def Gone (w : World) (b : Nat) (x : Option Tx) (K : Kp) (k' : Sk) (W' : World) : Prop := ∃ y K', Pst W' b (some y) k' K' ∧ y.bk = 3 - (Tx.or x).bk ∧ K'.text = K.text ∧ K'.lim = K.lim ∧ w.grownBy W' (some b) ∧ K'.new w.heap.size
def Sk.forced (k : Sk) : Sk := ⟨k.kind, k.lo, k.hi, k.limit, k.mv, k.fo + 1, k.ed⟩
theorem grown_two {w W W' : World} {b : Nat} (h : w.grownBy W (some b)) (g : W.grownBy W' (some b)) : w.grownBy W' (some b) :=
  ⟨g.os.trans h.os, g.tape.trans h.tape, g.output.trans h.output, Nat.le_trans h.size g.size, fun k hk hn => (g.block k (Nat.lt_of_lt_of_le hk h.size) hn).trans (h.block k hk hn)⟩
end Go.Proofs.YtplieccalmkloaaGreatDoor.Sto
namespace Go.Proofs.YtplieccalmkloaaGreatDoor.Sto
open Go.RowKit Go.Shelf Bod Wid
open Gap (Gp gNew PB lim)

def nwK (kind lo hi : Int) (l : Nat) : Sk := ⟨kind, lo, hi, l, 0, 0, 0⟩
theorem Kp.new.mono {m n : Nat} {K : Kp} (h : K.new n) (hm : m ≤ n) : K.new m := by
  cases K with
  | gap o g _ =>
    obtain ⟨b, r, h1, h2, h3⟩ := h
    exact ⟨b, r, h1, by omega, fun k e => by have := h3 k e; omega⟩
  | rope b _ _ _ => exact Nat.le_trans hm h
set_option maxRecDepth 100000 in
theorem snew_no (w : World) (kind lo hi limit : Int) (s : ByteArray) (h : ¬ s.size ≤ lim limit) : Calls Tryz.prog 20 #[.int .i64 kind, .int .i64 lo, .int .i64 hi, .int .i64 limit, .string s] w fun e W' => e = .returned (.tuple #[.pointer none, .int .i64 2]) ∧ Below w.heap.size w W' := by
  have C1 : Hid (Calls Tryz.prog 34 #[.string s, .int .i64 limit] w fun e W' => e = .returned (.tuple #[.pointer none, .int .i64 2]) ∧ Hid (Below w.heap.size w W')) := by
    have := Gap.new_any s limit w
    have e : gNew s limit = none := by unfold gNew; rw [if_neg h]
    rw [e] at this
    exact this
  clear h
  go_enter Tryz.func20, Tryz.ntmps20
  go_wp2_with (go_at_call 34; refine C1.out.mono ?_; clear C1; rintro e w1 ⟨rfl, HB⟩)
  exact bodyPost_ret (v := .tuple #[.pointer none, .int .i64 2]) (by simp [results, Tryz.results20, go_sem]) rfl ⟨rfl, HB.out⟩
/-- what New leaves -/
def Fresh (w : World) (s : ByteArray) (k : Sk) (bk : Int) (b : Nat) (W : World) : Prop := ∃ y K, Pst W b (some y) k K ∧ y.bk = bk ∧ K.text = s ∧ K.lim = k.limit ∧ Below w.heap.size w W ∧ K.new w.heap.size ∧ w.heap.size ≤ b
set_option maxRecDepth 100000 in
set_option maxHeartbeats 2000000 in
theorem snew_ok (w : World) (kind lo hi limit : Int) (s : ByteArray) (h : s.size ≤ lim limit) (hk : (nwK kind lo hi (lim limit)).fit) (hE : Ev w) : Calls Tryz.prog 20 #[.int .i64 kind, .int .i64 lo, .int .i64 hi, .int .i64 limit, .string s] w fun e W' => ∃ b, e = .returned (.tuple #[.pointer (some ⟨b, 0, none⟩), .int .i64 0]) ∧ Fresh w s (nwK kind lo hi (lim limit)) (if kind = 2 ∨ misK none (nwK kind lo hi (lim limit)) s.size then 2 else 1) b W' := by
  have hl2 := Gap.lim_le limit
  obtain ⟨l, hl⟩ : ∃ l, lim limit = l := ⟨_, rfl⟩
  have hg : gNew s limit = some ⟨s, s.size, l⟩ := by unfold gNew; rw [if_pos h, hl]
  rw [hl] at h hk hl2 ⊢
  obtain ⟨p, hp⟩ : ∃ p : Value, p = .pointer (some ⟨w.heap.size, 0, none⟩) := ⟨_, rfl⟩
  have C1 : Hid (Calls Tryz.prog 34 #[.string s, .int .i64 limit] w fun e W' => e = .returned (.tuple #[.pointer (some ⟨w.heap.size, 0, none⟩), .int .i64 0]) ∧ Hid (∃ r n, PB W' w.heap.size r ⟨s, s.size, l⟩ n ∧ Below w.heap.size w W' ∧ ∀ k, r = some k → w.heap.size ≤ k)) := by
    have := Gap.new_any s limit w
    rw [hg] at this
    exact this.mono fun e W' ⟨h1, r, n, h2, h3, h4⟩ => ⟨h1, r, n, h2, h3, fun k e => Nat.le_of_lt (h4 k e)⟩
  have C2 : Hid (∀ W, Hid (∃ r n, PB W w.heap.size r ⟨s, s.size, l⟩ n ∧ Below w.heap.size w W ∧ ∀ k, r = some k → w.heap.size ≤ k) → Calls Tryz.prog 40 #[.pointer (some ⟨w.heap.size, 0, none⟩)] W fun e W' => e = .returned (.int .i64 l) ∧ Hid (∃ r n, PB W' w.heap.size r ⟨s, s.size, l⟩ n ∧ Below w.heap.size w W' ∧ ∀ k, r = some k → w.heap.size ≤ k)) := fun W hW => by
    obtain ⟨r, n, h1, h2, h3⟩ := hW.out
    exact (Gap.limit_is (v := .pointer (some ⟨w.heap.size, 0, none⟩)) (o := some (w.heap.size, r)) ⟨rfl, h1⟩).mono fun e W' ⟨k1, k2⟩ => ⟨k1, r, n, h1.below k2, Below.on h2 k2, h3⟩
  have C5 : Hid (∀ W, Hid (∃ r n, PB W w.heap.size r ⟨s, s.size, l⟩ n ∧ Below w.heap.size w W ∧ ∀ k, r = some k → w.heap.size ≤ k) → Fresh w s (nwK kind lo hi l) 1 W.heap.size (W.alloc (.cells #[.iface 77 (.pointer (some ⟨w.heap.size, 0, none⟩)), .int .i64 kind, .int .i64 lo, .int .i64 hi, .int .i64 l, .int .i64 0, .int .i64 0, .int .i64 0] 90))) := fun W hW => by
    obtain ⟨r, n, h1, h2, h3⟩ := hW.out
    have hb := (Below.refl _ W).alloc (Nat.le_refl _) (.cells #[.iface 77 (.pointer (some ⟨w.heap.size, 0, none⟩)), .int .i64 kind, .int .i64 lo, .int .i64 hi, .int .i64 l, .int .i64 0, .int .i64 0, .int .i64 0] 90)
    exact ⟨.gap (.pointer (some ⟨w.heap.size, 0, none⟩)), .gap (some (w.heap.size, r)) ⟨s, s.size, l⟩ n, ⟨World.alloc_heap_new W _, ⟨rfl, h1.below hb⟩, rfl⟩, rfl, rfl, rfl, Below.on h2 hb, ⟨w.heap.size, r, rfl, Nat.le_refl _, h3⟩, h2.size⟩
  obtain ⟨M, hM⟩ : ∃ M, misK none (nwK kind lo hi l) s.size = M := ⟨_, rfl⟩
  have C3 : Hid (∀ W b, Fresh w s (nwK kind lo hi l) 1 b W → Calls Tryz.prog 41 #[.pointer (some ⟨b, 0, none⟩)] W fun e W' => e = .returned (.bool M) ∧ Hid (Fresh w s (nwK kind lo hi l) 1 b W')) := fun W b ⟨y, K, h1, h2, h3, h4, h5, h6, h7⟩ => by
    refine (mis_any h1.spt h1.hold hk).mono ?_
    rintro e W' ⟨rfl, hb⟩
    refine ⟨?_, y, K, h1.below hb, h2, h3, h4, Below.on h5 hb, h6, h7⟩
    rw [h3, ← hM]
    unfold misK
    rw [show (Tx.or (some y)).bk = 1 from h2]
    rfl
  have C4 : Hid (∀ W b, Fresh w s (nwK kind lo hi l) 1 b W → Calls Tryz.prog 42 #[.pointer (some ⟨b, 0, none⟩)] W fun e W' => e = .returned (.tuple #[]) ∧ Hid (Fresh w s (nwK kind lo hi l) 2 b W')) := fun W b ⟨y, K, h1, h2, h3, h4, h5, h6, h7⟩ => by
    refine (move_any h1.box h1.hold h1.lim (hE.below h5)).mono ?_
    rintro e W' ⟨rfl, y', K', k2, k3, k4, k5, k6, k7, k8⟩
    refine ⟨rfl, y', K', ⟨k2, k3, by rw [k6]; exact h1.lim⟩, ?_, k5.trans h3, by rw [k6]; exact h4, h5.grown k7 h5.size (fun j e => by cases e; exact h7), k8.mono h5.size, h7⟩
    rw [k4, show (Tx.or (some y)).bk = 1 from h2]
    rfl
  rw [hM]
  clear hg hk hE h hl hM hp p
  by_cases c1 : kind = 2
  · subst c1
    rw [if_pos (.inl rfl)]
    clear C3
    have C6 : Hid (∀ W, Hid (∃ r n, PB W w.heap.size r ⟨s, s.size, l⟩ n ∧ Below w.heap.size w W ∧ ∀ k, r = some k → w.heap.size ≤ k) → Calls Tryz.prog 42 #[.pointer (some ⟨W.heap.size, 0, none⟩)] (W.alloc (.cells #[.iface 77 (.pointer (some ⟨w.heap.size, 0, none⟩)), .int .i64 2, .int .i64 lo, .int .i64 hi, .int .i64 l, .int .i64 0, .int .i64 0, .int .i64 0] 90)) fun e W' => e = .returned (.tuple #[]) ∧ Hid (Fresh w s (nwK 2 lo hi l) 2 W.heap.size W')) := fun W hW => C4.out _ _ (C5.out W hW)
    clear C4 C5
    go_enter Tryz.func20, Tryz.ntmps20
    go_wp2_with (first | (go_at_call 34; refine C1.out.mono ?_; clear C1; rintro e w1 ⟨rfl, HB⟩) | (go_at_call 40; refine (C2.out _ HB).mono ?_; clear C2 HB; rintro e w2 ⟨rfl, HB⟩) | (go_at_call 42; refine (C6.out _ HB).mono ?_; clear C6 HB; rintro e w3 ⟨rfl, HB⟩))
    exact bodyPost_ret (v := .tuple #[.pointer (some ⟨w2.heap.size, 0, none⟩), .int .i64 0]) (by simp [results, Tryz.results20, go_sem]) rfl ⟨_, rfl, HB.out⟩
  · have C6 : Hid (∀ W, Hid (∃ r n, PB W w.heap.size r ⟨s, s.size, l⟩ n ∧ Below w.heap.size w W ∧ ∀ k, r = some k → w.heap.size ≤ k) → Calls Tryz.prog 41 #[.pointer (some ⟨W.heap.size, 0, none⟩)] (W.alloc (.cells #[.iface 77 (.pointer (some ⟨w.heap.size, 0, none⟩)), .int .i64 kind, .int .i64 lo, .int .i64 hi, .int .i64 l, .int .i64 0, .int .i64 0, .int .i64 0] 90)) fun e W' => e = .returned (.bool M) ∧ Hid (Fresh w s (nwK kind lo hi l) 1 W.heap.size W')) := fun W hW => C3.out _ _ (C5.out W hW)
    have e1 : (kind == 2) = false := by simp [c1]
    have e2 : decide (kind = 2) = false := by simp [c1]
    clear C3 C5
    cases M with
    | false =>
      rw [if_neg (by simp [c1])]
      clear C4
      go_enter Tryz.func20, Tryz.ntmps20
      go_wp2_with (first | (go_at_call 34; refine C1.out.mono ?_; clear C1; rintro e w1 ⟨rfl, HB⟩) | (go_at_call 40; refine (C2.out _ HB).mono ?_; clear C2 HB; rintro e w2 ⟨rfl, HB⟩) | (go_at_call 41; refine (C6.out _ HB).mono ?_; clear C6 HB; rintro e w3 ⟨rfl, HB⟩))
      exact bodyPost_ret (v := .tuple #[.pointer (some ⟨w2.heap.size, 0, none⟩), .int .i64 0]) (by simp [results, Tryz.results20, go_sem]) rfl ⟨_, rfl, HB.out⟩
    | true =>
      rw [if_pos (.inr rfl)]
      go_enter Tryz.func20, Tryz.ntmps20
      go_wp2_with (first | (go_at_call 34; refine C1.out.mono ?_; clear C1; rintro e w1 ⟨rfl, HB⟩) | (go_at_call 40; refine (C2.out _ HB).mono ?_; clear C2 HB; rintro e w2 ⟨rfl, HB⟩) | (go_at_call 41; refine (C6.out _ HB).mono ?_; clear C6 HB; rintro e w3 ⟨rfl, HB⟩) | (go_at_call 42; refine (C4.out _ _ HB.out).mono ?_; clear C4 HB; rintro e w4 ⟨rfl, HB⟩))
      exact bodyPost_ret (v := .tuple #[.pointer (some ⟨w2.heap.size, 0, none⟩), .int .i64 0]) (by simp [results, Tryz.results20, go_sem]) rfl ⟨_, rfl, HB.out⟩
end Go.Proofs.YtplieccalmkloaaGreatDoor.Sto
