/-
  How a store moves from kind to kind. Conditions: those of each theorem.
-/
import Derived.Test.YtffipfmnpffdaaaGreatDoorPkTA
import Derived.Test.YtffipfmnpffdaaaGreatDoorRText
namespace Go.Proofs.YtffipfmnpffdaaaGreatDoor.Sto
open Go.RowKit Go.Shelf Bod Wid
open Gap (Gp gNew)

def misK (x : Option Tx) (k : Sk) (n : Nat) : Bool := decide (kdK k = 3) && (if (Tx.or x).bk = 1 then decide (hiK k ≤ (n : Int)) else decide ((n : Int) ≤ loK k))
/-- the numbers are ints -/
def Sk.fit (k : Sk) : Prop := k.hi ≤ 9223372036854775807 ∧ -9223372036854775808 ≤ k.hi ∧ k.lo ≤ 9223372036854775807 ∧ -9223372036854775808 ≤ k.lo
set_option maxRecDepth 100000 in
set_option maxHeartbeats 1000000 in
theorem mis_any {w : World} {v : Value} {x : Option Tx} {k : Sk} {K : Kp} (h : Spt w v x k) (hH : Hold w (Tx.or x) K) (hk : k.fit) : Calls Tryz.prog 144 #[v] w fun e W' => e = .returned (.bool (misK x k K.text.size)) ∧ Below w.heap.size w W' := by
  have C1 : Hid (Calls Tryz.prog 93 #[v] w fun e W' => e = .returned (.int .i64 (kdK k)) ∧ Hid (Below w.heap.size w W')) := kind_any h
  have C2 : Hid (∀ W, Hid (Below w.heap.size w W) → Calls Tryz.prog 91 #[v] W fun e W' => e = .returned (.tuple #[.int .i64 (loK k), .int .i64 (hiK k)]) ∧ Hid (Below w.heap.size w W')) := fun W hW => (thr_any (h.below hW.out) hk).mono fun e W' ⟨h1, h2⟩ => ⟨h1, Below.on hW.out h2⟩
  have C3 : Hid (∀ W, Hid (Below w.heap.size w W) → Calls Tryz.prog 66 #[v] W fun e W' => e = .returned (.int .i64 (Tx.or x).bk) ∧ W' = W) := fun W hW => Backend_any (h.below hW.out)
  have C4 : Hid (∀ W, Hid (Below w.heap.size w W) → Calls Tryz.prog 99 #[v] W fun e W' => e = .returned (.int .i64 K.text.size) ∧ Hid (Below w.heap.size w W')) := fun W hW => (slen_any (h.below hW.out) (hH.below hW.out)).mono fun e W' ⟨h1, h2⟩ => ⟨h1, Below.on hW.out h2⟩
  unfold misK
  generalize K.text.size = n at C4 ⊢
  generalize kdK k = kd at C1 ⊢
  generalize loK k = lo at C2 ⊢
  generalize hiK k = hi at C2 ⊢
  have hbk : (Tx.or x).bk = 1 ∨ (Tx.or x).bk = 2 := by cases Tx.or x <;> simp [Tx.bk]
  generalize (Tx.or x).bk = bk at C3 hbk ⊢
  clear h hH hk
  by_cases c1 : kd = 3
  · subst c1
    rcases hbk with rfl | rfl
    · go_enter Tryz.func144, Tryz.ntmps144
      go_wp2_with (first | (go_at_call 93; refine C1.out.mono ?_; clear C1; rintro e w1 ⟨rfl, HB⟩) | (go_at_call 91; refine (C2.out _ HB).mono ?_; clear C2 HB; rintro e w2 ⟨rfl, HB⟩) | (go_at_call 66; refine (C3.out _ HB).mono ?_; clear C3; rintro e w3 ⟨rfl, rfl⟩) | (go_at_call 99; refine (C4.out _ HB).mono ?_; clear C4 HB; rintro e w4 ⟨rfl, HB⟩))
      go_ret
      exact ⟨by simp, HB.out⟩
    · go_enter Tryz.func144, Tryz.ntmps144
      go_wp2_with (first | (go_at_call 93; refine C1.out.mono ?_; clear C1; rintro e w1 ⟨rfl, HB⟩) | (go_at_call 91; refine (C2.out _ HB).mono ?_; clear C2 HB; rintro e w2 ⟨rfl, HB⟩) | (go_at_call 66; refine (C3.out _ HB).mono ?_; clear C3; rintro e w3 ⟨rfl, rfl⟩) | (go_at_call 99; refine (C4.out _ HB).mono ?_; clear C4 HB; rintro e w4 ⟨rfl, HB⟩))
      go_ret
      exact ⟨by simp, HB.out⟩
  · have e1 : (kd == 3) = false := by simp [c1]
    have e2 : decide (kd = 3) = false := by simp [c1]
    rw [e2, Bool.false_and]
    go_enter Tryz.func144, Tryz.ntmps144
    go_wp2_with (first | (go_at_call 93; refine C1.out.mono ?_; clear C1; rintro e w1 ⟨rfl, HB⟩))
    go_ret
    exact ⟨rfl, HB.out⟩
theorem as_gap1 (W : World) (v : Value) : (Instr.typeAssert (.iface 143 v) 45 143 true).run Tryz.prog W = .ok (.tuple #[v, .bool true]) W := by kernel_rfl
theorem as_rope1 (W : World) (v : Value) : (Instr.typeAssert (.iface 188 v) 45 143 true).run Tryz.prog W = .ok (.tuple #[.pointer none, .bool false]) W := by kernel_rfl
/-- the text brought to the other backend is new -/
def Moved (w : World) (x : Tx) (s : ByteArray) (l : Nat) (e : Ending) (W' : World) : Prop := ∃ y K, e = .returned y.val ∧ Hold W' y K ∧ y.bk = 3 - x.bk ∧ K.text = s ∧ K.lim = l ∧ Below w.heap.size w W' ∧ match K with
  | .gap o _ _ => ∃ b r, o = some (b, r) ∧ w.heap.size ≤ b ∧ ∀ k, r = some k → w.heap.size ≤ k
  | .rope b _ _ _ => w.heap.size ≤ b
set_option maxRecDepth 100000 in
set_option maxHeartbeats 1000000 in
theorem moved_gap {w : World} {v : Value} {o : Option (Nat × Option Nat)} {g : Gp} {n l : Nat} (h : Gap.Is w v o g n) (hE : Ev w) (hl : g.s.size ≤ l) (hl2 : l ≤ 1073741824) : Calls Tryz.prog 158 #[.iface 143 v, .int .i64 l] w (Moved w (.gap v) g.s l) := by
  have C1 : Hid (Calls Tryz.prog 106 #[v] w fun e W' => e = .returned (.string g.s) ∧ Hid (Below w.heap.size w W')) := Gap.text_is h
  have C2 : Hid (∀ W, Hid (Below w.heap.size w W) → Calls Tryz.prog 10 #[.string g.s] W fun e W' => ∃ b, e = .returned (.pointer (some ⟨b, 0, none⟩)) ∧ Hid (Rp W' (tof g.s) (.pointer (some ⟨b, 0, none⟩)) ∧ Below w.heap.size w W')) := fun W hW => (rnew_any g.s (by unfold B40; omega) W (hE.below hW.out)).mono fun e W' ⟨b, x, h1, h2, h3, h4⟩ => ⟨b, h1, .inr ⟨b, x, rfl, h2, .inr h3⟩, Below.on hW.out h4⟩
  have HL : Hid (g.s.size ≤ l ∧ l ≤ 1073741824) := ⟨hl, hl2⟩
  have ha := fun W => as_gap1 W v
  generalize g.s = s at C1 C2 HL ⊢
  clear h hE hl
  go_enter Tryz.func158, Tryz.ntmps158
  go_wp2_with (first | (go_at_call 106; refine C1.out.mono ?_; clear C1; rintro e w1 ⟨rfl, HB⟩) | (go_at_call 10; refine (C2.out _ HB).mono ?_; clear C2 HB; rintro e w2 ⟨b, rfl, HB⟩))
  go_ret
  have hb := (Below.refl _ w2).alloc (Nat.le_refl _) (.cells #[.pointer (some ⟨b, 0, none⟩), .int .i64 (l : Int)] 190)
  exact ⟨.rope (.pointer (some ⟨w2.heap.size, 0, none⟩)), .rope w2.heap.size (.pointer (some ⟨b, 0, none⟩)) (tof s) l, rfl, ⟨rfl, ⟨World.alloc_heap_new w2 _, HB.out.1.below hb⟩, tof_good s, by rw [tof_text]; exact HL.out.1, HL.out.2⟩, rfl, tof_text s, rfl, Below.on HB.out.2 hb, HB.out.2.size⟩
set_option maxRecDepth 100000 in
set_option maxHeartbeats 1000000 in
theorem moved_rope {w : World} {b : Nat} {v : Value} {t : Tr} {l l' : Nat} (h : Rq w b v t l) (hl : t.text.size ≤ l') (hl2 : l' ≤ 1073741824) : Calls Tryz.prog 158 #[.iface 188 (.pointer (some ⟨b, 0, none⟩)), .int .i64 l'] w (Moved w (.rope (.pointer (some ⟨b, 0, none⟩))) t.text l') := by
  obtain ⟨c0, _, _, hlt⟩ := qcells h.box
  obtain ⟨s, hs⟩ : ∃ s, t.text = s := ⟨_, rfl⟩
  have C1 : Hid (Calls Tryz.prog 17 #[v] w fun e W' => e = .returned (.string s) ∧ Hid (Below w.heap.size w W')) := by
    have := rtext_any h.rp (by unfold B40; omega)
    rw [hs] at this
    exact this
  rw [hs] at hl ⊢
  have hg : gNew s l' = some ⟨s, s.size, l'⟩ := by
    have : Gap.lim (l' : Int) = l' := by unfold Gap.lim; omega
    unfold gNew
    rw [this, if_pos hl]
  have C2 : Hid (∀ W, Hid (Below w.heap.size w W) → Calls Tryz.prog 105 #[.string s, .int .i64 l'] W fun e W' => ∃ r n, e = .returned (.tuple #[.pointer (some ⟨W.heap.size, 0, none⟩), .int .i64 0]) ∧ Hid (Gap.PB W' W.heap.size r ⟨s, s.size, l'⟩ n ∧ Below w.heap.size w W' ∧ w.heap.size ≤ W.heap.size ∧ ∀ k, r = some k → w.heap.size ≤ k)) := fun W hW => by
    have := Gap.new_any s (l' : Int) W
    rw [hg] at this
    refine this.mono ?_
    rintro e W' ⟨h1, r, n, h2, h3, h4⟩
    have hz := hW.out.size
    exact ⟨r, n, h1, h2, Below.on hW.out h3, hz, fun k e => by have := h4 k e; omega⟩
  have ha := fun W => as_rope1 W (.pointer (some ⟨b, 0, none⟩))
  have ha2 := fun W => as_rope W (.pointer (some ⟨b, 0, none⟩))
  clear h hs hg hl
  go_enter Tryz.func158, Tryz.ntmps158
  go_wp2_with (first | (go_at_call 17; refine C1.out.mono ?_; clear C1; rintro e w1 ⟨rfl, HB⟩) | (go_at_call 105; refine (C2.out _ HB).mono ?_; clear C2 HB; rintro e w2 ⟨r, n, rfl, HB⟩))
  go_ret
  exact ⟨.gap (.pointer (some ⟨w1.heap.size, 0, none⟩)), .gap (some (w1.heap.size, r)) ⟨s, s.size, l'⟩ n, rfl, ⟨rfl, HB.out.1⟩, rfl, rfl, rfl, HB.out.2.1, w1.heap.size, r, rfl, HB.out.2.2.1, HB.out.2.2.2⟩
theorem moved_any {w : World} {x : Tx} {K : Kp} (h : Hold w x K) (hE : Ev w) : Calls Tryz.prog 158 #[x.val, .int .i64 K.lim] w (Moved w x K.text K.lim) := by
  have hz := h.size
  cases x <;> cases K <;> first | exact h.elim | skip
  · exact moved_gap h hE hz.1 hz.2
  · obtain ⟨rfl, h1, h2, h3, h4⟩ := h
    exact moved_rope h1 h3 h4
end Go.Proofs.YtffipfmnpffdaaaGreatDoor.Sto
namespace Go.Proofs.YtffipfmnpffdaaaGreatDoor.Sto
open Go.RowKit Go.Shelf Bod Wid
open Gap (Gp gNew)

theorem ne_type {W : World} {b c : Nat} {u v : Array Value} {S T : TypeId} (h1 : W.heap[b]? = some (.cells u S (0, 0))) (h2 : W.heap[c]? = some (.cells v T (0, 0))) (hne : S ≠ T) : b ≠ c := fun e => by
  rw [e, h2] at h1; injection h1 with h1; injection h1 with _ ht _; exact hne ht.symm
/-- the text stays while a store's own block is turned -/
theorem Hold.turn {W W' : World} {x : Tx} {K : Kp} {b : Nat} {cur : Array Value} (h : Hold W x K) (hb : W.heap[b]? = some (.cells cur 50 (0, 0))) (hg : W.grownBy W' (some b)) : Hold W' x K := by
  cases x <;> cases K <;> first | exact h.elim | skip
  · rename_i v o g n
    cases o with
    | none => exact h
    | some p =>
      obtain ⟨c, r⟩ := p
      obtain ⟨h1, h2⟩ := h
      refine ⟨h1, h2.kept (b' := b) (r' := none) ⟨hg.os, hg.tape, hg.output, hg.size, fun k hk hn _ => hg.block k hk (fun e => hn (Option.some.inj e))⟩ ?_ (by simp) (fun k hk => ⟨?_, by simp⟩)⟩
      · obtain ⟨A, e, hp, _⟩ := h2.ex
        exact ne_type hp.box hb (by decide)
      · obtain ⟨A, e, hp, _⟩ := h2.ex
        exact ne_type (hp.row k hk).2 hb (by decide)
  · obtain ⟨h1, ⟨h2, h3⟩, h4⟩ := h
    refine ⟨h1, ⟨(hg.block _ (Array.getElem?_eq_some_iff.1 h2).1 (fun e => ?_)).trans h2, rp_turn h3 hb (by decide) (by decide) (by decide) hg⟩, h4⟩
    exact ne_type h2 hb (by decide) (Option.some.inj e)
/-- what keeps the text is new -/
def Kp.new (n : Nat) : Kp → Prop
  | .gap o _ _ => ∃ b r, o = some (b, r) ∧ n ≤ b ∧ ∀ k, r = some k → n ≤ k
  | .rope b _ _ _ => n ≤ b
theorem scl_set (x y : Value) (k : Sk) : (scl x k).setIfInBounds 0 y = scl y k := rfl
set_option maxRecDepth 100000 in
set_option maxHeartbeats 1000000 in
theorem move_any {w : World} {b : Nat} {x : Option Tx} {k : Sk} {K : Kp} (h : w.heap[b]? = some (.cells (scl (Tx.at x) k) 50 (0, 0))) (hH : Hold w (Tx.or x) K) (hl : k.limit = K.lim) (hE : Ev w) :
    Calls Tryz.prog 102 #[.pointer (some ⟨b, 0, none⟩)] w fun e W' => e = .returned (.tuple #[]) ∧ ∃ y K', W'.heap[b]? = some (.cells (scl y.val k) 50 (0, 0)) ∧ Hold W' y K' ∧ y.bk = 3 - (Tx.or x).bk ∧ K'.text = K.text ∧ K'.lim = K.lim ∧ w.grownBy W' (some b) ∧ K'.new w.heap.size := by
  obtain ⟨_, _, _, _, c4, _, _, _, hlt⟩ := scells h
  obtain ⟨X, hX⟩ : ∃ X, (Tx.or x).val = X := ⟨_, rfl⟩
  have hbd : Below w.heap.size w w.drew := (Below.refl _ w).drew
  have C1 : Hid (Calls Tryz.prog 104 #[.pointer (some ⟨b, 0, none⟩)] w.drew fun e W' => e = .returned X ∧ W' = w.drew) := by
    have := body_any (w := w.drew) (v := .pointer (some ⟨b, 0, none⟩)) (x := x) (k := k) (.inr ⟨b, rfl, h⟩)
    rw [hX] at this
    exact this
  have C2 : Hid (Calls Tryz.prog 158 #[X, .int .i64 k.limit] w.drew fun e W' => ∃ T u, e = .returned (.iface T u) ∧ W'.cell? ⟨b, 0, none⟩ = some (Tx.at x) ∧ W'.frozen? ⟨b, 0, none⟩ = false ∧ b < W'.heap.size ∧ Hid (∃ y K', y.val = .iface T u ∧ Hold W' y K' ∧ y.bk = 3 - (Tx.or x).bk ∧ K'.text = K.text ∧ K'.lim = K.lim ∧ Below w.heap.size w W' ∧ K'.new w.heap.size ∧ W'.heap[b]? = some (.cells (scl (Tx.at x) k) 50 (0, 0)))) := by
    have := moved_any (hH.below hbd) (hE.below hbd)
    rw [hX, ← hl] at this
    refine this.mono ?_
    rintro e W' ⟨y, K', h1, h2, h3, h4, h5, h6, h7⟩
    have hbw : Below w.heap.size w W' := Below.on hbd h6
    have hbx := (hbw.block b hlt).trans h
    have hf : W'.frozen? ⟨b, 0, none⟩ = false := by unfold World.frozen?; rw [hbx]; rfl
    obtain ⟨T, u, e1⟩ : ∃ T u, y.val = .iface T u := by cases y <;> exact ⟨_, _, rfl⟩
    refine ⟨T, u, by rw [h1, e1], (scells hbx).1, hf, (Array.getElem?_eq_some_iff.1 hbx).1, y, K', e1, h2, h3, h4, h5, hbw, ?_, hbx⟩
    cases K' <;> exact h7
  have HL : Hid (k.limit = K.lim) := hl
  clear h hH hl hE hX hbd
  go_enter Tryz.func102, Tryz.ntmps102
  go_region_with (first | (go_at_call 104; refine C1.out.mono ?_; clear C1; rintro e w1 ⟨rfl, rfl⟩) | (go_at_call 158; refine C2.out.mono ?_; clear C2; rintro e w2 ⟨T, u, rfl, y0, f0, hlt2, HB⟩))
  all_goals
    obtain ⟨y, K', e1, h2, h3, h4, h5, h6, h7, h8⟩ := HB.out
    refine bodyPost_end (v := .tuple #[]) (by simp [results, Tryz.results102]) rfl ⟨rfl, y, K', ?_, h2.turn h8 (gcell w2 b 0 (.iface T u)), h3, h4, h5, grown_of h6 (gcell w2 b 0 (.iface T u)), h7⟩
    rw [e1, ← scl_set (Tx.at x)]
    exact set1 (i := 0) (.iface T u) h8
end Go.Proofs.YtffipfmnpffdaaaGreatDoor.Sto
namespace Go.Proofs.YtffipfmnpffdaaaGreatDoor.Sto
open Go.RowKit Go.Shelf Bod Wid

/-- at b lies a store of the numbers k, whose text K is kept by x -/
structure Pst (W : World) (b : Nat) (x : Option Tx) (k : Sk) (K : Kp) : Prop where
  box : W.heap[b]? = some (.cells (scl (Tx.at x) k) 50 (0, 0))
  hold : Hold W (Tx.or x) K
  lim : k.limit = K.lim
theorem Pst.below {W W' : World} {b : Nat} {x : Option Tx} {k : Sk} {K : Kp} (h : Pst W b x k K) (hb : Below W.heap.size W W') : Pst W' b x k K := ⟨(hb.block _ (Array.getElem?_eq_some_iff.1 h.box).1).trans h.box, h.hold.below hb, h.lim⟩
theorem Pst.spt {W : World} {b : Nat} {x : Option Tx} {k : Sk} {K : Kp} (h : Pst W b x k K) : Spt W (.pointer (some ⟨b, 0, none⟩)) x k := .inr ⟨b, rfl, h.box⟩
theorem sfroz {W : World} {b i : Nat} {x : Value} {k : Sk} (h : W.heap[b]? = some (.cells (scl x k) 50 (0, 0))) : W.frozen? ⟨b, i, none⟩ = false := by unfold World.frozen?; rw [h]; simp
/-- the text goes to the other backend: what a store is after it -/
def Gone (w : World) (b : Nat) (x : Option Tx) (K : Kp) (k' : Sk) (W' : World) : Prop := ∃ y K', Pst W' b (some y) k' K' ∧ y.bk = 3 - (Tx.or x).bk ∧ K'.text = K.text ∧ K'.lim = K.lim ∧ w.grownBy W' (some b) ∧ K'.new w.heap.size
def Sk.forced (k : Sk) : Sk := ⟨k.kind, k.lo, k.hi, k.limit, k.mv, k.fo + 1, k.ed⟩
set_option maxRecDepth 100000 in
theorem sw_none (w : World) (to : Int) : Calls Tryz.prog 25 #[.pointer none, .int .i64 to] w fun e W' => e = .returned (.int .i64 13) ∧ W' = w := by
  go_enter Tryz.func25, Tryz.ntmps25
  go_wp2
  go_ret
  exact ⟨rfl, rfl⟩
set_option maxRecDepth 100000 in
set_option maxHeartbeats 1000000 in
theorem sw_bad (w : World) (b : Nat) (to : Int) (h1 : to ≠ 1) (h2 : to ≠ 2) : Calls Tryz.prog 25 #[.pointer (some ⟨b, 0, none⟩), .int .i64 to] w fun e W' => e = .returned (.int .i64 13) ∧ W' = w := by
  have e1 : (to == 1) = false := by simp [h1]
  have e2 : (to == 2) = false := by simp [h2]
  have e3 : (to != 1) = true := by simp [h1]
  have e4 : (to != 2) = true := by simp [h2]
  go_enter Tryz.func25, Tryz.ntmps25
  go_wp2
  go_ret
  exact ⟨rfl, rfl⟩
set_option maxRecDepth 100000 in
set_option maxHeartbeats 1000000 in
theorem sw_same {w : World} {b : Nat} {x : Option Tx} {k : Sk} {K : Kp} (h : Pst w b x k K) : Calls Tryz.prog 25 #[.pointer (some ⟨b, 0, none⟩), .int .i64 (Tx.or x).bk] w fun e W' => e = .returned (.int .i64 0) ∧ W' = w := by
  have C1 : Hid (Calls Tryz.prog 66 #[.pointer (some ⟨b, 0, none⟩)] w fun e W' => e = .returned (.int .i64 (Tx.or x).bk) ∧ W' = w) := Backend_any h.spt
  have hbk : (Tx.or x).bk = 1 ∨ (Tx.or x).bk = 2 := by cases Tx.or x <;> simp [Tx.bk]
  generalize (Tx.or x).bk = bk at C1 hbk ⊢
  clear h
  rcases hbk with rfl | rfl
  · go_enter Tryz.func25, Tryz.ntmps25
    go_wp2_with (go_at_call 66; refine C1.out.mono ?_; clear C1; rintro e w1 ⟨rfl, rfl⟩)
    go_ret
    exact ⟨rfl, rfl⟩
  · go_enter Tryz.func25, Tryz.ntmps25
    go_wp2_with (go_at_call 66; refine C1.out.mono ?_; clear C1; rintro e w1 ⟨rfl, rfl⟩)
    go_ret
    exact ⟨rfl, rfl⟩
theorem grown_two {w W W' : World} {b : Nat} (h : w.grownBy W (some b)) (g : W.grownBy W' (some b)) : w.grownBy W' (some b) :=
  ⟨g.os.trans h.os, g.tape.trans h.tape, g.output.trans h.output, Nat.le_trans h.size g.size, fun k hk hn => (g.block k (Nat.lt_of_lt_of_le hk h.size) hn).trans (h.block k hk hn)⟩
set_option maxRecDepth 100000 in
set_option maxHeartbeats 1000000 in
theorem sw_other {w : World} {b : Nat} {x : Option Tx} {k : Sk} {K : Kp} (h : Pst w b x k K) (hE : Ev w) (hf : 0 ≤ k.fo ∧ k.fo ≤ 4611686018427387904) : Calls Tryz.prog 25 #[.pointer (some ⟨b, 0, none⟩), .int .i64 (3 - (Tx.or x).bk)] w fun e W' => e = .returned (.int .i64 0) ∧ Gone w b x K k.forced W' := by
  have C1 : Hid (Calls Tryz.prog 66 #[.pointer (some ⟨b, 0, none⟩)] w fun e W' => e = .returned (.int .i64 (Tx.or x).bk) ∧ W' = w) := Backend_any h.spt
  have C2 : Hid (Calls Tryz.prog 102 #[.pointer (some ⟨b, 0, none⟩)] w fun e W' => e = .returned (.tuple #[]) ∧ W'.cell? ⟨b, 6, none⟩ = some (.int .i64 k.fo) ∧ W'.frozen? ⟨b, 6, none⟩ = false ∧ b < W'.heap.size ∧ Hid (Gone w b x K k W')) := (move_any h.box h.hold h.lim hE).mono fun e W' ⟨h1, y, K', h2, h3, h4, h5, h6, h7, h8⟩ => by
    obtain ⟨_, _, _, _, _, _, y6, _, hlt⟩ := scells h2
    exact ⟨h1, y6, sfroz h2, hlt, y, K', ⟨h2, h3, by rw [h.lim, h6]⟩, h4, h5, h6, h7, h8⟩
  have hbk : (Tx.or x).bk = 1 ∨ (Tx.or x).bk = 2 := by cases Tx.or x <;> simp [Tx.bk]
  obtain ⟨bk, hb⟩ : ∃ bk, (Tx.or x).bk = bk := ⟨_, rfl⟩
  have HG : Hid (∀ W, Gone w b x K k W → Gone w b x K k.forced (W.setCell ⟨b, 6, none⟩ (.int .i64 (k.fo + 1)))) := fun W ⟨y, K', p, h4, h5, h6, h7, h8⟩ => by
    have g := gcell W b 6 (.int .i64 (k.fo + 1))
    exact ⟨y, K', ⟨set1 (i := 6) _ p.box, p.hold.turn p.box g, p.lim⟩, h4, h5, h6, grown_two h7 g, h8⟩
  generalize Gone w b x K = G at C2 HG ⊢
  rw [hb] at C1 hbk ⊢
  clear h hE hb
  rcases hbk with rfl | rfl
  · go_enter Tryz.func25, Tryz.ntmps25
    go_wp2_with (first | (go_at_call 66; refine C1.out.mono ?_; clear C1; rintro e w1 ⟨rfl, rfl⟩) | (go_at_call 102; refine C2.out.mono ?_; clear C2; rintro e w2 ⟨rfl, y6, f6, hlt, HB⟩))
    go_ret
    exact ⟨rfl, HG.out _ HB.out⟩
  · go_enter Tryz.func25, Tryz.ntmps25
    go_wp2_with (first | (go_at_call 66; refine C1.out.mono ?_; clear C1; rintro e w1 ⟨rfl, rfl⟩) | (go_at_call 102; refine C2.out.mono ?_; clear C2; rintro e w2 ⟨rfl, y6, f6, hlt, HB⟩))
    go_ret
    exact ⟨rfl, HG.out _ HB.out⟩
end Go.Proofs.YtffipfmnpffdaaaGreatDoor.Sto
