/-
  How a store replaces; a store of the call's own. Conditions: those of each theorem.
-/
import Derived.Test.YtcjmfoadimpffaaGreatDoorPkTB
namespace Go.Proofs.YtcjmfoadimpffaaGreatDoor.Sto
open Go.RowKit Go.Shelf Bod Wid
open Gap (Gp gRep gOut eBA)

/-- an edit: the text, what was cut, the error -/
def txR (s : ByteArray) (l : Nat) (a c : Int) (put : ByteArray) : ByteArray × ByteArray × Int :=
  if a < 0 ∨ c < 0 ∨ (s.size : Int) < a ∨ (s.size : Int) - a < c then (s, eBA, 1) else if (l : Int) < (s.size : Int) - c + put.size then (s, eBA, 2)
  else (s.extract 0 a.toNat ++ put ++ s.extract (a.toNat + c.toNat) s.size, s.extract a.toNat (a.toNat + c.toNat), 0)
theorem gRep_tx (g : Gp) (a c : Int) (put : ByteArray) : (gRep g a c put).1.s = (txR g.s g.l a c put).1 ∧ (gRep g a c put).1.l = g.l ∧ (gRep g a c put).2 = (txR g.s g.l a c put).2 := by
  by_cases c1 : a < 0 ∨ c < 0 ∨ (g.s.size : Int) < a ∨ (g.s.size : Int) - a < c
  · have e1 : gRep g a c put = (g, eBA, 1) := by unfold gRep; exact if_pos c1
    have e2 : txR g.s g.l a c put = (g.s, eBA, 1) := by unfold txR; exact if_pos c1
    rw [e1, e2]; exact ⟨rfl, rfl, rfl⟩
  · by_cases c2 : (g.l : Int) < (g.s.size : Int) - c + put.size
    · have e1 : gRep g a c put = (g, eBA, 2) := by unfold gRep; exact (if_neg c1).trans (if_pos c2)
      have e2 : txR g.s g.l a c put = (g.s, eBA, 2) := by unfold txR; exact (if_neg c1).trans (if_pos c2)
      rw [e1, e2]; exact ⟨rfl, rfl, rfl⟩
    · have e1 : gRep g a c put = (⟨g.s.extract 0 a.toNat ++ put ++ g.s.extract (a.toNat + c.toNat) g.s.size, a.toNat + put.size, g.l⟩, g.s.extract a.toNat (a.toNat + c.toNat), 0) := by unfold gRep; exact (if_neg c1).trans (if_neg c2)
      have e2 : txR g.s g.l a c put = (g.s.extract 0 a.toNat ++ put ++ g.s.extract (a.toNat + c.toNat) g.s.size, g.s.extract a.toNat (a.toNat + c.toNat), 0) := by unfold txR; exact (if_neg c1).trans (if_neg c2)
      rw [e1, e2]; exact ⟨rfl, rfl, rfl⟩
/-- the blocks that what keeps the text may turn -/
def Kp.blk : Kp → Nat → Prop
  | .gap o _ _, k => ∃ b r, o = some (b, r) ∧ (k = b ∨ r = some k)
  | .rope b _ _ _, k => k = b
/-- nothing is turned but the blocks B -/
structure Tn (B : Nat → Prop) (w w' : World) : Prop where
  os : w'.os = w.os
  tape : w'.tape = w.tape
  out : w'.output = w.output
  size : w.heap.size ≤ w'.heap.size
  block : ∀ k, k < w.heap.size → ¬ B k → w'.heap[k]? = w.heap[k]?
theorem Tn.of_below {B : Nat → Prop} {w w' : World} (h : Below w.heap.size w w') : Tn B w w' := ⟨h.os, h.tape, h.output, h.size, fun k hk _ => h.block k hk⟩
theorem Tn.of_grown {B : Nat → Prop} {w w' : World} {b : Nat} (h : w.grownBy w' (some b)) (hb : B b) : Tn B w w' := ⟨h.os, h.tape, h.output, h.size, fun k hk hn => h.block k hk (fun e => by cases e; exact hn hb)⟩
/-- what an edit leaves -/
def Did (w : World) (x : Tx) (K : Kp) (s : ByteArray) (w' : World) : Prop := ∃ K', Hold w' x K' ∧ K'.text = s ∧ K'.lim = K.lim ∧ Tn K.blk w w' ∧ ∀ k, K'.blk k → K.blk k ∨ w.heap.size ≤ k
theorem did_none {w w' : World} {x : Tx} {K : Kp} (h : Hold w x K) (hb : Below w.heap.size w w') : Did w x K K.text w' := ⟨K, h.below hb, rfl, rfl, .of_below hb, fun _ h => .inl h⟩
theorem hold_rep {W : World} {x : Tx} {K : Kp} (h : Hold W x K) (hE : Ev W) : ∃ T v f, x.val = .iface T v ∧ Mt T v "Replace" f ∧ ∀ (a c : Int) (put : ByteArray), (-9223372036854775808 ≤ a ∧ a ≤ 9223372036854775807) → c ≤ 9223372036854775807 → put.size ≤ 9223372036854775807 →
    Calls Tryz.prog f #[v, .int .i64 a, .int .i64 c, .string put] W fun e W' => e = .returned (.tuple #[.string (txR K.text K.lim a c put).2.1, .int .i64 (txR K.text K.lim a c put).2.2]) ∧ Did W x K (txR K.text K.lim a c put).1 W' := by
  cases x <;> cases K <;> first | exact h.elim | skip
  · rename_i v o g n
    refine ⟨_, _, _, rfl, mt_grep _, fun a c put ha _ _ => ?_⟩
    obtain ⟨t1, t2, t3⟩ := gRep_tx g a c put
    refine (Gap.rep_is h a c ha put).mono ?_
    rintro e W' ⟨rfl, o2, n2, h1, h2, h3, _⟩
    rw [t3]
    refine ⟨rfl, .gap o2 (gRep g a c put).1 n2, h1, t1, t2, ?_, ?_⟩
    · cases o with
      | none => exact .of_below h2
      | some p => exact ⟨h2.1, h2.2.1, h2.2.2.1, h2.2.2.2.1, fun k hk hn => h2.2.2.2.2 k hk (fun e => hn ⟨p.1, p.2, rfl, .inl e⟩) (fun e => hn ⟨p.1, p.2, rfl, .inr e⟩)⟩
    · rintro k ⟨b, r, e1, e2⟩
      cases o with
      | none => have h3 : o2 = none := h3; rw [h3] at e1; cases e1
      | some p =>
        obtain ⟨r2, q1, q2⟩ := h3
        rw [q1] at e1
        cases e1
        rcases e2 with e2 | e2
        · exact .inl ⟨p.1, p.2, rfl, .inl e2⟩
        · rcases q2 with q2 | ⟨j, q2, q3⟩
          · exact .inl ⟨p.1, p.2, rfl, .inr (by rw [← q2]; exact e2)⟩
          · rw [q2] at e2; cases e2; exact .inr q3
  · rename_i v b u t l
    have hh := h
    obtain ⟨rfl, h1, h2, h3, h4⟩ := h
    refine ⟨_, _, _, rfl, mt_qrep _, fun a c put ha hc hp => ?_⟩
    simp only [Kp.text, Kp.lim]
    by_cases c1 : a < 0 ∨ c < 0 ∨ (t.text.size : Int) < a ∨ (t.text.size : Int) - a < c
    · have hq : qErr t.text.size l a c put.size = 1 := by unfold qErr; rw [if_pos (by omega)]
      have ht : txR t.text l a c put = (t.text, eBA, 1) := by unfold txR; rw [if_pos c1]
      rw [ht]
      refine (qrep_no h1 (by unfold B40; omega) (by omega) a c put hp ha.2 hc (by rw [hq]; decide)).mono ?_
      rintro e W' ⟨rfl, hb⟩
      rw [hq]
      exact ⟨rfl, did_none (K := .rope b u t l) hh hb⟩
    · by_cases c2 : (l : Int) < (t.text.size : Int) - c + put.size
      · have hq : qErr t.text.size l a c put.size = 2 := by unfold qErr; rw [if_neg (by omega), if_pos (by omega)]
        have ht : txR t.text l a c put = (t.text, eBA, 2) := by unfold txR; rw [if_neg c1, if_pos c2]
        rw [ht]
        refine (qrep_no h1 (by unfold B40; omega) (by omega) a c put hp ha.2 hc (by rw [hq]; decide)).mono ?_
        rintro e W' ⟨rfl, hb⟩
        rw [hq]
        exact ⟨rfl, did_none (K := .rope b u t l) hh hb⟩
      · obtain ⟨i, rfl⟩ : ∃ i : Nat, a = i := ⟨a.toNat, by omega⟩
        obtain ⟨j, rfl⟩ : ∃ j : Nat, c = j := ⟨c.toNat, by omega⟩
        have ht : txR t.text l i j put = (t.text.extract 0 i ++ put ++ t.text.extract (i + j) t.text.size, t.text.extract i (i + j), 0) := by unfold txR; rw [if_neg c1, if_neg c2]; rfl
        rw [ht]
        refine (qrep_ok h1 h2 (by omega) (by omega) i j put (by omega) (by omega) hE).mono ?_
        rintro e W' ⟨v', rfl, k1, k2⟩
        obtain ⟨r1, r2⟩ := rep_ok put h2 (n := i) (m := i + j) (by omega) (by omega)
        refine ⟨rfl, .rope b v' (rep t i (i + j) put) l, ⟨rfl, k1, r1, ?_, h4⟩, r2, rfl, .of_grown k2 rfl, fun k e => .inl e⟩
        rw [r2, size_app, size_app, size_extract _ _ _ (by omega), size_extract _ _ _ (Nat.le_refl _)]
        omega
end Go.Proofs.YtcjmfoadimpffaaGreatDoor.Sto
namespace Go.Proofs.YtcjmfoadimpffaaGreatDoor.Sto
open Go.RowKit Go.Shelf Bod Wid
open Gap (Gp gRep gOut eBA)

/-- a store's block is none of those that keep a text -/
theorem Hold.not_blk {W : World} {x : Tx} {K : Kp} {b : Nat} {cur : Array Value} (h : Hold W x K) (hb : W.heap[b]? = some (.cells cur 131 (0, 0))) : ¬ K.blk b := by
  cases x <;> cases K <;> first | exact h.elim | skip
  · rintro ⟨c, r, rfl, e⟩
    obtain ⟨A, _, hp, _⟩ := h.2.ex
    rcases e with e | e
    · exact ne_type hp.box hb (by decide) e.symm
    · exact ne_type (hp.row b e).2 hb (by decide) rfl
  · intro e
    exact ne_type h.2.1.box hb (by decide) e.symm
def Sk.edit (k : Sk) (n : Int) : Sk := ⟨k.kind, k.lo, k.hi, k.limit, k.mv, k.fo, k.ed + n⟩
def Sk.went (k : Sk) : Sk := ⟨k.kind, k.lo, k.hi, k.limit, k.mv + 1, k.fo, k.ed⟩
/-- how the body's Replace is asked, and what the store is after it -/
theorem ask_rep {w : World} {b : Nat} {x : Option Tx} {k : Sk} {K : Kp} (h : Pst w b x k K) (hE : Ev w) (a c : Int) (put : ByteArray) (ha : -9223372036854775808 ≤ a ∧ a ≤ 9223372036854775807) (hc : c ≤ 9223372036854775807) (hp : put.size ≤ 9223372036854775807) :
    ∃ T v f, Mt T v "Replace" f ∧ Calls Tryz.prog 76 #[.pointer (some ⟨b, 0, none⟩)] w (fun e W' => e = .returned (.iface T v) ∧ W' = w) ∧ Calls Tryz.prog f #[v, .int .i64 a, .int .i64 c, .string put] w fun e W' => e = .returned (.tuple #[.string (txR K.text K.lim a c put).2.1, .int .i64 (txR K.text K.lim a c put).2.2]) ∧ ∃ K', Pst W' b x k K' ∧ K'.text = (txR K.text K.lim a c put).1 ∧ K'.lim = K.lim ∧ Tn K.blk w W' ∧ ∀ j, K'.blk j → K.blk j ∨ w.heap.size ≤ j := by
  obtain ⟨T, v, f, e1, m, C⟩ := hold_rep h.hold hE
  refine ⟨T, v, f, m, ?_, (C a c put ha hc hp).mono ?_⟩
  · have := body_any h.spt
    rw [e1] at this
    exact this
  · rintro e W' ⟨rfl, K', h1, h2, h3, h4, h5⟩
    exact ⟨rfl, K', ⟨(h4.block b (Array.getElem?_eq_some_iff.1 h.box).1 (h.hold.not_blk h.box)).trans h.box, h1, by rw [h.lim, h3]⟩, h2, h3, h4, h5⟩
set_option maxRecDepth 100000 in
set_option maxHeartbeats 1000000 in
theorem srep_no {w : World} {b : Nat} {x : Option Tx} {k : Sk} {K : Kp} (h : Pst w b x k K) (hE : Ev w) (a c : Int) (put : ByteArray) (ha : -9223372036854775808 ≤ a ∧ a ≤ 9223372036854775807) (hc : c ≤ 9223372036854775807) (hp : put.size ≤ 9223372036854775807) (hq : (txR K.text K.lim a c put).2.2 ≠ 0) :
    Calls Tryz.prog 206 #[.pointer (some ⟨b, 0, none⟩), .int .i64 a, .int .i64 c, .string put] w fun e W' => e = .returned (.tuple #[.string (txR K.text K.lim a c put).2.1, .int .i64 (txR K.text K.lim a c put).2.2]) ∧ ∃ K', Pst W' b x k K' ∧ K'.text = (txR K.text K.lim a c put).1 ∧ K'.lim = K.lim ∧ Tn K.blk w W' ∧ ∀ j, K'.blk j → K.blk j ∨ w.heap.size ≤ j := by
  obtain ⟨T, v, f, ⟨m1, m2⟩, C1', C2'⟩ := ask_rep h hE a c put ha hc hp
  obtain ⟨E, hEr⟩ : ∃ E, (txR K.text K.lim a c put).2.2 = E := ⟨_, rfl⟩
  obtain ⟨O, hO⟩ : ∃ O, (txR K.text K.lim a c put).2.1 = O := ⟨_, rfl⟩
  rw [hEr] at hq C2' ⊢
  rw [hO] at C2' ⊢
  generalize (txR K.text K.lim a c put).1 = X at C2' ⊢
  have C1 : Hid (Calls Tryz.prog 76 #[.pointer (some ⟨b, 0, none⟩)] w (fun e W' => e = .returned (.iface T v) ∧ W' = w)) := C1'
  have C2 : Hid (Calls Tryz.prog f #[v, .int .i64 a, .int .i64 c, .string put] w fun e W' => e = .returned (.tuple #[.string O, .int .i64 E]) ∧ Hid (∃ K', Pst W' b x k K' ∧ K'.text = X ∧ K'.lim = K.lim ∧ Tn K.blk w W' ∧ ∀ j, K'.blk j → K.blk j ∨ w.heap.size ≤ j)) := C2'
  have e1 : (E == 0) = false := by simp [hq]
  have e2 : (E != 0) = true := by simp [hq]
  clear C1' C2' h hE hEr hO
  go_enter Tryz.func206, Tryz.ntmps206
  go_wp2_with (first | (go_at_call 76; refine C1.out.mono ?_; clear C1; rintro e w1 ⟨rfl, rfl⟩) | (go_at_fn f; refine C2.out.mono ?_; clear C2; rintro e w2 ⟨rfl, HB⟩))
  exact bodyPost_ret (v := .tuple #[.string O, .int .i64 E]) (by simp [results, Tryz.results206, go_sem]) rfl ⟨rfl, HB.out⟩
end Go.Proofs.YtcjmfoadimpffaaGreatDoor.Sto
namespace Go.Proofs.YtcjmfoadimpffaaGreatDoor.Sto
open Go.RowKit Go.Shelf Bod Wid

theorem ev_turn {B : Nat → Prop} {w W : World} (h : Ev w) (ht : Tn B w W) (h0 : ¬ B 1) (h1 : ¬ B 2) : Ev W := by
  have ceq : ∀ a : Addr, a.block = 1 ∨ a.block = 2 → W.cell? a = w.cell? a := fun a ha => by
    have : W.heap[a.block]? = w.heap[a.block]? := by
      rcases ha with e | e
      · rw [e]; exact ht.block _ h.l0 h0
      · rw [e]; exact ht.block _ h.l1 h1
    unfold World.cell?
    rw [this]
  exact ⟨⟨fun c hc => (ceq _ (.inl rfl)).trans (h.t.1 c hc), fun i hi => ⟨(ceq _ (.inr rfl)).trans (h.t.2 i hi).1, (ceq _ (.inr rfl)).trans (h.t.2 i hi).2⟩⟩, Nat.lt_of_lt_of_le h.l0 ht.size, Nat.lt_of_lt_of_le h.l1 ht.size⟩
theorem Tn.mono {B C : Nat → Prop} {w W : World} (h : Tn B w W) (hc : ∀ j, B j → C j) : Tn C w W := ⟨h.os, h.tape, h.out, h.size, fun k hk hn => h.block k hk (fun e => hn (hc k e))⟩
theorem Tn.trans {B : Nat → Prop} {w W X : World} (h : Tn B w W) (g : Tn (fun j => B j ∨ w.heap.size ≤ j) W X) : Tn B w X :=
  ⟨g.os.trans h.os, g.tape.trans h.tape, g.out.trans h.out, Nat.le_trans h.size g.size, fun k hk hn => (g.block k (Nat.lt_of_lt_of_le hk h.size) (fun e => e.elim hn (fun e => by omega))).trans (h.block k hk hn)⟩
/-- what a store is after an edit -/
structure Aft (w : World) (b : Nat) (K : Kp) (s : ByteArray) (x : Option Tx) (k : Sk) (W : World) (K' : Kp) : Prop where
  st : Pst W b x k K'
  text : K'.text = s
  lim : K'.lim = K.lim
  tn : Tn (fun j => j = b ∨ K.blk j) w W
  new : ∀ j, K'.blk j → K.blk j ∨ w.heap.size ≤ j
theorem Aft.below {w W X : World} {b : Nat} {K K' : Kp} {s : ByteArray} {x : Option Tx} {k : Sk} (h : Aft w b K s x k W K') (hb : Below W.heap.size W X) : Aft w b K s x k X K' := ⟨h.st.below hb, h.text, h.lim, h.tn.trans (.of_below hb), h.new⟩
/-- a number of the store is set -/
theorem Aft.set {w W : World} {b : Nat} {K K' : Kp} {s : ByteArray} {x : Option Tx} {k k' : Sk} {i : Nat} {u : Value} (h : Aft w b K s x k W K') (he : (scl (Tx.at x) k).setIfInBounds i u = scl (Tx.at x) k') (hl : k'.limit = k.limit) : Aft w b K s x k' (W.setCell ⟨b, i, none⟩ u) K' :=
  ⟨⟨by have := set1 (i := i) u h.st.box; rw [he] at this; exact this, h.st.hold.turn h.st.box (gcell W b i u), by rw [hl]; exact h.st.lim⟩, h.text, h.lim, h.tn.trans (.of_grown (gcell W b i u) (.inl (.inl rfl))), h.new⟩
theorem Aft.cells {w W : World} {b : Nat} {K K' : Kp} {s : ByteArray} {x : Option Tx} {k : Sk} (h : Aft w b K s x k W K') : (W.cell? ⟨b, 5, none⟩ = some (.int .i64 k.mv) ∧ W.cell? ⟨b, 7, none⟩ = some (.int .i64 k.ed)) ∧ (W.frozen? ⟨b, 5, none⟩ = false ∧ W.frozen? ⟨b, 7, none⟩ = false) ∧ b < W.heap.size := by
  obtain ⟨_, _, _, _, _, y5, _, y7, hlt⟩ := scells h.st.box
  exact ⟨⟨y5, y7⟩, ⟨sfroz h.st.box, sfroz h.st.box⟩, hlt⟩
theorem txR_zero {s : ByteArray} {l : Nat} {a c : Int} {put : ByteArray} (h : (txR s l a c put).2.2 = 0) : 0 ≤ c ∧ c ≤ s.size ∧ (put.size : Int) ≤ l - s.size + c := by
  unfold txR at h
  by_cases c1 : a < 0 ∨ c < 0 ∨ (s.size : Int) < a ∨ (s.size : Int) - a < c
  · rw [if_pos c1] at h; cases h
  · rw [if_neg c1] at h
    by_cases c2 : (l : Int) < (s.size : Int) - c + put.size
    · rw [if_pos c2] at h; cases h
    · omega
set_option maxRecDepth 100000 in
set_option maxHeartbeats 2000000 in
theorem srep_ok {w : World} {b : Nat} {x : Option Tx} {k : Sk} {K : Kp} (h : Pst w b x k K) (hE : Ev w) (hB : ∀ j, j = b ∨ K.blk j → j ≠ 1 ∧ j ≠ 2) (hk : k.fit) (hn : 0 ≤ k.ed ∧ k.ed ≤ 4611686018427387904 ∧ 0 ≤ k.mv ∧ k.mv ≤ 4611686018427387904) (a c : Int) (put : ByteArray) (ha : -9223372036854775808 ≤ a ∧ a ≤ 9223372036854775807) (hc : c ≤ 9223372036854775807) (hp : put.size ≤ 9223372036854775807) (hq : (txR K.text K.lim a c put).2.2 = 0) :
    Calls Tryz.prog 206 #[.pointer (some ⟨b, 0, none⟩), .int .i64 a, .int .i64 c, .string put] w fun e W' => e = .returned (.tuple #[.string (txR K.text K.lim a c put).2.1, .int .i64 0]) ∧
      if misK x (k.edit (c + put.size)) (txR K.text K.lim a c put).1.size then ∃ y K', y.bk = 3 - (Tx.or x).bk ∧ Aft w b K (txR K.text K.lim a c put).1 (some y) (k.edit (c + put.size)).went W' K'
      else ∃ K', Aft w b K (txR K.text K.lim a c put).1 x (k.edit (c + put.size)) W' K' := by
  have hz := h.hold.size
  have hz2 := txR_zero hq
  obtain ⟨T, v, f, ⟨m1, m2⟩, C1', C2'⟩ := ask_rep h hE a c put ha hc hp
  obtain ⟨O, hO⟩ : ∃ O, (txR K.text K.lim a c put).2.1 = O := ⟨_, rfl⟩
  rw [hq, hO] at C2'
  rw [hO]
  generalize (txR K.text K.lim a c put).1 = X at C2' ⊢
  obtain ⟨D, hD⟩ : ∃ D : Int, c + (put.size : Int) = D := ⟨_, rfl⟩
  have hD2 : 0 ≤ D ∧ D ≤ 4294967296 := by omega
  rw [hD]
  have C1 : Hid (Calls Tryz.prog 76 #[.pointer (some ⟨b, 0, none⟩)] w (fun e W' => e = .returned (.iface T v) ∧ W' = w)) := C1'
  have C2 : Hid (Calls Tryz.prog f #[v, .int .i64 a, .int .i64 c, .string put] w fun e W' => e = .returned (.tuple #[.string O, .int .i64 0]) ∧ W'.cell? ⟨b, 7, none⟩ = some (.int .i64 k.ed) ∧ W'.frozen? ⟨b, 7, none⟩ = false ∧ b < W'.heap.size ∧ Hid (∃ K', Aft w b K X x k W' K')) := C2'.mono fun e W' ⟨h1, K', h2, h3, h4, h5, h6⟩ => by
    have A : Aft w b K X x k W' K' := ⟨h2, h3, h4, h5.mono (fun j e => .inr e), h6⟩
    exact ⟨h1, A.cells.1.2, A.cells.2.1.2, A.cells.2.2, K', A⟩
  obtain ⟨M, hM⟩ : ∃ M, misK x (k.edit D) X.size = M := ⟨_, rfl⟩
  have C3 : Hid (∀ W, Hid (∃ K', Aft w b K X x k W K') → Calls Tryz.prog 73 #[.pointer (some ⟨b, 0, none⟩)] (W.setCell ⟨b, 7, none⟩ (.int .i64 (k.ed + D))) fun e W' => e = .returned (.bool M) ∧ Hid (∃ K', Aft w b K X x (k.edit D) W' K')) := fun W hW => by
    obtain ⟨K', A⟩ := hW.out
    have A1 := A.set (i := 7) (u := .int .i64 (k.ed + D)) (k' := k.edit D) rfl rfl
    refine (mis_any A1.st.spt A1.st.hold hk).mono ?_
    rintro e W' ⟨rfl, hb⟩
    exact ⟨by rw [A.text, hM], K', A1.below hb⟩
  have C4 : Hid (∀ W, Hid (∃ K', Aft w b K X x (k.edit D) W K') → Calls Tryz.prog 74 #[.pointer (some ⟨b, 0, none⟩)] W fun e W' => e = .returned (.tuple #[]) ∧ W'.cell? ⟨b, 5, none⟩ = some (.int .i64 k.mv) ∧ W'.frozen? ⟨b, 5, none⟩ = false ∧ b < W'.heap.size ∧ Hid (∃ y K', y.bk = 3 - (Tx.or x).bk ∧ Aft w b K X (some y) (k.edit D) W' K')) := fun W hW => by
    obtain ⟨K', A⟩ := hW.out
    have hEW : Ev W := ev_turn hE A.tn (fun e => (hB _ e).1 rfl) (fun e => (hB _ e).2 rfl)
    refine (move_any A.st.box A.st.hold A.st.lim hEW).mono ?_
    rintro e W' ⟨rfl, y, K2, h2, h3, h4, h5, h6, h7, h8⟩
    have A2 : Aft w b K X (some y) (k.edit D) W' K2 := ⟨⟨h2, h3, by rw [h6]; exact A.st.lim⟩, h5.trans A.text, h6.trans A.lim, A.tn.trans (.of_grown h7 (.inl (.inl rfl))), fun j e => .inr ?_⟩
    · exact ⟨rfl, A2.cells.1.1, A2.cells.2.1.1, A2.cells.2.2, y, K2, h4, A2⟩
    · have hs := A.tn.size
      cases K2 with
      | gap o g n =>
        obtain ⟨b1, r1, e1, e2, e3⟩ := h8
        obtain ⟨b2, r2, e4, e5⟩ := e
        rw [e1] at e4
        cases e4
        rcases e5 with e5 | e5
        · omega
        · have := e3 j e5; omega
      | rope b1 _ _ _ =>
        have h8 : W.heap.size ≤ b1 := h8
        have e : j = b1 := e
        omega
  have HG : Hid (∀ W, (∃ y K', y.bk = 3 - (Tx.or x).bk ∧ Aft w b K X (some y) (k.edit D) W K') → ∃ y K', y.bk = 3 - (Tx.or x).bk ∧ Aft w b K X (some y) (k.edit D).went (W.setCell ⟨b, 5, none⟩ (.int .i64 (k.mv + 1))) K') := fun W ⟨y, K', h1, A⟩ => ⟨y, K', h1, A.set (i := 5) (k' := (k.edit D).went) rfl rfl⟩
  rw [hM]
  clear C1' C2' h hE hB hk hM hO hq hz
  cases M with
  | false =>
    clear C4 HG
    go_enter Tryz.func206, Tryz.ntmps206
    go_wp2_with (first | (go_at_call 76; refine C1.out.mono ?_; clear C1; rintro e w1 ⟨rfl, rfl⟩) | (go_at_fn f; refine C2.out.mono ?_; clear C2; rintro e w2 ⟨rfl, y7, f7, hlt, HB⟩) | (go_at_call 73; refine (C3.out _ HB).mono ?_; clear C3 HB; rintro e w3 ⟨rfl, HB⟩))
    exact bodyPost_ret (v := .tuple #[.string O, .int .i64 0]) (by simp [results, Tryz.results206, go_sem]) rfl ⟨rfl, HB.out⟩
  | true =>
    go_enter Tryz.func206, Tryz.ntmps206
    go_wp2_with (first | (go_at_call 76; refine C1.out.mono ?_; clear C1; rintro e w1 ⟨rfl, rfl⟩) | (go_at_fn f; refine C2.out.mono ?_; clear C2; rintro e w2 ⟨rfl, y7, f7, hlt, HB⟩) | (go_at_call 73; refine (C3.out _ HB).mono ?_; clear C3 HB; rintro e w3 ⟨rfl, HB⟩) | (go_at_call 74; refine (C4.out _ HB).mono ?_; clear C4 HB; rintro e w4 ⟨rfl, y5, f5, hlt4, HB⟩))
    exact bodyPost_ret (v := .tuple #[.string O, .int .i64 0]) (by simp [results, Tryz.results206, go_sem]) rfl ⟨rfl, by obtain ⟨y, K', h1, h2⟩ := HG.out _ HB.out; exact ⟨y, h1, K', h2⟩⟩
end Go.Proofs.YtcjmfoadimpffaaGreatDoor.Sto
namespace Go.Proofs.YtcjmfoadimpffaaGreatDoor.Sto
open Go.RowKit Go.Shelf Bod Wid
open Gap (Gp eBA)

theorem at_keep {W W' : World} (B : Nat → Prop) (ht : ∀ j, j < W.heap.size → ¬ B j → W'.heap[j]? = W.heap[j]?) (h2 : ∀ j cur T fz, B j → W.heap[j]? = some (.cells cur T fz) → T ≠ 188 ∧ T ≠ 152) : ∀ {t : Tr} {x : Value}, At W t x → At W' t x
  | .leaf _, _, ⟨c, e1, e2⟩ => ⟨c, e1, (ht c (Array.getElem?_eq_some_iff.1 e2).1 fun e => (h2 c _ _ _ e e2).1 rfl).trans e2⟩
  | .knot _ _, _, ⟨c, x, y, e1, e2, e3, e4⟩ => ⟨c, x, y, e1, (ht c (Array.getElem?_eq_some_iff.1 e2).1 fun e => (h2 c _ _ _ e e2).2 rfl).trans e2, at_keep B ht h2 e3, at_keep B ht h2 e4⟩
/-- the text stays while blocks that are none of its own, and no rope's, are turned -/
theorem Hold.keep {W W' : World} {x : Tx} {K : Kp} {B : Nat → Prop} (h : Hold W x K) (ht : Tn B W W') (h1 : ∀ j, K.blk j → ¬ B j) (h2 : ∀ j cur T fz, B j → W.heap[j]? = some (.cells cur T fz) → T ≠ 188 ∧ T ≠ 152 ∧ T ≠ 92) : Hold W' x K := by
  cases x <;> cases K <;> first | exact h.elim | skip
  · rename_i v o g n
    cases o with
    | none => exact h
    | some p =>
      obtain ⟨c, r⟩ := p
      obtain ⟨e1, e2⟩ := h
      obtain ⟨A, e, hp, hq⟩ := e2.ex
      exact ⟨e1, ⟨A, e, ⟨(ht.block c hp.lt (h1 c ⟨c, r, rfl, .inl rfl⟩)).trans hp.box, fun k hk => ⟨(hp.row k hk).1, (ht.block k (hp.rlt hk) (h1 k ⟨c, r, rfl, .inr hk⟩)).trans (hp.row k hk).2⟩, hp.nil⟩, hq⟩, e2.cap, e2.lm, e2.ok⟩
  · rename_i v b u t l
    obtain ⟨e1, ⟨e2, e3⟩, e4⟩ := h
    refine ⟨e1, ⟨(ht.block _ (Array.getElem?_eq_some_iff.1 e2).1 (h1 b rfl)).trans e2, ?_⟩, e4⟩
    rcases e3 with e3 | ⟨c, x, q1, q2, q3⟩
    · exact .inl e3
    · exact .inr ⟨c, x, q1, (ht.block c (Array.getElem?_eq_some_iff.1 q2).1 (fun e => (h2 c _ _ _ e q2).2.2 rfl)).trans q2, q3.imp id (at_keep B (fun j hj hn => ht.block j hj hn) (fun j cur T fz hB hj => ⟨(h2 j cur T fz hB hj).1, (h2 j cur T fz hB hj).2.1⟩))⟩
theorem Hold.blk_ty {W : World} {x : Tx} {K : Kp} {j : Nat} (h : Hold W x K) (hj : K.blk j) : ∃ cur T, W.heap[j]? = some (.cells cur T (0, 0)) ∧ (T = 154 ∨ T = 5 ∨ T = 216) := by
  cases x <;> cases K <;> first | exact h.elim | skip
  · rename_i v o g n
    obtain ⟨b, r, rfl, e⟩ := hj
    obtain ⟨A, _, hp, _⟩ := h.2.ex
    rcases e with rfl | e
    · exact ⟨_, _, hp.box, .inl rfl⟩
    · exact ⟨_, _, (hp.row j e).2, .inr (.inl rfl)⟩
  · have e : j = _ := hj
    subst e
    exact ⟨_, _, h.2.1.box, .inr (.inr rfl)⟩
/-- only blocks of a store's kinds are turned -/
structure Fty (W W' : World) : Prop where
  size : W.heap.size ≤ W'.heap.size
  keep : ∀ (j : Nat) (cur : Array Value) (T : TypeId) (fz : Nat × Nat), W.heap[j]? = some (.cells cur T fz) → T ≠ 131 → T ≠ 154 → T ≠ 5 → T ≠ 216 → W'.heap[j]? = some (.cells cur T fz)
  rest : ∀ (j : Nat) (o : Obj), W.heap[j]? = some o → o.isCells = false → W'.heap[j]? = some o
theorem Fty.below {W W' : World} (h : Below W.heap.size W W') : Fty W W' := ⟨h.size, fun j _ _ _ hj _ _ _ _ => (h.block j (Array.getElem?_eq_some_iff.1 hj).1).trans hj, fun j _ hj _ => (h.block j (Array.getElem?_eq_some_iff.1 hj).1).trans hj⟩
theorem Fty.trans {W X Y : World} (h : Fty W X) (g : Fty X Y) : Fty W Y := ⟨Nat.le_trans h.size g.size, fun j cur T fz hj a b c d => g.keep j cur T fz (h.keep j cur T fz hj a b c d) a b c d, fun j o hj ho => g.rest j o (h.rest j o hj ho) ho⟩
theorem fty_of {W W' : World} {b : Nat} {x : Option Tx} {k : Sk} {K : Kp} (h : Pst W b x k K) (ht : Tn (fun j => j = b ∨ K.blk j) W W') : Fty W W' :=
  ⟨ht.size, fun j cur T fz hj a b' c d => (ht.block j (Array.getElem?_eq_some_iff.1 hj).1 (fun e => by
    rcases e with rfl | e
    · rw [h.box] at hj; injection hj with hj; injection hj with _ e _; exact a e.symm
    · obtain ⟨cur', T', e1, e2⟩ := h.hold.blk_ty e
      rw [e1] at hj; injection hj with hj; injection hj with _ e _
      rcases e2 with e2 | e2 | e2
      · exact b' (e.symm.trans e2)
      · exact c (e.symm.trans e2)
      · exact d (e.symm.trans e2))).trans hj, fun j o hj ho => (ht.block j (Array.getElem?_eq_some_iff.1 hj).1 (fun e => by
    rcases e with rfl | e
    · rw [h.box] at hj; cases hj; cases ho
    · obtain ⟨cur', T', e1, e2⟩ := h.hold.blk_ty e
      rw [e1] at hj; cases hj; cases ho)).trans hj⟩
/-- a store of the call's own: its text, its backend, its numbers -/
structure Sw (w : World) (b : Nat) (s : ByteArray) (bk : Int) (k : Sk) (x : Option Tx) (K : Kp) (W : World) : Prop where
  st : Pst W b x k K
  bk : (Tx.or x).bk = bk
  text : K.text = s
  bel : Below w.heap.size w W
  lo : ∀ j, K.blk j → w.heap.size ≤ j
  b0 : w.heap.size ≤ b
/-- .. whatever keeps it -/
def Se (w : World) (b : Nat) (s : ByteArray) (bk : Int) (k : Sk) (W : World) : Prop := ∃ x K, Sw w b s bk k x K W
theorem Sw.below {w W W' : World} {b : Nat} {s : ByteArray} {bk : Int} {k : Sk} {x : Option Tx} {K : Kp} (h : Sw w b s bk k x K W) (hb : Below W.heap.size W W') : Sw w b s bk k x K W' := ⟨h.st.below hb, h.bk, h.text, Below.on h.bel hb, h.lo, h.b0⟩
theorem Se.below {w W W' : World} {b : Nat} {s : ByteArray} {bk : Int} {k : Sk} (h : Se w b s bk k W) (hb : Below W.heap.size W W') : Se w b s bk k W' := by obtain ⟨x, K, h⟩ := h; exact ⟨x, K, h.below hb⟩
theorem Se.bel {w W : World} {b : Nat} {s : ByteArray} {bk : Int} {k : Sk} (h : Se w b s bk k W) : Below w.heap.size w W := by obtain ⟨x, K, h⟩ := h; exact h.bel
theorem new_blk {n : Nat} {K : Kp} (h : K.new n) {j : Nat} (hj : K.blk j) : n ≤ j := by
  cases K with
  | gap o g m =>
    obtain ⟨b, r, e1, e2, e3⟩ := h
    obtain ⟨b', r', e4, e5⟩ := hj
    rw [e1] at e4
    cases e4
    rcases e5 with rfl | e5
    · exact e2
    · exact e3 j e5
  | rope b _ _ _ => have e : j = b := hj; rw [e]; exact h
theorem Fresh.se {w W : World} {s : ByteArray} {k : Sk} {bk : Int} {b : Nat} (h : Fresh w s k bk b W) : Se w b s bk k W := by
  obtain ⟨y, K, h1, h2, h3, h4, h5, h6, h7⟩ := h
  exact ⟨some y, K, h1, h2, h3, h5, fun j hj => new_blk h6 hj, h7⟩
def misM (bk : Int) (k : Sk) (n : Nat) : Bool := decide (kdK k = 3) && (if bk = 1 then decide (hiK k ≤ (n : Int)) else decide ((n : Int) ≤ loK k))
/-- backend and numbers behind an edit of n bytes that leaves a text of z -/
def smN (bk : Int) (k : Sk) (n : Int) (z : Nat) : Int × Sk := if misM bk (k.edit n) z then (3 - bk, (k.edit n).went) else (bk, k.edit n)
/-- .. if it worked -/
def smA (bk : Int) (k : Sk) (e n : Int) (z : Nat) : Int × Sk := if e = 0 then smN bk k n z else (bk, k)
/-- the numbers are small enough -/
def Sk.few (k : Sk) : Prop := 0 ≤ k.ed ∧ k.ed ≤ 4611686018427387904 ∧ 0 ≤ k.mv ∧ k.mv ≤ 4611686018427387904 ∧ 0 ≤ k.fo ∧ k.fo ≤ 4611686018427387904
theorem Sw.ev {w W : World} {b : Nat} {s : ByteArray} {bk : Int} {k : Sk} {x : Option Tx} {K : Kp} (h : Sw w b s bk k x K W) (hE : Ev w) : Ev W := hE.below h.bel
theorem tn_bel {w W W' : World} {B : Nat → Prop} (h : Below w.heap.size w W) (ht : Tn B W W') (hB : ∀ j, B j → w.heap.size ≤ j) : Below w.heap.size w W' :=
  ⟨ht.os.trans h.os, ht.tape.trans h.tape, ht.out.trans h.output, Nat.le_trans h.size ht.size, fun k hk => (ht.block k (Nat.lt_of_lt_of_le hk h.size) (fun e => by have := hB k e; omega)).trans (h.block k hk)⟩
theorem txR_err {s : ByteArray} {l : Nat} {a c : Int} {put : ByteArray} (h : (txR s l a c put).2.2 ≠ 0) : (txR s l a c put).1 = s := by
  unfold txR at h ⊢
  by_cases c1 : a < 0 ∨ c < 0 ∨ (s.size : Int) < a ∨ (s.size : Int) - a < c
  · rw [if_pos c1]
  · rw [if_neg c1] at h ⊢
    by_cases c2 : (l : Int) < (s.size : Int) - c + put.size
    · rw [if_pos c2]
    · rw [if_neg c2] at h; exact absurd rfl h
theorem se_rep {w W : World} {b : Nat} {s : ByteArray} {bk : Int} {k : Sk} (h : Se w b s bk k W) (hE : Ev w) (hk : k.fit) (hn : k.few) (a c : Int) (put : ByteArray) (ha : -9223372036854775808 ≤ a ∧ a ≤ 9223372036854775807) (hc : c ≤ 9223372036854775807) (hp : put.size ≤ 9223372036854775807) (T : ByteArray × ByteArray × Int) (hT : txR s k.limit.toNat a c put = T) (N : Int × Sk) (hN : smA bk k T.2.2 (c + put.size) T.1.size = N) :
    Calls Tryz.prog 206 #[.pointer (some ⟨b, 0, none⟩), .int .i64 a, .int .i64 c, .string put] W fun e W' => ∃ o r, e = .returned (.tuple #[.string o, .int .i64 r]) ∧ (o = T.2.1 ∧ r = T.2.2) ∧ Se w b T.1 N.1 N.2 W' ∧ Fty W W' := by
  obtain ⟨x, K, h⟩ := h
  have hl : K.lim = k.limit.toNat := by have := h.st.lim; omega
  have hB : ∀ j, j = b ∨ K.blk j → w.heap.size ≤ j := fun j e => e.elim (fun e => by rw [e]; exact h.b0) (h.lo j)
  have hB2 : ∀ j, j = b ∨ K.blk j → j ≠ 1 ∧ j ≠ 2 := fun j e => by have := hB j e; have := hE.l0; have := hE.l1; omega
  rw [← hT] at hN ⊢
  by_cases e0 : (txR s k.limit.toNat a c put).2.2 = 0
  · have hq : (txR K.text K.lim a c put).2.2 = 0 := by rw [h.text, hl]; exact e0
    refine (srep_ok h.st (h.ev hE) hB2 hk ⟨hn.1, hn.2.1, hn.2.2.1, hn.2.2.2.1⟩ a c put ha hc hp hq).mono ?_
    rintro e W' ⟨rfl, hr⟩
    rw [h.text, hl] at hr ⊢
    refine ⟨_, _, rfl, ⟨rfl, e0.symm⟩, ?_⟩
    have hN2 : smN bk k (c + put.size) (txR s k.limit.toNat a c put).1.size = N := by rw [← hN]; unfold smA; rw [if_pos e0]
    have hm : misK x (k.edit (c + put.size)) (txR s k.limit.toNat a c put).1.size = misM bk (k.edit (c + put.size)) (txR s k.limit.toNat a c put).1.size := by unfold misK misM; rw [h.bk]
    rw [hm] at hr
    unfold smN at hN2
    cases hc : misM bk (k.edit (c + put.size)) (txR s k.limit.toNat a c put).1.size with
    | true =>
      rw [hc, if_pos rfl] at hr hN2
      obtain ⟨y, K', e1, A⟩ := hr
      rw [← hN2]
      exact ⟨⟨some y, K', A.st, by rw [← h.bk]; exact e1, A.text, tn_bel h.bel A.tn hB, fun j hj => (A.new j hj).elim (h.lo j) (fun e => Nat.le_trans h.bel.size e), h.b0⟩, fty_of h.st A.tn⟩
    | false =>
      rw [hc, if_neg (by simp)] at hr hN2
      obtain ⟨K', A⟩ := hr
      rw [← hN2]
      exact ⟨⟨x, K', A.st, h.bk, A.text, tn_bel h.bel A.tn hB, fun j hj => (A.new j hj).elim (h.lo j) (fun e => Nat.le_trans h.bel.size e), h.b0⟩, fty_of h.st A.tn⟩
  · have hq : (txR K.text K.lim a c put).2.2 ≠ 0 := by rw [h.text, hl]; exact e0
    refine (srep_no h.st (h.ev hE) a c put ha hc hp hq).mono ?_
    rintro e W' ⟨rfl, K', q1, q2, q3, q4, q5⟩
    rw [h.text, hl] at q2 ⊢
    have hN2 : (bk, k) = N := by rw [← hN]; unfold smA; rw [if_neg e0]
    rw [← hN2]
    have A : Tn (fun j => j = b ∨ K.blk j) W W' := q4.mono (fun j e => .inr e)
    exact ⟨_, _, rfl, ⟨rfl, rfl⟩, ⟨x, K', q1, h.bk, q2, tn_bel h.bel A hB, fun j hj => (q5 j hj).elim (h.lo j) (fun e => Nat.le_trans h.bel.size e), h.b0⟩, fty_of h.st A⟩
/-- Switch: the error, the backend, the numbers -/
def smS (bk : Int) (k : Sk) (to : Int) : Int × Int × Sk := if to = 1 ∨ to = 2 then (if to = bk then (0, bk, k) else (0, to, k.forced)) else (13, bk, k)
end Go.Proofs.YtcjmfoadimpffaaGreatDoor.Sto
