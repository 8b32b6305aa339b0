/-
  A buffer of package gap as it lies in memory: its block, the array's row; orEmpty, Len, Cap, Place, Limit of a buffer that is there. Conditions: the array is so short that its numbers don't wrap.
-/
import Derived.Test.YtgagpmeknpjkpaaGreatDoorGArr
import Derived.Test.YtgagpmeknpjkpaaGreatDoorKBase
import Derived.Test.YtgagpmeknpjkpaaGreatDoorURegMid
namespace Go.Proofs.YtgagpmeknpjkpaaGreatDoor
open Go.RowKit Bod

/-- the row's address -/
def ad (r : Option Nat) : Option Addr := r.map fun k => ⟨k, 0, none⟩
/-- the block b is a buffer with the bytes A (in the row r, if there is one), the gap from p up to e, the limit l -/
structure PA (W : World) (b : Nat) (r : Option Nat) (A : List UInt8) (p e l : Nat) : Prop where
  box : W.heap[b]? = some (.cells #[.slice (ad r) A.length A.length, .int .i64 p, .int .i64 e, .int .i64 l] 41 (0, 0))
  row : ∀ k, r = some k → k ≠ b ∧ W.heap[k]? = some (.cells (Lib.byteCells A).toArray 5 (0, 0))
  nil : r = none → A = []
theorem PA.lt {W : World} {b : Nat} {r : Option Nat} {A : List UInt8} {p e l : Nat} (h : PA W b r A p e l) : b < W.heap.size := (Array.getElem?_eq_some_iff.1 h.box).1
theorem PA.rlt {W : World} {b : Nat} {r : Option Nat} {A : List UInt8} {p e l : Nat} (h : PA W b r A p e l) {k : Nat} (hk : r = some k) : k < W.heap.size := (Array.getElem?_eq_some_iff.1 (h.row k hk).2).1
theorem PA.drewN {W : World} {b : Nat} {r : Option Nat} {A : List UInt8} {p e l : Nat} (h : PA W b r A p e l) (n : Nat) : PA (W.drewN n) b r A p e l := ⟨h.box, h.row, h.nil⟩
/-- nothing but the block b and the row r is turned -/
def Ch (b : Nat) (r : Option Nat) (w w' : World) : Prop := w'.os = w.os ∧ w'.tape = w.tape ∧ w'.output = w.output ∧ w.heap.size ≤ w'.heap.size ∧ ∀ k, k < w.heap.size → k ≠ b → r ≠ some k → w'.heap[k]? = w.heap[k]?
theorem Ch.refl (b : Nat) (r : Option Nat) (w : World) : Ch b r w w := ⟨rfl, rfl, rfl, Nat.le_refl _, fun _ _ _ _ => rfl⟩
/-- another row is the same or a new one -/
def Nw (w : World) (r r' : Option Nat) : Prop := r' = r ∨ ∃ k, r' = some k ∧ w.heap.size ≤ k
theorem Ch.trans {b : Nat} {r r' : Option Nat} {w w1 w2 : World} (h : Ch b r w w1) (hr : Nw w r r') (g : Ch b r' w1 w2) : Ch b r w w2 :=
  ⟨g.1.trans h.1, g.2.1.trans h.2.1, g.2.2.1.trans h.2.2.1, Nat.le_trans h.2.2.2.1 g.2.2.2.1, fun k hk hb hn => by
    rw [g.2.2.2.2 k (Nat.lt_of_lt_of_le hk h.2.2.2.1) hb (fun e => ?_), h.2.2.2.2 k hk hb hn]
    rcases hr with rfl | ⟨j, rfl, hj⟩
    · exact hn e
    · cases e; omega⟩
theorem Nw.refl (w : World) (r : Option Nat) : Nw w r r := .inl rfl
theorem Nw.trans {w w1 : World} {r r' r'' : Option Nat} (h : Nw w r r') (hs : w.heap.size ≤ w1.heap.size) (g : Nw w1 r' r'') : Nw w r r'' := by
  rcases g with rfl | ⟨k, rfl, hk⟩
  · exact h
  · exact .inr ⟨k, rfl, by omega⟩
theorem Ch.below {b : Nat} {r : Option Nat} {w w' : World} (h : Below w.heap.size w w') : Ch b r w w' := ⟨h.os, h.tape, h.output, h.size, fun k hk _ _ => h.block k hk⟩
theorem Ch.drewN (b : Nat) (r : Option Nat) (w : World) (n : Nat) : Ch b r w (w.drewN n) := ⟨rfl, rfl, rfl, Nat.le_refl _, fun _ _ _ _ => rfl⟩
theorem Ch.set (b : Nat) (r : Option Nat) (w : World) (i : Nat) (v : Value) : Ch b r w (w.setCell ⟨b, i, none⟩ v) :=
  have g := gcell w b i v
  ⟨g.os, g.tape, g.output, g.size, fun k hk hb _ => g.block k hk (fun e => hb (Option.some.inj e))⟩
theorem Ch.setRow (b k : Nat) (w : World) (cs : Array Value) : Ch b (some k) w (w.setRow k cs) := ⟨rfl, rfl, rfl, by simp [World.setRow], fun j _ _ hn => setRow_other w k j cs (fun e => hn (by rw [e]))⟩
theorem PA.kept {W W' : World} {b : Nat} {r : Option Nat} {A : List UInt8} {p e l b' : Nat} {r' : Option Nat} (h : PA W b r A p e l) (hc : Ch b' r' W W') (h1 : b ≠ b') (h2 : r' ≠ some b) (h3 : ∀ k, r = some k → k ≠ b' ∧ r' ≠ some k) : PA W' b r A p e l :=
  ⟨(hc.2.2.2.2 b h.lt h1 h2).trans h.box, fun k hk => ⟨(h.row k hk).1, (hc.2.2.2.2 k (h.rlt hk) (h3 k hk).1 (h3 k hk).2).trans (h.row k hk).2⟩, h.nil⟩
theorem PA.below {W W' : World} {b : Nat} {r : Option Nat} {A : List UInt8} {p e l : Nat} (h : PA W b r A p e l) (hb : Below W.heap.size W W') : PA W' b r A p e l :=
  ⟨(hb.block b h.lt).trans h.box, fun k hk => ⟨(h.row k hk).1, (hb.block k (h.rlt hk)).trans (h.row k hk).2⟩, h.nil⟩
/-- one of the three numbers is set -/
theorem PA.setP {W : World} {b : Nat} {r : Option Nat} {A : List UInt8} {p e l : Nat} (h : PA W b r A p e l) (q : Nat) : PA (W.setCell ⟨b, 1, none⟩ (.int .i64 q)) b r A q e l :=
  ⟨set1 (i := 1) _ h.box, fun k hk => ⟨(h.row k hk).1, ((gcell W b 1 _).block k (h.rlt hk) (fun e => (h.row k hk).1 (Option.some.inj e))).trans (h.row k hk).2⟩, h.nil⟩
theorem PA.setE {W : World} {b : Nat} {r : Option Nat} {A : List UInt8} {p e l : Nat} (h : PA W b r A p e l) (q : Nat) : PA (W.setCell ⟨b, 2, none⟩ (.int .i64 q)) b r A p q l :=
  ⟨set1 (i := 2) _ h.box, fun k hk => ⟨(h.row k hk).1, ((gcell W b 2 _).block k (h.rlt hk) (fun e => (h.row k hk).1 (Option.some.inj e))).trans (h.row k hk).2⟩, h.nil⟩
/-- the row is written over -/
theorem PA.setRow {W : World} {b k : Nat} {A : List UInt8} {p e l : Nat} (h : PA W b (some k) A p e l) {B : List UInt8} (hB : B.length = A.length) : PA (W.setRow k (Lib.byteCells B).toArray) b (some k) B p e l := by
  refine ⟨?_, fun j hj => ⟨(h.row j hj).1, ?_⟩, fun h0 => by cases h0⟩
  · rw [setRow_other W k b _ (Ne.symm (h.row k rfl).1), h.box, hB]
  · cases hj
    exact setRow_heap W k _ _ 5 _ (h.row k rfl).2

set_option maxRecDepth 100000 in
set_option maxHeartbeats 1000000 in
theorem ore_any (b : Nat) (w : World) : Calls Tryz.prog 42 #[.pointer (some ⟨b, 0, none⟩)] w fun x w' => x = .returned (.pointer (some ⟨b, 0, none⟩)) ∧ w' = w := by
  go_enter Tryz.func42, Tryz.ntmps42
  go_wp2
  go_ret
  exact ⟨rfl, rfl⟩

set_option maxRecDepth 100000 in
set_option maxHeartbeats 1000000 in
theorem len_any {b : Nat} {r : Option Nat} {A : List UInt8} {p e l : Nat} (w : World) (h : PA w b r A p e l) (hp : p ≤ e) (he : e ≤ A.length) (hA : A.length ≤ 4294967296) :
    Calls Tryz.prog 15 #[.pointer (some ⟨b, 0, none⟩)] w fun x w' => x = .returned (.int .i64 (p + (A.length - e) : Nat)) ∧ ∃ k, w' = w.drewN k := by
  obtain ⟨⟨c0, c1, c2, c3⟩, f0, f1, f2, f3⟩ := box4 h.box
  have hb := h.lt
  obtain ⟨N, hN⟩ : ∃ N, A.length = N := ⟨_, rfl⟩
  rw [hN] at c0 hA he ⊢
  have k1 : IntKind.i64.wrap ((p : Int) + N) = (p : Int) + N := by rw [IntKind.wrap_i64]; omega
  have k2 : IntKind.i64.wrap ((p : Int) + N - e) = (p : Int) + N - e := by rw [IntKind.wrap_i64]; omega
  have HF : Hid ((p : Int) + N - e = (p + (N - e) : Nat)) := show _ = _ by omega
  have CO := ore_any b w
  clear h hN
  go_enter Tryz.func15, Tryz.ntmps15
  go_wp2_with (go_at_call 42; refine CO.mono ?_; clear CO; rintro x w1 ⟨rfl, rfl⟩)
  go_quiet (fail)
  go_wp2
  go_ret
  exact ⟨ret_int HF.out, ⟨_, rfl⟩⟩
end Go.Proofs.YtgagpmeknpjkpaaGreatDoor
