/-
  Package gap, text by text. Conditions: those of each theorem.
-/
import Derived.Test.YtplieccalmkloaaGreatDoorPkA
import Derived.Laws.CopyOwn
import Derived.Test.YtplieccalmkloaaGreatDoorKBase
import Derived.Test.YtplieccalmkloaaGreatDoorURegMid
import Derived.Lib.BufferWrite
import Derived.Laws.AppendOwnNone
import Derived.Deep.OwnRows
import Derived.Test.YtplieccalmkloaaGreatDoorShelf
namespace Go.Proofs.YtplieccalmkloaaGreatDoor.Gap
open Bod

structure Gp where
  s : ByteArray
  p : Nat
  l : Nat
/-- what holds of every buffer -/
def Gp.ok (g : Gp) : Prop := g.p ≤ g.s.size ∧ g.s.size ≤ g.l ∧ g.l ≤ 1073741824
def eBA : ByteArray := ⟨#[]⟩
/-- a limit as it counts -/
def lim (n : Int) : Nat := (min (max n 0) 1073741824).toNat
theorem lim_le (n : Int) : lim n ≤ 1073741824 := by unfold lim; omega
theorem lim_eq (n : Int) : ((lim n : Nat) : Int) = min (max n 0) 1073741824 := by unfold lim; omega
def gNew (s : ByteArray) (n : Int) : Option Gp := if s.size ≤ lim n then some ⟨s, s.size, lim n⟩ else none
/-- not 0 <= from <= to <= n -/
def gRng (f t : Int) (n : Nat) : Bool := decide (f < 0 ∨ t < f ∨ (n : Int) < t)
def gSlice (s : ByteArray) (f t : Int) : ByteArray × Int := if gRng f t s.size then (eBA, 1) else (s.extract f.toNat t.toNat, 0)
def gByte (s : ByteArray) (a : Int) : Int × Int := if a < 0 ∨ (s.size : Int) ≤ a then (0, 1) else ((bt s a.toNat : Int), 0)
/-- does part lie at i? -/
def gAt (s part : ByteArray) (i : Nat) : Bool := decide (i + part.size ≤ s.size) && decide (s.extract i (i + part.size) = part)
def gIdx (s part : ByteArray) (f : Int) : Int := match (List.range (s.size + 1)).find? (fun (i : Nat) => decide (f ≤ (i : Int)) && gAt s part i) with
  | some i => i
  | none => -1
def gMove (g : Gp) (a : Int) : Gp × Int := if a < 0 ∨ (g.s.size : Int) < a then (g, 1) else ({ g with p := a.toNat }, 0)
/-- is the cut out of range? -/
def gOut (g : Gp) (a c : Int) : Prop := a < 0 ∨ c < 0 ∨ (g.s.size : Int) < a ∨ (g.s.size : Int) - a < c
instance (g : Gp) (a c : Int) : Decidable (gOut g a c) := by unfold gOut; infer_instance
def gRep (g : Gp) (a c : Int) (put : ByteArray) : Gp × ByteArray × Int :=
  if gOut g a c then (g, eBA, 1) else if (g.l : Int) < (g.s.size : Int) - c + put.size then (g, eBA, 2)
  else (⟨g.s.extract 0 a.toNat ++ put ++ g.s.extract (a.toNat + c.toNat) g.s.size, a.toNat + put.size, g.l⟩, g.s.extract a.toNat (a.toNat + c.toNat), 0)
def gReset (g : Gp) (s : ByteArray) : Gp × Int := if s.size ≤ g.l then (⟨s, s.size, g.l⟩, 0) else (g, 2)

theorem size_ext {s : ByteArray} {a b : Nat} (h : b ≤ s.size) : (s.extract a b).size = b - a := by simp; omega
theorem gNew_ok {s : ByteArray} {n : Int} {g : Gp} (h : gNew s n = some g) : g.ok := by
  unfold gNew at h
  split at h
  · rename_i hl
    cases h
    exact ⟨Nat.le_refl _, hl, lim_le n⟩
  · cases h
theorem gMove_ok {g : Gp} (h : g.ok) (a : Int) : (gMove g a).1.ok := by
  unfold gMove
  split
  · exact h
  · exact ⟨by simp only; omega, h.2⟩
theorem gRep_ok {g : Gp} (h : g.ok) (a c : Int) (put : ByteArray) : (gRep g a c put).1.ok := by
  obtain ⟨h1, h2, h3⟩ := h
  unfold gRep
  split
  · exact ⟨h1, h2, h3⟩
  · rename_i hr
    unfold gOut at hr
    split
    · exact ⟨h1, h2, h3⟩
    · rename_i hf
      have e : (g.s.extract 0 a.toNat ++ put ++ g.s.extract (a.toNat + c.toNat) g.s.size).size = a.toNat + put.size + (g.s.size - (a.toNat + c.toNat)) := by
        rw [ByteArray.size_append, ByteArray.size_append, size_ext (by omega), size_ext (Nat.le_refl _)]
        omega
      refine ⟨?_, ?_, h3⟩
      · show a.toNat + put.size ≤ _
        rw [e]; omega
      · show _ ≤ g.l
        rw [e]; omega
theorem gReset_ok {g : Gp} (h : g.ok) (s : ByteArray) : (gReset g s).1.ok := by
  unfold gReset
  split
  · rename_i hl
    exact ⟨Nat.le_refl _, hl, h.2.2⟩
  · exact h
end Go.Proofs.YtplieccalmkloaaGreatDoor.Gap
namespace Go.Proofs.YtplieccalmkloaaGreatDoor.Gap
open Bod

/-- the bytes A with the gap from p up to e hold the text t -/
structure Gap (A : List UInt8) (p e : Nat) (t : List UInt8) : Prop where
  pe : p ≤ e
  eA : e ≤ A.length
  text : t = A.take p ++ A.drop e
theorem Gap.len {A : List UInt8} {p e : Nat} {t : List UInt8} (h : Gap A p e t) : t.length = p + (A.length - e) := by
  have := h.pe; have := h.eA
  rw [h.text]; simp; omega
theorem Gap.pt {A : List UInt8} {p e : Nat} {t : List UInt8} (h : Gap A p e t) : p ≤ t.length := by rw [h.len]; omega
theorem Gap.tp {A : List UInt8} {p e : Nat} {t : List UInt8} (h : Gap A p e t) : t.take p = A.take p := by
  have := h.pe; have := h.eA
  rw [h.text, List.take_append_of_le_length (by simp; omega), List.take_take, Nat.min_self]
theorem Gap.td {A : List UInt8} {p e : Nat} {t : List UInt8} (h : Gap A p e t) : t.drop p = A.drop e := by
  have h1 := h.pe; have h2 := h.eA
  rw [h.text, List.drop_append, List.drop_of_length_le (by simp; omega)]
  simp
  rw [show p - min p A.length = 0 by omega]
  simp
theorem take_splice {α : Type} {L cs : List α} {off k : Nat} (h : k ≤ off) (hl : off ≤ L.length) : (splice L off cs).take k = L.take k := by
  unfold splice
  rw [List.take_append_of_le_length (by simp; omega), List.take_take, Nat.min_eq_left h]
theorem drop_splice {α : Type} {L cs : List α} {off k : Nat} (h : off + cs.length ≤ k) (hl : off + cs.length ≤ L.length) : (splice L off cs).drop k = L.drop k := by
  unfold splice
  rw [List.drop_append, List.drop_of_length_le (by simp; omega), List.nil_append, List.drop_append, List.drop_of_length_le (by simp; omega), List.nil_append, List.drop_drop]
  congr 1
  simp; omega
theorem take_splice_end {α : Type} {L cs : List α} {off : Nat} (hl : off + cs.length ≤ L.length) : (splice L off cs).take (off + cs.length) = L.take off ++ cs := by
  unfold splice
  rw [← List.append_assoc, List.take_append_of_le_length (by simp; omega), List.take_of_length_le (by simp; omega)]
theorem drop_splice_off {α : Type} {L cs : List α} {off : Nat} (hl : off + cs.length ≤ L.length) : (splice L off cs).drop off = cs ++ L.drop (off + cs.length) := by
  unfold splice
  rw [List.drop_append, List.drop_of_length_le (by simp; omega), List.nil_append]
  simp
  rw [show off - min off L.length = 0 by omega]
  rfl
/-- the gap goes to the left -/
theorem Gap.left {A : List UInt8} {p e : Nat} {t : List UInt8} (h : Gap A p e t) {k : Nat} (hk : k ≤ p) : Gap (splice A (e - (p - k)) ((A.take p).drop k)) k (e - (p - k)) t := by
  have h1 := h.pe; have h2 := h.eA
  have hc : ((A.take p).drop k).length = p - k := by simp; omega
  have hf : e - (p - k) + ((A.take p).drop k).length ≤ A.length := by omega
  refine ⟨by omega, by rw [length_splice _ _ _ hf]; omega, ?_⟩
  rw [take_splice (by omega) (by omega), drop_splice_off hf, hc, show e - (p - k) + (p - k) = e by omega, ← List.append_assoc, h.text]
  congr 1
  conv => lhs; rw [← List.take_append_drop k (A.take p)]
  rw [List.take_take, Nat.min_eq_left hk]
/-- the gap goes to the right -/
theorem Gap.right {A : List UInt8} {p e : Nat} {t : List UInt8} (h : Gap A p e t) {n : Nat} (hn : e + n ≤ A.length) : Gap (splice A p ((A.drop e).take n)) (p + n) (e + n) t := by
  have h1 := h.pe; have h2 := h.eA
  have hc : ((A.drop e).take n).length = n := by simp; omega
  have hf : p + ((A.drop e).take n).length ≤ A.length := by omega
  refine ⟨by omega, by rw [length_splice _ _ _ hf]; omega, ?_⟩
  have e1 : (splice A p ((A.drop e).take n)).take (p + n) = A.take p ++ (A.drop e).take n := by
    have := take_splice_end hf
    rwa [hc] at this
  rw [e1, drop_splice (by omega) hf, h.text, List.append_assoc]
  congr 1
  conv => lhs; rw [← List.take_append_drop n (A.drop e)]
  rw [List.drop_drop]
/-- what stands behind the gap is cut -/
theorem Gap.cut {A : List UInt8} {p e : Nat} {t : List UInt8} (h : Gap A p e t) {c : Nat} (hc : e + c ≤ A.length) : Gap A p (e + c) (t.take p ++ t.drop (p + c)) := by
  have h1 := h.pe; have h2 := h.eA
  refine ⟨by omega, hc, ?_⟩
  rw [h.tp, ← List.drop_drop, h.td, List.drop_drop]
/-- another array -/
theorem Gap.remade {A : List UInt8} {p e : Nat} {t : List UInt8} (h : Gap A p e t) {Z : List UInt8} (hm : t.length ≤ Z.length) :
    Gap (splice (splice Z 0 (A.take p)) (Z.length - (A.length - e)) (A.drop e)) p (Z.length - (A.length - e)) t := by
  have h1 := h.pe; have h2 := h.eA
  have hl := h.len
  have l1 : (A.take p).length = p := by simp; omega
  have l2 : (A.drop e).length = A.length - e := by simp
  have f1 : 0 + (A.take p).length ≤ Z.length := by omega
  have s1 := length_splice Z 0 (A.take p) f1
  have f2 : Z.length - (A.length - e) + (A.drop e).length ≤ (splice Z 0 (A.take p)).length := by omega
  have s2 := length_splice _ _ _ f2
  refine ⟨by omega, by omega, ?_⟩
  rw [take_splice (by omega) (by omega), drop_splice_off f2, show (splice Z 0 (A.take p)).drop (Z.length - (A.length - e) + (A.drop e).length) = [] from List.drop_of_length_le (by omega), List.append_nil, h.text]
  have := take_splice_end f1
  rw [l1, Nat.zero_add] at this
  rw [this]
  simp
/-- a text is put into the gap -/
theorem Gap.put {A : List UInt8} {p e : Nat} {t : List UInt8} (h : Gap A p e t) {x : List UInt8} (hx : p + x.length ≤ e) : Gap (splice A p x) (p + x.length) e (t.take p ++ x ++ t.drop p) := by
  have h1 := h.pe; have h2 := h.eA
  have hf : p + x.length ≤ A.length := by omega
  refine ⟨hx, by rw [length_splice _ _ _ hf]; omega, ?_⟩
  rw [take_splice_end hf, drop_splice (by omega) hf, h.tp, h.td]
/-- a piece of the text: ahead of the gap, and behind it -/
theorem Gap.piece {A : List UInt8} {p e : Nat} {t : List UInt8} (h : Gap A p e t) {f l : Nat} (h0 : f ≤ l) :
    (t.drop f).take (l - f) = (A.drop (min f p)).take (min l p - min f p) ++ (A.drop (max f p + (e - p))).take (max l p - max f p) := by
  have h1 := h.pe; have h2 := h.eA; have h3 := h.len
  have e1 : A.drop (max f p + (e - p)) = t.drop (max f p) := by
    rw [show max f p + (e - p) = e + (max f p - p) by omega, ← List.drop_drop, ← h.td, List.drop_drop]
    congr 1; omega
  have e2 : (A.drop (min f p)).take (min l p - min f p) = (t.drop (min f p)).take (min l p - min f p) := by
    have : t.take p = A.take p := h.tp
    have k : ∀ B : List UInt8, (B.drop (min f p)).take (min l p - min f p) = ((B.take p).drop (min f p)).take (min l p - min f p) := fun B => by
      rw [List.drop_take, List.take_take]
      congr 1
      omega
    rw [k A, k t, this]
  rw [e1, e2]
  rcases Nat.le_total l p with hlp | hlp
  · rw [Nat.min_eq_left hlp, Nat.min_eq_left (by omega), Nat.max_eq_right hlp, Nat.max_eq_right (by omega), Nat.sub_self]
    simp
  · rcases Nat.le_total f p with hfp | hfp
    · rw [Nat.min_eq_right hlp, Nat.min_eq_left hfp, Nat.max_eq_left hlp, Nat.max_eq_right hfp]
      have := List.take_append_drop (p - f) ((t.drop f).take (l - f))
      rw [List.take_take, Nat.min_eq_left (by omega), List.drop_take, List.drop_drop, show f + (p - f) = p by omega, show l - f - (p - f) = l - p by omega] at this
      exact this.symm
    · rw [Nat.min_eq_right hlp, Nat.min_eq_right hfp, Nat.max_eq_left hlp, Nat.max_eq_left hfp]
      simp
end Go.Proofs.YtplieccalmkloaaGreatDoor.Gap
namespace Go.Proofs.YtplieccalmkloaaGreatDoor.Gap
open Go.RowKit Bod

/-- the row's address -/
def ad (r : Option Nat) : Option Addr := r.map fun k => ⟨k, 0, none⟩
/-- the block b is a buffer with the bytes A (in the row r, if there is one), the gap from p up to e, the limit l -/
structure PA (W : World) (b : Nat) (r : Option Nat) (A : List UInt8) (p e l : Nat) : Prop where
  box : W.heap[b]? = some (.cells #[.slice (ad r) A.length A.length, .int .i64 p, .int .i64 e, .int .i64 l] 112 (0, 0))
  row : ∀ k, r = some k → k ≠ b ∧ W.heap[k]? = some (.cells (Lib.byteCells A).toArray 5 (0, 0))
  nil : r = none → A = []
theorem PA.lt {W : World} {b : Nat} {r : Option Nat} {A : List UInt8} {p e l : Nat} (h : PA W b r A p e l) : b < W.heap.size := (Array.getElem?_eq_some_iff.1 h.box).1
theorem PA.rlt {W : World} {b : Nat} {r : Option Nat} {A : List UInt8} {p e l : Nat} (h : PA W b r A p e l) {k : Nat} (hk : r = some k) : k < W.heap.size := (Array.getElem?_eq_some_iff.1 (h.row k hk).2).1
theorem PA.drewN {W : World} {b : Nat} {r : Option Nat} {A : List UInt8} {p e l : Nat} (h : PA W b r A p e l) (n : Nat) : PA (W.drewN n) b r A p e l := ⟨h.box, h.row, h.nil⟩
/-- nothing but the block b and the row r is turned -/
def Ch (b : Nat) (r : Option Nat) (w w' : World) : Prop := w'.os = w.os ∧ w'.tape = w.tape ∧ w'.output = w.output ∧ w.heap.size ≤ w'.heap.size ∧ ∀ k, k < w.heap.size → k ≠ b → r ≠ some k → w'.heap[k]? = w.heap[k]?
theorem Ch.refl (b : Nat) (r : Option Nat) (w : World) : Ch b r w w := ⟨rfl, rfl, rfl, Nat.le_refl _, fun _ _ _ _ => rfl⟩
/-- another row is the same or a new one -/
def Nw (w : World) (r r' : Option Nat) : Prop := r' = r ∨ ∃ k, r' = some k ∧ w.heap.size ≤ k
theorem Ch.trans {b : Nat} {r r' : Option Nat} {w w1 w2 : World} (h : Ch b r w w1) (hr : Nw w r r') (g : Ch b r' w1 w2) : Ch b r w w2 :=
  ⟨g.1.trans h.1, g.2.1.trans h.2.1, g.2.2.1.trans h.2.2.1, Nat.le_trans h.2.2.2.1 g.2.2.2.1, fun k hk hb hn => by
    rw [g.2.2.2.2 k (Nat.lt_of_lt_of_le hk h.2.2.2.1) hb (fun e => ?_), h.2.2.2.2 k hk hb hn]
    rcases hr with rfl | ⟨j, rfl, hj⟩
    · exact hn e
    · cases e; omega⟩
theorem Nw.refl (w : World) (r : Option Nat) : Nw w r r := .inl rfl
theorem Nw.trans {w w1 : World} {r r' r'' : Option Nat} (h : Nw w r r') (hs : w.heap.size ≤ w1.heap.size) (g : Nw w1 r' r'') : Nw w r r'' := by
  rcases g with rfl | ⟨k, rfl, hk⟩
  · exact h
  · exact .inr ⟨k, rfl, by omega⟩
theorem Ch.below {b : Nat} {r : Option Nat} {w w' : World} (h : Below w.heap.size w w') : Ch b r w w' := ⟨h.os, h.tape, h.output, h.size, fun k hk _ _ => h.block k hk⟩
theorem Ch.drewN (b : Nat) (r : Option Nat) (w : World) (n : Nat) : Ch b r w (w.drewN n) := ⟨rfl, rfl, rfl, Nat.le_refl _, fun _ _ _ _ => rfl⟩
theorem Ch.set (b : Nat) (r : Option Nat) (w : World) (i : Nat) (v : Value) : Ch b r w (w.setCell ⟨b, i, none⟩ v) :=
  have g := gcell w b i v
  ⟨g.os, g.tape, g.output, g.size, fun k hk hb _ => g.block k hk (fun e => hb (Option.some.inj e))⟩
theorem Ch.setRow (b k : Nat) (w : World) (cs : Array Value) : Ch b (some k) w (w.setRow k cs) := ⟨rfl, rfl, rfl, by simp [World.setRow], fun j _ _ hn => setRow_other w k j cs (fun e => hn (by rw [e]))⟩
theorem PA.kept {W W' : World} {b : Nat} {r : Option Nat} {A : List UInt8} {p e l b' : Nat} {r' : Option Nat} (h : PA W b r A p e l) (hc : Ch b' r' W W') (h1 : b ≠ b') (h2 : r' ≠ some b) (h3 : ∀ k, r = some k → k ≠ b' ∧ r' ≠ some k) : PA W' b r A p e l :=
  ⟨(hc.2.2.2.2 b h.lt h1 h2).trans h.box, fun k hk => ⟨(h.row k hk).1, (hc.2.2.2.2 k (h.rlt hk) (h3 k hk).1 (h3 k hk).2).trans (h.row k hk).2⟩, h.nil⟩
theorem PA.below {W W' : World} {b : Nat} {r : Option Nat} {A : List UInt8} {p e l : Nat} (h : PA W b r A p e l) (hb : Below W.heap.size W W') : PA W' b r A p e l :=
  ⟨(hb.block b h.lt).trans h.box, fun k hk => ⟨(h.row k hk).1, (hb.block k (h.rlt hk)).trans (h.row k hk).2⟩, h.nil⟩
/-- one of the three numbers is set -/
theorem PA.setP {W : World} {b : Nat} {r : Option Nat} {A : List UInt8} {p e l : Nat} (h : PA W b r A p e l) (q : Nat) : PA (W.setCell ⟨b, 1, none⟩ (.int .i64 q)) b r A q e l :=
  ⟨set1 (i := 1) _ h.box, fun k hk => ⟨(h.row k hk).1, ((gcell W b 1 _).block k (h.rlt hk) (fun e => (h.row k hk).1 (Option.some.inj e))).trans (h.row k hk).2⟩, h.nil⟩
theorem PA.setE {W : World} {b : Nat} {r : Option Nat} {A : List UInt8} {p e l : Nat} (h : PA W b r A p e l) (q : Nat) : PA (W.setCell ⟨b, 2, none⟩ (.int .i64 q)) b r A p q l :=
  ⟨set1 (i := 2) _ h.box, fun k hk => ⟨(h.row k hk).1, ((gcell W b 2 _).block k (h.rlt hk) (fun e => (h.row k hk).1 (Option.some.inj e))).trans (h.row k hk).2⟩, h.nil⟩
/-- the row is written over -/
theorem PA.setRow {W : World} {b k : Nat} {A : List UInt8} {p e l : Nat} (h : PA W b (some k) A p e l) {B : List UInt8} (hB : B.length = A.length) : PA (W.setRow k (Lib.byteCells B).toArray) b (some k) B p e l := by
  refine ⟨?_, fun j hj => ⟨(h.row j hj).1, ?_⟩, fun h0 => by cases h0⟩
  · rw [setRow_other W k b _ (Ne.symm (h.row k rfl).1), h.box, hB]
  · cases hj
    exact setRow_heap W k _ _ 5 _ (h.row k rfl).2

set_option maxRecDepth 100000 in
set_option maxHeartbeats 1000000 in
theorem ore_any (b : Nat) (w : World) : Calls Tryz.prog 65 #[.pointer (some ⟨b, 0, none⟩)] w fun x w' => x = .returned (.pointer (some ⟨b, 0, none⟩)) ∧ w' = w := by
  go_enter Tryz.func65, Tryz.ntmps65
  go_wp2
  go_ret
  exact ⟨rfl, rfl⟩

set_option maxRecDepth 100000 in
set_option maxHeartbeats 1000000 in
theorem len_any {b : Nat} {r : Option Nat} {A : List UInt8} {p e l : Nat} (w : World) (h : PA w b r A p e l) (hp : p ≤ e) (he : e ≤ A.length) (hA : A.length ≤ 4294967296) :
    Calls Tryz.prog 67 #[.pointer (some ⟨b, 0, none⟩)] w fun x w' => x = .returned (.int .i64 (p + (A.length - e) : Nat)) ∧ ∃ k, w' = w.drewN k := by
  obtain ⟨⟨c0, c1, c2, c3⟩, f0, f1, f2, f3⟩ := box4 h.box
  have hb := h.lt
  obtain ⟨N, hN⟩ : ∃ N, A.length = N := ⟨_, rfl⟩
  rw [hN] at c0 hA he ⊢
  have k1 : IntKind.i64.wrap ((p : Int) + N) = (p : Int) + N := by rw [IntKind.wrap_i64]; omega
  have k2 : IntKind.i64.wrap ((p : Int) + N - e) = (p : Int) + N - e := by rw [IntKind.wrap_i64]; omega
  have HF : Hid ((p : Int) + N - e = (p + (N - e) : Nat)) := show _ = _ by omega
  have CO := ore_any b w
  clear h hN
  go_enter Tryz.func67, Tryz.ntmps67
  go_wp2_with (go_at_call 65; refine CO.mono ?_; clear CO; rintro x w1 ⟨rfl, rfl⟩)
  go_quiet (fail)
  go_wp2
  go_ret
  exact ⟨ret_int HF.out, ⟨_, rfl⟩⟩
end Go.Proofs.YtplieccalmkloaaGreatDoor.Gap
namespace Go.Proofs.YtplieccalmkloaaGreatDoor.Gap
open Go.RowKit Bod

theorem bc_splice (A cs : List UInt8) (off : Nat) : Lib.byteCells (splice A off cs) = (Lib.byteCells A).take off ++ (Lib.byteCells cs ++ (Lib.byteCells A).drop (off + (Lib.byteCells cs).length)) := by
  simp [Lib.byteCells, splice]
theorem bc_one (l : List UInt8) : ∀ v ∈ Lib.byteCells l, v.oneCell' = true := Lib.byteCells_one l
theorem bc_len (l : List UInt8) : (Lib.byteCells l).length = l.length := by simp [Lib.byteCells]
theorem adr (j x i : Nat) : (⟨j, x, none⟩ : Addr).add i = ⟨j, x + i, none⟩ := by unfold Addr.add; split <;> simp_all
/-- a cut of the array, as the model lays it -/
def cutV (a : Option Addr) (l h m : Nat) : Value := sliced a l h m 1
theorem infoB : (Tryz.prog.info? 5).map (·.size) = some 1 := by kernel_rfl
theorem exec_copy {P : Program} {w : World} {o : Oper} {a : Act} (d s : Operand) (t t' : TypeId) (ho : o.op = .call { callee := .builtin .copy, args := #[d, s], argTypes := #[t, t'] }) (v u : Value) (hd : a.eval d = v) (hs : a.eval s = u) {v' : Value} {w' : World}
    (hr : (Builtin.copy_ #[t, t'] o.type #[v, u]).run P w = .ok v' w') : (execOp a.eval o).run P w = .ok (.value v') w' := by
  unfold execOp
  simp only [ho, resolve, invoke, builtin, Sem.run_bind, Sem.run_pure, Result.andThen_ok, List.map_toArray, List.map_cons, List.map_nil, hd, hs, hr]
/-- bytes of the array are copied within it -/
theorem copy_in {w : World} {b : Nat} {r : Option Nat} {A : List UInt8} {p e l : Nat} (h : PA w b r A p e l) {off so n : Nat} (h1 : off + n ≤ A.length) (h2 : so + n ≤ A.length) (ty : TypeId) :
    ∃ w1, (∀ k, (Builtin.copy_ #[110, 110] ty #[cutV (ad r) off A.length A.length, cutV (ad r) so (so + n) A.length]).run Tryz.prog (w.drewN k) = .ok (goInt n) (w1.drewN k)) ∧ PA w1 b r (splice A off ((A.drop so).take n)) p e l ∧ Ch b r w w1 := by
  have hcl : ((A.drop so).take n).length = n := by simp; omega
  by_cases hn : n = 0
  · subst hn
    refine ⟨w, fun k => ?_, by simpa [splice] using h, Ch.refl _ _ _⟩
    unfold cutV sliced
    exact run_copy_none (P := Tryz.prog) _ 110 110 ty 5 _ _ _ _ _ _ Tryz.underlying110 infoB (by simp)
  · cases r with
    | none => have := h.nil rfl; subst this; simp at h1; omega
    | some j =>
      refine ⟨w.setRow j (Lib.byteCells (splice A off ((A.drop so).take n))).toArray, fun k => ?_, h.setRow (length_splice _ _ _ (by omega)), Ch.setRow b j w _⟩
      unfold cutV sliced ad
      rw [if_neg (by omega), if_neg (by omega)]
      have hrow := (h.row j rfl).2
      have := run_copy_row Tryz.prog (w.drewN k) 110 110 ty 5 j (off * 1) (A.length - off) (A.length - off) ⟨j, so * 1, none⟩ (so + n - so) (A.length - so) (Lib.byteCells A).toArray 5 (Lib.byteCells ((A.drop so).take n)) Tryz.underlying110 infoB hrow
        (by rw [bc_len, hcl]; show n = min _ _; omega) (fun i v hv => ?_) (by simp [bc_len, hcl]; omega) (bc_one _)
      · rw [bc_len, hcl] at this
        simp only [Option.map_some, adr, Nat.zero_add]
        rw [this, bc_splice, bc_len, hcl]
        simp
        rfl
      · have hi : i < n := by
          have := (List.getElem?_eq_some_iff.1 hv).1
          rw [bc_len, hcl] at this
          exact this
        rw [adr]
        have e1 : (Lib.byteCells A)[so * 1 + i]? = some v := by
          rw [← hv]
          simp [Lib.byteCells, hi]
        have hrow' : (w.drewN k).heap[j]? = some (.cells (Lib.byteCells A).toArray 5 (0, 0)) := hrow
        unfold World.cell?
        dsimp only
        rw [hrow']
        simpa using e1
theorem unLB : Tryz.prog.underlying 110 = some (.slice (Tryz.prog.elem 110)) := by kernel_rfl
theorem szLB (W : World) : (sizeOf (Tryz.prog.elem 110)).run Tryz.prog W = .ok 1 W := by kernel_rfl
theorem run_cut (a : Option Addr) (N lo : Nat) (h : lo ≤ N) (W : World) : (Instr.sliceAt 110 (.slice a N N) (some (.int .i64 lo)) none none).run Tryz.prog W = .ok (cutV a lo N N) W := by
  rw [run_sliceAt_slice _ _ _ _ _ _ unLB, run_slice_l _ _ _ _ _ unLB _ _ (by omega) (by omega), szLB]
  rfl
theorem run_cuts (a : Option Addr) (N lo hi : Nat) (h : lo ≤ hi) (h' : hi ≤ N) (W : World) : (Instr.sliceAt 110 (.slice a N N) (some (.int .i64 lo)) (some (.int .i64 hi)) none).run Tryz.prog W = .ok (cutV a lo hi N) W := by
  rw [run_sliceAt_slice _ _ _ _ _ _ unLB, run_slice_lh _ _ _ _ _ unLB _ _ _ _ (by omega) (by omega) (by omega), szLB]
  rfl

set_option maxRecDepth 100000 in
set_option maxHeartbeats 4000000 in
theorem shift_left {b : Nat} {r : Option Nat} {A : List UInt8} {p e l q : Nat} {t : List UInt8} (w : World) (h : PA w b r A p e l) (hg : Gap A p e t) (hq : q < p) (hA : A.length ≤ 4294967296) :
    CallsIn .wide 0 Tryz.prog 126 #[.pointer (some ⟨b, 0, none⟩), .int .i64 q] w fun x w' => x = .returned (.tuple #[]) ∧ ∃ A' e', PA w' b r A' q e' l ∧ Gap A' q e' t ∧ A'.length = A.length ∧ Ch b r w w' := by
  obtain ⟨⟨c0, c1, c2, c3⟩, f0, f1, f2, f3⟩ := box4 h.box
  have hb := h.lt
  have g1 := hg.pe; have g2 := hg.eA
  obtain ⟨d, hd⟩ : ∃ d, d = p - q := ⟨_, rfl⟩
  obtain ⟨f, hf⟩ : ∃ f, f = e - d := ⟨_, rfl⟩
  obtain ⟨w1, hrun, hP1, hC1⟩ := copy_in h (off := f) (so := q) (n := d) (by omega) (by omega) 3
  obtain ⟨⟨d0, d1, d2, d3⟩, e0, e1, e2, e3⟩ := box4 hP1.box
  have hG1 : Gap (splice A f ((A.drop q).take d)) q f t := by
    have := hg.left (k := q) (by omega)
    rw [← hd, ← hf, List.drop_take, ← hd] at this
    exact this
  have hl : (splice A f ((A.drop q).take d)).length = A.length := length_splice _ _ _ (by simp; omega)
  rw [hl] at d0
  have HX : Hid ((∀ k, (Builtin.copy_ #[110, 110] 3 #[cutV (ad r) f A.length A.length, cutV (ad r) q (q + d) A.length]).run Tryz.prog (w.drewN k) = .ok (goInt d) (w1.drewN k)) ∧ PA w1 b r (splice A f ((A.drop q).take d)) p e l ∧ Ch b r w w1 ∧ Gap (splice A f ((A.drop q).take d)) q f t ∧ (splice A f ((A.drop q).take d)).length = A.length) := ⟨hrun, hP1, hC1, hG1, hl⟩
  clear hrun hP1 hC1 hG1 hl
  obtain ⟨N, hN⟩ : ∃ N, A.length = N := ⟨_, rfl⟩
  rw [hN] at c0 d0 g2 hA
  have s1 : ∀ W, (Instr.sliceAt 110 (.slice (ad r) N N) (some (.int .i64 f)) none none).run Tryz.prog W = .ok (cutV (ad r) f N N) W := fun W => run_cut _ N f (by omega) W
  have s2 : ∀ W, (Instr.sliceAt 110 (.slice (ad r) N N) (some (.int .i64 q)) (some (.int .i64 p)) none).run Tryz.prog W = .ok (cutV (ad r) q p N) W := fun W => run_cuts _ N q p (by omega) (by omega) W
  have k1 : IntKind.i64.wrap ((p : Int) - q) = d := by rw [IntKind.wrap_i64]; omega
  have k2 : IntKind.i64.wrap ((e : Int) - d) = f := by rw [IntKind.wrap_i64]; omega
  have hpq : q + d = p := by omega
  obtain ⟨W, hW0, hW1⟩ : ∃ W : Bool → World, W false = w ∧ W true = w1 := ⟨fun s => if s then w1 else w, rfl, rfl⟩
  obtain ⟨U, hU, hU'⟩ := both W
  have C0 : ∀ m, (U m).cell? ⟨b, 0, none⟩ = some (.slice (ad r) N N) := fun m => by obtain ⟨s, k, hm⟩ := hU' m; rw [hm]; cases s <;> simp [hW0, hW1, c0, d0]
  have C1 : ∀ m, (U m).cell? ⟨b, 1, none⟩ = some (.int .i64 p) := fun m => by obtain ⟨s, k, hm⟩ := hU' m; rw [hm]; cases s <;> simp [hW0, hW1, c1, d1]
  have C2 : ∀ m, (U m).cell? ⟨b, 2, none⟩ = some (.int .i64 e) := fun m => by obtain ⟨s, k, hm⟩ := hU' m; rw [hm]; cases s <;> simp [hW0, hW1, c2, d2]
  have HU : Hid (∀ s k, ∃ m, (W s).drewN k = U m) := hU
  have HW : Hid (W true = w1) := hW1
  have HW0 : Hid (W false = w) := hW0
  have HD : Hid ((d : Int) = p - q ∧ q + d = p ∧ A.length = N) := ⟨by omega, hpq, hN⟩
  clear h hg hd hf hW0 hW1 hU hU' g1 g2 hpq hN
  refine callsIn_of_wp_marks Tryz.func126 rfl trivial ?_ rfl
  simp only [Tryz.ntmps126, List.size_toArray, List.length_cons, List.length_nil, Nat.reduceAdd, Nat.reduceSub, Array.replicate_succ, Array.replicate_zero, List.push_toArray, List.append_toArray, List.nil_append, List.cons_append]
  gi_wp2
  refine region_mid W HW0.out U HU.out 30 rfl (fun _ => trivial) (by kernel_rfl) (by kernel_rfl) (by kernel_rfl) (by kernel_rfl) rfl rfl rfl ?_
  dsimp only [List.dropLast, List.take, List.drop]
  repeat (gi_big_quiet_step (fail))
  refine wpQuietIn_nil ?_
  refine ⟨.int .i64 d, fun k => ?_, ?_⟩
  · rw [HW0.out, HW.out]
    refine exec_copy (.tmp 29) (.tmp 39) 110 110 rfl _ _ rfl rfl ?_
    have := HX.out.1 k
    rw [HD.out.2.1, HD.out.2.2] at this
    exact this
  simp only [Act.put, List.setIfInBounds_toArray, List.set_cons_succ, List.set_cons_zero]
  repeat (gi_big_quiet_step (fail))
  refine wpQuietIn_nil ?_
  intro k
  rw [HW.out]
  gi_wp2
  obtain ⟨_, x1, x2, x3, x4⟩ := HX.out
  refine ⟨.tuple #[], by simp [results, Tryz.results126, go_sem], rfl, _, f, ((x1.drewN k).setE f).setP q, x3, x4, ?_⟩
  exact ((x2.trans (Nw.refl _ _) (Ch.drewN b r w1 k)).trans (Nw.refl _ _) (Ch.set b r _ 2 _)).trans (Nw.refl _ _) (Ch.set b r _ 1 _)

set_option maxRecDepth 100000 in
set_option maxHeartbeats 4000000 in
theorem shift_right {b : Nat} {r : Option Nat} {A : List UInt8} {p e l q : Nat} {t : List UInt8} (w : World) (h : PA w b r A p e l) (hg : Gap A p e t) (hq : p ≤ q) (hqt : q ≤ t.length) (hA : A.length ≤ 4294967296) :
    CallsIn .wide 0 Tryz.prog 126 #[.pointer (some ⟨b, 0, none⟩), .int .i64 q] w fun x w' => x = .returned (.tuple #[]) ∧ ∃ A' e', PA w' b r A' q e' l ∧ Gap A' q e' t ∧ A'.length = A.length ∧ Ch b r w w' := by
  obtain ⟨⟨c0, c1, c2, c3⟩, f0, f1, f2, f3⟩ := box4 h.box
  have hb := h.lt
  have g1 := hg.pe; have g2 := hg.eA; have g3 := hg.len
  obtain ⟨d, hd⟩ : ∃ d, d = q - p := ⟨_, rfl⟩
  obtain ⟨f, hf⟩ : ∃ f, f = e + d := ⟨_, rfl⟩
  obtain ⟨w1, hrun, hP1, hC1⟩ := copy_in h (off := p) (so := e) (n := d) (by omega) (by omega) 3
  obtain ⟨⟨d0, d1, d2, d3⟩, e0, e1, e2, e3⟩ := box4 hP1.box
  have hG1 : Gap (splice A p ((A.drop e).take d)) q f t := by
    have := hg.right (n := d) (by omega)
    rw [← hf, show p + d = q by omega] at this
    exact this
  have hl : (splice A p ((A.drop e).take d)).length = A.length := length_splice _ _ _ (by simp; omega)
  rw [hl] at d0
  have HX : Hid ((∀ k, (Builtin.copy_ #[110, 110] 3 #[cutV (ad r) p A.length A.length, cutV (ad r) e (e + d) A.length]).run Tryz.prog (w.drewN k) = .ok (goInt d) (w1.drewN k)) ∧ PA w1 b r (splice A p ((A.drop e).take d)) p e l ∧ Ch b r w w1 ∧ Gap (splice A p ((A.drop e).take d)) q f t ∧ (splice A p ((A.drop e).take d)).length = A.length) := ⟨hrun, hP1, hC1, hG1, hl⟩
  clear hrun hP1 hC1 hG1 hl
  obtain ⟨N, hN⟩ : ∃ N, A.length = N := ⟨_, rfl⟩
  rw [hN] at c0 d0 g2 g3 hA
  have s1 : ∀ W, (Instr.sliceAt 110 (.slice (ad r) N N) (some (.int .i64 p)) none none).run Tryz.prog W = .ok (cutV (ad r) p N N) W := fun W => run_cut _ N p (by omega) W
  have s2 : ∀ W, (Instr.sliceAt 110 (.slice (ad r) N N) (some (.int .i64 e)) (some (.int .i64 f)) none).run Tryz.prog W = .ok (cutV (ad r) e f N) W := fun W => run_cuts _ N e f (by omega) (by omega) W
  have k1 : IntKind.i64.wrap ((e : Int) + q) = (e : Int) + q := by rw [IntKind.wrap_i64]; omega
  have k2 : IntKind.i64.wrap ((e : Int) + q - p) = f := by rw [IntKind.wrap_i64]; omega
  have k3 : IntKind.i64.wrap ((e : Int) + d) = f := by rw [IntKind.wrap_i64]; omega
  obtain ⟨W, hW0, hW1⟩ : ∃ W : Bool → World, W false = w ∧ W true = w1 := ⟨fun s => if s then w1 else w, rfl, rfl⟩
  obtain ⟨U, hU, hU'⟩ := both W
  have C0 : ∀ m, (U m).cell? ⟨b, 0, none⟩ = some (.slice (ad r) N N) := fun m => by obtain ⟨s, k, hm⟩ := hU' m; rw [hm]; cases s <;> simp [hW0, hW1, c0, d0]
  have C1 : ∀ m, (U m).cell? ⟨b, 1, none⟩ = some (.int .i64 p) := fun m => by obtain ⟨s, k, hm⟩ := hU' m; rw [hm]; cases s <;> simp [hW0, hW1, c1, d1]
  have C2 : ∀ m, (U m).cell? ⟨b, 2, none⟩ = some (.int .i64 e) := fun m => by obtain ⟨s, k, hm⟩ := hU' m; rw [hm]; cases s <;> simp [hW0, hW1, c2, d2]
  have HU : Hid (∀ s k, ∃ m, (W s).drewN k = U m) := hU
  have HW : Hid (W true = w1) := hW1
  have HW0 : Hid (W false = w) := hW0
  have HD : Hid (e + d = f ∧ A.length = N) := ⟨by omega, hN⟩
  have hq' : ¬ q < p := by omega
  clear h hg hd hf hW0 hW1 hU hU' g1 g2 g3 hN hq hqt
  refine callsIn_of_wp_marks Tryz.func126 rfl trivial ?_ rfl
  simp only [Tryz.ntmps126, List.size_toArray, List.length_cons, List.length_nil, Nat.reduceAdd, Nat.reduceSub, Array.replicate_succ, Array.replicate_zero, List.push_toArray, List.append_toArray, List.nil_append, List.cons_append]
  gi_wp2
  refine region_mid W HW0.out U HU.out 33 rfl (fun _ => trivial) (by kernel_rfl) (by kernel_rfl) (by kernel_rfl) (by kernel_rfl) rfl rfl rfl ?_
  dsimp only [List.dropLast, List.take, List.drop]
  repeat (gi_big_quiet_step (fail))
  refine wpQuietIn_nil ?_
  refine ⟨.int .i64 d, fun k => ?_, ?_⟩
  · rw [HW0.out, HW.out]
    refine exec_copy (.tmp 56) (.tmp 76) 110 110 rfl _ _ rfl rfl ?_
    have := HX.out.1 k
    rw [HD.out.1, HD.out.2] at this
    exact this
  simp only [Act.put, List.setIfInBounds_toArray, List.set_cons_succ, List.set_cons_zero]
  repeat (gi_big_quiet_step (fail))
  refine wpQuietIn_nil ?_
  intro k
  rw [HW.out]
  gi_wp2
  obtain ⟨_, x1, x2, x3, x4⟩ := HX.out
  refine ⟨.tuple #[], by simp [results, Tryz.results126, go_sem], rfl, _, f, ((x1.drewN k).setE f).setP q, x3, x4, ?_⟩
  exact ((x2.trans (Nw.refl _ _) (Ch.drewN b r w1 k)).trans (Nw.refl _ _) (Ch.set b r _ 2 _)).trans (Nw.refl _ _) (Ch.set b r _ 1 _)

theorem shift_any {b : Nat} {r : Option Nat} {A : List UInt8} {p e l q : Nat} {t : List UInt8} (w : World) (h : PA w b r A p e l) (hg : Gap A p e t) (hqt : q ≤ t.length) (hA : A.length ≤ 4294967296) :
    Calls Tryz.prog 126 #[.pointer (some ⟨b, 0, none⟩), .int .i64 q] w fun x w' => x = .returned (.tuple #[]) ∧ ∃ A' e', PA w' b r A' q e' l ∧ Gap A' q e' t ∧ A'.length = A.length ∧ Ch b r w w' := by
  rcases Nat.lt_or_ge q p with hq | hq
  · exact callsIn_wide.1 (shift_left w h hg hq hA)
  · exact callsIn_wide.1 (shift_right w h hg hq hqt hA)
end Go.Proofs.YtplieccalmkloaaGreatDoor.Gap
namespace Go.Proofs.YtplieccalmkloaaGreatDoor.Gap
open Go.RowKit Bod

theorem sizeT : (Tryz.prog.info? 138).map (·.size) = some 2 := by kernel_rfl
theorem liesT : liesAt Tryz.prog Tryz.prog.depth 138 (2 / Tryz.prog.cellsOf 138) 0 138 1 = true := by kernel_rfl
theorem infoU8 : (Tryz.prog.info? 5).map (fun i => (i.zero, i.size, i.bytes)) = some (some (.int .u8 0), 1, 1) := by kernel_rfl

/-- the block b is a builder (p: its own address, if it was written) that holds bs; its row lies at hi or beyond -/
structure Bld (b hi : Nat) (bs : List Value) (W : World) (p v : Value) : Prop where
  box : W.heap[b]? = some (.cells #[p, v] 138 (0, 0))
  row : W.ownsRow hi 5 1 v bs.length bs
  adr : p = .pointer none ∨ p = .pointer (some ⟨b, 0, none⟩)
theorem Bld.far {b hi : Nat} {bs : List Value} {W : World} {p v : Value} (h : Bld b hi bs W p v) {g : Nat} (hg : v.ownBlock = some g) : hi ≤ g := (h.row.lt g hg).1
theorem Bld.block {b hi : Nat} {bs : List Value} {W : World} {p v : Value} (h : Bld b hi bs W p v) {g : Nat} (hg : v.ownBlock = some g) : ∃ vs, W.heap[g]? = some (.cells vs 5 (0, 0)) := by
  rcases h.row.2 with ⟨h0, _⟩ | ⟨g', cap', cur, hv, _, hgb, _⟩
  · rw [h0] at hg; cases hg
  · rw [hv] at hg; cases hg; exact ⟨_, hgb⟩
theorem Bld.kept {b hi : Nat} {bs : List Value} {W W' : World} {p v : Value} {row : Option Nat} (h : Bld b hi bs W p v) (hg : W.grownBy W' row) (h1 : row ≠ some b) (h2 : ∀ g, v.ownBlock = some g → row ≠ some g) : Bld b hi bs W' p v :=
  ⟨(hg.block b (Array.getElem?_eq_some_iff.1 h.box).1 (fun e => h1 e.symm)).trans h.box, h.row.kept hg (by cases hb : v.ownBlock with
    | none => exact .inl rfl
    | some g => exact .inr (fun e => h2 g hb e.symm)), h.adr⟩
/-- what a write to the builder leaves as it was: all but its own block and rows of bytes at hi or beyond -/
def Wr (b hi : Nat) (W W' : World) : Prop := W'.os = W.os ∧ W'.tape = W.tape ∧ W'.output = W.output ∧ W.heap.size ≤ W'.heap.size ∧ ∀ k o, W.heap[k]? = some o → k ≠ b → (hi ≤ k → ∀ vs fz, o ≠ .cells vs 5 fz) → W'.heap[k]? = some o
theorem Wr.refl (b hi : Nat) (W : World) : Wr b hi W W := ⟨rfl, rfl, rfl, Nat.le_refl _, fun _ _ h _ _ => h⟩
theorem Wr.trans {b hi : Nat} {X Y Z : World} (h : Wr b hi X Y) (k : Wr b hi Y Z) : Wr b hi X Z :=
  ⟨k.1.trans h.1, k.2.1.trans h.2.1, k.2.2.1.trans h.2.2.1, Nat.le_trans h.2.2.2.1 k.2.2.2.1, fun i o a b c => k.2.2.2.2 i o (h.2.2.2.2 i o a b c) b c⟩
theorem Wr.set (b hi i : Nat) (W : World) (u : Value) : Wr b hi W (W.setCell ⟨b, i, none⟩ u) :=
  have g := gcell W b i u
  ⟨g.os, g.tape, g.output, g.size, fun k _ hk hne _ => (g.block k (Array.getElem?_eq_some_iff.1 hk).1 (fun e => hne (by cases e; rfl))).trans hk⟩

set_option maxRecDepth 100000 in
set_option maxHeartbeats 1000000 in
theorem check_used (b : Nat) (w : World) (h0 : w.cell? ⟨b, 0, none⟩ = some (.pointer (some ⟨b, 0, none⟩))) :
    Calls Tryz.prog 128 #[.pointer (some ⟨b, 0, none⟩)] w fun e w' => e = .returned (.tuple #[]) ∧ w' = w := by
  obtain ⟨j, hj, hjs⟩ := Option.map_eq_some_iff.1 sizeT
  have hq := Lib.run_neq_ptr_same (P := Tryz.prog) w ⟨b, 0, none⟩ Tryz.underlying136 hj
  go_enter Tryz.func128, Tryz.ntmps128
  go_wp2
  go_end0
  exact ⟨rfl, rfl⟩
set_option maxRecDepth 100000 in
set_option maxHeartbeats 1000000 in
theorem check_new (b : Nat) (v : Value) (w : World) (hb : w.heap[b]? = some (.cells #[.pointer none, v] 138 (0, 0))) :
    Calls Tryz.prog 128 #[.pointer (some ⟨b, 0, none⟩)] w fun e w' => e = .returned (.tuple #[]) ∧ w' = w.setCell ⟨b, 0, none⟩ (.pointer (some ⟨b, 0, none⟩)) := by
  obtain ⟨j, hj, hjs⟩ := Option.map_eq_some_iff.1 sizeT
  have h0 : w.cell? ⟨b, 0, none⟩ = some (.pointer none) := by simp [World.cell?, hb]
  have hf : w.frozen? ⟨b, 0, none⟩ = false := by simp [World.frozen?, hb]
  have hsh : w.shape? b = some (138, 2) := by simp [World.shape?, hb]
  have hto := Lib.run_to_unsafe (P := Tryz.prog) w ⟨b, 0, none⟩ Tryz.underlying136 Tryz.underlying181 hj (by rw [hjs]; decide) hsh (by decide : (0 : Nat) < 2)
  have hfr := Lib.run_from_unsafe (P := Tryz.prog) w ⟨b, 0, none⟩ Tryz.underlying181 Tryz.underlying136 hj hsh liesT
  have hq := Lib.run_neq_ptr_same (P := Tryz.prog) (w.setCell ⟨b, 0, none⟩ (.pointer (some ⟨b, 0, none⟩))) ⟨b, 0, none⟩ Tryz.underlying136 hj
  have hno : ∀ x : Value, (callFunc 138 #[x]).run Tryz.prog w = .ok (.value x) w := fun x => by
    rw [run_callFunc_extern Tryz.func138 (by kernel_rfl) (by kernel_rfl) (by kernel_rfl) (e := Extern.AbiNoEscape.same) (by kernel_rfl), Lib.run_noEscape]
    rfl
  go_enter Tryz.func128, Tryz.ntmps128
  go_wp2
  go_end0
  exact ⟨rfl, rfl⟩

theorem check_any {b hi : Nat} {bs : List Value} {w : World} {p v : Value} (h : Bld b hi bs w p v) (hb : b < hi) :
    Calls Tryz.prog 128 #[.pointer (some ⟨b, 0, none⟩)] w fun e w' => e = .returned (.tuple #[]) ∧ Bld b hi bs w' (.pointer (some ⟨b, 0, none⟩)) v ∧ Wr b hi w w' ∧ w'.heap.size = w.heap.size := by
  have hbox := h.box
  rcases h.adr with rfl | rfl
  · refine (check_new b v w hbox).mono ?_
    rintro e w' ⟨rfl, rfl⟩
    refine ⟨rfl, ⟨set1 (i := 0) (.pointer (some ⟨b, 0, none⟩)) hbox, h.row.kept (gcell w b 0 _) ?_, .inr rfl⟩, Wr.set _ _ _ _ _, by simp [World.setCell]⟩
    cases hv : v.ownBlock with
    | none => exact .inl rfl
    | some g => exact .inr (fun e => by cases e; have := h.far hv; omega)
  · refine (check_used b w (by simp [World.cell?, hbox])).mono ?_
    rintro e w' ⟨rfl, rfl⟩
    exact ⟨rfl, h, Wr.refl _ _ _, rfl⟩
/-- behind the append: what the new buffer leaves -/
theorem Bld.put {b hi : Nat} {bs bs' : List Value} {w1 w2 : World} {p v v' : Value} (h : Bld b hi bs w1 p v) (hb : b < hi) (hg : w1.grownBy w2 v.ownBlock) (hown : w2.ownsRow hi 5 1 v' bs'.length bs') :
    w2.heap[b]? = some (.cells #[p, v] 138 (0, 0)) ∧ Bld b hi bs' (w2.setCell ⟨b, 1, none⟩ v') p v' ∧ Wr b hi w1 (w2.setCell ⟨b, 1, none⟩ v') := by
  have h2 : w2.heap[b]? = some (.cells #[p, v] 138 (0, 0)) := (hg.block b (Array.getElem?_eq_some_iff.1 h.box).1 (fun e => by have := h.far e.symm; omega)).trans h.box
  refine ⟨h2, ⟨set1 (i := 1) v' h2, hown.kept (gcell w2 b 1 _) ?_, h.adr⟩, Wr.trans ⟨hg.os, hg.tape, hg.output, hg.size, fun k o hk hne hrow => (hg.block k (Array.getElem?_eq_some_iff.1 hk).1 (fun e => ?_)).trans hk⟩ (Wr.set _ _ _ _ _)⟩
  · cases hv : v'.ownBlock with
    | none => exact .inl rfl
    | some g => exact .inr (fun e => by cases e; have := (hown.lt _ hv).1; omega)
  · obtain ⟨vs, hvs⟩ := h.block e.symm
    rw [hvs] at hk; cases hk
    exact hrow (h.far e.symm) _ _ rfl
theorem row_slice {W : World} {base : Nat} {e : TypeId} {size : Nat} {v : Value} {n : Nat} {xs : List Value} (h : W.ownsRow base e size v n xs) : ∃ ao ln cp, v = .slice ao ln cp := by
  rcases h.2 with ⟨h0, _⟩ | ⟨g, cap, cur, hv, _⟩
  · exact ⟨_, _, _, h0⟩
  · exact ⟨_, _, _, hv⟩
theorem row_len {xs : List Value} {n : Nat} (h : xs.length = n * 1) : xs.length = n := by omega
theorem wr_alloc {b hi : Nat} (W : World) (o : Obj) : Wr b hi W (W.alloc o) := ⟨rfl, rfl, rfl, by simp, fun k _ hk _ _ => (Below.heap_alloc _ _ _ (Array.getElem?_eq_some_iff.1 hk).1).trans hk⟩

set_option maxRecDepth 100000 in
set_option maxHeartbeats 1000000 in
theorem write_none {b hi : Nat} {bs : List Value} {w : World} {p v : Value} (h : Bld b hi bs w p v) (hb : b < hi) :
    Calls Tryz.prog 100 #[.pointer (some ⟨b, 0, none⟩), .slice none 0 0] w fun e w' => (∃ u, e = .returned u) ∧ (∃ p' v', Bld b hi bs w' p' v') ∧ Wr b hi w w' := by
  obtain ⟨i0, hi0, hz0, hz1, hz2⟩ := info_parts infoU8
  have cC := check_any h hb
  go_enter Tryz.func100, Tryz.ntmps100
  go_wp2_with (first | (go_at_call 128; refine cC.mono ?_; clear cC; rintro e w1 ⟨rfl, k1, HW1, hsz⟩; obtain ⟨ao, ln, cp, rfl⟩ := row_slice k1.row; clear hsz; have c1 : w1.cell? ⟨b, 1, none⟩ = some (.slice ao ln cp) := (by simp [World.cell?, k1.box]); have f1 : w1.frozen? ⟨b, 1, none⟩ = false := (by simp [World.frozen?, k1.box])) | (at_builtin; refine wpList_append_own_none rfl _ _ 110 rfl hi 5 i0 1 Tryz.underlying110 hi0 _ _ _ rfl k1.row rfl ?_))
  have q2 : Bld b hi bs (w1.setCell ⟨b, 1, none⟩ (.slice ao ln cp)) (.pointer (some ⟨b, 0, none⟩)) (.slice ao ln cp) := ((k1.put hb (by
    refine ⟨rfl, rfl, rfl, Nat.le_refl _, fun _ _ _ => rfl⟩) k1.row).2.1)
  exact bodyPost_ret (v := .tuple #[.int .i64 0, .nilIface]) (by simp [results, Tryz.results100, go_sem]) rfl ⟨⟨_, rfl⟩, ⟨_, _, q2⟩, HW1.trans (Wr.set _ _ _ _ _)⟩
set_option maxRecDepth 100000 in
set_option maxHeartbeats 1000000 in
theorem write_some {b hi : Nat} {bs : List Value} {w : World} {p v : Value} (h : Bld b hi bs w p v) (hb : b < hi) (hw : hi ≤ w.heap.size) {k o m c : Nat} {A : List UInt8} (hk : k < hi) (hkb : k ≠ b) (hr : w.heap[k]? = some (.cells (Lib.byteCells A).toArray 5 (0, 0))) (ho : o + m ≤ A.length) (hl : bs.length + m ≤ 70368744177664) :
    Calls Tryz.prog 100 #[.pointer (some ⟨b, 0, none⟩), .slice (some ⟨k, o, none⟩) m c] w fun e w' => (∃ u, e = .returned u) ∧ (∃ p' v', Bld b hi (bs ++ Lib.byteCells ((A.drop o).take m)) w' p' v') ∧ Wr b hi w w' := by
  obtain ⟨i0, hi0, hz0, hz1, hz2⟩ := info_parts infoU8
  have cC := check_any h hb
  have hcl : (Lib.byteCells ((A.drop o).take m)).length = m := by rw [bc_len]; simp; omega
  have hml : bs.length + m ≤ maxLen := by unfold maxLen; omega
  have HN : Hid (∀ X : World, X.heap[k]? = some (.cells (Lib.byteCells A).toArray 5 (0, 0)) → ∀ j u, (Lib.byteCells ((A.drop o).take m))[j]? = some u → X.cell? ((⟨k, o, none⟩ : Addr).add j) = some u) := fun X hX j u hu => by
    have hj : j < m := by
      have := (List.getElem?_eq_some_iff.1 hu).1
      omega
    rw [adr]
    have e1 : (Lib.byteCells A)[o + j]? = some u := by
      rw [← hu]
      simp [Lib.byteCells, hj]
    unfold World.cell?
    dsimp only
    rw [hX]
    simpa using e1
  have HK : Hid (∀ X, Wr b hi w X → X.heap[k]? = some (.cells (Lib.byteCells A).toArray 5 (0, 0))) := fun X hX => hX.2.2.2.2 k _ hr hkb (fun h => by omega)
  obtain ⟨nw, hnw⟩ : ∃ nw, Lib.byteCells ((A.drop o).take m) = nw := ⟨_, rfl⟩
  have H1 : Hid (∀ u ∈ nw, u.oneCell' = true) := show ∀ u ∈ nw, _ by rw [← hnw]; exact bc_one _
  rw [hnw] at HN hcl ⊢
  have HL : Hid (nw.length = m ∧ bs.length + m ≤ maxLen ∧ bs.length + m ≤ 70368744177664 ∧ hi ≤ w.heap.size) := ⟨hcl, hml, hl, hw⟩
  clear hr hk ho hnw hcl hml hl hw h
  go_enter Tryz.func100, Tryz.ntmps100
  go_wp2_with (first | (go_at_call 128; refine cC.mono ?_; clear cC; rintro e w1 ⟨rfl, k1, HW1, hsz⟩; have HS : Hid (w1.heap.size = w.heap.size) := hsz; clear hsz; have c1 : w1.cell? ⟨b, 1, none⟩ = some v := (by simp [World.cell?, k1.box])) | (at_builtin; refine wpList_append_own _ rfl _ _ 110 rfl hi 5 i0 (.int .u8 0) 1 1 Tryz.underlying110 hi0 hz0 hz1 hz2 rfl (by decide) _ _ _ rfl k1.row ⟨k, o, none⟩ m c nw rfl (by rw [HL.out.1]; omega) (HN.out _ (HK.out _ HW1)) H1.out HL.out.2.1 (by have := HL.out; omega) (by have := HL.out; have := HS.out; omega) ?_; intro v' w2 hown' hgrow _; obtain ⟨ao, ln, cp, rfl⟩ := row_slice hown'; obtain ⟨q1, q2, q3⟩ := k1.put (bs' := bs ++ nw) hb hgrow (by rw [row_len hown'.1]; exact hown'); have d1 : w2.cell? ⟨b, 1, none⟩ = some v := (by simp [World.cell?, q1]); have f1 : w2.frozen? ⟨b, 1, none⟩ = false := (by simp [World.frozen?, q1])))
  exact bodyPost_ret (v := .tuple #[.int .i64 m, .nilIface]) (by simp [results, Tryz.results100, go_sem]) rfl ⟨⟨_, rfl⟩, ⟨_, _, q2⟩, HW1.trans q3⟩
end Go.Proofs.YtplieccalmkloaaGreatDoor.Gap
namespace Go.Proofs.YtplieccalmkloaaGreatDoor.Gap
open Go.RowKit Bod

theorem infoZ : (Tryz.prog.info? 5).map (fun i => (i.zero, i.size, i.bytes)) = some (some (.int .u8 0), 1, 1) := by kernel_rfl
theorem made_bc (m : Nat) : madeCells #[.int .u8 0] m = (Lib.byteCells (List.replicate m 0)).toArray := by
  apply Array.ext
  · simp [Lib.byteCells, madeCells]
  · intro i h1 h2
    simp [Lib.byteCells, madeCells, Nat.mod_one]

/-- the last operation of a region whose run is known -/
theorem last_run {F : Fence} {n : Nat} {P : Program} {ops : Array Oper} {Q : Exit → Act → World → Prop} {o : Oper} {a : Act} {w w' : World} {v : Value} (hgo : o.guard = none) (hro : F.round = none) (hF : ∀ f, F.fn f) (hr : (execOp a.eval o).run P w = .ok (.value v) w') (h : Q .normal (a.put o.dst v) w') : wpListIn F n P ops Q [o] a w := by
  unfold wpListIn
  rw [if_pos (by simp [Region.wanted, hgo])]
  unfold Oper.wpIn
  refine ⟨fun f _ => hF f, ?_⟩
  rw [hro, Oper.semAt_none, hr]
  exact h
/-- bytes of one row are copied into another -/
theorem copy_to {j : Nat} {Z A : List UInt8} {a : Option Addr} {dl dc off so n : Nat} {r : Option Nat} (hnil : r = none → A = []) (ha : 0 < n → a = some ⟨j, off, none⟩) (hn : n ≤ dl) (h1 : off + n ≤ Z.length) (h2 : so + n ≤ A.length) (ty : TypeId) (X : World) (hj : X.heap[j]? = some (.cells (Lib.byteCells Z).toArray 5 (0, 0))) (hsrc : ∀ k, r = some k → X.heap[k]? = some (.cells (Lib.byteCells A).toArray 5 (0, 0))) :
    (Builtin.copy_ #[110, 110] ty #[.slice a dl dc, cutV (ad r) so (so + n) A.length]).run Tryz.prog X = .ok (goInt n) (X.setRow j (Lib.byteCells (splice Z off ((A.drop so).take n))).toArray) := by
  have hcl : ((A.drop so).take n).length = n := by simp; omega
  by_cases hn0 : n = 0
  · subst hn0
    have e1 : splice Z off ((A.drop so).take 0) = Z := by simp [splice]
    rw [e1, setRow_self X j _ 5 _ hj]
    unfold cutV sliced
    exact run_copy_none (P := Tryz.prog) _ 110 110 ty 5 _ _ _ _ _ _ Tryz.underlying110 infoB (by simp)
  · obtain rfl := ha (by omega)
    cases r with
    | none => have := hnil rfl; subst this; simp at h2; omega
    | some i =>
      unfold cutV sliced ad
      rw [if_neg (by omega)]
      have hrow := hsrc i rfl
      have := run_copy_row Tryz.prog X 110 110 ty 5 j off dl dc ⟨i, so * 1, none⟩ (so + n - so) (A.length - so) (Lib.byteCells Z).toArray 5 (Lib.byteCells ((A.drop so).take n)) Tryz.underlying110 infoB hj
        (by rw [bc_len, hcl]; show n = min _ _; omega) (fun m v hv => ?_) (by simp [bc_len, hcl]; omega) (bc_one _)
      · rw [bc_len, hcl] at this
        simp only [Option.map_some, adr, Nat.zero_add]
        rw [this, bc_splice, bc_len, hcl]
        simp
      · have hi : m < n := by
          have := (List.getElem?_eq_some_iff.1 hv).1
          rw [bc_len, hcl] at this
          exact this
        rw [adr]
        have e1 : (Lib.byteCells A)[so * 1 + m]? = some v := by
          rw [← hv]
          simp [Lib.byteCells, hi]
        unfold World.cell?
        dsimp only
        rw [hrow]
        simpa using e1
theorem run_cut_h (a : Option Addr) (N hi : Nat) (h : hi ≤ N) (W : World) : (Instr.sliceAt 110 (.slice a N N) none (some (.int .i64 hi)) none).run Tryz.prog W = .ok (cutV a 0 hi N) W := by
  rw [run_sliceAt_slice _ _ _ _ _ _ unLB, run_slice_h _ _ _ _ _ unLB _ _ (by omega) (by omega), szLB]
  rfl
theorem cell_row {X : World} {j b : Nat} (hne : b ≠ j) (cs : Array Value) (i : Nat) : (X.setRow j cs).cell? ⟨b, i, none⟩ = X.cell? ⟨b, i, none⟩ := by
  unfold World.cell?
  dsimp only
  rw [setRow_other X j b cs hne]
theorem frozen_row {X : World} {j b : Nat} (hne : b ≠ j) (cs : Array Value) (i : Nat) : (X.setRow j cs).frozen? ⟨b, i, none⟩ = X.frozen? ⟨b, i, none⟩ := by
  unfold World.frozen?
  dsimp only
  rw [setRow_other X j b cs hne]

set_option maxRecDepth 100000 in
set_option maxHeartbeats 1000000 in
theorem room_kept {b : Nat} {r : Option Nat} {A : List UInt8} {p e l n : Nat} (w : World) (h : PA w b r A p e l) (h1 : n ≤ A.length) (h2 : A.length ≤ 2 * max n 64) (hA : A.length ≤ 4294967296) :
    Calls Tryz.prog 127 #[.pointer (some ⟨b, 0, none⟩), .int .i64 n] w fun x w' => x = .returned (.tuple #[]) ∧ w' = w := by
  obtain ⟨⟨c0, c1, c2, c3⟩, f0, f1, f2, f3⟩ := box4 h.box
  have hb := h.lt
  obtain ⟨N, hN⟩ : ∃ N, A.length = N := ⟨_, rfl⟩
  rw [hN] at c0 h1 h2 hA
  obtain ⟨R, hR⟩ : ∃ R : Nat, (max (n : Int) 64) = R := ⟨max n 64, by omega⟩
  have h3 : (N : Int) ≤ 2 * R := by omega
  clear h hN h2
  go_enter Tryz.func127, Tryz.ntmps127
  go_wp2
  exact bodyPost_ret (v := .tuple #[]) (by simp [results, Tryz.results127, go_sem]) rfl ⟨rfl, rfl⟩

set_option maxRecDepth 100000 in
set_option maxHeartbeats 4000000 in
theorem room_new {b : Nat} {r : Option Nat} {A : List UInt8} {p e l n : Nat} {t : List UInt8} (w : World) (h : PA w b r A p e l) (hg : Gap A p e t) (ht : t.length ≤ n) (hn : n ≤ l) (hl : l ≤ 1073741824) (h1 : ¬ (n ≤ A.length ∧ A.length ≤ 2 * max n 64)) (hA : A.length ≤ 4294967296) :
    CallsIn .wide 0 Tryz.prog 127 #[.pointer (some ⟨b, 0, none⟩), .int .i64 n] w fun x w' => x = .returned (.tuple #[]) ∧ ∃ A' e', PA w' b (some w.heap.size) A' p e' l ∧ Gap A' p e' t ∧ n ≤ A'.length ∧ A'.length ≤ 2 * max n 64 ∧ A'.length ≤ l ∧ Ch b r w w' := by
  obtain ⟨⟨c0, c1, c2, c3⟩, f0, f1, f2, f3⟩ := box4 h.box
  have hb := h.lt
  obtain ⟨R, hR⟩ : ∃ R : Nat, (max (n : Int) 64) = R := ⟨max n 64, by omega⟩
  have hRN : max n 64 = R := by omega
  rw [hRN] at h1 ⊢
  obtain ⟨N, hN⟩ : ∃ N, A.length = N := ⟨_, rfl⟩
  rw [hN] at c0 h1 hA
  have h1 : N < n ∨ (n ≤ N ∧ (2 : Int) * R < N) := by omega
  have g1 := hg.pe; have g2 := hg.eA; have g3 := hg.len
  rw [hN] at g2 g3
  obtain ⟨m, hm⟩ : ∃ m : Nat, (min ((n : Int) + R / 2) l) = m := ⟨min (n + R / 2) l, by omega⟩
  obtain ⟨j, hj⟩ : ∃ j, w.heap.size = j := ⟨_, rfl⟩
  rw [hj]
  obtain ⟨q, hq⟩ : ∃ q, N - e = q := ⟨_, rfl⟩
  obtain ⟨f, hf⟩ : ∃ f, m - q = f := ⟨_, rfl⟩
  have hm1 : n ≤ m := by omega
  have hm2 : m ≤ 2 * R := by omega
  have hm3 : m ≤ l := by omega
  obtain ⟨W0, hW0⟩ : ∃ W0, w.alloc (.cells (Lib.byteCells (List.replicate m 0)).toArray 5) = W0 := ⟨_, rfl⟩
  have hB0 : Below w.heap.size w W0 := by rw [← hW0]; exact (Below.refl _ w).alloc (Nat.le_refl _) _
  have hP0 : PA W0 b r A p e l := h.below hB0
  have hr0 : W0.heap[j]? = some (.cells (Lib.byteCells (List.replicate m 0)).toArray 5 (0, 0)) := by rw [← hW0, ← hj]; exact World.alloc_heap_new w _
  have hbj : b ≠ j := by omega
  have hrj : ∀ k, r = some k → k ≠ j := fun k hk => by have := h.rlt hk; omega
  obtain ⟨⟨d0, d1, d2, d3⟩, e0, e1, e2, e3⟩ := box4 hP0.box
  rw [hN] at d0
  have hmk : (Instr.makeSlice 110 (.int .i64 (m : Int)) (.int .i64 (m : Int))).run Tryz.prog w = .ok (.slice (some ⟨j, 0, none⟩) m m) W0 := by
    rw [run_make_row' 110 5 (.int .u8 0) 1 Tryz.underlying110 infoZ rfl .i64 .i64 m (by omega) (by omega) w, made_bc, hj, hW0]
  have s1 : ∀ W, (Instr.sliceAt 110 (.slice (ad r) N N) none (some (.int .i64 p)) none).run Tryz.prog W = .ok (cutV (ad r) 0 p N) W := fun W => run_cut_h _ N p (by omega) W
  have s2 : ∀ W, (Instr.sliceAt 110 (.slice (ad r) N N) (some (.int .i64 e)) none none).run Tryz.prog W = .ok (cutV (ad r) e N N) W := fun W => run_cut _ N e (by omega) W
  have s3 : ∀ W, (Instr.sliceAt 110 (.slice (some ⟨j, 0, none⟩) m m) (some (.int .i64 f)) none none).run Tryz.prog W = .ok (cutV (some ⟨j, 0, none⟩) f m m) W := fun W => run_cut _ m f (by omega) W
  have k1 : IntKind.i64.wrap ((N : Int) - e) = q := by rw [IntKind.wrap_i64]; omega
  have k2 : IntKind.i64.wrap ((m : Int) - q) = f := by rw [IntKind.wrap_i64]; omega
  have cr : ∀ (X : World) cs i, (X.setRow j cs).cell? ⟨b, i, none⟩ = X.cell? ⟨b, i, none⟩ := fun X cs i => cell_row hbj cs i
  have fr : ∀ (X : World) cs i, (X.setRow j cs).frozen? ⟨b, i, none⟩ = X.frozen? ⟨b, i, none⟩ := fun X cs i => frozen_row hbj cs i
  have hL1 : (splice (List.replicate m (0 : UInt8)) 0 (A.take p)).length = m := by rw [length_splice _ _ _ (by simp; omega)]; simp
  have HZ : Hid (∀ X : World, X.heap = W0.heap → (Builtin.copy_ #[110, 110] 3 #[.slice (some ⟨j, 0, none⟩) m m, cutV (ad r) 0 p N]).run Tryz.prog X = .ok (goInt p) (X.setRow j (Lib.byteCells (splice (List.replicate m 0) 0 (A.take p))).toArray)) := fun X hX => by
    have := copy_to (j := j) (Z := List.replicate m 0) (A := A) (a := some ⟨j, 0, none⟩) (dl := m) (dc := m) (off := 0) (so := 0) (n := p) (r := r) h.nil (fun _ => rfl) (by omega) (by simp; omega) (by omega) 3 X (by rw [hX]; exact hr0) (fun k hk => by rw [hX]; exact (hP0.row k hk).2)
    rw [hN] at this
    simpa using this
  have HY : Hid (∀ X : World, (∀ k, r = some k → X.heap[k]? = W0.heap[k]?) → X.heap[j]? = some (.cells (Lib.byteCells (splice (List.replicate m 0) 0 (A.take p))).toArray 5 (0, 0)) → (Builtin.copy_ #[110, 110] 3 #[cutV (some ⟨j, 0, none⟩) f m m, cutV (ad r) e N N]).run Tryz.prog X = .ok (goInt q) (X.setRow j (Lib.byteCells (splice (splice (List.replicate m 0) 0 (A.take p)) f (A.drop e))).toArray)) := fun X hX hXj => by
    have := copy_to (j := j) (Z := splice (List.replicate m 0) 0 (A.take p)) (A := A) (a := if m = f then some ⟨j, 0, none⟩ else some ⟨j, f, none⟩) (dl := m - f) (dc := m - f) (off := f) (so := e) (n := q) (r := r) h.nil (fun _ => by rw [if_neg (by omega)]) (by omega) (by rw [hL1]; omega) (by omega) 3 X hXj (fun k hk => by rw [hX k hk]; exact (hP0.row k hk).2)
    rw [hN, show e + q = N by omega, show (A.drop e).take q = A.drop e from List.take_of_length_le (by rw [List.length_drop]; omega)] at this
    rw [← this]
    unfold cutV sliced
    simp [adr]
  have hL2 : (splice (splice (List.replicate m (0 : UInt8)) 0 (A.take p)) f (A.drop e)).length = m := by rw [length_splice _ _ _ (by rw [hL1]; simp; omega)]; exact hL1
  have HG : Hid (Gap (splice (splice (List.replicate m (0 : UInt8)) 0 (A.take p)) f (A.drop e)) p f t ∧ (splice (splice (List.replicate m (0 : UInt8)) 0 (A.take p)) f (A.drop e)).length = m) := by
    refine ⟨?_, hL2⟩
    have := hg.remade (Z := List.replicate m 0) (by rw [List.length_replicate]; omega)
    rw [List.length_replicate, hN, hq, hf] at this
    exact this
  have HF : Hid (∀ k1 k2, PA ((((((W0.drewN k1).setRow j (Lib.byteCells (splice (List.replicate m 0) 0 (A.take p))).toArray).drewN k2).setRow j (Lib.byteCells (splice (splice (List.replicate m 0) 0 (A.take p)) f (A.drop e))).toArray).setCell ⟨b, 0, none⟩ (.slice (some ⟨j, 0, none⟩) m m)).setCell ⟨b, 2, none⟩ (.int .i64 f)) b (some j) (splice (splice (List.replicate m 0) 0 (A.take p)) f (A.drop e)) p f l ∧
      Ch b r w ((((((W0.drewN k1).setRow j (Lib.byteCells (splice (List.replicate m 0) 0 (A.take p))).toArray).drewN k2).setRow j (Lib.byteCells (splice (splice (List.replicate m 0) 0 (A.take p)) f (A.drop e))).toArray).setCell ⟨b, 0, none⟩ (.slice (some ⟨j, 0, none⟩) m m)).setCell ⟨b, 2, none⟩ (.int .i64 f))) := fun k1 k2 => by
    obtain ⟨X1, hX1⟩ : ∃ X1, ((W0.drewN k1).setRow j (Lib.byteCells (splice (List.replicate m 0) 0 (A.take p))).toArray).drewN k2 = X1 := ⟨_, rfl⟩
    have x1 : X1.heap[b]? = some (.cells #[.slice (ad r) N N, .int .i64 p, .int .i64 e, .int .i64 l] 112 (0, 0)) := by
      rw [← hX1, ← hN]
      exact (setRow_other _ _ _ _ hbj).trans hP0.box
    have x2 : X1.heap[j]? = some (.cells (Lib.byteCells (splice (List.replicate m 0) 0 (A.take p))).toArray 5 (0, 0)) := by
      rw [← hX1]
      exact setRow_heap _ _ _ _ _ _ hr0
    have x3 : Ch b (some j) W0 X1 := by
      rw [← hX1]
      exact ((Ch.drewN b (some j) W0 k1).trans (Nw.refl _ _) (Ch.setRow b j _ _)).trans (Nw.refl _ _) (Ch.drewN b (some j) _ k2)
    rw [hX1]
    obtain ⟨X2, hX2⟩ : ∃ X2, X1.setRow j (Lib.byteCells (splice (splice (List.replicate m 0) 0 (A.take p)) f (A.drop e))).toArray = X2 := ⟨_, rfl⟩
    have y1 : X2.heap[b]? = some (.cells #[.slice (ad r) N N, .int .i64 p, .int .i64 e, .int .i64 l] 112 (0, 0)) := by
      rw [← hX2]
      exact (setRow_other _ _ _ _ hbj).trans x1
    have y2 : X2.heap[j]? = some (.cells (Lib.byteCells (splice (splice (List.replicate m 0) 0 (A.take p)) f (A.drop e))).toArray 5 (0, 0)) := by
      rw [← hX2]
      exact setRow_heap _ _ _ _ _ _ x2
    have y3 : Ch b (some j) W0 X2 := by
      rw [← hX2]
      exact x3.trans (Nw.refl _ _) (Ch.setRow b j _ _)
    rw [hX2]
    refine ⟨⟨?_, fun k hk => ?_, fun h0 => by cases h0⟩, ?_⟩
    · have := set1 (i := 2) (.int .i64 f) (set1 (i := 0) (.slice (some ⟨j, 0, none⟩) m m) y1)
      rw [this, hL2]
      rfl
    · cases hk
      refine ⟨fun e => hbj e.symm, ?_⟩
      have g1 := gcell X2 b 0 (.slice (some ⟨j, 0, none⟩) m m)
      have hjl : j < X2.heap.size := (Array.getElem?_eq_some_iff.1 y2).1
      have hne : some j ≠ some b := fun e => hbj (Option.some.inj e).symm
      rw [(gcell _ b 2 (.int .i64 f)).block j (Nat.lt_of_lt_of_le hjl g1.size) hne, g1.block j hjl hne]
      exact y2
    · exact (Ch.below hB0).trans (.inr ⟨j, rfl, by omega⟩) ((y3.trans (Nw.refl _ _) (Ch.set b (some j) _ 0 _)).trans (Nw.refl _ _) (Ch.set b (some j) _ 2 _))
  rcases h1 with h1 | h1
  · have hd : ¬ ((n : Int) ≤ N) := by omega
    clear h hg ht hW0 hB0 hP0 c2 hL1 hL2 h1 hRN hq hf hN g1 g2 g3
    refine callsIn_of_wp_marks Tryz.func127 rfl trivial ?_ rfl
    simp only [Tryz.ntmps127, List.size_toArray, List.length_cons, List.length_nil, Nat.reduceAdd, Nat.reduceSub, Array.replicate_succ, Array.replicate_zero, List.push_toArray, List.append_toArray, List.nil_append, List.cons_append]
    gi_wp2
    refine wpIn_region_quiet_lit rfl (by kernel_rfl) (by kernel_rfl) ?_
    repeat (gi_big_quiet_step (fail))
    refine wpQuietIn_nil ?_
    intro _ hw'
    obtain ⟨nq, hw''⟩ := hw'
    subst hw''
    gi_wp2
    refine region_thenB (by kernel_rfl) (by kernel_rfl) (by kernel_rfl) (by kernel_rfl) rfl rfl ?_
    dsimp only [List.dropLast, List.getLast]
    repeat (gi_big_quiet_step (fail))
    refine wpQuietIn_nil ?_
    intro _ hw'
    obtain ⟨nr, hw''⟩ := hw'
    subst hw''
    refine last_run rfl rfl (fun _ => trivial) (exec_copy (.tmp 49) (.tmp 58) 110 110 rfl _ _ rfl rfl (HZ.out _ rfl)) ?_
    simp only [Act.put, List.setIfInBounds_toArray, List.set_cons_succ, List.set_cons_zero]
    gi_wp2
    refine region_thenB (by kernel_rfl) (by kernel_rfl) (by kernel_rfl) (by kernel_rfl) rfl rfl ?_
    dsimp only [List.dropLast, List.getLast]
    repeat (gi_big_quiet_step (fail))
    refine wpQuietIn_nil ?_
    intro _ hw'
    obtain ⟨ns, hw''⟩ := hw'
    subst hw''
    refine last_run rfl rfl (fun _ => trivial) (exec_copy (.tmp 62) (.tmp 71) 110 110 rfl _ _ rfl rfl (HY.out _ (fun k hk => setRow_other _ _ _ _ (hrj k hk)) (setRow_heap _ _ _ _ _ _ hr0))) ?_
    simp only [Act.put, List.setIfInBounds_toArray, List.set_cons_succ, List.set_cons_zero]
    gi_wp2
    exact ⟨.tuple #[], by simp [results, Tryz.results127, go_sem], rfl, _, f, (HF.out _ _).1, HG.out.1, by rw [HG.out.2]; exact hm1, by rw [HG.out.2]; exact hm2, by rw [HG.out.2]; exact hm3, (HF.out _ _).2⟩
  · have hd : (n : Int) ≤ N := by omega
    have hd2 : (2 : Int) * R < N := by omega
    clear h hg ht hW0 hB0 hP0 c2 hL1 hL2 h1 hRN hq hf hN g1 g2 g3
    refine callsIn_of_wp_marks Tryz.func127 rfl trivial ?_ rfl
    simp only [Tryz.ntmps127, List.size_toArray, List.length_cons, List.length_nil, Nat.reduceAdd, Nat.reduceSub, Array.replicate_succ, Array.replicate_zero, List.push_toArray, List.append_toArray, List.nil_append, List.cons_append]
    gi_wp2
    refine wpIn_region_quiet_lit rfl (by kernel_rfl) (by kernel_rfl) ?_
    repeat (gi_big_quiet_step (fail))
    refine wpQuietIn_nil ?_
    intro _ hw'
    obtain ⟨nq, hw''⟩ := hw'
    subst hw''
    gi_wp2
    refine region_thenB (by kernel_rfl) (by kernel_rfl) (by kernel_rfl) (by kernel_rfl) rfl rfl ?_
    dsimp only [List.dropLast, List.getLast]
    repeat (gi_big_quiet_step (fail))
    refine wpQuietIn_nil ?_
    intro _ hw'
    obtain ⟨nr, hw''⟩ := hw'
    subst hw''
    refine last_run rfl rfl (fun _ => trivial) (exec_copy (.tmp 49) (.tmp 58) 110 110 rfl _ _ rfl rfl (HZ.out _ rfl)) ?_
    simp only [Act.put, List.setIfInBounds_toArray, List.set_cons_succ, List.set_cons_zero]
    gi_wp2
    refine region_thenB (by kernel_rfl) (by kernel_rfl) (by kernel_rfl) (by kernel_rfl) rfl rfl ?_
    dsimp only [List.dropLast, List.getLast]
    repeat (gi_big_quiet_step (fail))
    refine wpQuietIn_nil ?_
    intro _ hw'
    obtain ⟨ns, hw''⟩ := hw'
    subst hw''
    refine last_run rfl rfl (fun _ => trivial) (exec_copy (.tmp 62) (.tmp 71) 110 110 rfl _ _ rfl rfl (HY.out _ (fun k hk => setRow_other _ _ _ _ (hrj k hk)) (setRow_heap _ _ _ _ _ _ hr0))) ?_
    simp only [Act.put, List.setIfInBounds_toArray, List.set_cons_succ, List.set_cons_zero]
    gi_wp2
    exact ⟨.tuple #[], by simp [results, Tryz.results127, go_sem], rfl, _, f, (HF.out _ _).1, HG.out.1, by rw [HG.out.2]; exact hm1, by rw [HG.out.2]; exact hm2, by rw [HG.out.2]; exact hm3, (HF.out _ _).2⟩

theorem room_any {b : Nat} {r : Option Nat} {A : List UInt8} {p e l n : Nat} {t : List UInt8} (w : World) (h : PA w b r A p e l) (hg : Gap A p e t) (ht : t.length ≤ n) (hn : n ≤ l) (hl : l ≤ 1073741824) (hA : A.length ≤ 4294967296) :
    Calls Tryz.prog 127 #[.pointer (some ⟨b, 0, none⟩), .int .i64 n] w fun x w' => x = .returned (.tuple #[]) ∧ ∃ r' A' e', PA w' b r' A' p e' l ∧ Gap A' p e' t ∧ n ≤ A'.length ∧ A'.length ≤ 2 * max n 64 ∧ (A.length ≤ l → A'.length ≤ l) ∧ Ch b r w w' ∧ Nw w r r' := by
  by_cases h1 : n ≤ A.length ∧ A.length ≤ 2 * max n 64
  · exact (room_kept w h h1.1 h1.2 hA).mono fun x w' ⟨e1, e2⟩ => ⟨e1, r, A, e, by rw [e2]; exact h, hg, h1.1, h1.2, id, by rw [e2]; exact Ch.refl _ _ _, .inl rfl⟩
  · exact (callsIn_wide.1 (room_new w h hg ht hn hl h1 hA)).mono fun x w' ⟨e1, A', e', q1, q2, q3, q4, q6, q5⟩ => ⟨e1, some w.heap.size, A', e', q1, q2, q3, q4, fun _ => q6, q5, .inr ⟨_, rfl, Nat.le_refl _⟩⟩
end Go.Proofs.YtplieccalmkloaaGreatDoor.Gap
namespace Go.Proofs.YtplieccalmkloaaGreatDoor.Gap
open Go.RowKit Bod

theorem row_up {W : World} {b n : Nat} {v : Value} {xs : List Value} (h : W.ownsRow b 5 1 v n xs) (hne : v.ownBlock ≠ some b) : W.ownsRow (b + 1) 5 1 v n xs :=
  ⟨h.1, h.2.imp id fun ⟨g, cap, cur, h1, h2, h3⟩ => ⟨g, cap, cur, h1, by have : g ≠ b := fun e => hne (by rw [h1, e]; rfl); omega, h3⟩⟩
theorem row_down {W : World} {b c n : Nat} {v : Value} {xs : List Value} (h : W.ownsRow b 5 1 v n xs) (hc : c ≤ b) : W.ownsRow c 5 1 v n xs :=
  ⟨h.1, h.2.imp id fun ⟨g, cap, cur, h1, h2, h3⟩ => ⟨g, cap, cur, h1, by omega, h3⟩⟩
theorem Wr.low {b hi n₀ : Nat} {w W W' : World} (h : Wr b hi W W') (hb : n₀ ≤ b) (hh : n₀ ≤ hi) (hn : n₀ ≤ w.heap.size) (k : Below n₀ w W) : Below n₀ w W' :=
  ⟨h.1.trans k.os, h.2.1.trans k.tape, h.2.2.1.trans k.output, Nat.le_trans k.size h.2.2.2.1, fun j hj => by
    have hjw : j < W.heap.size := by have := k.size; omega
    have e : W.heap[j]? = some W.heap[j] := Array.getElem?_eq_getElem hjw
    rw [h.2.2.2.2 j _ e (by omega) (fun h => by omega), ← e]
    exact k.block j hj⟩
theorem bldN {b hi : Nat} {bs : List Value} {W : World} (k : Nat) (h : ∃ p v, Bld b hi bs W p v) : ∃ p v, Bld b hi bs (W.drewN k) p v := h.imp fun _ h => h.imp fun _ h => ⟨h.box, ⟨h.row.1, h.row.2⟩, h.adr⟩
theorem belN {n : Nat} {w W : World} (h : Below n w W) (k : Nat) : Below n w (W.drewN k) := ⟨h.os, h.tape, h.output, h.size, h.block⟩
/-- bytes of the array are written to a builder -/
theorem write_cut {b hi : Nat} {l : List UInt8} {w : World} (h : ∃ p v, Bld b hi (Lib.byteCells l) w p v) (hb : b < hi) (hw : hi ≤ w.heap.size) {r : Option Nat} {A : List UInt8} (hnil : r = none → A = []) (hr : ∀ k, r = some k → k < b ∧ w.heap[k]? = some (.cells (Lib.byteCells A).toArray 5 (0, 0))) {lo up : Nat} (h1 : lo ≤ up) (h2 : up ≤ A.length) (hl : l.length + A.length ≤ 70368744177664) :
    Calls Tryz.prog 100 #[.pointer (some ⟨b, 0, none⟩), cutV (ad r) lo up A.length] w fun e w' => (∃ u, e = .returned u) ∧ (∃ p' v', Bld b hi (Lib.byteCells (l ++ (A.drop lo).take (up - lo))) w' p' v') ∧ Wr b hi w w' := by
  obtain ⟨p, v, h⟩ := h
  have e0 : Lib.byteCells (l ++ (A.drop lo).take (up - lo)) = Lib.byteCells l ++ Lib.byteCells ((A.drop lo).take (up - lo)) := by simp [Lib.byteCells]
  rw [e0]
  cases r with
  | none =>
    have := hnil rfl
    subst this
    rw [List.length_nil] at h2
    obtain rfl : up = 0 := by omega
    obtain rfl : lo = 0 := by omega
    have := write_none h hb
    simpa [cutV, sliced, ad, Lib.byteCells] using this
  | some k =>
    obtain ⟨k1, k2⟩ := hr k rfl
    by_cases hN : A.length = lo
    · have e1 : up - lo = 0 := by omega
      have := write_some h hb hw (o := 0) (m := 0) (c := 0) (show k < hi by omega) (by omega) k2 (by omega) (by rw [bc_len]; omega)
      rw [e1]
      unfold cutV sliced ad
      rw [if_pos hN, e1, hN, Nat.sub_self]
      simpa [Lib.byteCells] using this
    · have := write_some h hb hw (o := lo) (m := up - lo) (c := A.length - lo) (show k < hi by omega) (by omega) k2 (by omega) (by rw [bc_len]; omega)
      unfold cutV sliced ad
      rw [if_neg hN]
      simpa [adr] using this

set_option maxRecDepth 100000 in
set_option maxHeartbeats 4000000 in
theorem piece_in {b : Nat} {r : Option Nat} {A : List UInt8} {p e l x y : Nat} {t : List UInt8} (w : World) (h : PA w b r A p e l) (hg : Gap A p e t) (hx : x ≤ y) (hy : y ≤ t.length) (hA : A.length ≤ 4294967296) :
    CallsIn .wide 0 Tryz.prog 66 #[.pointer (some ⟨b, 0, none⟩), .int .i64 x, .int .i64 y] w fun z w' => z = .returned (.string ⟨((t.drop x).take (y - x)).toArray⟩) ∧ Below w.heap.size w w' := by
  have g1 := hg.pe; have g2 := hg.eA; have g3 := hg.len
  have hb := h.lt
  have hpc := hg.piece hx
  obtain ⟨d, hd⟩ : ∃ d, y - x = d := ⟨_, rfl⟩
  rw [hd] at hpc ⊢
  obtain ⟨u1, hu1⟩ : ∃ u1, min x p = u1 := ⟨_, rfl⟩
  obtain ⟨u2, hu2⟩ : ∃ u2, min y p = u2 := ⟨_, rfl⟩
  obtain ⟨gp, hgp⟩ : ∃ gp, e - p = gp := ⟨_, rfl⟩
  obtain ⟨m1, hm1⟩ : ∃ m1, max x p = m1 := ⟨_, rfl⟩
  obtain ⟨m2, hm2⟩ : ∃ m2, max y p = m2 := ⟨_, rfl⟩
  obtain ⟨l1, hl1⟩ : ∃ l1, m1 + gp = l1 := ⟨_, rfl⟩
  obtain ⟨l2, hl2⟩ : ∃ l2, m2 + gp = l2 := ⟨_, rfl⟩
  rw [hu1, hu2, hgp, hm1, hm2, hl1] at hpc
  have j1 : min (x : Int) p = u1 := by omega
  have j2 : min (y : Int) p = u2 := by omega
  have j3 : max (x : Int) p = m1 := by omega
  have j4 : max (y : Int) p = m2 := by omega
  have k0 : IntKind.i64.wrap ((y : Int) - x) = d := by rw [IntKind.wrap_i64]; omega
  have k1 : IntKind.i64.wrap ((e : Int) - p) = gp := by rw [IntKind.wrap_i64]; omega
  have k2 : IntKind.i64.wrap ((m1 : Int) + gp) = l1 := by rw [IntKind.wrap_i64]; omega
  have k3 : IntKind.i64.wrap ((m2 : Int) + gp) = l2 := by rw [IntKind.wrap_i64]; omega
  obtain ⟨N, hN⟩ : ∃ N, A.length = N := ⟨_, rfl⟩
  have s1 : ∀ W, (Instr.sliceAt 110 (.slice (ad r) N N) (some (.int .i64 u1)) (some (.int .i64 u2)) none).run Tryz.prog W = .ok (cutV (ad r) u1 u2 N) W := fun W => run_cuts _ N u1 u2 (by omega) (by omega) W
  have s2 : ∀ W, (Instr.sliceAt 110 (.slice (ad r) N N) (some (.int .i64 l1)) (some (.int .i64 l2)) none).run Tryz.prog W = .ok (cutV (ad r) l1 l2 N) W := fun W => run_cuts _ N l1 l2 (by omega) (by omega) W
  have hbk : (w.alloc (.cells #[.pointer none, .slice none 0 0] 138)).heap[w.heap.size]? = some (.cells #[.pointer none, .slice none 0 0] 138 (0, 0)) := World.alloc_heap_new w _
  have cG : Hid (Calls Tryz.prog 99 #[.pointer (some ⟨w.heap.size, 0, none⟩), .int .i64 d] (w.alloc (.cells #[.pointer none, .slice none 0 0] 138)) fun z W => z = .returned (.tuple #[]) ∧ (∃ p v, Bld w.heap.size (w.heap.size + 1) (Lib.byteCells []) W p v) ∧ Below w.heap.size w W ∧ w.heap.size + 1 ≤ W.heap.size) :=
    (Tryz.Builder_Grow_fresh w.heap.size w.heap.size d _ (Nat.le_refl _) hbk (by simp) (by omega)).mono fun z W ⟨e1, ⟨_, v0, q1, q2, q3⟩, e3⟩ => ⟨e1, ⟨_, v0, q1, row_up q2 q3, .inr rfl⟩, ((Below.refl _ w).alloc (Nat.le_refl _) _).trans e3, (Array.getElem?_eq_some_iff.1 q1).1⟩
  have HP : Hid (∀ W, Below w.heap.size w W → PA W b r A p e l) := fun W hW => h.below hW
  have cW1 : Hid (∀ W, (∃ p v, Bld w.heap.size (w.heap.size + 1) (Lib.byteCells []) W p v) → Below w.heap.size w W → w.heap.size + 1 ≤ W.heap.size → Calls Tryz.prog 100 #[.pointer (some ⟨w.heap.size, 0, none⟩), cutV (ad r) u1 u2 N] W fun z W' => (∃ u, z = .returned u) ∧ (∃ p v, Bld w.heap.size (w.heap.size + 1) (Lib.byteCells ((A.drop u1).take (u2 - u1))) W' p v) ∧ Below w.heap.size w W' ∧ w.heap.size + 1 ≤ W'.heap.size) := fun W hB hW hs => by
    rw [← hN]
    refine (write_cut hB (by omega) hs h.nil (fun k hk => ⟨h.rlt hk, ((h.below hW).row k hk).2⟩) (lo := u1) (up := u2) (by omega) (by omega) (by simp; omega)).mono ?_
    rintro z W' ⟨q1, q2, q3⟩
    exact ⟨q1, by simpa using q2, q3.low (Nat.le_refl _) (by omega) (Nat.le_refl _) hW, Nat.le_trans hs q3.2.2.2.1⟩
  have cW2 : Hid (∀ W, (∃ p v, Bld w.heap.size (w.heap.size + 1) (Lib.byteCells ((A.drop u1).take (u2 - u1))) W p v) → Below w.heap.size w W → w.heap.size + 1 ≤ W.heap.size → Calls Tryz.prog 100 #[.pointer (some ⟨w.heap.size, 0, none⟩), cutV (ad r) l1 l2 N] W fun z W' => (∃ u, z = .returned u) ∧ (∃ p v, Bld w.heap.size (w.heap.size + 1) (Lib.byteCells ((t.drop x).take d)) W' p v) ∧ Below w.heap.size w W' ∧ w.heap.size + 1 ≤ W'.heap.size) := fun W hB hW hs => by
    rw [← hN]
    refine (write_cut hB (by omega) hs h.nil (fun k hk => ⟨h.rlt hk, ((h.below hW).row k hk).2⟩) (lo := l1) (up := l2) (by omega) (by omega) (by simp; omega)).mono ?_
    rintro z W' ⟨q1, q2, q3⟩
    refine ⟨q1, ?_, q3.low (Nat.le_refl _) (by omega) (Nat.le_refl _) hW, Nat.le_trans hs q3.2.2.2.1⟩
    rw [show l2 - l1 = m2 - m1 by omega, ← hpc] at q2
    exact q2
  have cS : Hid (∀ W, (∃ p v, Bld w.heap.size (w.heap.size + 1) (Lib.byteCells ((t.drop x).take d)) W p v) → Below w.heap.size w W → Calls Tryz.prog 101 #[.pointer (some ⟨w.heap.size, 0, none⟩)] W fun z W' => z = .returned (.string ⟨((t.drop x).take d).toArray⟩) ∧ Below w.heap.size w W') := fun W ⟨p', v', hB⟩ hW => by
    have row := row_down hB.row (show w.heap.size ≤ w.heap.size + 1 by omega)
    have hne : v'.ownBlock ≠ some w.heap.size := fun e => by have := hB.far e; omega
    have hbox := hB.box
    have hbl : Lib.IsBuilder 138 5 w.heap.size w.heap.size (Lib.byteCells ((t.drop x).take d)) W := by
      rcases hB.adr with rfl | rfl
      · exact .inl ⟨Nat.le_refl _, v', hbox, row, hne⟩
      · exact .inr ⟨Nat.le_refl _, v', hbox, row, hne⟩
    exact (Tryz.Builder_String_any w.heap.size w.heap.size ((t.drop x).take d) W hbl hW.size).mono fun z W' ⟨q1, q2⟩ => ⟨q1, hW.trans q2⟩
  obtain ⟨st, hst⟩ : ∃ st, (⟨((t.drop x).take d).toArray⟩ : ByteArray) = st := ⟨_, rfl⟩
  rw [hst] at cS ⊢
  obtain ⟨v1, hv1⟩ : ∃ v1, (A.drop u1).take (u2 - u1) = v1 := ⟨_, rfl⟩
  obtain ⟨v2, hv2⟩ : ∃ v2, (t.drop x).take d = v2 := ⟨_, rfl⟩
  rw [hv1] at cW1 cW2
  rw [hv2] at cW2 cS
  have HNN : Hid (A.length = N) := hN
  clear h hg hpc g1 g2 g3 hx hy hA hd hu1 hu2 hgp hm1 hm2 hl1 hl2 hbk hN hst hv1 hv2
  refine callsIn_of_wp_marks Tryz.func66 rfl trivial ?_ rfl
  simp only [Tryz.ntmps66, List.size_toArray, List.length_cons, List.length_nil, Nat.reduceAdd, Nat.reduceSub, Array.replicate_succ, Array.replicate_zero, List.push_toArray, List.append_toArray, List.nil_append, List.cons_append]
  gi_wp2_with (refine ⟨trivial, rfl, ?_⟩; gi_at_call 99; refine (callsIn_wide.2 cG.out).mono ?_; clear cG; rintro z w1 ⟨rfl, B1, L1, S1⟩; have HB1 : Hid ((∃ p v, Bld w.heap.size (w.heap.size + 1) (Lib.byteCells []) w1 p v) ∧ Below w.heap.size w w1 ∧ w.heap.size + 1 ≤ w1.heap.size) := ⟨B1, L1, S1⟩; clear B1 L1 S1; obtain ⟨⟨c0, c1, c2, c3⟩, -⟩ := box4 (HP.out w1 HB1.out.2.1).box; rw [HNN.out] at c0)
  refine region_thenB (by kernel_rfl) (by kernel_rfl) (by kernel_rfl) (by kernel_rfl) rfl rfl ?_
  dsimp only [List.dropLast, List.getLast]
  repeat (gi_big_quiet_step (fail))
  refine wpQuietIn_nil ?_
  intro _ hw'
  obtain ⟨nr, hw''⟩ := hw'
  subst hw''
  gi_wp2_with (refine ⟨trivial, rfl, ?_⟩; gi_at_call 100; refine (callsIn_wide.2 (cW1.out _ (bldN nr HB1.out.1) (belN HB1.out.2.1 nr) HB1.out.2.2)).mono ?_; clear cW1 HB1 c0 c1 c2 c3; rintro z w2 ⟨⟨zu, rfl⟩, B1, L1, S1⟩; have HB2 : Hid ((∃ p v, Bld w.heap.size (w.heap.size + 1) (Lib.byteCells v1) w2 p v) ∧ Below w.heap.size w w2 ∧ w.heap.size + 1 ≤ w2.heap.size) := ⟨B1, L1, S1⟩; clear B1 L1 S1; obtain ⟨⟨c0, c1, c2, c3⟩, -⟩ := box4 (HP.out w2 HB2.out.2.1).box; rw [HNN.out] at c0)
  refine wpIn_region_quiet_lit rfl (by kernel_rfl) (by kernel_rfl) ?_
  repeat (gi_big_quiet_step (fail))
  refine wpQuietIn_nil ?_
  intro _ hw'
  obtain ⟨nq, hw''⟩ := hw'
  subst hw''
  gi_wp2
  refine region_thenB (by kernel_rfl) (by kernel_rfl) (by kernel_rfl) (by kernel_rfl) rfl rfl ?_
  dsimp only [List.dropLast, List.getLast]
  repeat (gi_big_quiet_step (fail))
  refine wpQuietIn_nil ?_
  intro _ hw'
  obtain ⟨ns, hw''⟩ := hw'
  subst hw''
  gi_wp2_with (first | (refine ⟨trivial, rfl, ?_⟩; gi_at_call 100; refine (callsIn_wide.2 (cW2.out _ (bldN _ HB2.out.1) (belN HB2.out.2.1 _) HB2.out.2.2)).mono ?_; clear cW2 HB2 c0 c1 c2 c3; rintro z w3 ⟨⟨zv, rfl⟩, B1, L1, S1⟩) | (refine ⟨trivial, rfl, ?_⟩; gi_at_call 101; refine (callsIn_wide.2 (cS.out _ B1 L1)).mono ?_; rintro z w4 ⟨rfl, hb4⟩))
  exact ⟨.string st, by simp [results, Tryz.results66, go_sem], rfl, hb4⟩
theorem piece_any {b : Nat} {r : Option Nat} {A : List UInt8} {p e l x y : Nat} {t : List UInt8} (w : World) (h : PA w b r A p e l) (hg : Gap A p e t) (hx : x ≤ y) (hy : y ≤ t.length) (hA : A.length ≤ 4294967296) :
    Calls Tryz.prog 66 #[.pointer (some ⟨b, 0, none⟩), .int .i64 x, .int .i64 y] w fun z w' => z = .returned (.string ⟨((t.drop x).take (y - x)).toArray⟩) ∧ Below w.heap.size w w' := callsIn_wide.1 (piece_in w h hg hx hy hA)
end Go.Proofs.YtplieccalmkloaaGreatDoor.Gap
namespace Go.Proofs.YtplieccalmkloaaGreatDoor.Gap
open Go.RowKit Bod

/-- a text is copied into the array -/
theorem copy_str {w : World} {b : Nat} {r : Option Nat} {A : List UInt8} {p e l : Nat} (h : PA w b r A p e l) {off : Nat} (s : ByteArray) (h1 : off + s.size ≤ A.length) (ty : TypeId) :
    ∃ w1, (∀ k, (Builtin.copy_ #[110, 9] ty #[cutV (ad r) off A.length A.length, .string s]).run Tryz.prog (w.drewN k) = .ok (goInt s.size) (w1.drewN k)) ∧ PA w1 b r (splice A off s.data.toList) p e l ∧ Ch b r w w1 := by
  have hcl : s.data.toList.length = s.size := by rw [Lib.size_eq]
  by_cases hn : s.size = 0
  · have e0 : s.data.toList = [] := List.eq_nil_of_length_eq_zero (by rw [hcl]; exact hn)
    refine ⟨w, fun k => ?_, by rw [e0]; simpa [splice] using h, Ch.refl _ _ _⟩
    unfold cutV sliced
    rw [hn]
    exact Lib.run_copy_empty_string (P := Tryz.prog) _ 110 9 ty 5 _ _ _ s Tryz.underlying110 (by have := infoB; rw [this]; rfl) hn
  · cases r with
    | none => have := h.nil rfl; subst this; rw [List.length_nil] at h1; omega
    | some j =>
      refine ⟨w.setRow j (Lib.byteCells (splice A off s.data.toList)).toArray, fun k => ?_, h.setRow (length_splice _ _ _ (by omega)), Ch.setRow b j w _⟩
      unfold cutV sliced ad
      rw [if_neg (by omega)]
      have hrow := (h.row j rfl).2
      have := Lib.run_copy_row_string (P := Tryz.prog) (w.drewN k) 110 9 ty 5 j off (A.length - off) (A.length - off) s (Lib.byteCells A).toArray 5 Tryz.underlying110 infoB hrow (by omega) (by simp [bc_len]; omega)
      simp only [Option.map_some, adr, Nat.zero_add, Nat.mul_one]
      rw [this, bc_splice, bc_len, hcl]
      simp
      rfl

set_option maxRecDepth 100000 in
set_option maxHeartbeats 4000000 in
theorem exch_in {b : Nat} {r : Option Nat} {A : List UInt8} {p e l q c : Nat} {t : List UInt8} (put : ByteArray) (w : World) (h : PA w b r A p e l) (hg : Gap A p e t) (hq : q + c ≤ t.length) (hn : t.length - c + put.size ≤ l) (hl : l ≤ 1073741824) (hA : A.length ≤ 4294967296) :
    CallsIn .wide 0 Tryz.prog 98 #[.pointer (some ⟨b, 0, none⟩), .int .i64 q, .int .i64 c, .string put] w fun x w' => x = .returned (.tuple #[]) ∧ ∃ r' A' e', PA w' b r' A' (q + put.size) e' l ∧ Gap A' (q + put.size) e' (t.take q ++ put.data.toList ++ t.drop (q + c)) ∧ A'.length ≤ 2 * max (t.length - c + put.size) 64 ∧ (A.length ≤ l → A'.length ≤ l) ∧ Ch b r w w' ∧ Nw w r r' := by
  obtain ⟨n, hn'⟩ : ∃ n, t.length - c + put.size = n := ⟨_, rfl⟩
  rw [hn'] at hn ⊢
  obtain ⟨t1, ht1⟩ : ∃ t1, t.take q ++ t.drop (q + c) = t1 := ⟨_, rfl⟩
  obtain ⟨t2, ht2⟩ : ∃ t2, t.take q ++ put.data.toList ++ t.drop (q + c) = t2 := ⟨_, rfl⟩
  rw [ht2]
  have hl1 : t1.length = t.length - c := by rw [← ht1]; simp; omega
  have hq2 : t1.take q ++ put.data.toList ++ t1.drop q = t2 := by
    have e1 : (t.take q).length = q := by simp; omega
    rw [← ht2, ← ht1, List.take_append_of_le_length (by omega), List.drop_append_of_le_length (by omega), List.drop_of_length_le (by omega), List.take_of_length_le (by omega)]
    rfl
  have CS : Hid (Calls Tryz.prog 126 #[.pointer (some ⟨b, 0, none⟩), .int .i64 q] w fun x w' => x = .returned (.tuple #[]) ∧ ∃ A' e', PA w' b r A' q e' l ∧ Gap A' q e' t ∧ A'.length = A.length ∧ Ch b r w w') := shift_any w h hg (by omega) hA
  have HT : Hid (q + c ≤ t.length ∧ t1.length + put.size = n ∧ n ≤ l ∧ l ≤ 1073741824 ∧ A.length ≤ 4294967296 ∧ t1.length = t.length - c ∧ t.take q ++ t.drop (q + c) = t1 ∧ t1.take q ++ put.data.toList ++ t1.drop q = t2) := ⟨hq, by omega, hn, hl, hA, hl1, ht1, hq2⟩
  obtain ⟨n0, hn0⟩ : ∃ n0, t1.length = n0 := ⟨_, rfl⟩
  have k4 : IntKind.i64.wrap ((n0 : Int) + put.size) = n := by rw [IntKind.wrap_i64]; omega
  have k5 : IntKind.i64.wrap ((q : Int) + put.size) = (q + put.size : Nat) := by rw [IntKind.wrap_i64]; omega
  have HN0 : Hid (t1.length = n0) := hn0
  clear h hg hq hn hl hA hn' ht1 ht2 hl1 hq2 hn0
  refine callsIn_of_wp_marks Tryz.func98 rfl trivial ?_ rfl
  simp only [Tryz.ntmps98, List.size_toArray, List.length_cons, List.length_nil, Nat.reduceAdd, Nat.reduceSub, Array.replicate_succ, Array.replicate_zero, List.push_toArray, List.append_toArray, List.nil_append, List.cons_append]
  gi_wp2_with (first
    | (refine ⟨trivial, rfl, ?_⟩; gi_at_call 126; refine (callsIn_wide.2 CS.out).mono ?_; clear CS; rintro x w1 ⟨rfl, A1, e1, P1, G1, L1, C1⟩; have HQ : Hid (PA w1 b r A1 q e1 l ∧ Gap A1 q e1 t ∧ A1.length = A.length ∧ Ch b r w w1) := ⟨P1, G1, L1, C1⟩; obtain ⟨⟨-, -, u2, -⟩, -, -, v2, -⟩ := box4 P1.box; obtain ⟨e2, he2⟩ : ∃ e2, e1 + c = e2 := ⟨_, rfl⟩; have HE2 : Hid (e1 + c = e2 ∧ e2 ≤ A1.length) := (by obtain ⟨a1, a2, a3, a4, a5, a6, -⟩ := HT.out; have := G1.len; have := G1.eA; exact ⟨he2, by omega⟩); have k6 : IntKind.i64.wrap ((e1 : Int) + c) = e2 := (by obtain ⟨a1, a2, a3, a4, a5, a6, -⟩ := HT.out; have := HE2.out; rw [IntKind.wrap_i64]; omega); clear P1 G1 L1 C1 he2)
    | (refine ⟨trivial, rfl, ?_⟩; gi_at_call 67; refine (callsIn_wide.2 (len_any _ (HQ.out.1.setE e2) (by have := HQ.out.2.1.pe; have := HE2.out; omega) HE2.out.2 (by obtain ⟨a1, a2, a3, a4, a5, a6, -⟩ := HT.out; have := HQ.out.2.2.1; omega))).mono ?_; rw [show q + (A1.length - e2) = n0 from by obtain ⟨a1, a2, a3, a4, a5, a6, -⟩ := HT.out; have := HE2.out; have := HN0.out; have := HQ.out.2.1.len; omega]; rintro x w2 ⟨rfl, k2, rfl⟩)
    | (refine ⟨trivial, rfl, ?_⟩; gi_at_call 127; refine (callsIn_wide.2 (room_any _ ((HQ.out.1.setE e2).drewN k2) (t := t1) (by obtain ⟨a1, a2, a3, a4, a5, a6, a7, -⟩ := HT.out; rw [← a7, ← HE2.out.1]; exact HQ.out.2.1.cut (by rw [HE2.out.1]; exact HE2.out.2)) (n := n) (by obtain ⟨a1, a2, a3, a4, a5, a6, -⟩ := HT.out; omega) HT.out.2.2.1 HT.out.2.2.2.1 (by obtain ⟨a1, a2, a3, a4, a5, a6, -⟩ := HT.out; have := HQ.out.2.2.1; omega))).mono ?_; rintro x w3 ⟨rfl, r3, A3, e3, P3, G3, L3, M3, J3, C3, N3⟩))
  obtain ⟨⟨c0, c1, c2, c3⟩, f0, f1, f2, f3⟩ := box4 P3.box
  have hgl := G3.len
  have hge := G3.eA
  have hgp := G3.pe
  have hfit : q + put.size ≤ e3 := by obtain ⟨a1, a2, a3, a4, a5, a6, -⟩ := HT.out; omega
  obtain ⟨w4, hrun, P4, C4⟩ := copy_str P3 (off := q) put (by omega) 3
  obtain ⟨⟨d0, d1, d2, d3⟩, g0, g1, g2, g3⟩ := box4 P4.box
  have hcl : put.data.toList.length = put.size := by rw [Lib.size_eq]
  have hl4 : (splice A3 q put.data.toList).length = A3.length := length_splice _ _ _ (by omega)
  have HX : Hid ((∀ k, (Builtin.copy_ #[110, 9] 3 #[cutV (ad r3) q A3.length A3.length, .string put]).run Tryz.prog (w3.drewN k) = .ok (goInt put.size) (w4.drewN k)) ∧ PA w4 b r3 (splice A3 q put.data.toList) q e3 l ∧ Ch b r w w4 ∧ Nw w r r3 ∧ Gap (splice A3 q put.data.toList) (q + put.size) e3 t2 ∧ (splice A3 q put.data.toList).length ≤ 2 * max n 64 ∧ (A.length ≤ l → (splice A3 q put.data.toList).length ≤ l)) := by
    have x0 : Ch b r w ((w1.setCell ⟨b, 2, none⟩ (.int .i64 e2)).drewN k2) := (HQ.out.2.2.2.trans (Nw.refl _ _) (Ch.set b r w1 2 _)).trans (Nw.refl _ _) (Ch.drewN b r _ k2)
    have x1 : Nw w r r3 := (Nw.refl w r).trans x0.2.2.2.1 N3
    refine ⟨hrun, P4, (x0.trans (Nw.refl _ _) C3).trans x1 C4, x1, ?_, by rw [hl4]; exact M3, fun hl => by rw [hl4]; exact J3 (by rw [HQ.out.2.2.1]; exact hl)⟩
    have := G3.put (x := put.data.toList) (by omega)
    rw [hcl, HT.out.2.2.2.2.2.2.2] at this
    exact this
  rw [hl4] at d0
  obtain ⟨N, hN⟩ : ∃ N, A3.length = N := ⟨_, rfl⟩
  have HNN : Hid (A3.length = N) := hN
  rw [hN] at c0 d0
  have s1 : ∀ W, (Instr.sliceAt 110 (.slice (ad r3) N N) (some (.int .i64 q)) none none).run Tryz.prog W = .ok (cutV (ad r3) q N N) W := fun W => run_cut _ N q (by omega) W
  obtain ⟨W, hW0, hW1⟩ : ∃ W : Bool → World, W false = w3 ∧ W true = w4 := ⟨fun s => if s then w4 else w3, rfl, rfl⟩
  obtain ⟨U, hU, hU'⟩ := both W
  have C0 : ∀ m, (U m).cell? ⟨b, 0, none⟩ = some (.slice (ad r3) N N) := fun m => by obtain ⟨s, k, hm⟩ := hU' m; rw [hm]; cases s <;> simp [hW0, hW1, c0, d0]
  have C1 : ∀ m, (U m).cell? ⟨b, 1, none⟩ = some (.int .i64 q) := fun m => by obtain ⟨s, k, hm⟩ := hU' m; rw [hm]; cases s <;> simp [hW0, hW1, c1, d1]
  have HU : Hid (∀ s k, ∃ m, (W s).drewN k = U m) := hU
  have HW : Hid (W true = w4) := hW1
  have HW0 : Hid (W false = w3) := hW0
  clear P3 G3 L3 M3 J3 C3 N3 hrun P4 C4 hl4 hW0 hW1 hU hU' hgl hge hgp hfit hN hcl HQ HE2 k6 k4 u2 v2 HT HN0
  refine region_mid W HW0.out U HU.out 14 rfl (fun _ => trivial) (by kernel_rfl) (by kernel_rfl) (by kernel_rfl) (by kernel_rfl) rfl rfl rfl ?_
  dsimp only [List.dropLast, List.take, List.drop]
  repeat (gi_big_quiet_step (fail))
  refine wpQuietIn_nil ?_
  refine ⟨.int .i64 put.size, fun k => ?_, ?_⟩
  · rw [HW0.out, HW.out]
    refine exec_copy (.tmp 38) (.tmp 39) 110 9 rfl _ _ rfl rfl ?_
    have := HX.out.1 k
    rw [HNN.out] at this
    exact this
  simp only [Act.put, List.setIfInBounds_toArray, List.set_cons_succ, List.set_cons_zero]
  repeat (gi_big_quiet_step (fail))
  refine wpQuietIn_nil ?_
  intro k
  rw [HW.out]
  gi_wp2
  obtain ⟨_, x1, x2, x3, x4, x5, x6⟩ := HX.out
  refine ⟨.tuple #[], by simp [results, Tryz.results98, go_sem], rfl, r3, _, e3, (x1.drewN k).setP _, x4, x5, x6, ?_, x3⟩
  exact (x2.trans x3 (Ch.drewN b r3 w4 k)).trans x3 (Ch.set b r3 _ 1 _)
theorem exch_any {b : Nat} {r : Option Nat} {A : List UInt8} {p e l q c : Nat} {t : List UInt8} (put : ByteArray) (w : World) (h : PA w b r A p e l) (hg : Gap A p e t) (hq : q + c ≤ t.length) (hn : t.length - c + put.size ≤ l) (hl : l ≤ 1073741824) (hA : A.length ≤ 4294967296) :
    Calls Tryz.prog 98 #[.pointer (some ⟨b, 0, none⟩), .int .i64 q, .int .i64 c, .string put] w fun x w' => x = .returned (.tuple #[]) ∧ ∃ r' A' e', PA w' b r' A' (q + put.size) e' l ∧ Gap A' (q + put.size) e' (t.take q ++ put.data.toList ++ t.drop (q + c)) ∧ A'.length ≤ 2 * max (t.length - c + put.size) 64 ∧ (A.length ≤ l → A'.length ≤ l) ∧ Ch b r w w' ∧ Nw w r r' :=
  callsIn_wide.1 (exch_in put w h hg hq hn hl hA)
end Go.Proofs.YtplieccalmkloaaGreatDoor.Gap
namespace Go.Proofs.YtplieccalmkloaaGreatDoor.Gap
open Go.RowKit Bod

theorem ext_list (s : ByteArray) (x y : Nat) : s.extract x y = ⟨((s.data.toList.drop x).take (y - x)).toArray⟩ := by
  apply ByteArray.ext
  apply Array.toList_inj.1
  simp [Array.toList_extract, List.extract_eq_take_drop]
theorem sz_list (s : ByteArray) : s.data.toList.length = s.size := by rw [Lib.size_eq]
/-- the empty buffer with the limit 0 -/
def g0 : Gp := ⟨eBA, 0, 0⟩
theorem g0_ok : g0.ok := ⟨Nat.le_refl _, Nat.le_refl _, by decide⟩
/-- the block b is the buffer g, with the capacity n -/
structure PB (W : World) (b : Nat) (r : Option Nat) (g : Gp) (n : Nat) : Prop where
  ex : ∃ A e, PA W b r A g.p e g.l ∧ Gap A g.p e g.s.data.toList ∧ A.length = n
  cap : n ≤ 2 * max g.s.size 64
  lm : n ≤ g.l
  ok : g.ok
theorem PB.lt {W : World} {b : Nat} {r : Option Nat} {g : Gp} {n : Nat} (h : PB W b r g n) : b < W.heap.size := by
  obtain ⟨A, e, h1, _⟩ := h.ex
  exact h1.lt
theorem PB.small {W : World} {b : Nat} {r : Option Nat} {g : Gp} {n : Nat} (h : PB W b r g n) : n ≤ 4294967296 := by
  have := h.cap; have := h.ok.2; omega
theorem PB.full {W : World} {b : Nat} {r : Option Nat} {g : Gp} {n : Nat} (h : PB W b r g n) : g.s.size ≤ n := by
  obtain ⟨A, e, _, h2, h3⟩ := h.ex
  have := h2.pe; have := h2.eA
  have h4 := h2.len
  rw [sz_list] at h4
  omega
theorem PB.below {W W' : World} {b : Nat} {r : Option Nat} {g : Gp} {n : Nat} (h : PB W b r g n) (hb : Below W.heap.size W W') : PB W' b r g n :=
  ⟨h.ex.imp fun _ h => h.imp fun _ h => ⟨h.1.below hb, h.2⟩, h.cap, h.lm, h.ok⟩
theorem PB.kept {W W' : World} {b b' : Nat} {r r' : Option Nat} {g : Gp} {n : Nat} (h : PB W b r g n) (hc : Ch b' r' W W') (h1 : b ≠ b') (h2 : r' ≠ some b) (h3 : ∀ k, r = some k → k ≠ b' ∧ r' ≠ some k) : PB W' b r g n :=
  ⟨h.ex.imp fun _ h => h.imp fun _ h => ⟨h.1.kept hc h1 h2 h3, h.2⟩, h.cap, h.lm, h.ok⟩
theorem PB.row {W : World} {b : Nat} {r : Option Nat} {g : Gp} {n : Nat} (h : PB W b r g n) {k : Nat} (hk : r = some k) : k ≠ b ∧ k < W.heap.size := by
  obtain ⟨A, e, h1, _⟩ := h.ex
  exact ⟨(h1.row k hk).1, h1.rlt hk⟩
/-- the value v is the buffer g, with the capacity n: a block and its row, or none -/
def Is (W : World) (v : Value) : Option (Nat × Option Nat) → Gp → Nat → Prop
  | none, g, n => v = .pointer none ∧ g = g0 ∧ n = 0
  | some (b, r), g, n => v = .pointer (some ⟨b, 0, none⟩) ∧ PB W b r g n
def Chs : Option (Nat × Option Nat) → World → World → Prop
  | none, w, w' => Below w.heap.size w w'
  | some (b, r), w, w' => Ch b r w w'
def Nws (w : World) : Option (Nat × Option Nat) → Option (Nat × Option Nat) → Prop
  | none, o2 => o2 = none
  | some (b, r), o2 => ∃ r2, o2 = some (b, r2) ∧ Nw w r r2
theorem Is.ok {W : World} {v : Value} {o : Option (Nat × Option Nat)} {g : Gp} {n : Nat} (h : Is W v o g n) : g.ok := by
  cases o with
  | none => obtain ⟨_, rfl, _⟩ := h; exact g0_ok
  | some x => exact h.2.ok
theorem Is.below {W W' : World} {v : Value} {o : Option (Nat × Option Nat)} {g : Gp} {n : Nat} (h : Is W v o g n) (hb : Below W.heap.size W W') : Is W' v o g n := by
  cases o with
  | none => exact h
  | some x => exact ⟨h.1, h.2.below hb⟩
theorem Chs.below {o : Option (Nat × Option Nat)} {w w' : World} (h : Below w.heap.size w w') : Chs o w w' := by
  cases o with
  | none => exact h
  | some x => exact Ch.below h
theorem Nws.refl (w : World) (o : Option (Nat × Option Nat)) : Nws w o o := by
  cases o with
  | none => rfl
  | some x => exact ⟨_, rfl, .inl rfl⟩
/-- what the call of orEmpty leaves -/
structure Od (w : World) (v : Value) (o : Option (Nat × Option Nat)) (g : Gp) (n : Nat) (b : Nat) (r : Option Nat) (w1 : World) : Prop where
  pb : PB w1 b r g n
  bel : Below w.heap.size w w1
  fin : ∀ w2 r2 g2 n2, Ch b r w1 w2 → Nw w1 r r2 → PB w2 b r2 g2 n2 → (g = g0 → g2 = g0) → ∃ o2, Is w2 v o2 g2 n2 ∧ Chs o w w2 ∧ Nws w o o2

set_option maxRecDepth 100000 in
set_option maxHeartbeats 1000000 in
theorem ore_is {w : World} {v : Value} {o : Option (Nat × Option Nat)} {g : Gp} {n : Nat} (h : Is w v o g n) :
    Calls Tryz.prog 65 #[v] w fun x w1 => ∃ b r, x = .returned (.pointer (some ⟨b, 0, none⟩)) ∧ Od w v o g n b r w1 := by
  cases o with
  | some x =>
    obtain ⟨b, r⟩ := x
    obtain ⟨rfl, h2⟩ := h
    exact (ore_any b w).mono fun x w1 ⟨e1, e2⟩ => ⟨b, r, e1, by rw [e2]; exact h2, by rw [e2]; exact Below.refl _ _, fun w2 r2 g2 n2 q1 q2 q3 _ => ⟨some (b, r2), ⟨rfl, q3⟩, by rw [e2] at q1; exact q1, ⟨r2, rfl, by rw [e2] at q2; exact q2⟩⟩⟩
  | none =>
    obtain ⟨rfl, rfl, rfl⟩ := h
    have hnew : (w.alloc (.cells #[.slice none 0 0, .int .i64 0, .int .i64 0, .int .i64 0] 112)).heap[w.heap.size]? = some (.cells #[.slice none 0 0, .int .i64 0, .int .i64 0, .int .i64 0] 112 (0, 0)) := World.alloc_heap_new w _
    have hB : Below w.heap.size w (w.alloc (.cells #[.slice none 0 0, .int .i64 0, .int .i64 0, .int .i64 0] 112)) := (Below.refl _ w).alloc (Nat.le_refl _) _
    have HO : Hid (Od w (.pointer none) none g0 0 w.heap.size none (w.alloc (.cells #[.slice none 0 0, .int .i64 0, .int .i64 0, .int .i64 0] 112))) := by
      refine ⟨⟨⟨[], 0, ⟨hnew, fun k hk => (by cases hk), fun _ => rfl⟩, ⟨Nat.le_refl _, Nat.le_refl _, rfl⟩, rfl⟩, by decide, Nat.le_refl _, g0_ok⟩, hB, fun w2 r2 g2 n2 q1 q2 q3 q4 => ?_⟩
      obtain rfl := q4 rfl
      refine ⟨none, ⟨rfl, rfl, Nat.le_zero.1 q3.lm⟩, ?_, rfl⟩
      have hs : w.heap.size ≤ (w.alloc (.cells #[.slice none 0 0, .int .i64 0, .int .i64 0, .int .i64 0] 112)).heap.size := hB.size
      exact ⟨q1.1.trans hB.os, q1.2.1.trans hB.tape, q1.2.2.1.trans hB.output, Nat.le_trans hs q1.2.2.2.1, fun k hk => by
        rw [q1.2.2.2.2 k (by omega) (by omega) (fun e => by cases e)]
        exact hB.block k hk⟩
    clear hnew hB
    go_enter Tryz.func65, Tryz.ntmps65
    go_wp2
    go_ret
    exact ⟨_, _, rfl, HO.out⟩

set_option maxRecDepth 100000 in
set_option maxHeartbeats 1000000 in
theorem len_is {w : World} {v : Value} {o : Option (Nat × Option Nat)} {g : Gp} {n : Nat} (h : Is w v o g n) :
    Calls Tryz.prog 67 #[v] w fun x w' => x = .returned (.int .i64 g.s.size) ∧ Below w.heap.size w w' := by
  have CO := ore_is h
  clear h
  go_enter Tryz.func67, Tryz.ntmps67
  go_wp2_with (go_at_call 65; refine CO.mono ?_; clear CO; rintro x w1 ⟨b, r, rfl, hO⟩; have HO : Hid (Od w v o g n b r w1) := hO; obtain ⟨A, e, hP, hg, hA⟩ := hO.pb.ex; obtain ⟨⟨c0, c1, c2, c3⟩, -⟩ := box4 hP.box; rw [hA] at c0; have k1 : IntKind.i64.wrap ((g.p : Int) + n) = (g.p : Int) + n := (by have := hO.pb.small; have := hO.pb.ok.1; have := hO.pb.ok.2; rw [IntKind.wrap_i64]; omega); have HF : Hid ((g.p : Int) + n - e = g.s.size) := (show _ = _ by have h1 := hg.len; have h2 := hg.eA; rw [sz_list] at h1; omega); have k2 : IntKind.i64.wrap ((g.p : Int) + n - e) = (g.p : Int) + n - e := (by have := HF.out; have := hO.pb.ok.2; rw [IntKind.wrap_i64]; omega); clear hO hP hg hA)
  go_quiet (fail)
  go_wp2
  go_ret
  exact ⟨ret_int HF.out, belN HO.out.bel _⟩



set_option maxRecDepth 100000 in
set_option maxHeartbeats 1000000 in
theorem limit_is {w : World} {v : Value} {o : Option (Nat × Option Nat)} {g : Gp} {n : Nat} (h : Is w v o g n) :
    Calls Tryz.prog 40 #[v] w fun x w' => x = .returned (.int .i64 g.l) ∧ Below w.heap.size w w' := by
  have CO := ore_is h
  clear h
  go_enter Tryz.func40, Tryz.ntmps40
  go_wp2_with (go_at_call 65; refine CO.mono ?_; clear CO; rintro x w1 ⟨b, r, rfl, hO⟩; have HO : Hid (Od w v o g n b r w1) := hO; obtain ⟨A, e, hP, hg, hA⟩ := hO.pb.ex; obtain ⟨⟨c0, c1, c2, c3⟩, -⟩ := box4 hP.box; clear hO hP hg hA)
  go_ret
  exact ⟨rfl, HO.out.bel⟩

theorem len_pb {w : World} {b : Nat} {r : Option Nat} {g : Gp} {n : Nat} (h : PB w b r g n) :
    Calls Tryz.prog 67 #[.pointer (some ⟨b, 0, none⟩)] w fun x w' => x = .returned (.int .i64 g.s.size) ∧ ∃ k, w' = w.drewN k := by
  obtain ⟨A, e, hP, hg, hA⟩ := h.ex
  have h1 := hg.len
  rw [sz_list] at h1
  have := len_any w hP hg.pe hg.eA (by rw [hA]; exact h.small)
  rw [← h1] at this
  exact this

set_option maxRecDepth 100000 in
set_option maxHeartbeats 1000000 in
theorem fits_pb {w : World} {b : Nat} {r : Option Nat} {g : Gp} {n : Nat} (h : PB w b r g n) (c : Nat) (hc : c ≤ g.s.size) (put : ByteArray) :
    Calls Tryz.prog 97 #[.pointer (some ⟨b, 0, none⟩), .int .i64 c, .string put] w fun x w' => x = .returned (.bool (decide (g.s.size - c + put.size ≤ g.l))) ∧ ∃ k, w' = w.drewN k := by
  obtain ⟨A, e, hP, hg, hA⟩ := h.ex
  obtain ⟨⟨c0, c1, c2, c3⟩, -⟩ := box4 hP.box
  obtain ⟨o1, o2, o3⟩ := h.ok
  obtain ⟨z, hz⟩ : ∃ z, g.s.size - c = z := ⟨_, rfl⟩
  obtain ⟨y, hy⟩ : ∃ y, g.l - z = y := ⟨_, rfl⟩
  have k1 : IntKind.i64.wrap ((g.s.size : Int) - c) = z := by rw [IntKind.wrap_i64]; omega
  have k2 : IntKind.i64.wrap ((g.l : Int) - z) = y := by rw [IntKind.wrap_i64]; omega
  have HF : Hid (decide (put.size ≤ y) = decide (g.s.size - c + put.size ≤ g.l)) := by
    show _ = _
    rw [decide_eq_decide]
    omega
  have hL : ∀ k, Calls Tryz.prog 67 #[.pointer (some ⟨b, 0, none⟩)] (w.drewN k) fun x w' => x = .returned (.int .i64 g.s.size) ∧ ∃ k, w' = w.drewN k := fun k => by
    have hk : PB (w.drewN k) b r g n := ⟨h.ex.imp fun _ h => h.imp fun _ h => ⟨h.1.drewN k, h.2⟩, h.cap, h.lm, h.ok⟩
    exact (len_pb hk).mono fun x w' ⟨e1, j, e2⟩ => ⟨e1, k + j, by rw [e2]; simp⟩
  have HL : Hid (∀ k, Calls Tryz.prog 67 #[.pointer (some ⟨b, 0, none⟩)] (w.drewN k) fun x w' => x = .returned (.int .i64 g.s.size) ∧ ∃ k, w' = w.drewN k) := hL
  clear h hP hg hA hz hy hL o1 o2 o3
  go_enter Tryz.func97, Tryz.ntmps97
  go_wp2
  go_quiet ((go_at_call 67; exact HL.out _))
  go_wp2
  go_ret
  exact ⟨ret_bool HF.out, ⟨_, rfl⟩⟩
end Go.Proofs.YtplieccalmkloaaGreatDoor.Gap
namespace Go.Proofs.YtplieccalmkloaaGreatDoor.Gap
open Go.RowKit Bod

theorem piece_pb {w : World} {b : Nat} {r : Option Nat} {g : Gp} {n : Nat} (h : PB w b r g n) {x y : Nat} (hx : x ≤ y) (hy : y ≤ g.s.size) :
    Calls Tryz.prog 66 #[.pointer (some ⟨b, 0, none⟩), .int .i64 x, .int .i64 y] w fun z w' => z = .returned (.string (g.s.extract x y)) ∧ Below w.heap.size w w' := by
  obtain ⟨A, e, hP, hg, hA⟩ := h.ex
  have := piece_any w hP hg hx (by rw [sz_list]; exact hy) (by rw [hA]; exact h.small)
  rw [ext_list]
  exact this
theorem ext_all (s : ByteArray) : s.extract 0 s.size = s := by
  rw [ext_list]
  apply ByteArray.ext
  apply Array.toList_inj.1
  rw [Nat.sub_zero, List.drop_zero, List.take_of_length_le (by rw [sz_list]; exact Nat.le_refl _)]

set_option maxRecDepth 100000 in
set_option maxHeartbeats 1000000 in
theorem text_is {w : World} {v : Value} {o : Option (Nat × Option Nat)} {g : Gp} {n : Nat} (h : Is w v o g n) :
    Calls Tryz.prog 35 #[v] w fun x w' => x = .returned (.string g.s) ∧ Below w.heap.size w w' := by
  have CO := ore_is h
  have CL : Hid (∀ w1, Below w.heap.size w w1 → Calls Tryz.prog 67 #[v] w1 fun x w' => x = .returned (.int .i64 g.s.size) ∧ Below w1.heap.size w1 w') := fun w1 hb => len_is (h.below hb)
  have CP : Hid (∀ w1 b r, PB w1 b r g n → Calls Tryz.prog 66 #[.pointer (some ⟨b, 0, none⟩), .int .i64 0, .int .i64 g.s.size] w1 fun z w' => z = .returned (.string g.s) ∧ Below w1.heap.size w1 w') := fun w1 b r hp => by
    have := piece_pb hp (x := 0) (y := g.s.size) (Nat.zero_le _) (Nat.le_refl _)
    rw [ext_all] at this
    exact this
  clear h
  go_enter Tryz.func35, Tryz.ntmps35
  go_wp2_with (first | (go_at_call 65; refine CO.mono ?_; clear CO; rintro x w1 ⟨b, r, rfl, hO⟩; have HO : Hid (Od w v o g n b r w1) := hO; clear hO) | (go_at_call 67; refine (CL.out _ HO.out.bel).mono ?_; clear CL; rintro x w2 ⟨rfl, hb2⟩) | (go_at_call 66; refine (CP.out _ _ _ (HO.out.pb.below hb2)).mono ?_; clear CP; rintro x w3 ⟨rfl, hb3⟩))
  go_ret
  exact ⟨rfl, (HO.out.bel.trans (hb2.mono HO.out.bel.size)).trans (hb3.mono (Nat.le_trans HO.out.bel.size hb2.size))⟩

set_option maxRecDepth 100000 in
set_option maxHeartbeats 1000000 in
theorem slice_is {w : World} {v : Value} {o : Option (Nat × Option Nat)} {g : Gp} {n : Nat} (h : Is w v o g n) (f t : Int) :
    Calls Tryz.prog 194 #[v, .int .i64 f, .int .i64 t] w fun x w' => x = .returned (.tuple #[.string (gSlice g.s f t).1, .int .i64 (gSlice g.s f t).2]) ∧ Below w.heap.size w w' := by
  have CL : Hid (Calls Tryz.prog 67 #[v] w fun x w' => x = .returned (.int .i64 g.s.size) ∧ Below w.heap.size w w') := len_is h
  have CO : Hid (∀ w1, Below w.heap.size w w1 → Calls Tryz.prog 65 #[v] w1 fun x w2 => ∃ b r, x = .returned (.pointer (some ⟨b, 0, none⟩)) ∧ Od w1 v o g n b r w2) := fun w1 hb => ore_is (h.below hb)
  have CP : Hid (∀ w1 b r (x y : Nat), PB w1 b r g n → x ≤ y → y ≤ g.s.size → Calls Tryz.prog 66 #[.pointer (some ⟨b, 0, none⟩), .int .i64 x, .int .i64 y] w1 fun z w' => z = .returned (.string (g.s.extract x y)) ∧ Below w1.heap.size w1 w') := fun w1 b r x y hp h1 h2 => piece_pb hp h1 h2
  unfold gSlice gRng
  clear h
  by_cases h1 : f < 0
  · rw [decide_eq_true (.inl h1), if_pos rfl]
    go_enter Tryz.func194, Tryz.ntmps194
    go_wp2
    exact bodyPost_ret (v := .tuple #[.string eBA, .int .i64 1]) (by simp [results, Tryz.results194, go_sem, eBA]) rfl ⟨rfl, Below.refl _ _⟩
  · by_cases h2 : t < f
    · rw [decide_eq_true (.inr (.inl h2)), if_pos rfl]
      go_enter Tryz.func194, Tryz.ntmps194
      go_wp2
      exact bodyPost_ret (v := .tuple #[.string eBA, .int .i64 1]) (by simp [results, Tryz.results194, go_sem, eBA]) rfl ⟨rfl, Below.refl _ _⟩
    · by_cases h3 : (g.s.size : Int) < t
      · rw [decide_eq_true (.inr (.inr h3)), if_pos rfl]
        go_enter Tryz.func194, Tryz.ntmps194
        go_wp2_with (go_at_call 67; refine CL.out.mono ?_; clear CL; rintro x w2 ⟨rfl, hb2⟩)
        exact bodyPost_ret (v := .tuple #[.string eBA, .int .i64 1]) (by simp [results, Tryz.results194, go_sem, eBA]) rfl ⟨rfl, hb2⟩
      · rw [decide_eq_false (by omega), if_neg (by simp)]
        obtain ⟨x, rfl⟩ := Int.eq_ofNat_of_zero_le (show 0 ≤ f by omega)
        obtain ⟨y, rfl⟩ := Int.eq_ofNat_of_zero_le (show 0 ≤ t by omega)
        have HI : Hid (x ≤ y ∧ y ≤ g.s.size) := ⟨by omega, by omega⟩
        go_enter Tryz.func194, Tryz.ntmps194
        go_wp2_with (first | (go_at_call 67; refine CL.out.mono ?_; clear CL; rintro x w2 ⟨rfl, hb2⟩) | (go_at_call 65; refine (CO.out _ hb2).mono ?_; clear CO; rintro x w3 ⟨b, r, rfl, hO⟩; have HO : Hid (Od w2 v o g n b r w3) := hO; clear hO) | (go_at_call 66; refine (CP.out _ _ _ _ _ HO.out.pb HI.out.1 HI.out.2).mono ?_; clear CP; rintro x w4 ⟨rfl, hb4⟩))
        exact bodyPost_ret (v := .tuple #[.string (g.s.extract x y), .int .i64 0]) (by simp [results, Tryz.results194, go_sem]) rfl ⟨rfl, (hb2.trans (HO.out.bel.mono hb2.size)).trans (hb4.mono (Nat.le_trans hb2.size HO.out.bel.size))⟩

end Go.Proofs.YtplieccalmkloaaGreatDoor.Gap
namespace Go.Proofs.YtplieccalmkloaaGreatDoor.Gap
open Go.RowKit Bod

theorem PB.drewN {W : World} {b : Nat} {r : Option Nat} {g : Gp} {n : Nat} (h : PB W b r g n) (k : Nat) : PB (W.drewN k) b r g n := ⟨h.ex.imp fun _ h => h.imp fun _ h => ⟨h.1.drewN k, h.2⟩, h.cap, h.lm, h.ok⟩
theorem eBA_size : eBA.size = 0 := rfl
theorem size0 {s : ByteArray} (h : s.size = 0) : s = eBA := by
  apply ByteArray.ext
  exact Array.eq_empty_of_size_eq_zero h
/-- the text that a replacement leaves, as a list -/
theorem rep_list (s put : ByteArray) (x y : Nat) : (s.extract 0 x ++ put ++ s.extract (x + y) s.size).data.toList = s.data.toList.take x ++ put.data.toList ++ s.data.toList.drop (x + y) := by
  rw [ext_list, ext_list]
  simp only [ByteArray.data_append, Array.toList_append, Nat.sub_zero, List.drop_zero]
  rw [show (s.data.toList.drop (x + y)).take (s.size - (x + y)) = s.data.toList.drop (x + y) from List.take_of_length_le (by rw [List.length_drop, sz_list]; exact Nat.le_refl _)]
theorem Chs.step {o : Option (Nat × Option Nat)} {w w1 w2 : World} (h : Below w.heap.size w w1) (k : Chs o w1 w2) : Chs o w w2 := by
  cases o with
  | none => exact h.trans (Below.mono k h.size)
  | some x => exact (Ch.below h).trans (Nw.refl _ _) k
theorem Nws.step {o o2 : Option (Nat × Option Nat)} {w w1 : World} (h : Below w.heap.size w w1) (k : Nws w1 o o2) : Nws w o o2 := by
  cases o with
  | none => exact k
  | some x =>
    obtain ⟨r2, e, k⟩ := k
    exact ⟨r2, e, (Nw.refl w _).trans h.size k⟩
def gPut (g : Gp) (x y : Nat) (put : ByteArray) : Gp := ⟨g.s.extract 0 x ++ put ++ g.s.extract (x + y) g.s.size, x + put.size, g.l⟩
theorem gPut_size {g : Gp} {x y : Nat} (h : x + y ≤ g.s.size) (put : ByteArray) : (gPut g x y put).s.size = g.s.size - y + put.size := by
  unfold gPut
  dsimp only
  rw [ByteArray.size_append, ByteArray.size_append, size_ext (by omega), size_ext (Nat.le_refl _)]
  omega
theorem exch_pb {w : World} {b : Nat} {r : Option Nat} {g : Gp} {n : Nat} (h : PB w b r g n) {x y : Nat} (hx : x + y ≤ g.s.size) (put : ByteArray) (hn : g.s.size - y + put.size ≤ g.l) :
    Calls Tryz.prog 98 #[.pointer (some ⟨b, 0, none⟩), .int .i64 x, .int .i64 y, .string put] w fun z w' => z = .returned (.tuple #[]) ∧ ∃ r' n', PB w' b r' (gPut g x y put) n' ∧ Ch b r w w' ∧ Nw w r r' := by
  obtain ⟨A, e, hP, hg, hA⟩ := h.ex
  have hl := sz_list g.s
  refine (exch_any put w hP hg (q := x) (c := y) (by omega) (by rw [hl]; exact hn) h.ok.2.2 (by rw [hA]; exact h.small)).mono ?_
  rintro z w' ⟨e1, r', A', e', q1, q2, q3, q4, q5, q6⟩
  refine ⟨e1, r', A'.length, ⟨⟨A', e', q1, ?_, rfl⟩, ?_, q4 (by rw [hA]; exact h.lm), ?_⟩, q5, q6⟩
  · show Gap A' (x + put.size) e' (gPut g x y put).s.data.toList
    unfold gPut
    dsimp only
    rw [rep_list]
    exact q2
  · rw [gPut_size hx]
    rw [hl] at q3
    exact q3
  · refine ⟨?_, ?_, h.ok.2.2⟩
    · rw [gPut_size hx]
      show x + put.size ≤ _
      omega
    · rw [gPut_size hx]
      exact hn
theorem gPut_g0 {g : Gp} {x y : Nat} (hx : x + y ≤ g.s.size) (put : ByteArray) (hn : g.s.size - y + put.size ≤ g.l) (h : g = g0) : gPut g x y put = g0 := by
  subst h
  have h0 : g0.s.size = 0 := rfl
  have h1 : g0.l = 0 := rfl
  have hs := gPut_size hx put
  have e1 : (gPut g0 x y put).s = eBA := size0 (by omega)
  have e2 : (gPut g0 x y put).p = 0 := by show x + put.size = 0; omega
  show Gp.mk (gPut g0 x y put).s (gPut g0 x y put).p 0 = g0
  rw [e1, e2]
  rfl


/-- what a call that works leaves -/
def Wk (w : World) (v : Value) (o : Option (Nat × Option Nat)) (n : Nat) (g' : Gp) (err : Int) (w' : World) : Prop := ∃ o2 n2, Is w' v o2 g' n2 ∧ Chs o w w' ∧ Nws w o o2 ∧ (err ≠ 0 → n2 = n)
set_option maxRecDepth 100000 in
set_option maxHeartbeats 2000000 in
theorem rep_is {w : World} {v : Value} {o : Option (Nat × Option Nat)} {g : Gp} {n : Nat} (h : Is w v o g n) (a c : Int) (ha : -9223372036854775808 ≤ a ∧ a ≤ 9223372036854775807) (put : ByteArray) :
    Calls Tryz.prog 193 #[v, .int .i64 a, .int .i64 c, .string put] w fun x w' => x = .returned (.tuple #[.string (gRep g a c put).2.1, .int .i64 (gRep g a c put).2.2]) ∧ Wk w v o n (gRep g a c put).1 (gRep g a c put).2.2 w' := by
  obtain ⟨o1, o2, o3⟩ := h.ok
  have CO := ore_is h
  have HX : Hid (∀ w1 b r, Od w v o g n b r w1 → ∀ k, Wk w v o n g 1 (w1.drewN k) ∧ Wk w v o n g 2 (w1.drewN k)) := fun w1 b r hO k => by
    obtain ⟨o2, i1, i2, i3⟩ := hO.fin (w1.drewN k) r g n (Ch.drewN _ _ _ _) (Nw.refl _ _) (hO.pb.drewN k) id
    exact ⟨⟨o2, n, i1, i2, i3, fun _ => rfl⟩, ⟨o2, n, i1, i2, i3, fun _ => rfl⟩⟩
  have CL : Hid (∀ w1 b r, PB w1 b r g n → Calls Tryz.prog 67 #[.pointer (some ⟨b, 0, none⟩)] w1 fun x w' => x = .returned (.int .i64 g.s.size) ∧ ∃ k, w' = w1.drewN k) := fun w1 b r hp => len_pb hp
  unfold gRep
  clear h
  by_cases h1 : a < 0
  · rw [if_pos (.inl h1)]
    go_enter Tryz.func193, Tryz.ntmps193
    go_wp2_with (go_at_call 65; refine CO.mono ?_; clear CO; rintro x w1 ⟨b, r, rfl, hO⟩; have HO : Hid (Od w v o g n b r w1) := hO; clear hO)
    exact bodyPost_ret (v := .tuple #[.string eBA, .int .i64 1]) (by simp [results, Tryz.results193, go_sem, eBA]) rfl ⟨rfl, (HX.out _ _ _ HO.out 0).1⟩
  · by_cases h2 : c < 0
    · rw [if_pos (.inr (.inl h2))]
      go_enter Tryz.func193, Tryz.ntmps193
      go_wp2_with (go_at_call 65; refine CO.mono ?_; clear CO; rintro x w1 ⟨b, r, rfl, hO⟩; have HO : Hid (Od w v o g n b r w1) := hO; clear hO)
      exact bodyPost_ret (v := .tuple #[.string eBA, .int .i64 1]) (by simp [results, Tryz.results193, go_sem, eBA]) rfl ⟨rfl, (HX.out _ _ _ HO.out 0).1⟩
    · obtain ⟨x, rfl⟩ := Int.eq_ofNat_of_zero_le (show 0 ≤ a by omega)
      obtain ⟨y, rfl⟩ := Int.eq_ofNat_of_zero_le (show 0 ≤ c by omega)
      have k1 : IntKind.i64.wrap ((g.s.size : Int) - x) = (g.s.size : Int) - x := by rw [IntKind.wrap_i64]; omega
      by_cases h3 : (g.s.size : Int) - x < y
      · rw [if_pos (show gOut g x y from .inr (.inr (.inr h3)))]
        go_enter Tryz.func193, Tryz.ntmps193
        go_wp2_with (first | (go_at_call 65; refine CO.mono ?_; clear CO; rintro x w1 ⟨b, r, rfl, hO⟩; have HO : Hid (Od w v o g n b r w1) := hO; clear hO) | (go_at_call 67; refine (CL.out _ _ _ HO.out.pb).mono ?_; clear CL; rintro x w2 ⟨rfl, k2, rfl⟩))
        exact bodyPost_ret (v := .tuple #[.string eBA, .int .i64 1]) (by simp [results, Tryz.results193, go_sem, eBA]) rfl ⟨rfl, (HX.out _ _ _ HO.out _).1⟩
      · have hxy : x + y ≤ g.s.size := by omega
        rw [if_neg (by unfold gOut; omega)]
        have CF : Hid (∀ w1 b r, PB w1 b r g n → Calls Tryz.prog 97 #[.pointer (some ⟨b, 0, none⟩), .int .i64 y, .string put] w1 fun x w' => x = .returned (.bool (decide (g.s.size - y + put.size ≤ g.l))) ∧ ∃ k, w' = w1.drewN k) := fun w1 b r hp => fits_pb hp y (by omega) put
        by_cases h4 : (g.l : Int) < (g.s.size : Int) - y + put.size
        · rw [if_pos h4]
          rw [show decide (g.s.size - y + put.size ≤ g.l) = false from decide_eq_false (by omega)] at CF
          go_enter Tryz.func193, Tryz.ntmps193
          go_wp2_with (first | (go_at_call 65; refine CO.mono ?_; clear CO; rintro x w1 ⟨b, r, rfl, hO⟩; have HO : Hid (Od w v o g n b r w1) := hO; clear hO) | (go_at_call 67; refine (CL.out _ _ _ HO.out.pb).mono ?_; clear CL; rintro x w2 ⟨rfl, k2, rfl⟩) | (go_at_call 97; refine (CF.out _ _ _ (HO.out.pb.drewN k2)).mono ?_; clear CF; rintro x w3 ⟨rfl, k3, rfl⟩))
          refine bodyPost_ret (v := .tuple #[.string eBA, .int .i64 2]) (by simp [results, Tryz.results193, go_sem, eBA]) rfl ⟨rfl, ?_⟩
          exact (HX.out _ _ _ HO.out _).2
        · rw [if_neg h4]
          rw [show decide (g.s.size - y + put.size ≤ g.l) = true from decide_eq_true (by omega)] at CF
          have hfit : g.s.size - y + put.size ≤ g.l := by omega
          have k4 : IntKind.i64.wrap ((x : Int) + y) = (x + y : Nat) := by rw [IntKind.wrap_i64]; omega
          have CP : Hid (∀ w1 b r, PB w1 b r g n → Calls Tryz.prog 66 #[.pointer (some ⟨b, 0, none⟩), .int .i64 x, .int .i64 (x + y : Nat)] w1 fun z w' => z = .returned (.string (g.s.extract x (x + y))) ∧ Below w1.heap.size w1 w') := fun w1 b r hp => piece_pb hp (by omega) hxy
          have CE : Hid (∀ w1 b r, PB w1 b r g n → Calls Tryz.prog 98 #[.pointer (some ⟨b, 0, none⟩), .int .i64 x, .int .i64 y, .string put] w1 fun z w' => z = .returned (.tuple #[]) ∧ ∃ r' n', PB w' b r' (gPut g x y put) n' ∧ Ch b r w1 w' ∧ Nw w1 r r') := fun w1 b r hp => exch_pb hp hxy put hfit
          have HZ : Hid (g = g0 → gPut g x y put = g0) := gPut_g0 hxy put hfit
          obtain ⟨out, hout⟩ : ∃ out, g.s.extract x (x + y) = out := ⟨_, rfl⟩
          rw [hout] at CP
          simp only [Int.toNat_natCast]
          rw [hout]
          obtain ⟨g', hg'⟩ : ∃ g', gPut g x y put = g' := ⟨_, rfl⟩
          have hg2 : (⟨g.s.extract 0 x ++ put ++ g.s.extract (x + y) g.s.size, x + put.size, g.l⟩ : Gp) = g' := hg'
          rw [hg2]
          rw [hg'] at CE HZ
          clear hg2 hg' hout hfit hxy h4 o1 o2 o3
          go_enter Tryz.func193, Tryz.ntmps193
          go_wp2_with (first | (go_at_call 65; refine CO.mono ?_; clear CO; rintro x w1 ⟨b, r, rfl, hO⟩; have HO : Hid (Od w v o g n b r w1) := hO; clear hO) | (go_at_call 67; refine (CL.out _ _ _ HO.out.pb).mono ?_; clear CL; rintro x w2 ⟨rfl, k2, rfl⟩) | (go_at_call 97; refine (CF.out _ _ _ (HO.out.pb.drewN k2)).mono ?_; clear CF; rintro x w3 ⟨rfl, k3, rfl⟩) | (go_at_call 66; refine (CP.out _ _ _ (HO.out.pb.drewN _)).mono ?_; clear CP; rintro x w4 ⟨rfl, hb4⟩) | (go_at_call 98; refine (CE.out _ _ _ ((HO.out.pb.drewN _).below hb4)).mono ?_; clear CE; rintro x w5 ⟨rfl, r5, n5, p5, c5, q5⟩))
          refine bodyPost_ret (v := .tuple #[.string out, .int .i64 0]) (by simp [results, Tryz.results193, go_sem]) rfl ⟨rfl, ?_⟩
          obtain ⟨o2, i1, i2, i3⟩ := HO.out.fin w5 r5 _ n5 (((Ch.drewN _ _ _ _).trans (Nw.refl _ _) (Ch.below hb4)).trans (Nw.refl _ _) c5) ((Nw.refl _ _).trans hb4.size q5) p5 HZ.out
          exact ⟨o2, n5, i1, i2, i3, fun h0 => absurd rfl h0⟩
end Go.Proofs.YtplieccalmkloaaGreatDoor.Gap
namespace Go.Proofs.YtplieccalmkloaaGreatDoor.Gap
open Go.RowKit Bod



theorem gPut_all {g : Gp} (s : ByteArray) : gPut g 0 g.s.size s = ⟨s, s.size, g.l⟩ := by
  unfold gPut
  have e1 : g.s.extract 0 0 = eBA := size0 (by simp)
  have e2 : g.s.extract (0 + g.s.size) g.s.size = eBA := size0 (by simp)
  have e3 : eBA ++ s ++ eBA = s := by
    apply ByteArray.ext
    simp [eBA, ByteArray.data_append]
  rw [e1, e2, e3, Nat.zero_add]

set_option maxRecDepth 100000 in
set_option maxHeartbeats 1000000 in
theorem reset_is {w : World} {v : Value} {o : Option (Nat × Option Nat)} {g : Gp} {n : Nat} (h : Is w v o g n) (s : ByteArray) :
    Calls Tryz.prog 64 #[v, .string s] w fun x w' => x = .returned (.int .i64 (gReset g s).2) ∧ Wk w v o n (gReset g s).1 (gReset g s).2 w' := by
  have CO := ore_is h
  have HX : Hid (∀ w1 b r, Od w v o g n b r w1 → ∀ k, Wk w v o n g 2 (w1.drewN k)) := fun w1 b r hO k => by
    obtain ⟨o2, i1, i2, i3⟩ := hO.fin (w1.drewN k) r g n (Ch.drewN _ _ _ _) (Nw.refl _ _) (hO.pb.drewN k) id
    exact ⟨o2, n, i1, i2, i3, fun _ => rfl⟩
  have CL : Hid (∀ w1 b r, PB w1 b r g n → Calls Tryz.prog 67 #[.pointer (some ⟨b, 0, none⟩)] w1 fun x w' => x = .returned (.int .i64 g.s.size) ∧ ∃ k, w' = w1.drewN k) := fun w1 b r hp => len_pb hp
  have CF : Hid (∀ w1 b r, PB w1 b r g n → Calls Tryz.prog 97 #[.pointer (some ⟨b, 0, none⟩), .int .i64 g.s.size, .string s] w1 fun x w' => x = .returned (.bool (decide (g.s.size - g.s.size + s.size ≤ g.l))) ∧ ∃ k, w' = w1.drewN k) := fun w1 b r hp => fits_pb hp g.s.size (Nat.le_refl _) s
  rw [Nat.sub_self, Nat.zero_add] at CF
  unfold gReset
  clear h
  by_cases h1 : s.size ≤ g.l
  · rw [if_pos h1]
    rw [decide_eq_true h1] at CF
    have CE : Hid (∀ w1 b r, PB w1 b r g n → Calls Tryz.prog 98 #[.pointer (some ⟨b, 0, none⟩), .int .i64 0, .int .i64 g.s.size, .string s] w1 fun z w' => z = .returned (.tuple #[]) ∧ ∃ r' n', PB w' b r' ⟨s, s.size, g.l⟩ n' ∧ Ch b r w1 w' ∧ Nw w1 r r') := fun w1 b r hp => by
      have := exch_pb hp (x := 0) (y := g.s.size) (by omega) s (by omega)
      rw [gPut_all] at this
      exact this
    have HZ : Hid (g = g0 → (⟨s, s.size, g.l⟩ : Gp) = g0) := fun e => by
      have := gPut_g0 (g := g) (x := 0) (y := g.s.size) (by omega) s (by omega) e
      rw [gPut_all] at this
      exact this
    go_enter Tryz.func64, Tryz.ntmps64
    go_wp2_with (first | (go_at_call 65; refine CO.mono ?_; clear CO; rintro x w1 ⟨b, r, rfl, hO⟩; have HO : Hid (Od w v o g n b r w1) := hO; clear hO) | (go_at_call 97; refine (CF.out _ _ _ (HO.out.pb.drewN k2)).mono ?_; clear CF; rintro x w3 ⟨rfl, k3, rfl⟩) | (go_at_call 98; refine (CE.out _ _ _ (HO.out.pb.drewN _)).mono ?_; clear CE; rintro x w5 ⟨rfl, r5, n5, p5, c5, q5⟩) | (go_at_call 67; refine (CL.out _ _ _ HO.out.pb).mono ?_; rintro x w2 ⟨rfl, k2, rfl⟩) | (go_at_call 67; refine (CL.out _ _ _ (HO.out.pb.drewN _)).mono ?_; rintro x w2 ⟨rfl, k4, rfl⟩))
    go_ret
    obtain ⟨o2, i1, i2, i3⟩ := HO.out.fin w5 r5 _ n5 ((Ch.drewN _ _ _ _).trans (Nw.refl _ _) c5) ((Nw.refl _ _).trans (Nat.le_refl _) q5) p5 HZ.out
    exact ⟨rfl, o2, n5, i1, i2, i3, fun h0 => absurd rfl h0⟩
  · rw [if_neg h1]
    rw [decide_eq_false h1] at CF
    go_enter Tryz.func64, Tryz.ntmps64
    go_wp2_with (first | (go_at_call 65; refine CO.mono ?_; clear CO; rintro x w1 ⟨b, r, rfl, hO⟩; have HO : Hid (Od w v o g n b r w1) := hO; clear hO) | (go_at_call 97; refine (CF.out _ _ _ (HO.out.pb.drewN k2)).mono ?_; clear CF; rintro x w3 ⟨rfl, k3, rfl⟩) | (go_at_call 67; refine (CL.out _ _ _ HO.out.pb).mono ?_; rintro x w2 ⟨rfl, k2, rfl⟩))
    go_ret
    exact ⟨rfl, HX.out _ _ _ HO.out _⟩

/-- what New leaves where it answers a buffer -/
def Nb (w : World) (g : Gp) (w' : World) : Prop := ∃ r n, PB w' w.heap.size r g n ∧ Below w.heap.size w w' ∧ ∀ k, r = some k → w.heap.size < k
set_option maxRecDepth 100000 in
set_option maxHeartbeats 1000000 in
theorem new_any (s : ByteArray) (m : Int) (w : World) :
    Calls Tryz.prog 34 #[.string s, .int .i64 m] w fun e w' => match gNew s m with
      | none => e = .returned (.tuple #[.pointer none, .int .i64 2]) ∧ Below w.heap.size w w'
      | some g => e = .returned (.tuple #[.pointer (some ⟨w.heap.size, 0, none⟩), .int .i64 0]) ∧ Nb w g w' := by
  have e0 := lim_eq m
  obtain ⟨l, hl⟩ : ∃ l, lim m = l := ⟨_, rfl⟩
  rw [hl] at e0
  have hl' := lim_le m
  rw [hl] at hl'
  obtain ⟨W0, hW0⟩ : ∃ W0, w.alloc (.cells #[.slice none 0 0, .int .i64 0, .int .i64 0, .int .i64 l] 112) = W0 := ⟨_, rfl⟩
  have hnew : W0.heap[w.heap.size]? = some (.cells #[.slice none 0 0, .int .i64 0, .int .i64 0, .int .i64 l] 112 (0, 0)) := by rw [← hW0]; exact World.alloc_heap_new w _
  have hB : Below w.heap.size w W0 := by rw [← hW0]; exact (Below.refl _ w).alloc (Nat.le_refl _) _
  have hsz : w.heap.size < W0.heap.size := (Array.getElem?_eq_some_iff.1 hnew).1
  have hP : PB W0 w.heap.size none ⟨eBA, 0, l⟩ 0 := ⟨⟨[], 0, ⟨hnew, fun k hk => (by cases hk), fun _ => rfl⟩, ⟨Nat.le_refl _, Nat.le_refl _, rfl⟩, rfl⟩, by omega, Nat.zero_le _, ⟨Nat.le_refl _, Nat.zero_le _, hl'⟩⟩
  have CR := reset_is (w := W0) (v := .pointer (some ⟨w.heap.size, 0, none⟩)) (o := some (w.heap.size, none)) ⟨rfl, hP⟩ s
  have HB2 : Hid (∀ w2, Ch w.heap.size none W0 w2 → Below w.heap.size w w2) := fun w2 q => ⟨q.1.trans hB.os, q.2.1.trans hB.tape, q.2.2.1.trans hB.output, Nat.le_trans hB.size q.2.2.2.1, fun k hk => by
    rw [q.2.2.2.2 k (by omega) (by omega) (fun e => by cases e)]
    exact hB.block k hk⟩
  have HS : Hid (w.heap.size < W0.heap.size) := hsz
  unfold gNew
  rw [hl]
  unfold gReset at CR
  dsimp only at CR
  clear hnew hB hP hl hl' hsz
  have hm : min (max m 0) 1073741824 = l := e0.symm
  clear e0
  by_cases h1 : s.size ≤ l
  · rw [if_pos h1] at CR ⊢
    go_enter Tryz.func34, Tryz.ntmps34
    go_wp2_with (go_at_call 64; refine CR.mono ?_; clear CR; rintro x w1 ⟨rfl, hk⟩)
    refine bodyPost_ret (v := .tuple #[.pointer (some ⟨w.heap.size, 0, none⟩), .int .i64 0]) (by simp [results, Tryz.results34, go_sem]) rfl ⟨rfl, ?_⟩
    obtain ⟨o2, n2, i1, i2, ⟨r2, rfl, i3⟩, _⟩ := hk
    refine ⟨r2, n2, i1.2, HB2.out _ i2, fun k hk => ?_⟩
    rcases i3 with rfl | ⟨j, rfl, hj⟩
    · cases hk
    · cases hk; have := HS.out; omega
  · rw [if_neg h1] at CR ⊢
    go_enter Tryz.func34, Tryz.ntmps34
    go_wp2_with (go_at_call 64; refine CR.mono ?_; clear CR; rintro x w1 ⟨rfl, hk⟩)
    refine bodyPost_ret (v := .tuple #[.pointer none, .int .i64 2]) (by simp [results, Tryz.results34, go_sem]) rfl ⟨rfl, ?_⟩
    obtain ⟨o2, n2, i1, i2, _⟩ := hk
    exact HB2.out _ i2
end Go.Proofs.YtplieccalmkloaaGreatDoor.Gap