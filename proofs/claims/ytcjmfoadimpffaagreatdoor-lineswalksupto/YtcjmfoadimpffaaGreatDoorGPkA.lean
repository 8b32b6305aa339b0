/-
  Plain facts on gaps and the arrays below them. Conditions: those of each theorem.
-/
import Derived.Test.YtcjmfoadimpffaaGreatDoorPkA
import Derived.Laws.CopyOwn
namespace Go.Proofs.YtcjmfoadimpffaaGreatDoor.Gap
open Bod

structure Gp where
  s : ByteArray
  p : Nat
  l : Nat
/-- what holds of every buffer -/
def Gp.ok (g : Gp) : Prop := g.p ≤ g.s.size ∧ g.s.size ≤ g.l ∧ g.l ≤ 1073741824
def eBA : ByteArray := ⟨#[]⟩
/-- a limit as it counts -/
def lim (n : Int) : Nat := (min (max n 0) 1073741824).toNat
theorem lim_le (n : Int) : lim n ≤ 1073741824 := by unfold lim; omega
theorem lim_eq (n : Int) : ((lim n : Nat) : Int) = min (max n 0) 1073741824 := by unfold lim; omega
def gNew (s : ByteArray) (n : Int) : Option Gp := if s.size ≤ lim n then some ⟨s, s.size, lim n⟩ else none
/-- not 0 <= from <= to <= n -/
def gRng (f t : Int) (n : Nat) : Bool := decide (f < 0 ∨ t < f ∨ (n : Int) < t)
def gSlice (s : ByteArray) (f t : Int) : ByteArray × Int := if gRng f t s.size then (eBA, 1) else (s.extract f.toNat t.toNat, 0)
def gByte (s : ByteArray) (a : Int) : Int × Int := if a < 0 ∨ (s.size : Int) ≤ a then (0, 1) else ((bt s a.toNat : Int), 0)
/-- does part lie at i? -/
def gAt (s part : ByteArray) (i : Nat) : Bool := decide (i + part.size ≤ s.size) && decide (s.extract i (i + part.size) = part)
def gIdx (s part : ByteArray) (f : Int) : Int := match (List.range (s.size + 1)).find? (fun (i : Nat) => decide (f ≤ (i : Int)) && gAt s part i) with
  | some i => i
  | none => -1
def gMove (g : Gp) (a : Int) : Gp × Int := if a < 0 ∨ (g.s.size : Int) < a then (g, 1) else ({ g with p := a.toNat }, 0)
/-- is the cut out of range? -/
def gOut (g : Gp) (a c : Int) : Prop := a < 0 ∨ c < 0 ∨ (g.s.size : Int) < a ∨ (g.s.size : Int) - a < c
instance (g : Gp) (a c : Int) : Decidable (gOut g a c) := by unfold gOut; infer_instance
def gRep (g : Gp) (a c : Int) (put : ByteArray) : Gp × ByteArray × Int :=
  if gOut g a c then (g, eBA, 1) else if (g.l : Int) < (g.s.size : Int) - c + put.size then (g, eBA, 2)
  else (⟨g.s.extract 0 a.toNat ++ put ++ g.s.extract (a.toNat + c.toNat) g.s.size, a.toNat + put.size, g.l⟩, g.s.extract a.toNat (a.toNat + c.toNat), 0)
def gReset (g : Gp) (s : ByteArray) : Gp × Int := if s.size ≤ g.l then (⟨s, s.size, g.l⟩, 0) else (g, 2)

theorem size_ext {s : ByteArray} {a b : Nat} (h : b ≤ s.size) : (s.extract a b).size = b - a := by simp; omega
theorem gNew_ok {s : ByteArray} {n : Int} {g : Gp} (h : gNew s n = some g) : g.ok := by
  unfold gNew at h
  split at h
  · rename_i hl
    cases h
    exact ⟨Nat.le_refl _, hl, lim_le n⟩
  · cases h
theorem gMove_ok {g : Gp} (h : g.ok) (a : Int) : (gMove g a).1.ok := by
  unfold gMove
  split
  · exact h
  · exact ⟨by simp only; omega, h.2⟩
theorem gRep_ok {g : Gp} (h : g.ok) (a c : Int) (put : ByteArray) : (gRep g a c put).1.ok := by
  obtain ⟨h1, h2, h3⟩ := h
  unfold gRep
  split
  · exact ⟨h1, h2, h3⟩
  · rename_i hr
    unfold gOut at hr
    split
    · exact ⟨h1, h2, h3⟩
    · rename_i hf
      have e : (g.s.extract 0 a.toNat ++ put ++ g.s.extract (a.toNat + c.toNat) g.s.size).size = a.toNat + put.size + (g.s.size - (a.toNat + c.toNat)) := by
        rw [ByteArray.size_append, ByteArray.size_append, size_ext (by omega), size_ext (Nat.le_refl _)]
        omega
      refine ⟨?_, ?_, h3⟩
      · show a.toNat + put.size ≤ _
        rw [e]; omega
      · show _ ≤ g.l
        rw [e]; omega
theorem gReset_ok {g : Gp} (h : g.ok) (s : ByteArray) : (gReset g s).1.ok := by
  unfold gReset
  split
  · rename_i hl
    exact ⟨Nat.le_refl _, hl, h.2.2⟩
  · exact h
end Go.Proofs.YtcjmfoadimpffaaGreatDoor.Gap
namespace Go.Proofs.YtcjmfoadimpffaaGreatDoor.Gap
open Bod

/-- the bytes A with the gap from p up to e hold the text t -/
structure Gap (A : List UInt8) (p e : Nat) (t : List UInt8) : Prop where
  pe : p ≤ e
  eA : e ≤ A.length
  text : t = A.take p ++ A.drop e
theorem Gap.len {A : List UInt8} {p e : Nat} {t : List UInt8} (h : Gap A p e t) : t.length = p + (A.length - e) := by
  have := h.pe; have := h.eA
  rw [h.text]; simp; omega
theorem Gap.pt {A : List UInt8} {p e : Nat} {t : List UInt8} (h : Gap A p e t) : p ≤ t.length := by rw [h.len]; omega
theorem Gap.tp {A : List UInt8} {p e : Nat} {t : List UInt8} (h : Gap A p e t) : t.take p = A.take p := by
  have := h.pe; have := h.eA
  rw [h.text, List.take_append_of_le_length (by simp; omega), List.take_take, Nat.min_self]
theorem Gap.td {A : List UInt8} {p e : Nat} {t : List UInt8} (h : Gap A p e t) : t.drop p = A.drop e := by
  have h1 := h.pe; have h2 := h.eA
  rw [h.text, List.drop_append, List.drop_of_length_le (by simp; omega)]
  simp
  rw [show p - min p A.length = 0 by omega]
  simp
theorem take_splice {α : Type} {L cs : List α} {off k : Nat} (h : k ≤ off) (hl : off ≤ L.length) : (splice L off cs).take k = L.take k := by
  unfold splice
  rw [List.take_append_of_le_length (by simp; omega), List.take_take, Nat.min_eq_left h]
theorem drop_splice {α : Type} {L cs : List α} {off k : Nat} (h : off + cs.length ≤ k) (hl : off + cs.length ≤ L.length) : (splice L off cs).drop k = L.drop k := by
  unfold splice
  rw [List.drop_append, List.drop_of_length_le (by simp; omega), List.nil_append, List.drop_append, List.drop_of_length_le (by simp; omega), List.nil_append, List.drop_drop]
  congr 1
  simp; omega
theorem take_splice_end {α : Type} {L cs : List α} {off : Nat} (hl : off + cs.length ≤ L.length) : (splice L off cs).take (off + cs.length) = L.take off ++ cs := by
  unfold splice
  rw [← List.append_assoc, List.take_append_of_le_length (by simp; omega), List.take_of_length_le (by simp; omega)]
theorem drop_splice_off {α : Type} {L cs : List α} {off : Nat} (hl : off + cs.length ≤ L.length) : (splice L off cs).drop off = cs ++ L.drop (off + cs.length) := by
  unfold splice
  rw [List.drop_append, List.drop_of_length_le (by simp; omega), List.nil_append]
  simp
  rw [show off - min off L.length = 0 by omega]
  rfl
/-- the gap goes to the left -/
theorem Gap.left {A : List UInt8} {p e : Nat} {t : List UInt8} (h : Gap A p e t) {k : Nat} (hk : k ≤ p) : Gap (splice A (e - (p - k)) ((A.take p).drop k)) k (e - (p - k)) t := by
  have h1 := h.pe; have h2 := h.eA
  have hc : ((A.take p).drop k).length = p - k := by simp; omega
  have hf : e - (p - k) + ((A.take p).drop k).length ≤ A.length := by omega
  refine ⟨by omega, by rw [length_splice _ _ _ hf]; omega, ?_⟩
  rw [take_splice (by omega) (by omega), drop_splice_off hf, hc, show e - (p - k) + (p - k) = e by omega, ← List.append_assoc, h.text]
  congr 1
  conv => lhs; rw [← List.take_append_drop k (A.take p)]
  rw [List.take_take, Nat.min_eq_left hk]
/-- the gap goes to the right -/
theorem Gap.right {A : List UInt8} {p e : Nat} {t : List UInt8} (h : Gap A p e t) {n : Nat} (hn : e + n ≤ A.length) : Gap (splice A p ((A.drop e).take n)) (p + n) (e + n) t := by
  have h1 := h.pe; have h2 := h.eA
  have hc : ((A.drop e).take n).length = n := by simp; omega
  have hf : p + ((A.drop e).take n).length ≤ A.length := by omega
  refine ⟨by omega, by rw [length_splice _ _ _ hf]; omega, ?_⟩
  have e1 : (splice A p ((A.drop e).take n)).take (p + n) = A.take p ++ (A.drop e).take n := by
    have := take_splice_end hf
    rwa [hc] at this
  rw [e1, drop_splice (by omega) hf, h.text, List.append_assoc]
  congr 1
  conv => lhs; rw [← List.take_append_drop n (A.drop e)]
  rw [List.drop_drop]
/-- what stands behind the gap is cut -/
theorem Gap.cut {A : List UInt8} {p e : Nat} {t : List UInt8} (h : Gap A p e t) {c : Nat} (hc : e + c ≤ A.length) : Gap A p (e + c) (t.take p ++ t.drop (p + c)) := by
  have h1 := h.pe; have h2 := h.eA
  refine ⟨by omega, hc, ?_⟩
  rw [h.tp, ← List.drop_drop, h.td, List.drop_drop]
/-- another array -/
theorem Gap.remade {A : List UInt8} {p e : Nat} {t : List UInt8} (h : Gap A p e t) {Z : List UInt8} (hm : t.length ≤ Z.length) :
    Gap (splice (splice Z 0 (A.take p)) (Z.length - (A.length - e)) (A.drop e)) p (Z.length - (A.length - e)) t := by
  have h1 := h.pe; have h2 := h.eA
  have hl := h.len
  have l1 : (A.take p).length = p := by simp; omega
  have l2 : (A.drop e).length = A.length - e := by simp
  have f1 : 0 + (A.take p).length ≤ Z.length := by omega
  have s1 := length_splice Z 0 (A.take p) f1
  have f2 : Z.length - (A.length - e) + (A.drop e).length ≤ (splice Z 0 (A.take p)).length := by omega
  have s2 := length_splice _ _ _ f2
  refine ⟨by omega, by omega, ?_⟩
  rw [take_splice (by omega) (by omega), drop_splice_off f2, show (splice Z 0 (A.take p)).drop (Z.length - (A.length - e) + (A.drop e).length) = [] from List.drop_of_length_le (by omega), List.append_nil, h.text]
  have := take_splice_end f1
  rw [l1, Nat.zero_add] at this
  rw [this]
  simp
/-- a text is put into the gap -/
theorem Gap.put {A : List UInt8} {p e : Nat} {t : List UInt8} (h : Gap A p e t) {x : List UInt8} (hx : p + x.length ≤ e) : Gap (splice A p x) (p + x.length) e (t.take p ++ x ++ t.drop p) := by
  have h1 := h.pe; have h2 := h.eA
  have hf : p + x.length ≤ A.length := by omega
  refine ⟨hx, by rw [length_splice _ _ _ hf]; omega, ?_⟩
  rw [take_splice_end hf, drop_splice (by omega) hf, h.tp, h.td]
/-- a piece of the text: ahead of the gap, and behind it -/
theorem Gap.piece {A : List UInt8} {p e : Nat} {t : List UInt8} (h : Gap A p e t) {f l : Nat} (h0 : f ≤ l) :
    (t.drop f).take (l - f) = (A.drop (min f p)).take (min l p - min f p) ++ (A.drop (max f p + (e - p))).take (max l p - max f p) := by
  have h1 := h.pe; have h2 := h.eA; have h3 := h.len
  have e1 : A.drop (max f p + (e - p)) = t.drop (max f p) := by
    rw [show max f p + (e - p) = e + (max f p - p) by omega, ← List.drop_drop, ← h.td, List.drop_drop]
    congr 1; omega
  have e2 : (A.drop (min f p)).take (min l p - min f p) = (t.drop (min f p)).take (min l p - min f p) := by
    have : t.take p = A.take p := h.tp
    have k : ∀ B : List UInt8, (B.drop (min f p)).take (min l p - min f p) = ((B.take p).drop (min f p)).take (min l p - min f p) := fun B => by
      rw [List.drop_take, List.take_take]
      congr 1
      omega
    rw [k A, k t, this]
  rw [e1, e2]
  rcases Nat.le_total l p with hlp | hlp
  · rw [Nat.min_eq_left hlp, Nat.min_eq_left (by omega), Nat.max_eq_right hlp, Nat.max_eq_right (by omega), Nat.sub_self]
    simp
  · rcases Nat.le_total f p with hfp | hfp
    · rw [Nat.min_eq_right hlp, Nat.min_eq_left hfp, Nat.max_eq_left hlp, Nat.max_eq_right hfp]
      have := List.take_append_drop (p - f) ((t.drop f).take (l - f))
      rw [List.take_take, Nat.min_eq_left (by omega), List.drop_take, List.drop_drop, show f + (p - f) = p by omega, show l - f - (p - f) = l - p by omega] at this
      exact this.symm
    · rw [Nat.min_eq_right hlp, Nat.min_eq_right hfp, Nat.max_eq_left hlp, Nat.max_eq_left hfp]
      simp
end Go.Proofs.YtcjmfoadimpffaaGreatDoor.Gap