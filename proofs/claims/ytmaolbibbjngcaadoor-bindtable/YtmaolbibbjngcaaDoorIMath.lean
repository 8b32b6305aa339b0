/-
  Keys and commands in plain words: what package bind's tables tell of a key, and what a binder makes of it. No program is walked in this text; no conditions.
-/
import Derived.Test.YtmaolbibbjngcaaDoorKBase
import Derived.Test.YtmaolbibbjngcaaDoorUEnc
namespace Go.Proofs.YtmaolbibbjngcaaDoor
open Go.RowKit

/-- a key -/
structure Ky where
  kd : Int
  ch : Int
  ct : Bool
  me : Bool
  sh : Bool
  tx : ByteArray
def kyv (k : Ky) : Value := .agg #[.int .i64 k.kd, .int .i32 k.ch, .bool k.ct, .bool k.me, .bool k.sh, .string k.tx]
def kyc (k : Ky) : Array Value := #[.int .i64 k.kd, .int .i32 k.ch, .bool k.ct, .bool k.me, .bool k.sh, .string k.tx]
structure Ky.Ok (k : Ky) : Prop where
  c0 : -2147483648 ≤ k.ch
  c1 : k.ch ≤ 2147483647
  k0 : -9223372036854775808 ≤ k.kd
  k1 : k.kd ≤ 9223372036854775807
  t : k.tx.size ≤ 140737488355328
/-- a command -/
structure Cm where
  kd : Int
  n : Int
  tx : ByteArray
  mr : Int
def cmc (c : Cm) : Array Value := #[.int .i64 c.kd, .int .i64 c.n, .string c.tx, .int .u8 c.mr]
def cmz : Cm := ⟨0, 0, ⟨#[]⟩, 0⟩

def isP (k : Ky) (kd : Int) (me : Bool) (ch : Int) : Bool := decide (k.kd = kd) && (k.me == me) && decide (k.ch = ch) && (decide (kd = 2) || !k.ct)
def digP (k : Ky) : Bool := decide (k.kd = 1) && !k.ct && decide (48 ≤ k.ch) && decide (k.ch ≤ 57)
def encB (r : Int) : ByteArray := ⟨(encs [r]).toArray⟩
def ctlP (c : Int) : ByteArray := if c = 63 then ⟨#[127]⟩ else if 64 ≤ c ∧ c ≤ 95 then encB (c - 64) else ⟨#[]⟩
def ownP (k : Ky) : ByteArray := if k.kd = 1 then encB k.ch else if k.kd = 4 ∨ k.kd = 17 then k.tx else if k.kd = 2 then ctlP k.ch else if k.kd = 3 then ⟨#[27]⟩ else ⟨#[]⟩
def emp (s : ByteArray) : Bool := decide (s = ⟨#[]⟩)
def typP (k : Ky) : Bool := (decide (k.kd = 1) || decide (k.kd = 4)) && !k.ct && !k.me && !emp (ownP k)
def quoP (k : Ky) : Bool := if k.kd = 2 ∨ k.kd = 3 then !k.me && !emp (ownP k) else typP k
def mrkP (k : Ky) : Bool := decide (k.kd = 1) && !k.ct && !k.me && (decide (k.ch = 64) || (decide (97 ≤ k.ch) && decide (k.ch ≤ 122)))

/-- the table of single keys: kind, Meta, Char, the command's kind -/
def bdL : List (Int × Bool × Int × Int) := [(2, false, 64, 29), (2, false, 65, 8), (2, false, 69, 9), (2, false, 66, 4), (2, false, 70, 5), (2, false, 80, 10), (2, false, 78, 11), (2, false, 68, 14)] ++ [(2, false, 72, 15), (2, false, 63, 15), (2, false, 71, 37), (2, false, 73, 1), (2, false, 74, 2), (2, false, 77, 3), (2, false, 75, 18), (2, false, 85, 19)] ++ [(2, false, 76, 38), (2, false, 82, 36), (2, false, 84, 24), (2, false, 87, 20), (2, false, 89, 22), (2, false, 95, 32), (2, false, 94, 33), (2, true, 72, 17)] ++ [(2, true, 63, 17), (1, true, 98, 6), (1, true, 102, 7), (1, true, 100, 16), (1, true, 60, 12), (1, true, 62, 13), (1, true, 119, 21), (1, true, 121, 23)] ++ [(1, true, 116, 25), (1, true, 117, 26), (1, true, 108, 27), (1, true, 99, 28), (1, true, 112, 34), (1, true, 110, 35)]
def exL : List (Int × Bool × Int × Int) := [(2, false, 88, 31), (1, false, 117, 32), (1, false, 114, 33)]
def pxL : List (Int × Bool × Int × ByteArray) := [(2, false, 81, ⟨#[113]⟩), (2, false, 88, ⟨#[120]⟩), (1, true, 109, ⟨#[109]⟩), (1, true, 39, ⟨#[39]⟩)]
def nmL : List (Int × Int × Int) := [(8, 4, 6), (7, 5, 7), (5, 10, 34), (6, 11, 35), (9, 8, 12), (10, 9, 13), (12, 14, 16), (13, 34, 40), (14, 35, 40)]
def preP (k : Ky) : ByteArray := match pxL.find? fun r => isP k r.1 r.2.1 r.2.2.1 with
  | some r => r.2.2.2
  | none => ⟨#[]⟩
def namP (k : Ky) : Int := match nmL.find? fun r => decide (r.1 = k.kd) with
  | some r => if k.ct || k.me then r.2.2 else r.2.1
  | none => 40
def sinP (k : Ky) : Int := if k.kd = 17 then 39 else if typP k then 1 else match bdL.find? fun r => isP k r.1 r.2.1 r.2.2.1 with
  | some r => r.2.2.2
  | none => namP k
def extP (k : Ky) : Int := match exL.find? fun r => isP k r.1 r.2.1 r.2.2.1 with
  | some r => r.2.2.2
  | none => 40
/-- behind the prefix of that name -/
def behP (b : ByteArray) (k : Ky) : Int :=
  if b = ⟨#[113]⟩ then (if quoP k then 1 else 40)
  else if isP k 2 false 71 then 37
  else if b = ⟨#[109]⟩ ∧ mrkP k then 29
  else if b = ⟨#[39]⟩ ∧ mrkP k then 30
  else if b = ⟨#[120]⟩ then extP k
  else 40
/-- the names of prefixes -/
def Pn (b : ByteArray) : Prop := b = ⟨#[113]⟩ ∨ b = ⟨#[120]⟩ ∨ b = ⟨#[109]⟩ ∨ b = ⟨#[39]⟩
def cmdP (kd : Int) (k : Ky) : Cm := ⟨kd, 1, if kd = 1 ∨ kd = 39 then ownP k else ⟨#[]⟩, if kd = 29 ∨ kd = 30 then IntKind.u8.wrap k.ch else 0⟩

/-- what waits in a binder: the prefix, the count, whether one waits -/
structure Bs where
  px : ByteArray
  n : Int
  has : Bool
def bsc (s : Bs) : Array Value := #[.string s.px, .int .i64 s.n, .bool s.has]
def bsz : Bs := ⟨⟨#[]⟩, 0, false⟩
structure Bs.Ok (s : Bs) : Prop where
  p : s.px = ⟨#[]⟩ ∨ Pn s.px
  n0 : 0 ≤ s.n
  n1 : s.n ≤ 1000
  z : s.has = false → s.n = 0
def Bs.count (s : Bs) : Int := if s.has then max s.n 1 else 1
/-- whether the key waits now, and what waits then -/
def waiP (s : Bs) (k : Ky) : Option Bs :=
  if s.px = ⟨#[]⟩ then
    if digP k && (k.me || s.has) then some ⟨⟨#[]⟩, min (s.n * 10 + (k.ch - 48)) 1000, true⟩
    else if preP k = ⟨#[]⟩ then none else some ⟨preP k, s.n, s.has⟩
  else none
def kinP (s : Bs) (k : Ky) : Int := if s.px = ⟨#[]⟩ then sinP k else behP s.px k
def makP (s : Bs) (k : Ky) : Cm := let c := cmdP (kinP s k) k
  if c.kd = 37 then c else ⟨c.kd, s.count, c.tx, c.mr⟩
/-- what a binder makes of a key, whether it is a command, and what waits then -/
def keyP (s : Bs) (k : Ky) : Cm × Bool × Bs := match waiP s k with
  | some s' => (cmz, false, s')
  | none => (makP s k, true, bsz)

theorem find_at {α : Type} {p : α → Bool} : ∀ {l : List α} {i : Nat} {r : α}, l[i]? = some r → (∀ j q, j < i → l[j]? = some q → p q = false) → p r = true → l.find? p = some r
  | [], _, _, h, _, _ => by simp at h
  | a :: l, 0, r, h, _, hp => by
    simp at h; subst h
    simp [List.find?, hp]
  | a :: l, i + 1, r, h, hn, hp => by
    have ha : p a = false := hn 0 a (by omega) (by simp)
    simp only [List.find?, ha]
    exact find_at (i := i) (by simpa using h) (fun j q hj hq => hn (j + 1) q (by omega) (by simpa using hq)) hp
theorem find_no {α : Type} {p : α → Bool} {l : List α} (h : ∀ j q, j < l.length → l[j]? = some q → p q = false) : l.find? p = none := by
  rw [List.find?_eq_none]
  intro x hx
  obtain ⟨j, hj⟩ := List.mem_iff_getElem?.1 hx
  have := h j x (List.getElem?_eq_some_iff.1 hj).1 hj
  simp [this]
end Go.Proofs.YtmaolbibbjngcaaDoor
