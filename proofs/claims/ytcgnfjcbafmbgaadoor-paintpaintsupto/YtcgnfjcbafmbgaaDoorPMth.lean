/-
  Frames as they are painted, in plain words: what fits, places in decimals, rows as bytes. No program is walked in this text; no conditions.
-/
import Derived.Test.YtcgnfjcbafmbgaaDoorPkB
import Derived.Test.YtcgnfjcbafmbgaaDoorOSmf
import Derived.Lib.ItoaMem
namespace Go.Proofs.YtcgnfjcbafmbgaaDoor
open Go.RowKit Bod Wid
/-- one cluster of class k -/
def isB (s : ByteArray) (k : Int) : Bool := match cl s with
  | [_] => decide (cls (ch s 0) = k)
  | _ => false
def oneC (c : Cel) : Bool := decide (c.sp = 1) && isB c.tx 0
def twoC (c d : Cel) : Bool := decide (c.sp = 2) && isB c.tx 4 && (decide (d.tx = ⟨#[]⟩) && decide (d.sp = 0))
/-- how many cells the first thing of a row takes; 0: none that fits -/
def fitC : List Cel → Nat
  | [] => 0
  | [c] => if oneC c then 1 else 0
  | c :: d :: _ => if oneC c then 1 else if twoC c d then 2 else 0
def fitL : List Cel → Bool
  | [] => true
  | [c] => oneC c
  | c :: d :: r => if oneC c then fitL (d :: r) else if twoC c d then fitL r else false
def blkE (c : Cel) : Bool := decide (c.tx = ⟨#[32]⟩) && decide (c.sp = 1)
def lastE (l : List Cel) : Bool := match l.getLast? with
  | some c => blkE c
  | none => false
def fitR (W : Int) (l : List Cel) : Bool := decide ((l.length : Int) ≤ W) && (!lastE l && fitL l)
def fitF (f : Fm) : Bool := decide (f.w ≤ 65535) && ((decide (0 ≤ f.r) && decide (f.r < f.rows.length)) && ((decide (0 ≤ f.c) && decide (f.c < f.w)) && f.rows.all (fitR f.w)))
theorem fitL_step {l : List Cel} (h : l ≠ []) : (fitC l = 0 → fitL l = false) ∧ (fitC l ≠ 0 → fitC l ≤ l.length ∧ fitL l = fitL (l.drop (fitC l))) := by
  match l, h with
  | [c], _ =>
    cases e : oneC c <;> simp [fitC, fitL, e]
  | c :: d :: r, _ =>
    cases e : oneC c <;> cases e2 : twoC c d <;> simp [fitC, fitL, e, e2]
/-- a number as a terminal counts it; a place -/
def cntN (n : Int) : Int := min (max n 0) 1073741824 + 1
def cntL (n : Int) : List UInt8 := Lib.itoa (cntN n)
def gotoL (r c : Int) : List UInt8 := [27, 91] ++ cntL r ++ [59] ++ cntL c ++ [72]
def rowL (l : List Cel) : List UInt8 := l.flatMap fun c => c.tx.data.toList
theorem rowL_app (l m : List Cel) : rowL (l ++ m) = rowL l ++ rowL m := by simp [rowL]
theorem cntN_in (n : Int) : 1 ≤ cntN n ∧ cntN n ≤ 1073741825 := by unfold cntN; omega
/-- what Full writes for the rows from number i on -/
def fulP (i : Nat) (l : List Cel) : List UInt8 := if 0 < l.length then gotoL i 0 ++ rowL l else []
def fulL (i : Nat) : List (List Cel) → List UInt8
  | [] => []
  | l :: L => fulP i l ++ fulL (i + 1) L
theorem fulL_snoc (i : Nat) (L : List (List Cel)) (l : List Cel) : fulL i (L ++ [l]) = fulL i L ++ fulP (i + L.length) l := by
  induction L generalizing i with
  | nil => simp [fulL]
  | cons a L ih => rw [List.cons_append, fulL, fulL, ih, List.append_assoc, List.length_cons, show i + 1 + L.length = i + (L.length + 1) by omega]
def fullL (f : Fm) : List UInt8 := if fitF f then [27, 91, 109, 27, 91, 72, 27, 91, 74] ++ fulL 0 f.rows ++ gotoL f.r f.c else []
/-- does the row l stand at number i already? -/
def kepP (S : List (List Cel)) (i : Nat) (l : List Cel) : Bool := match S[i]? with
  | some m => rowE l m
  | none => false
/-- what Next writes for the row l at number i, over S -/
def nxtP (W : Int) (S : List (List Cel)) (i : Nat) (l : List Cel) : List UInt8 :=
  if kepP S i l then [] else gotoL i 0 ++ rowL l ++ (if (l.length : Int) < W then [27, 91, 75] else [])
def nxtL (W : Int) (S : List (List Cel)) (i : Nat) : List (List Cel) → List UInt8
  | [] => []
  | l :: L => nxtP W S i l ++ nxtL W S (i + 1) L
theorem nxtL_snoc (W : Int) (S : List (List Cel)) (i : Nat) (L : List (List Cel)) (l : List Cel) : nxtL W S i (L ++ [l]) = nxtL W S i L ++ nxtP W S (i + L.length) l := by
  induction L generalizing i with
  | nil => simp [nxtL]
  | cons a L ih => rw [List.cons_append, nxtL, nxtL, ih, List.append_assoc, List.length_cons, show i + 1 + L.length = i + (L.length + 1) by omega]
def nextL (g f : Fm) : List UInt8 :=
  if decide (g.w = f.w) && (fitF g && fitF f) then nxtL f.w g.rows 0 f.rows ++ (if f.rows.length < g.rows.length then gotoL f.rows.length 0 ++ [27, 91, 74] else []) ++ gotoL f.r f.c
  else fullL f
/-- one cluster: the next boundary behind the beginning is the end -/
theorem cl_next {s : ByteArray} {m : Nat} (h0 : 0 < s.size) (h : IsNext s 0 m) : (∃ c, cl s = [c]) ↔ m = s.size := by
  have ht := cl_tile s
  cases e : cl s with
  | nil => rw [e] at ht; have : (0 : Nat) = s.size := ht; omega
  | cons c r =>
    rw [e] at ht
    have hc := cl_cb s c (by rw [e]; exact List.mem_cons_self)
    have hs := cl_span (s := s) (c := c) (by rw [e]; exact List.mem_cons_self)
    have hfr : c.fr = 0 := ht.1
    have hn : IsNext s 0 c.to := ⟨hc.1, .inl (by omega), by have := hc.2; rw [hfr] at this; exact this⟩
    have hm : m = c.to := h.uniq hn
    cases r with
    | nil =>
      have hto : c.to = s.size := ht.2.2
      exact ⟨fun _ => hm.trans hto, fun _ => ⟨c, rfl⟩⟩
    | cons d r =>
      have hd := cl_span (s := s) (c := d) (by rw [e]; exact List.mem_cons_of_mem _ List.mem_cons_self)
      have hdf : d.fr = c.to := ht.2.2.1
      refine ⟨fun ⟨x, hx⟩ => (by simp at hx), fun h => by omega⟩
theorem isB_yes {s : ByteArray} {k : Int} {m : Nat} (h0 : 0 < s.size) (h : IsNext s 0 m) : isB s k = (decide (cls (ch s 0) = k) && decide (m = s.size)) := by
  have hi := cl_next h0 h
  unfold isB
  cases e : cl s with
  | nil => rw [decide_eq_false (p := m = s.size) (fun q => by obtain ⟨c, hc⟩ := hi.2 q; rw [e] at hc; cases hc), Bool.and_false]
  | cons c r => cases r with
    | nil => rw [decide_eq_true (p := m = s.size) (hi.1 ⟨c, e⟩), Bool.and_true]
    | cons d r => rw [decide_eq_false (p := m = s.size) (fun q => by obtain ⟨c, hc⟩ := hi.2 q; rw [e] at hc; cases hc), Bool.and_false]
theorem isB_no {s : ByteArray} {k : Int} (h0 : s.size = 0) : isB s k = false := by
  unfold isB
  rw [cl_nil h0]
end Go.Proofs.YtcgnfjcbafmbgaaDoor
