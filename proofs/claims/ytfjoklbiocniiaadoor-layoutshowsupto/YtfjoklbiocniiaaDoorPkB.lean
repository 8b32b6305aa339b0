/-
  Plain facts on classes, clusters and what is drawn for them, text by text. No program is walked in this text; no conditions.
-/
import Derived.Test.YtfjoklbiocniiaaDoorRows
import Derived.Test.YtfjoklbiocniiaaDoorPkA
import Derived.Test.YtfjoklbiocniiaaDoorKBase
namespace Go.Proofs.YtfjoklbiocniiaaDoor
namespace Wid

def mk : List (Int × Int) := [(768, 879), (1155, 1161), (1425, 1469), (1471, 1471), (1473, 1474), (1552, 1562), (1611, 1631), (1648, 1648), (1750, 1756), (2304, 2306), (2364, 2364), (2381, 2381), (3633, 3633), (3636, 3642), (3655, 3662), (4957, 4959), (6832, 6911), (7616, 7679), (8204, 8205), (8400, 8447), (12330, 12335), (12441, 12442), (65024, 65039), (65056, 65071), (127995, 127999), (917760, 917999)]
def wd : List (Int × Int) := [(4352, 4447), (8986, 8987), (9001, 9002), (9193, 9196), (9725, 9726), (9748, 9749), (9800, 9811), (9898, 9899), (11904, 12329), (12336, 12350), (12353, 12440), (12443, 19903), (19968, 42191), (43360, 43391), (44032, 55203), (63744, 64255), (65072, 65135), (65281, 65376), (65504, 65510), (94176, 101119), (110592, 111359), (127744, 127994), (128000, 128591), (128640, 128767), (129280, 129535), (131072, 196605), (196608, 262141)]
def flat : List (Int × Int) → List Int
  | [] => []
  | p :: r => p.1 :: p.2 :: flat r
def inR (l : List (Int × Int)) (c : Int) : Bool := l.any fun p => decide (p.1 ≤ c) && decide (c ≤ p.2)
abbrev bad (c : Int) : Prop := c < 0 ∨ 1114111 < c ∨ (55296 ≤ c ∧ c ≤ 57343)
def cls (c : Int) : Int :=
  if bad c then 5 else if c = 10 then 1 else if c ≤ 31 ∨ (127 ≤ c ∧ c ≤ 159) then 2 else if c < 768 then 0
  else if inR mk c = true then 3 else if inR wd c = true then 4 else 0
def cel (c : Int) : Int := if cls c = 1 then 0 else if cls c = 4 then 2 else if cls c = 2 ∧ c ≤ 127 then 2 else 1
def rng (k : Int) : List (Int × Int) :=
  if k = 1 then [(10, 10)] else if k = 2 then [(0, 9), (11, 31), (127, 159)] else if k = 3 then mk else if k = 4 then wd else []

/-- the ranges rise, all above lo -/
def rising (lo : Int) : List (Int × Int) → Bool
  | [] => true
  | p :: r => decide (lo < p.1) && decide (p.1 ≤ p.2) && rising p.2 r

theorem mk_rising : rising 767 mk = true := by decide +kernel
theorem wd_rising : rising 767 wd = true := by decide +kernel

theorem above : ∀ (l : List (Int × Int)) (lo x : Int), rising lo l = true → x ≤ lo → (∀ y ∈ flat l, x < y) ∧ inR l x = false
  | [], _, _, _, _ => ⟨fun y h => by simp [flat] at h, rfl⟩
  | p :: r, lo, x, h, hx => by
    simp only [rising, Bool.and_eq_true, decide_eq_true_eq] at h
    obtain ⟨⟨h1, h2⟩, h3⟩ := h
    obtain ⟨a, b⟩ := above r p.2 x h3 (by omega)
    refine ⟨fun y hy => ?_, ?_⟩
    · simp only [flat, List.mem_cons] at hy
      rcases hy with rfl | rfl | hy
      · omega
      · omega
      · exact a y hy
    · unfold inR at b ⊢
      rw [List.any_cons, b, Bool.or_false]
      simp; omega
theorem countP_none (l : List Int) (x : Int) (h : ∀ y ∈ l, x < y) : l.countP (fun y => decide (y < x)) = 0 ∧ l.contains x = false := by
  refine ⟨List.countP_eq_zero.2 fun y hy => ?_, ?_⟩
  · have := h y hy; simp; omega
  · cases hc : l.contains x with
    | false => rfl
    | true => have := h x (List.contains_iff_mem.1 hc); omega

theorem within_flat : ∀ (l : List (Int × Int)) (lo : Int), rising lo l = true → ∀ x : Int,
    ((flat l).contains x || decide ((flat l).countP (fun y => decide (y < x)) % 2 = 1)) = inR l x
  | [], _, _, x => by simp [flat, inR]
  | p :: r, lo, h, x => by
    simp only [rising, Bool.and_eq_true, decide_eq_true_eq] at h
    obtain ⟨⟨h1, h2⟩, h3⟩ := h
    have ih := within_flat r p.2 h3 x
    have e1 : inR (p :: r) x = ((decide (p.1 ≤ x) && decide (x ≤ p.2)) || inR r x) := rfl
    rw [e1]
    by_cases hx2 : x ≤ p.2
    · obtain ⟨a, b⟩ := above r p.2 x h3 hx2
      obtain ⟨c0, c1⟩ := countP_none _ _ a
      rw [b]
      simp only [flat, List.contains_cons, List.countP_cons, c0, c1]
      by_cases hx1 : x < p.1
      · have q1 : ¬ x = p.1 := by omega
        have q2 : ¬ x = p.2 := by omega
        have q3 : ¬ p.1 < x := by omega
        have q4 : ¬ p.2 < x := by omega
        have q5 : ¬ p.1 ≤ x := by omega
        simp [q1, q2, q3, q4, q5]
      · have q5 : p.1 ≤ x := by omega
        have q4 : ¬ p.2 < x := by omega
        by_cases q1 : x = p.1
        · simp [q1, h2]
        · have q3 : p.1 < x := by omega
          simp [q3, q4, q5, hx2]
    · have q1 : ¬ x = p.1 := by omega
      have q2 : ¬ x = p.2 := by omega
      have q3 : p.1 < x := by omega
      have q4 : p.2 < x := by omega
      rw [← ih]
      simp [flat, q1, q2, q3, q4, hx2]
      rw [show ∀ n : Nat, (n + 1 + 1) % 2 = n % 2 from fun n => by omega]

theorem flat_sorted : ∀ (l : List (Int × Int)) (lo : Int), rising lo l = true → (flat l).Pairwise (· ≤ ·)
  | [], _, _ => .nil
  | p :: r, lo, h => by
    simp only [rising, Bool.and_eq_true, decide_eq_true_eq] at h
    obtain ⟨⟨h1, h2⟩, h3⟩ := h
    have ih := flat_sorted r p.2 h3
    obtain ⟨a, _⟩ := above r p.2 p.2 h3 (Int.le_refl _)
    simp only [flat]
    refine .cons (fun y hy => ?_) (.cons (fun y hy => ?_) ih)
    · rcases List.mem_cons.1 hy with rfl | hy
      · exact h2
      · have := a y hy; omega
    · have := a y hy; omega
theorem flat_len : ∀ l : List (Int × Int), (flat l).length = 2 * l.length
  | [] => rfl
  | p :: r => by simp only [flat, List.length_cons, flat_len r]; omega
theorem flat_get : ∀ (l : List (Int × Int)) (k : Nat), k < l.length → (flat l).getD (2 * k) 0 = (l.getD k (0, 0)).1 ∧ (flat l).getD (2 * k + 1) 0 = (l.getD k (0, 0)).2
  | [], _, h => by simp at h
  | p :: r, 0, _ => by simp [flat]
  | p :: r, k + 1, h => by
    have := flat_get r k (by simpa using h)
    rw [show 2 * (k + 1) = 2 * k + 2 by omega]
    simpa [flat] using this
end Wid
end Go.Proofs.YtfjoklbiocniiaaDoor
namespace Go.Proofs.YtfjoklbiocniiaaDoor
open Bod Wid

/-- no boundary stands between a unit of the character a and one of b behind it -/
def jn (a b : Int) : Bool := if b = 10 then decide (a = 13) else decide (cls b = 3 ∧ cls a ≠ 1 ∧ cls a ≠ 2)

structure Clu where
  fr : Nat
  to : Nat
  k : Int
  n : Int

def beg (s : ByteArray) (i : Nat) : Clu := ⟨i, i + sz s i, cls (ch s i), cel (ch s i)⟩
def gro (s : ByteArray) (c : Clu) (i : Nat) : Clu := ⟨c.fr, c.to + sz s i, if ch s i = 10 then 1 else c.k, if ch s i = 10 then 0 else c.n⟩
def clF (s : ByteArray) : Clu → Int → List Nat → List Clu
  | c, _, [] => [c]
  | c, a, i :: r => if jn a (ch s i) then clF s (gro s c i) (ch s i) r else c :: clF s (beg s i) (ch s i) r
def clL (s : ByteArray) : List Nat → List Clu
  | [] => []
  | i :: r => clF s (beg s i) (ch s i) r
/-- the clusters of a text -/
def cl (s : ByteArray) : List Clu := clL s (offs s 0)

/-- what has been met: the clusters that are over, the one under way, the character ahead -/
def step (s : ByteArray) (t : List Clu × Clu × Int) (x : Nat) : List Clu × Clu × Int :=
  if x = 0 then (t.1, beg s x, ch s x) else if jn t.2.2 (ch s x) then (t.1, gro s t.2.1 x, ch s x) else (t.1 ++ [t.2.1], beg s x, ch s x)
def st (s : ByteArray) (pre : List Nat) : List Clu × Clu × Int := pre.foldl (step s) ([], ⟨0, 0, 0, 0⟩, 0)
theorem st_snoc (s : ByteArray) (pre : List Nat) (x : Nat) : st s (pre ++ [x]) = step s (st s pre) x := by simp [st]

theorem clF_app (s : ByteArray) : ∀ (r1 r2 : List Nat) (e : List Clu) (c : Clu) (a : Int), (∀ x ∈ r1, x ≠ 0) →
    e ++ clF s c a (r1 ++ r2) = (r1.foldl (step s) (e, c, a)).1 ++ clF s (r1.foldl (step s) (e, c, a)).2.1 (r1.foldl (step s) (e, c, a)).2.2 r2
  | [], _, _, _, _, _ => rfl
  | x :: r1, r2, e, c, a, h => by
    have hx : x ≠ 0 := h x (by simp)
    have hr : ∀ y ∈ r1, y ≠ 0 := fun y hy => h y (by simp [hy])
    simp only [List.cons_append, List.foldl_cons, clF, step]
    rw [if_neg hx]
    by_cases hj : jn a (ch s x) = true
    · rw [if_pos hj, if_pos hj]
      exact clF_app s r1 r2 e _ _ hr
    · rw [if_neg hj, if_neg hj, ← clF_app s r1 r2 (e ++ [c]) _ _ hr]
      simp

theorem offs_pos (s : ByteArray) : ∀ (f i : Nat), s.size - i ≤ f → ∀ x ∈ offs s i, i ≤ x ∧ x < s.size
  | f, i, h, x, hx => by
    by_cases hi : i < s.size
    · rw [offs_step hi] at hx
      rcases List.mem_cons.1 hx with rfl | hx
      · exact ⟨Nat.le_refl _, hi⟩
      · have h1 := sz_pos hi
        cases f with
        | zero => omega
        | succ f =>
          have := offs_pos s f (i + sz s i) (by omega) x hx
          omega
    · rw [offs_end (by omega)] at hx
      simp at hx

/-- pre has come, the next unit begins at i -/
def Inv (s : ByteArray) (pre : List Nat) (i : Nat) : Prop :=
  i ≤ s.size ∧ pre ++ offs s i = offs s 0 ∧ ((pre = [] ∧ i = 0) ∨ (pre ≠ [] ∧ 0 < i ∧ (st s pre).2.1.to = i ∧ (st s pre).2.1.fr < i))
theorem inv_start (s : ByteArray) : Inv s [] 0 := ⟨Nat.zero_le _, rfl, .inl ⟨rfl, rfl⟩⟩
theorem inv_next {s : ByteArray} {pre : List Nat} {i x : Nat} (h : Inv s pre i) (hx : pre ++ [x] <+: offs s 0) : x = i ∧ i < s.size := by
  rw [← h.2.1] at hx
  have hx := (List.prefix_append_right_inj pre).1 hx
  by_cases hi : i < s.size
  · rw [offs_step hi] at hx
    obtain ⟨t, ht⟩ := hx
    exact ⟨by simpa using (List.cons.inj ht).1, hi⟩
  · rw [offs_end (by omega)] at hx
    obtain ⟨t, ht⟩ := hx
    simp at ht
theorem inv_step {s : ByteArray} {pre : List Nat} {i : Nat} (h : Inv s pre i) (hi : i < s.size) : Inv s (pre ++ [i]) (i + sz s i) := by
  obtain ⟨_, h2, h3⟩ := h
  have hp := sz_pos hi
  refine ⟨sz_in hi, by rw [← h2, offs_step hi]; simp, .inr ⟨by simp, by omega, ?_⟩⟩
  rw [st_snoc]
  unfold step
  rcases h3 with ⟨rfl, rfl⟩ | ⟨_, h4, h5, h6⟩
  · rw [if_pos rfl]; exact ⟨rfl, by show 0 < 0 + sz s 0; omega⟩
  · rw [if_neg (by omega)]
    split
    · exact ⟨by show _ + sz s i = _; rw [h5], by show (st s pre).2.1.fr < _; omega⟩
    · exact ⟨rfl, by show i < i + sz s i; omega⟩
theorem inv_cl {s : ByteArray} {pre : List Nat} {i : Nat} (h : Inv s pre i) (hp : pre ≠ []) : cl s = (st s pre).1 ++ clF s (st s pre).2.1 (st s pre).2.2 (offs s i) := by
  obtain ⟨h1, h2, h3⟩ := h
  rcases h3 with ⟨rfl, _⟩ | ⟨_, h4, _⟩
  · exact absurd rfl hp
  cases pre with
  | nil => exact absurd rfl hp
  | cons x r =>
    have h0 : 0 < s.size := by omega
    have hx : x = 0 ∧ r ++ offs s i = offs s (0 + sz s 0) := by
      rw [offs_step h0] at h2
      exact ⟨(List.cons.inj h2).1, (List.cons.inj h2).2⟩
    obtain ⟨rfl, hr⟩ := hx
    have hz : ∀ y ∈ r, y ≠ 0 := fun y hy => by
      have := offs_pos s s.size (0 + sz s 0) (by omega) y (by rw [← hr]; simp [hy])
      have := sz_pos h0
      omega
    have := clF_app s r (offs s i) [] (beg s 0) (ch s 0) hz
    unfold cl st
    rw [← h2]
    simp only [List.cons_append, clL, List.foldl_cons]
    have e : step s ([], ⟨0, 0, 0, 0⟩, 0) 0 = ([], beg s 0, ch s 0) := rfl
    rw [e]
    simpa using this
/-- the cluster under way is over -/
theorem inv_out {s : ByteArray} {pre : List Nat} {i : Nat} (h : Inv s pre i) (hp : pre ≠ []) (hi : i < s.size) (hj : jn (st s pre).2.2 (ch s i) = false) : (st s pre).1 ++ [(st s pre).2.1] <+: cl s := by
  rw [inv_cl h hp, offs_step hi]
  simp only [clF, hj]
  exact ⟨clF s (beg s i) (ch s i) (offs s (i + sz s i)), by simp⟩
theorem inv_end {s : ByteArray} {pre : List Nat} (h : Inv s pre s.size) (hp : pre ≠ []) : (st s pre).1 ++ [(st s pre).2.1] = cl s := by
  rw [inv_cl h hp, offs_end (Nat.le_refl _)]
  rfl
theorem inv_all {s : ByteArray} {pre : List Nat} {i : Nat} (h : Inv s pre i) (he : pre = offs s 0) : i = s.size := by
  obtain ⟨h1, h2, _⟩ := h
  rw [he] at h2
  have : offs s i = [] := by simpa using h2
  by_cases hi : i < s.size
  · rw [offs_step hi] at this; cases this
  · omega
theorem offs_nil {s : ByteArray} (h : s.size = 0) : offs s 0 = [] := offs_end (by omega)
theorem cl_nil {s : ByteArray} (h : s.size = 0) : cl s = [] := by unfold cl; rw [offs_nil h]; rfl
theorem offs_ne {s : ByteArray} (h : 0 < s.size) : offs s 0 ≠ [] := by rw [offs_step h]; simp
theorem st_zero {s : ByteArray} {pre : List Nat} {x : Nat} (h : x = 0) : st s (pre ++ [x]) = ((st s pre).1, beg s x, ch s x) := by rw [st_snoc]; unfold step; rw [if_pos h]
theorem st_join {s : ByteArray} {pre : List Nat} {x : Nat} (h : x ≠ 0) (hj : jn (st s pre).2.2 (ch s x) = true) : st s (pre ++ [x]) = ((st s pre).1, gro s (st s pre).2.1 x, ch s x) := by rw [st_snoc]; unfold step; rw [if_neg h, if_pos hj]
theorem st_part {s : ByteArray} {pre : List Nat} {x : Nat} (h : x ≠ 0) (hj : jn (st s pre).2.2 (ch s x) = false) : st s (pre ++ [x]) = ((st s pre).1 ++ [(st s pre).2.1], beg s x, ch s x) := by rw [st_snoc]; unfold step; rw [if_neg h, hj]; rfl
end Go.Proofs.YtfjoklbiocniiaaDoor
namespace Go.Proofs.YtfjoklbiocniiaaDoor
open Bod Wid

theorem clF_len (s : ByteArray) : ∀ (r : List Nat) (c : Clu) (a : Int), (clF s c a r).length ≤ r.length + 1
  | [], _, _ => Nat.le_refl _
  | i :: r, c, a => by
    simp only [clF]
    split
    · have := clF_len s r (gro s c i) (ch s i); simp only [List.length_cons]; omega
    · have := clF_len s r (beg s i) (ch s i); simp only [List.length_cons]; omega
theorem cl_len (s : ByteArray) : (cl s).length ≤ s.size := by
  have h := offs_len_le s
  unfold cl
  cases ho : offs s 0 with
  | nil => simp [clL]
  | cons i r =>
    have := clF_len s r (beg s i) (ch s i)
    rw [ho] at h
    simp only [clL, List.length_cons] at h ⊢
    omega
theorem cel_bd (c : Int) : 0 ≤ cel c ∧ cel c ≤ 2 := by
  unfold cel
  repeat' split
  all_goals omega
theorem clF_n (s : ByteArray) : ∀ (r : List Nat) (c : Clu) (a : Int), 0 ≤ c.n ∧ c.n ≤ 2 → ∀ d ∈ clF s c a r, 0 ≤ d.n ∧ d.n ≤ 2
  | [], c, _, h, d, hd => by simp only [clF, List.mem_singleton] at hd; rw [hd]; exact h
  | i :: r, c, a, h, d, hd => by
    simp only [clF] at hd
    split at hd
    · refine clF_n s r _ _ ?_ d hd
      unfold gro
      simp only
      split <;> omega
    · rcases List.mem_cons.1 hd with rfl | hd
      · exact h
      · exact clF_n s r _ _ (cel_bd _) d hd
theorem cl_n (s : ByteArray) : ∀ d ∈ cl s, 0 ≤ d.n ∧ d.n ≤ 2 := by
  intro d hd
  unfold cl at hd
  cases ho : offs s 0 with
  | nil => rw [ho] at hd; simp [clL] at hd
  | cons i r =>
    rw [ho] at hd
    exact clF_n s r _ _ (cel_bd _) d hd
/-- the cells of clusters together -/
def sumN : List Clu → Int
  | [] => 0
  | c :: r => c.n + sumN r
theorem sumN_app : ∀ a b : List Clu, sumN (a ++ b) = sumN a + sumN b
  | [], _ => by simp [sumN]
  | c :: a, b => by simp only [List.cons_append, sumN, sumN_app a b]; omega
theorem sumN_bd : ∀ l : List Clu, (∀ d ∈ l, 0 ≤ d.n ∧ d.n ≤ 2) → 0 ≤ sumN l ∧ sumN l ≤ 2 * l.length
  | [], _ => by simp [sumN]
  | c :: r, h => by
    have h1 := h c (by simp)
    have h2 := sumN_bd r (fun d hd => h d (by simp [hd]))
    simp only [sumN, List.length_cons]
    omega
theorem pre_bd {s : ByteArray} {pre : List Clu} (h : pre <+: cl s) : pre.length ≤ s.size ∧ 0 ≤ sumN pre ∧ sumN pre ≤ 2 * s.size := by
  have h1 := h.length_le
  have h2 := cl_len s
  have h3 := sumN_bd pre (fun d hd => cl_n s d (h.subset hd))
  omega
end Go.Proofs.YtfjoklbiocniiaaDoor
namespace Go.Proofs.YtfjoklbiocniiaaDoor
open Go.RowKit

/-- what is drawn for a cluster of class k that has the bytes own -/
def drw (k : Int) : List UInt8 → List UInt8
  | [] => []
  | c :: r => if k = 1 then [] else if k = 2 then (if c.toNat < 128 then [94, c ^^^ 64] else [239, 191, 189]) else if k = 3 then 32 :: c :: r else if k = 5 then 239 :: 191 :: 189 :: r else c :: r

theorem own_head {own : ByteArray} {c : UInt8} {r : List UInt8} (ho : own.data.toList = c :: r) : own.size = r.length + 1 ∧ ∀ h : 0 < own.size, own[0]'h = c := by
  have hs : own.size = r.length + 1 := by
    have : own.data.toList.length = r.length + 1 := by rw [ho]; rfl
    rw [Lib.size_eq]; exact this
  refine ⟨hs, fun h => ?_⟩
  have h2 : own.data.toList[0]? = some c := by rw [ho]; rfl
  have h3 : own.data[0]? = some c := by rw [← h2]; simp
  rw [ByteArray.getElem_eq_getElem_data]
  exact (Array.getElem?_eq_some_iff.1 h3).2
theorem xor_all : ∀ n : Fin 256, bits .xor .u8 (n.val : Int) 64 = ((n.val ^^^ 64 : Nat) : Int) := by decide +kernel
theorem xor_byte (c : UInt8) : bits .xor .u8 (c.toNat : Int) 64 = ((c ^^^ 64).toNat : Int) := by
  rw [UInt8.toNat_xor]
  exact xor_all ⟨c.toNat, c.toNat_lt⟩
theorem byteCells_app (a b : List UInt8) : Lib.byteCells (a ++ b) = Lib.byteCells a ++ Lib.byteCells b := by simp [Lib.byteCells]
theorem strCells_eq (s : ByteArray) : Lib.strCells s = Lib.byteCells s.data.toList := rfl
theorem own_tail {own : ByteArray} {c : UInt8} {r : List UInt8} (ho : own.data.toList = c :: r) : (own.extract 1 own.size).data.toList = r := by
  have hs := (own_head ho).1
  rw [ByteArray.data_extract, Array.toList_extract, List.extract_eq_take_drop, ho, hs]
  simp
end Go.Proofs.YtfjoklbiocniiaaDoor
namespace Go.Proofs.YtfjoklbiocniiaaDoor
open Bod Wid

/-- the clusters lie one behind the other from i to j -/
def tiled : Nat → List Clu → Nat → Prop
  | i, [], j => i = j
  | i, c :: r, j => c.fr = i ∧ i < c.to ∧ tiled c.to r j
theorem clF_tile (s : ByteArray) : ∀ (f i : Nat) (c : Clu) (a : Int), s.size - i ≤ f → i ≤ s.size → c.to = i → c.fr < i → tiled c.fr (clF s c a (offs s i)) s.size
  | f, i, c, a, hf, hi, hto, hfr => by
    by_cases h : i < s.size
    · have h1 := sz_pos h
      have h2 := sz_in h
      cases f with
      | zero => omega
      | succ f =>
        rw [offs_step h]
        simp only [clF]
        split
        · exact clF_tile s f (i + sz s i) (gro s c i) _ (by omega) h2 (by show c.to + _ = _; omega) (by show c.fr < _; omega)
        · refine ⟨rfl, by omega, ?_⟩
          have := clF_tile s f (i + sz s i) (beg s i) (ch s i) (by omega) h2 rfl (by show i < _; omega)
          rw [hto]
          exact this
    · rw [offs_end (by omega)]
      exact ⟨rfl, by omega, by show c.to = s.size; omega⟩
theorem cl_tile (s : ByteArray) : tiled 0 (cl s) s.size := by
  by_cases h : 0 < s.size
  · have h1 := sz_pos h
    unfold cl
    rw [offs_step h]
    exact clF_tile s s.size (0 + sz s 0) (beg s 0) _ (by omega) (sz_in h) rfl (by show 0 < _; omega)
  · rw [cl_nil (by omega)]
    show 0 = s.size
    omega
theorem tiled_le : ∀ {l : List Clu} {i j : Nat}, tiled i l j → i ≤ j
  | [], _, _, h => Nat.le_of_eq h
  | c :: r, i, j, h => by have := tiled_le h.2.2; have := h.2.1; omega
theorem tiled_mem : ∀ {l : List Clu} {i j : Nat}, tiled i l j → ∀ c ∈ l, i ≤ c.fr ∧ c.fr < c.to ∧ c.to ≤ j
  | [], _, _, _, c, hc => by simp at hc
  | d :: r, i, j, h, c, hc => by
    obtain ⟨h1, h2, h3⟩ := h
    have h4 := tiled_le h3
    rcases List.mem_cons.1 hc with rfl | hc
    · omega
    · have := tiled_mem h3 c hc; omega
theorem tiled_app : ∀ {a b : List Clu} {i j : Nat}, tiled i (a ++ b) j → ∃ m, tiled i a m ∧ tiled m b j
  | [], b, i, j, h => ⟨i, rfl, h⟩
  | c :: a, b, i, j, h => by
    obtain ⟨h1, h2, h3⟩ := h
    obtain ⟨m, h4, h5⟩ := tiled_app h3
    exact ⟨m, ⟨h1, h2, h4⟩, h5⟩
theorem cl_span {s : ByteArray} {c : Clu} (h : c ∈ cl s) : c.fr < c.to ∧ c.to ≤ s.size := (tiled_mem (cl_tile s) c h).2

/-- the bytes from i to j -/
def sub (s : ByteArray) (i j : Nat) : List UInt8 := (s.extract i j).data.toList
theorem sub_len {s : ByteArray} {i j : Nat} (h : j ≤ s.size) : (sub s i j).length = j - i := by
  unfold sub
  rw [ByteArray.data_extract, Array.length_toList, Array.size_extract]
  have : s.data.size = s.size := rfl
  omega
/-- what is drawn for clusters of s -/
def drawnL (s : ByteArray) (l : List Clu) : List UInt8 := l.flatMap fun c => drw c.k (sub s c.fr c.to)
theorem drawnL_app (s : ByteArray) (a b : List Clu) : drawnL s (a ++ b) = drawnL s a ++ drawnL s b := by simp [drawnL]
theorem drw_len (k : Int) : ∀ own : List UInt8, (drw k own).length ≤ own.length + 2
  | [] => by simp [drw]
  | c :: r => by
    simp only [drw]
    repeat' split
    all_goals (simp only [List.length_cons, List.length_nil]; omega)
theorem drawnL_len {s : ByteArray} : ∀ {l : List Clu} {i j : Nat}, tiled i l j → j ≤ s.size → (drawnL s l).length ≤ 3 * (j - i)
  | [], _, _, _, _ => by simp [drawnL]
  | c :: r, i, j, h, hj => by
    obtain ⟨h1, h2, h3⟩ := h
    have h4 := drawnL_len h3 hj
    have h5 := tiled_le h3
    have h6 := drw_len c.k (sub s c.fr c.to)
    rw [sub_len (by omega)] at h6
    have e : drawnL s (c :: r) = drw c.k (sub s c.fr c.to) ++ drawnL s r := by simp [drawnL]
    rw [e, List.length_append]
    omega
theorem pre_drawn {s : ByteArray} {pre : List Clu} (h : pre <+: cl s) : (drawnL s pre).length ≤ 3 * s.size := by
  obtain ⟨t, ht⟩ := h
  have h1 := cl_tile s
  rw [← ht] at h1
  obtain ⟨m, h2, h3⟩ := tiled_app h1
  have h4 := tiled_le h3
  have := drawnL_len h2 h4
  omega
end Go.Proofs.YtfjoklbiocniiaaDoor
namespace Go.Proofs.YtfjoklbiocniiaaDoor
open Bod Wid

/-- is i a boundary between clusters? -/
def cbZ (s : ByteArray) (i : Int) : Bool := decide (i = 0) || decide (i = s.size) || (bdZ s i && !jn (ch s (prevZ s i).toNat) (ch s i.toNat))
theorem cb_zero (s : ByteArray) : cbZ s 0 = true := by simp [cbZ]
theorem cb_end (s : ByteArray) : cbZ s s.size = true := by simp [cbZ]
theorem cb_out {s : ByteArray} {i : Int} (h : i < 0 ∨ (s.size : Int) < i) : cbZ s i = false := by
  unfold cbZ
  rw [bdZ_out s i h, decide_eq_false (by omega), decide_eq_false (by omega)]
  rfl
theorem cb_off {s : ByteArray} {i : Int} (h0 : i ≠ 0) (h1 : i ≠ s.size) (h : bdZ s i = false) : cbZ s i = false := by
  unfold cbZ
  rw [h, decide_eq_false h0, decide_eq_false h1]
  rfl
theorem cb_at {s : ByteArray} {p : Nat} (hp : B s p) (hi : p < s.size) (hn : p + sz s p < s.size) : cbZ s ((p + sz s p : Nat) : Int) = !jn (ch s p) (ch s (p + sz s p)) := by
  have h1 := sz_pos hi
  unfold cbZ
  rw [decide_eq_false (by omega), decide_eq_false (by omega), bd_B (B_next hp hi), prev_B hp hi]
  simp only [Bool.false_or, Bool.true_and, Int.toNat_natCast]
theorem cb_B {s : ByteArray} {i : Int} (h : cbZ s i = true) : ∃ m : Nat, i = m ∧ B s m := by
  by_cases ho : i < 0 ∨ (s.size : Int) < i
  · rw [cb_out ho] at h; cases h
  · obtain ⟨m, rfl⟩ := Int.eq_ofNat_of_zero_le (show 0 ≤ i by omega)
    refine ⟨m, rfl, ?_⟩
    by_cases h0 : m = 0
    · subst h0; exact B_zero s
    · by_cases h1 : m = s.size
      · subst h1; exact B_end s
      · cases hb : bdZ s m with
        | true => exact (bdZ_iff s m).1 hb
        | false => rw [cb_off (by omega) (by omega) hb] at h; cases h
/-- within a unit there is none -/
theorem cb_in {s : ByteArray} {a k : Nat} (hi : a < s.size) (h1 : a < k) (h2 : k < a + sz s a) : cbZ s k = false := by
  have := sz_in hi
  exact cb_off (by omega) (by omega) (bd_in h1 h2)

/-- m is the least boundary above i, or the end -/
structure IsNext (s : ByteArray) (i : Int) (m : Nat) : Prop where
  cb : cbZ s m = true
  up : i < m ∨ (m = s.size ∧ (s.size : Int) ≤ i)
  no : ∀ j : Int, i < j → j < m → cbZ s j = false
theorem IsNext.uniq {s : ByteArray} {i : Int} {m n : Nat} (h : IsNext s i m) (k : IsNext s i n) : m = n := by
  have h1 := cb_B h.cb
  have h2 := cb_B k.cb
  obtain ⟨_, e1, b1⟩ := h1
  obtain ⟨_, e2, b2⟩ := h2
  have hm : m ≤ s.size := by have := b1.1; omega
  have hn : n ≤ s.size := by have := b2.1; omega
  rcases Nat.lt_trichotomy m n with hlt | he | hlt
  · rcases h.up with hu | ⟨hu, hv⟩
    · have := k.no m hu (by omega); rw [h.cb] at this; cases this
    · omega
  · exact he
  · rcases k.up with hu | ⟨hu, hv⟩
    · have := h.no n hu (by omega); rw [k.cb] at this; cases this
    · omega
/-- m is the greatest boundary below i, or 0 -/
structure IsPrev (s : ByteArray) (i : Int) (m : Nat) : Prop where
  cb : cbZ s m = true
  dn : (m : Int) < i ∨ (m = 0 ∧ i ≤ 0)
  no : ∀ j : Int, (m : Int) < j → j < i → cbZ s j = false
theorem IsPrev.uniq {s : ByteArray} {i : Int} {m n : Nat} (h : IsPrev s i m) (k : IsPrev s i n) : m = n := by
  rcases Nat.lt_trichotomy m n with hlt | he | hlt
  · rcases k.dn with hu | ⟨hu, hv⟩
    · have := h.no n (by omega) hu; rw [k.cb] at this; cases this
    · omega
  · exact he
  · rcases h.dn with hu | ⟨hu, hv⟩
    · have := k.no m (by omega) hu; rw [h.cb] at this; cases this
    · omega

/-- going on by units: what Next keeps -/
structure NxI (s : ByteArray) (i : Int) (m : Nat) : Prop where
  b : B s m
  up : i < m ∨ (m = s.size ∧ (s.size : Int) ≤ i)
  no : ∀ j : Int, i < j → j < m → cbZ s j = false
theorem nx_start (s : ByteArray) (i : Int) : ∃ m : Nat, nextZ s i = m ∧ NxI s i m := by
  by_cases h0 : i < 0
  · exact ⟨0, by unfold nextZ; rw [if_pos h0]; rfl, B_zero s, .inl (by omega), fun j h1 h2 => cb_out (.inl (by omega))⟩
  · by_cases h1 : (s.size : Int) ≤ i
    · exact ⟨s.size, by unfold nextZ; rw [if_neg h0, if_pos h1], B_end s, .inr ⟨rfl, h1⟩, fun j h2 h3 => by omega⟩
    · obtain ⟨k, rfl⟩ := Int.eq_ofNat_of_zero_le (show 0 ≤ i by omega)
      have hk : k < s.size := by omega
      have hd := dnF_Dn hk
      have hds : dnF s k < s.size := by have := hd.le; omega
      refine ⟨_, nextZ_in hk hd, B_next hd.bd hds, .inl (by have := hd.gt; omega), fun j h2 h3 => ?_⟩
      obtain ⟨q, rfl⟩ := Int.eq_ofNat_of_zero_le (show 0 ≤ j by omega)
      have := hd.le
      exact cb_in hds (by omega) (by omega)
theorem nx_go {s : ByteArray} {i : Int} {m : Nat} (h : NxI s i m) (hc : cbZ s m = false) : m < s.size ∧ nextZ s m = ((m + sz s m : Nat) : Int) ∧ NxI s i (m + sz s m) := by
  have hm : m < s.size := by
    have h1 := h.b.1
    by_cases e : m = s.size
    · subst e; rw [cb_end] at hc; cases hc
    · omega
  have hp := sz_pos hm
  have hu : i < m := by rcases h.up with hu | ⟨hu, _⟩ <;> omega
  refine ⟨hm, next_B h.b hm, B_next h.b hm, .inl (by omega), fun j h2 h3 => ?_⟩
  by_cases h4 : j < m
  · exact h.no j h2 h4
  · by_cases h5 : j = m
    · rw [h5]; exact hc
    · obtain ⟨q, rfl⟩ := Int.eq_ofNat_of_zero_le (show 0 ≤ j by omega)
      exact cb_in hm (by omega) (by omega)
theorem NxI.done {s : ByteArray} {i : Int} {m : Nat} (h : NxI s i m) (hc : cbZ s m = true) : IsNext s i m := ⟨hc, h.up, h.no⟩
/-- going back by units: what Prev keeps -/
structure PvI (s : ByteArray) (i : Int) (m : Nat) : Prop where
  b : B s m
  dn : (m : Int) < i ∨ (m = 0 ∧ i ≤ 0)
  no : ∀ j : Int, (m : Int) < j → j < i → cbZ s j = false
theorem pv_start (s : ByteArray) (i : Int) : ∃ m : Nat, prevZ s i = m ∧ PvI s i m := by
  by_cases h0 : i ≤ 0
  · exact ⟨0, by unfold prevZ; rw [if_pos h0]; rfl, B_zero s, .inr ⟨rfl, h0⟩, fun j h1 h2 => by omega⟩
  · by_cases h1 : (s.size : Int) < i
    · refine ⟨s.size, ?_, B_end s, .inl h1, fun j h2 h3 => cb_out (.inr h2)⟩
      unfold prevZ downZ
      rw [if_neg h0]
      by_cases h2 : i - 1 ≤ 0
      · rw [if_pos h2]; omega
      · rw [if_neg h2, if_pos (by omega)]
    · obtain ⟨k, hk⟩ := Int.eq_ofNat_of_zero_le (show 0 ≤ i - 1 by omega)
      have hks : k < s.size := by omega
      have hd := dnF_Dn hks
      have hds : dnF s k < s.size := by have := hd.le; omega
      refine ⟨dnF s k, ?_, hd.bd, .inl (by have := hd.le; omega), fun j h2 h3 => ?_⟩
      · unfold prevZ
        rw [if_neg h0, hk]
        exact downZ_in hks hd
      · obtain ⟨q, rfl⟩ := Int.eq_ofNat_of_zero_le (show 0 ≤ j by omega)
        have := hd.gt
        exact cb_in hds (by omega) (by omega)
theorem pv_go {s : ByteArray} {i : Int} {m : Nat} (h : PvI s i m) (hc : cbZ s m = false) : ∃ m' : Nat, prevZ s m = m' ∧ m' < m ∧ PvI s i m' := by
  have h0 : m ≠ 0 := fun e => by subst e; have := cb_zero s; rw [show ((0 : Nat) : Int) = 0 from rfl] at hc; rw [this] at hc; cases hc
  obtain ⟨m', h1, h2⟩ := pv_start s m
  have hlt : m' < m := by rcases h2.dn with hu | ⟨_, hu⟩ <;> omega
  have hu : (m : Int) < i := by rcases h.dn with hu | ⟨hu, _⟩ <;> omega
  refine ⟨m', h1, hlt, h2.b, .inl (by omega), fun j h3 h4 => ?_⟩
  by_cases h5 : j < m
  · exact h2.no j h3 h5
  · by_cases h6 : j = m
    · rw [h6]; exact hc
    · exact h.no j (by omega) h4
theorem PvI.done {s : ByteArray} {i : Int} {m : Nat} (h : PvI s i m) (hc : cbZ s m = true) : IsPrev s i m := ⟨hc, h.dn, h.no⟩

/-- m is the least boundary that is at least i, or the end -/
structure IsSnap (s : ByteArray) (i : Int) (m : Nat) : Prop where
  cb : cbZ s m = true
  up : i ≤ m ∨ (m = s.size ∧ (s.size : Int) ≤ i)
  no : ∀ j : Int, i ≤ j → j < m → cbZ s j = false
theorem IsNext.snap {s : ByteArray} {i : Int} {m : Nat} (h : IsNext s i m) (hc : cbZ s i = false) : IsSnap s i m :=
  ⟨h.cb, h.up.imp (fun h => by omega) id, fun j h1 h2 => by
    by_cases e : j = i
    · rw [e]; exact hc
    · exact h.no j (by omega) h2⟩
theorem IsSnap.self {s : ByteArray} {m : Nat} (hc : cbZ s m = true) : IsSnap s m m := ⟨hc, .inl (Int.le_refl _), fun j h1 h2 => by omega⟩
theorem IsSnap.uniq {s : ByteArray} {i : Int} {m n : Nat} (h : IsSnap s i m) (k : IsSnap s i n) : m = n := by
  obtain ⟨_, e1, b1⟩ := cb_B h.cb
  obtain ⟨_, e2, b2⟩ := cb_B k.cb
  have hm : m ≤ s.size := by have := b1.1; omega
  have hn : n ≤ s.size := by have := b2.1; omega
  rcases Nat.lt_trichotomy m n with hlt | he | hlt
  · rcases h.up with hu | ⟨hu, hv⟩
    · have := k.no m hu (by omega); rw [h.cb] at this; cases this
    · omega
  · exact he
  · rcases k.up with hu | ⟨hu, hv⟩
    · have := h.no n hu (by omega); rw [k.cb] at this; cases this
    · omega

/-- between the ends of a cluster there is no boundary, and its end is one -/
def Sp (s : ByteArray) (c : Clu) : Prop := cbZ s c.to = true ∧ ∀ j : Int, (c.fr : Int) < j → j < c.to → cbZ s j = false
theorem clF_cb (s : ByteArray) : ∀ (f i p : Nat) (c : Clu), s.size - i ≤ f → B s p → p < s.size → i = p + sz s p → c.to = i → c.fr < i → (∀ j : Int, (c.fr : Int) < j → j < i → cbZ s j = false) → ∀ d ∈ clF s c (ch s p) (offs s i), Sp s d
  | f, i, p, c, hf, hp, hps, hip, hto, hfr, hno, d, hd => by
    have hb : B s i := by rw [hip]; exact B_next hp hps
    by_cases h : i < s.size
    · have h1 := sz_pos h
      cases f with
      | zero => omega
      | succ f =>
        have hcb := cb_at hp hps (by omega)
        rw [← hip] at hcb
        rw [offs_step h] at hd
        simp only [clF] at hd
        by_cases hj : jn (ch s p) (ch s i) = true
        · rw [if_pos hj] at hd
          rw [hj] at hcb
          refine clF_cb s f (i + sz s i) i (gro s c i) (by omega) hb h rfl (by show c.to + _ = _; omega) (by show c.fr < _; omega) (fun j h2 h3 => ?_) d hd
          have h2 : (c.fr : Int) < j := h2
          by_cases h4 : j < i
          · exact hno j h2 h4
          · by_cases h5 : j = i
            · rw [h5]; exact hcb
            · obtain ⟨q, rfl⟩ := Int.eq_ofNat_of_zero_le (show 0 ≤ j by omega)
              exact cb_in h (by omega) (by omega)
        · rw [if_neg hj] at hd
          rw [Bool.not_eq_true] at hj
          rw [hj] at hcb
          rcases List.mem_cons.1 hd with rfl | hd
          · exact ⟨by rw [hto]; exact hcb, fun j h2 h3 => hno j h2 (by omega)⟩
          · refine clF_cb s f (i + sz s i) i (beg s i) (by omega) hb h rfl rfl (by show i < _; omega) (fun j h2 h3 => ?_) d hd
            have h2 : (i : Int) < j := h2
            obtain ⟨q, rfl⟩ := Int.eq_ofNat_of_zero_le (show 0 ≤ j by omega)
            exact cb_in h (by omega) (by omega)
    · have hi : i = s.size := by have := hb.1; omega
      rw [offs_end (by omega)] at hd
      simp only [clF, List.mem_singleton] at hd
      subst hd
      exact ⟨by rw [hto, hi]; exact cb_end s, fun j h2 h3 => hno j h2 (by omega)⟩
theorem cl_cb (s : ByteArray) : ∀ d ∈ cl s, Sp s d := by
  intro d hd
  by_cases h : 0 < s.size
  · have h1 := sz_pos h
    unfold cl at hd
    rw [offs_step h] at hd
    refine clF_cb s s.size (0 + sz s 0) 0 (beg s 0) (by omega) (B_zero s) h rfl rfl (by show 0 < _; omega) (fun j h2 h3 => ?_) d hd
    have h2 : ((0 : Nat) : Int) < j := h2
    obtain ⟨q, rfl⟩ := Int.eq_ofNat_of_zero_le (show 0 ≤ j by omega)
    exact cb_in h (by omega) (by omega)
  · rw [cl_nil (by omega)] at hd; simp at hd
/-- what begins a cluster is a boundary -/
theorem tiled_fr {s : ByteArray} : ∀ {l : List Clu} {i j : Nat}, tiled i l j → cbZ s i = true → (∀ d ∈ l, Sp s d) → ∀ d ∈ l, cbZ s d.fr = true
  | [], _, _, _, _, _, d, hd => by simp at hd
  | c :: r, i, j, h, hi, hs, d, hd => by
    obtain ⟨h1, h2, h3⟩ := h
    rcases List.mem_cons.1 hd with rfl | hd
    · rw [h1]; exact hi
    · exact tiled_fr h3 (hs c (by simp)).1 (fun e he => hs e (by simp [he])) d hd
theorem cl_fr (s : ByteArray) : ∀ d ∈ cl s, cbZ s d.fr = true := tiled_fr (cl_tile s) (by exact cb_zero s) (cl_cb s)
end Go.Proofs.YtfjoklbiocniiaaDoor
namespace Go.Proofs.YtfjoklbiocniiaaDoor
open Bod Wid

theorem prev_dn {s : ByteArray} {i : Nat} (h0 : 0 < i) (h1 : i < s.size) : prevZ s i = dnF s (i - 1) := by
  unfold prevZ
  rw [if_neg (by omega), show ((i : Int) - 1) = ((i - 1 : Nat) : Int) by omega]
  exact downZ_in (by omega) (dnF_Dn (by omega))

theorem cb_near {s t : ByteArray} {i j : Nat} (h0 : 0 < i) (h1 : i < s.size) (h2 : 0 < j) (h3 : j < t.size) (hm : min i 4 = min j 4) (hu : ∀ d, d ≤ 4 → d ≤ i → un s (i - d) = un t (j - d)) : cbZ s i = cbZ t j := by
  have hz : ∀ d, d ≤ 4 → d ≤ i → sz s (i - d) = sz t (j - d) := fun d a b => by unfold sz; rw [hu d a b]
  have hc : ∀ d, d ≤ 4 → d ≤ i → ch s (i - d) = ch t (j - d) := fun d a b => by unfold ch; rw [hu d a b]
  have hb : B s i ↔ B t j := by
    rw [B_iff3 (by omega), B_iff3 (by omega)]
    constructor
    · intro h k hk hk3
      have := h (i - (j - k)) (by omega) (by omega)
      rw [hz (j - k) (by omega) (by omega), show j - (j - k) = k by omega] at this
      omega
    · intro h k hk hk3
      have := h (j - (i - k)) (by omega) (by omega)
      rw [← hz (i - k) (by omega) (by omega), show i - (i - k) = k by omega] at this
      omega
  have hbz : bdZ s i = bdZ t j := by
    rw [Bool.eq_iff_iff, bdZ_iff, bdZ_iff]; exact hb
  have he : ∃ e, e ≤ 4 ∧ e ≤ i ∧ dnF s (i - 1) = i - e ∧ dnF t (j - 1) = j - e := by
    have z2 : 2 ≤ i → sz s (i - 1 - 1) = sz t (j - 1 - 1) := fun h => hz 2 (by omega) h
    have z3 : 3 ≤ i → sz s (i - 1 - 2) = sz t (j - 1 - 2) := fun h => hz 3 (by omega) h
    have z4 : 4 ≤ i → sz s (i - 1 - 3) = sz t (j - 1 - 3) := fun h => hz 4 (by omega) h
    unfold dnF
    by_cases c1 : 1 ≤ i - 1 ∧ i - 1 < i - 1 - 1 + sz s (i - 1 - 1)
    · have := z2 (by omega)
      rw [if_pos c1, if_pos (by omega)]
      exact ⟨2, by omega, by omega, by omega, by omega⟩
    · have d1 : ¬ (1 ≤ j - 1 ∧ j - 1 < j - 1 - 1 + sz t (j - 1 - 1)) := fun h => by have := z2 (by omega); omega
      rw [if_neg c1, if_neg d1]
      by_cases c2 : 2 ≤ i - 1 ∧ i - 1 < i - 1 - 2 + sz s (i - 1 - 2)
      · have := z3 (by omega)
        rw [if_pos c2, if_pos (by omega)]
        exact ⟨3, by omega, by omega, by omega, by omega⟩
      · have d2 : ¬ (2 ≤ j - 1 ∧ j - 1 < j - 1 - 2 + sz t (j - 1 - 2)) := fun h => by have := z3 (by omega); omega
        rw [if_neg c2, if_neg d2]
        by_cases c3 : 3 ≤ i - 1 ∧ i - 1 < i - 1 - 3 + sz s (i - 1 - 3)
        · have := z4 (by omega)
          rw [if_pos c3, if_pos (by omega)]
          exact ⟨4, by omega, by omega, by omega, by omega⟩
        · have d3 : ¬ (3 ≤ j - 1 ∧ j - 1 < j - 1 - 3 + sz t (j - 1 - 3)) := fun h => by have := z4 (by omega); omega
          rw [if_neg c3, if_neg d3]
          exact ⟨1, by omega, by omega, by omega, by omega⟩
  obtain ⟨e, e1, e2, e3, e4⟩ := he
  have c0 := hc 0 (by omega) (by omega)
  unfold cbZ
  rw [hbz, prev_dn h0 h1, prev_dn h2 h3, e3, e4, Int.toNat_natCast, Int.toNat_natCast, Int.toNat_natCast, Int.toNat_natCast, hc e e1 e2, decide_eq_false (by omega), decide_eq_false (by omega), decide_eq_false (by omega), decide_eq_false (by omega)]
  simp only [Nat.sub_zero] at c0
  rw [c0]

theorem un_left4 (a b : ByteArray) (i : Nat) (h : i + 4 ≤ a.size) : un (a ++ b) i = un a i := by
  unfold un
  rw [size_app, bt_append, bt_append, bt_append, bt_append, if_pos (by omega), if_pos (by omega), if_pos (by omega), if_pos (by omega)]
  exact dec_cong (by omega) (by omega) (by omega) (fun _ => rfl) (fun _ => rfl) (fun _ => rfl)

/-- what the law asks: of the piece, and of the piece between others -/
theorem near_piece {a : ByteArray} {i : Nat} (h0 : 0 < i) (h1 : i < a.size) : cbZ (a.extract (i - 4) (min a.size (i + 4))) ((i - (i - 4) : Nat) : Int) = cbZ a i := by
  have hs := size_extract a (i - 4) (min a.size (i + 4)) (by omega)
  refine cb_near (by omega) (by rw [hs]; omega) h0 h1 (by omega) fun d h2 h3 => ?_
  rw [un_extract a (i - 4) (min a.size (i + 4)) (i - (i - 4) - d) (by omega) (by omega) (by omega)]
  congr 1
  omega
theorem near_between {a b c : ByteArray} {i : Nat} (h0 : 4 < i) (h1 : i + 4 < a.size) : cbZ (b ++ a.extract (i - 4) (i + 4) ++ c) ((b.size + 4 : Nat) : Int) = cbZ a i := by
  have hs := size_extract a (i - 4) (i + 4) (by omega)
  refine cb_near (by omega) (by rw [size_app, size_app, hs]; omega) (by omega) (by omega) (by omega) fun d h2 h3 => ?_
  rw [un_left4 _ _ _ (by rw [size_app, hs]; omega), show b.size + 4 - d = b.size + (4 - d) by omega, un_right,
    un_extract a (i - 4) (i + 4) (4 - d) (by omega) (by omega) (by omega)]
  congr 1
  omega
end Go.Proofs.YtfjoklbiocniiaaDoor
namespace Go.Proofs.YtfjoklbiocniiaaDoor
open Bod Wid

/-- the clusters out of a list of characters and sizes -/
def clG : Clu → Int → List (Int × Int) → List Clu
  | c, _, [] => [c]
  | c, a, p :: r => if jn a p.1 then clG ⟨c.fr, c.to + p.2.toNat, if p.1 = 10 then 1 else c.k, if p.1 = 10 then 0 else c.n⟩ p.1 r else c :: clG ⟨c.to, c.to + p.2.toNat, cls p.1, cel p.1⟩ p.1 r
def clU (i : Nat) : List (Int × Int) → List Clu
  | [] => []
  | p :: r => clG ⟨i, i + p.2.toNat, cls p.1, cel p.1⟩ p.1 r
theorem clF_us (s : ByteArray) : ∀ (f i : Nat) (c : Clu) (a : Int), s.size - i ≤ f → c.to = i → clF s c a (offs s i) = clG c a (us s i)
  | f, i, c, a, hf, hto => by
    by_cases h : i < s.size
    · have h1 := sz_pos h
      cases f with
      | zero => omega
      | succ f =>
        have e : (pr s i).2.toNat = sz s i := by simp [pr]
        have e1 : (pr s i).1 = ch s i := rfl
        rw [offs_step h, us_step h]
        simp only [clF, clG, e, e1]
        rw [clF_us s f (i + sz s i) (gro s c i) _ (by omega) (by show c.to + _ = _; omega), clF_us s f (i + sz s i) (beg s i) _ (by omega) rfl]
        simp only [gro, beg, hto]
    · rw [offs_end (by omega), us_end (by omega)]; rfl
theorem cl_us (s : ByteArray) : cl s = clU 0 (us s 0) := by
  by_cases h : 0 < s.size
  · have e : (pr s 0).2.toNat = sz s 0 := by simp [pr]
    unfold cl
    rw [offs_step h, us_step h]
    simp only [clL, clU, e]
    exact clF_us s s.size (0 + sz s 0) (beg s 0) _ (by omega) rfl
  · rw [cl_nil (by omega), us_end (by omega)]; rfl

def lastC : Int → List (Int × Int) → Int
  | a, [] => a
  | _, p :: r => lastC p.1 r
def endC : Nat → List (Int × Int) → Nat
  | i, [] => i
  | i, p :: r => endC (i + p.2.toNat) r
theorem clG_app : ∀ (l1 : List (Int × Int)) (c : Clu) (a : Int) (q : Int × Int) (l2 : List (Int × Int)), jn (lastC a l1) q.1 = false → clG c a (l1 ++ q :: l2) = clG c a l1 ++ clU (endC c.to l1) (q :: l2)
  | [], c, a, q, l2, h => by
    simp only [List.nil_append, clG, lastC] at h ⊢
    rw [h]
    rfl
  | p :: l1, c, a, q, l2, h => by
    simp only [List.cons_append, clG, lastC, endC] at h ⊢
    split
    · exact clG_app l1 _ _ q l2 h
    · rw [List.cons_append, clG_app l1 _ _ q l2 h]
def sh (d : Nat) (c : Clu) : Clu := ⟨c.fr + d, c.to + d, c.k, c.n⟩
theorem clG_sh (d : Nat) : ∀ (l : List (Int × Int)) (c : Clu) (a : Int), clG (sh d c) a l = (clG c a l).map (sh d)
  | [], c, a => rfl
  | p :: l, c, a => by
    simp only [clG]
    split
    · rw [← clG_sh d l]; simp only [sh]; rw [show c.to + d + p.2.toNat = c.to + p.2.toNat + d by omega]
    · rw [List.map_cons, ← clG_sh d l]; simp only [sh]; rw [show c.to + d + p.2.toNat = c.to + p.2.toNat + d by omega]
theorem clU_sh (d i : Nat) : ∀ l : List (Int × Int), clU (i + d) l = (clU i l).map (sh d)
  | [] => rfl
  | p :: l => by
    simp only [clU]
    rw [← clG_sh d l]
    simp only [sh]
    rw [show i + d + p.2.toNat = i + p.2.toNat + d by omega]
theorem endC_us (s : ByteArray) : ∀ (f i : Nat), s.size - i ≤ f → i ≤ s.size → endC i (us s i) = s.size
  | f, i, hf, hi => by
    by_cases h : i < s.size
    · have h1 := sz_pos h
      cases f with
      | zero => omega
      | succ f =>
        have e : (pr s i).2.toNat = sz s i := by simp [pr]
        rw [us_step h]
        simp only [endC, e]
        exact endC_us s f (i + sz s i) (by omega) (sz_in h)
    · rw [us_end (by omega)]; show i = s.size; omega
/-- the units up to a boundary, and the last of them -/
theorem us_to {s : ByteArray} {j : Nat} (hj : B s j) : ∀ (f i : Nat) (a : Int), B s i → i ≤ j → j - i ≤ f → ∃ P, us s i = P ++ us s j ∧ (i < j → ∃ p, B s p ∧ p < s.size ∧ p + sz s p = j ∧ lastC a P = ch s p)
  | f, i, a, hb, hij, hf => by
    by_cases e : i = j
    · subst e; exact ⟨[], rfl, fun h => by omega⟩
    · have hs := hj.1
      have hi : i < s.size := by omega
      have h1 := sz_pos hi
      have h2 := hj.2 i (by omega)
      cases f with
      | zero => omega
      | succ f =>
        obtain ⟨P, h3, h4⟩ := us_to hj f (i + sz s i) (ch s i) (B_next hb hi) h2 (by omega)
        refine ⟨pr s i :: P, by rw [us_step hi, h3]; rfl, fun _ => ?_⟩
        by_cases e2 : i + sz s i = j
        · have hP : P = [] := by
            rw [e2] at h3
            simpa using h3
          subst hP
          exact ⟨i, hb, hi, e2, rfl⟩
        · exact h4 (by omega)

theorem cl_cut {a b : ByteArray} (h : cbZ (a ++ b) a.size = true) : cl (a ++ b) = cl a ++ (cl b).map (sh a.size) := by
  have hs := size_app a b
  obtain ⟨m, hm, hB⟩ := cb_B h
  have hm : m = a.size := by omega
  subst hm
  have hu := us_seam_B hB
  have hsh : (cl b).map (sh a.size) = clU a.size (us b 0) := by
    rw [cl_us b, ← clU_sh, Nat.zero_add]
  rw [hsh, cl_us (a ++ b), cl_us a, hu]
  by_cases h0 : 0 < a.size
  · by_cases h1 : 0 < b.size
    · have e1 : us b 0 = pr b 0 :: us b (0 + sz b 0) := us_step h1
      have e0 : us a 0 = pr a 0 :: us a (0 + sz a 0) := us_step h0
      obtain ⟨P, h3, h4⟩ := us_to hB a.size 0 0 (B_zero _) (by omega) (by omega)
      obtain ⟨p, hp, hps, hpe, hlast⟩ := h4 h0
      have er := us_right a b b.size 0 (by omega)
      rw [Nat.add_zero] at er
      rw [hu, er] at h3
      have hP : us a 0 = P := List.append_cancel_right h3
      have hj : jn (lastC 0 (us a 0)) (pr b 0).1 = false := by
        have hc := cb_at hp hps (by omega)
        rw [hpe, h] at hc
        have e2 : ch (a ++ b) a.size = ch b 0 := by
          have := un_right a b 0
          rw [Nat.add_zero] at this
          unfold ch; rw [this]
        rw [e2] at hc
        rw [hP, hlast]
        show jn (ch (a ++ b) p) (ch b 0) = false
        simpa using hc.symm
      have ee := endC_us a a.size 0 (by omega) (by omega)
      rw [e1]
      rw [e0] at hj ee ⊢
      simp only [lastC, endC] at hj ee
      show clU 0 (pr a 0 :: (us a (0 + sz a 0) ++ pr b 0 :: us b (0 + sz b 0))) = _
      simp only [clU]
      rw [clG_app _ _ _ _ _ hj]
      simp only [clU]
      rw [ee]
    · rw [us_end (s := b) (by omega)]
      simp [clU]
  · have : a.size = 0 := by omega
    rw [us_end (s := a) (by omega), this]
    simp [clU]

/-! counting -/
def brk : Int → List (Int × Int) → Nat
  | _, [] => 0
  | a, p :: r => (if jn a p.1 then 0 else 1) + brk p.1 r
theorem clG_len : ∀ (l : List (Int × Int)) (c : Clu) (a : Int), (clG c a l).length = 1 + brk a l
  | [], _, _ => rfl
  | p :: l, c, a => by
    simp only [clG, brk]
    split
    · rw [clG_len l]; omega
    · rw [List.length_cons, clG_len l]; omega
theorem brk_app : ∀ (l1 : List (Int × Int)) (a : Int) (l2 : List (Int × Int)), brk a (l1 ++ l2) = brk a l1 + brk (lastC a l1) l2
  | [], _, _ => by simp [brk, lastC]
  | p :: l1, a, l2 => by simp only [List.cons_append, brk, lastC, brk_app l1]; omega
theorem brk_any (a b : Int) : ∀ l : List (Int × Int), brk a l ≤ 1 + brk b l
  | [] => by simp [brk]
  | p :: l => by
    simp only [brk]
    split <;> split <;> omega
theorem brk_cons (a : Int) (p : Int × Int) (l : List (Int × Int)) : brk a (p :: l) ≤ 1 + brk p.1 l := by
  simp only [brk]; split <;> omega
theorem jn_bad (a : Int) : jn a (-1) = false := by
  unfold jn
  rw [if_neg (by decide)]
  have : cls (-1) = 5 := by decide +kernel
  simp [this]
theorem last_bads : ∀ n : Nat, lastC (-1) (List.replicate n (-1, 1)) = -1
  | 0 => rfl
  | n + 1 => by simp only [List.replicate_succ, lastC]; exact last_bads n
theorem clU_len (i : Nat) (p : Int × Int) (l : List (Int × Int)) : (clU i (p :: l)).length = 1 + brk p.1 l := by simp only [clU, clG_len]
theorem cl_none {a b : ByteArray} : (cl (a ++ b)).length ≤ (cl a).length + (cl b).length := by
  have hs := size_app a b
  rw [cl_us (a ++ b), cl_us a, cl_us b]
  by_cases hB : B (a ++ b) a.size
  · rw [us_seam_B hB]
    cases ha : us a 0 with
    | nil => simp [clU]
    | cons p r =>
      cases hb : us b 0 with
      | nil => simp [clU]
      | cons q l =>
        rw [List.cons_append, clU_len, clU_len, clU_len, brk_app]
        have := brk_cons (lastC p.1 r) q l
        omega
  · have hlt : a.size < (a ++ b).size := by
      by_cases e : a.size = (a ++ b).size
      · rw [e] at hB; exact absurd (B_end _) hB
      · omega
    have hd := dnF_Dn hlt
    have hne : dnF (a ++ b) a.size ≠ a.size := fun e => hB (by have := hd.bd; rwa [e] at this)
    obtain ⟨P, h1, h2, h3, _⟩ := us_seam_C hd hne hlt
    have g1 := hd.le
    have g2 := hd.gt
    obtain ⟨k, hk⟩ : ∃ k, a.size - dnF (a ++ b) a.size = k + 1 := ⟨a.size - dnF (a ++ b) a.size - 1, by omega⟩
    obtain ⟨m, hm⟩ : ∃ m, dnF (a ++ b) a.size + sz (a ++ b) (dnF (a ++ b) a.size) - a.size = m + 1 := ⟨dnF (a ++ b) a.size + sz (a ++ b) (dnF (a ++ b) a.size) - a.size - 1, by omega⟩
    rw [hk] at h2
    rw [hm] at h3
    rw [h1, h2, h3]
    generalize us (a ++ b) (dnF (a ++ b) a.size + sz (a ++ b) (dnF (a ++ b) a.size)) = S
    generalize pr (a ++ b) (dnF (a ++ b) a.size) = u
    have hb : 1 + brk (-1) S ≤ (clU 0 (List.replicate (m + 1) (-1, 1) ++ S)).length := by
      rw [List.replicate_succ, List.cons_append, clU_len, brk_app, last_bads]
      omega
    have hu := brk_any u.1 (-1) S
    cases P with
    | nil =>
      rw [List.nil_append, List.nil_append, clU_len, List.replicate_succ, clU_len]
      omega
    | cons p r =>
      rw [List.cons_append, List.cons_append, clU_len, clU_len, brk_app, brk_app, List.replicate_succ]
      have g3 := brk_cons (lastC p.1 r) u S
      have g4 : 1 ≤ brk (lastC p.1 r) ((-1, 1) :: List.replicate k (-1, 1)) := by
        simp only [brk, jn_bad]
        simp
      omega

/-! what is drawn for a text that is cut at a boundary -/
theorem sub_eq (s : ByteArray) (i j : Nat) : sub s i j = (s.data.toList.drop i).take (j - i) := by
  unfold sub
  rw [ByteArray.data_extract, Array.toList_extract, List.extract_eq_take_drop]
theorem data_app (a b : ByteArray) : (a ++ b).data.toList = a.data.toList ++ b.data.toList := by simp
theorem sub_left {a b : ByteArray} {i j : Nat} (h : j ≤ a.size) : sub (a ++ b) i j = sub a i j := by
  rw [sub_eq, sub_eq, data_app]
  have hl : a.data.toList.length = a.size := by rw [Lib.size_eq]
  by_cases hi : i ≤ a.size
  · rw [List.drop_append_of_le_length (by omega), List.take_append_of_le_length (by rw [List.length_drop]; omega)]
  · rw [show j - i = 0 by omega]; simp
theorem sub_right {a b : ByteArray} {i j : Nat} : sub (a ++ b) (i + a.size) (j + a.size) = sub b i j := by
  rw [sub_eq, sub_eq, data_app]
  have hl : a.data.toList.length = a.size := by rw [Lib.size_eq]
  rw [show i + a.size = a.data.toList.length + i by omega, List.drop_append, List.drop_eq_nil_of_le (by omega), List.nil_append, show a.data.toList.length + i - a.data.toList.length = i by omega, show j + a.size - (a.data.toList.length + i) = j - i by omega]
theorem drawn_cut {a b : ByteArray} (h : cbZ (a ++ b) a.size = true) : drawnL (a ++ b) (cl (a ++ b)) = drawnL a (cl a) ++ drawnL b (cl b) := by
  rw [cl_cut h, drawnL_app]
  congr 1
  · have : ∀ l : List Clu, (∀ c ∈ l, c.to ≤ a.size) → drawnL (a ++ b) l = drawnL a l := fun l => by
      induction l with
      | nil => intro _; rfl
      | cons c r ih =>
        intro hl
        simp only [drawnL, List.flatMap_cons]
        rw [sub_left (hl c (by simp))]
        have := ih (fun d hd => hl d (by simp [hd]))
        simp only [drawnL] at this
        rw [this]
    exact this _ (fun c hc => (cl_span hc).2)
  · have : ∀ l : List Clu, drawnL (a ++ b) (l.map (sh a.size)) = drawnL b l := fun l => by
      induction l with
      | nil => rfl
      | cons c r ih =>
        simp only [drawnL, List.map_cons, List.flatMap_cons] at ih ⊢
        rw [ih]
        simp only [sh]
        rw [sub_right]
    exact this _
theorem sumN_sh (d : Nat) : ∀ l : List Clu, sumN (l.map (sh d)) = sumN l
  | [] => rfl
  | c :: l => by simp only [List.map_cons, sumN, sumN_sh d l]; rfl
theorem extract_cut (s : ByteArray) (i : Nat) (h : i ≤ s.size) : s.extract 0 i ++ s.extract i s.size = s := by
  apply ByteArray.ext
  rw [ByteArray.data_append, ByteArray.data_extract, ByteArray.data_extract]
  apply Array.ext'
  have hl : s.data.toList.length = s.size := by rw [Lib.size_eq]
  rw [Array.toList_append, Array.toList_extract, Array.toList_extract, List.extract_eq_take_drop, List.extract_eq_take_drop, List.drop_zero, Nat.sub_zero, List.take_of_length_le (l := List.drop i s.data.toList) (by rw [List.length_drop]; omega), List.take_append_drop]
end Go.Proofs.YtfjoklbiocniiaaDoor
