/-
  A text laid on a grid, in plain words: cells, the state while clusters are laid, rows without the blanks at their ends. No program is walked in this text; no conditions.
-/
import Derived.Test.YtfjoklbiocniiaaDoorKBase
namespace Go.Proofs.YtfjoklbiocniiaaDoor

/-- a cell -/
structure Cel where
  tx : ByteArray
  sp : Int
/-- what is laid of a cluster: its cells, whether it is wide, what is drawn for it -/
structure Cu where
  n : Nat
  wide : Bool
  dr : ByteArray
/-- the rows that are done, the row under way, the pen's column -/
structure Lst where
  rows : List (List Cel)
  cur : List Cel
  col : Nat
def lst0 : Lst := ⟨[], [], 0⟩
def fffd : ByteArray := ⟨#[239, 191, 189]⟩
def putC (W : Nat) (u : Cu) : List Cel :=
  if u.n = 0 then [] else if u.n = 1 then [⟨u.dr, 1⟩] else if W = 1 then [⟨fffd, 1⟩] else if u.wide then [⟨u.dr, 2⟩, ⟨⟨#[]⟩, 0⟩] else [⟨u.dr.extract 0 1, 1⟩, ⟨u.dr.extract 1 u.dr.size, 1⟩]
def dwn (s : Lst) : Lst := ⟨s.rows ++ [s.cur], [], 0⟩
/-- ahead of a cluster that takes n columns -/
def fitS (W n : Nat) (s : Lst) : Lst := if W < s.col + n then dwn s else s
def fulS (W : Nat) (s : Lst) : Lst := if s.col = W then dwn s else s
def stpL (W : Nat) (s : Lst) (u : Cu) : Lst :=
  if u.n = 0 then dwn s else let t := fitS W (min u.n W) s; fulS W ⟨t.rows, t.cur ++ putC W u, t.col + min u.n W⟩
structure Lst.Ok (W : Nat) (s : Lst) : Prop where
  lt : s.col < W
  len : s.cur.length = s.col
theorem dwn_ok {W : Nat} (hW : 1 ≤ W) (s : Lst) : (dwn s).Ok W := ⟨hW, rfl⟩
theorem putC_len {W : Nat} {u : Cu} (hW : 1 ≤ W) (hu : u.n ≤ 2) (h0 : u.n ≠ 0) : (putC W u).length = min u.n W := by
  unfold putC
  rw [if_neg h0]
  split
  · simp only [List.length_cons, List.length_nil]; omega
  · split
    · simp only [List.length_cons, List.length_nil]; omega
    · split <;> simp only [List.length_cons, List.length_nil] <;> omega
theorem fitS_ok {W n : Nat} (hW : 1 ≤ W) {s : Lst} (h : s.Ok W) : (fitS W n s).Ok W := by
  unfold fitS
  split
  · exact dwn_ok hW s
  · exact h
theorem fitS_le {W n : Nat} (hn : n ≤ W) {s : Lst} : (fitS W n s).col + n ≤ W := by
  unfold fitS
  split
  · show 0 + n ≤ W; omega
  · omega
theorem stpL_ok {W : Nat} (hW : 1 ≤ W) {s : Lst} {u : Cu} (hu : u.n ≤ 2) (h : s.Ok W) : (stpL W s u).Ok W := by
  unfold stpL
  split
  · exact dwn_ok hW s
  · rename_i h0
    have hf := fitS_ok (n := min u.n W) hW h
    have hle := fitS_le (W := W) (n := min u.n W) (by omega) (s := s)
    have hp := putC_len hW hu h0
    simp only
    generalize fitS W (min u.n W) s = t at hf hle
    unfold fulS
    simp only
    split
    · exact dwn_ok hW _
    · rename_i hne
      exact ⟨by show t.col + min u.n W < W; omega, by show (t.cur ++ putC W u).length = t.col + min u.n W; rw [List.length_append, hp, hf.len]⟩
/-- the rows, and the pen's place -/
def Lst.all (s : Lst) : List (List Cel) := s.rows ++ [s.cur]
def Lst.pen (s : Lst) : Nat × Nat := (s.rows.length, s.col)
theorem Lst.all_len (s : Lst) : s.all.length = s.pen.1 + 1 := by simp [Lst.all, Lst.pen]
/-- all clusters, one behind the other -/
def layL (W : Nat) (s : Lst) (l : List Cu) : Lst := l.foldl (stpL W) s
theorem layL_ok {W : Nat} (hW : 1 ≤ W) : ∀ {l : List Cu} {s : Lst}, (∀ u ∈ l, u.n ≤ 2) → s.Ok W → (layL W s l).Ok W
  | [], _, _, h => h
  | u :: l, s, hl, h => by
    show (layL W (stpL W s u) l).Ok W
    exact layL_ok hW (fun v hv => hl v (List.mem_cons_of_mem _ hv)) (stpL_ok hW (hl u List.mem_cons_self) h)
theorem layL_snoc (W : Nat) (s : Lst) (l : List Cu) (u : Cu) : layL W s (l ++ [u]) = stpL W (layL W s l) u := by simp [layL]
theorem lst0_ok {W : Nat} (hW : 1 ≤ W) : lst0.Ok W := ⟨hW, rfl⟩
/-- the pen goes on: no two of its places are one -/
theorem stpL_on {W : Nat} (hW : 1 ≤ W) {s : Lst} {u : Cu} : s.pen.1 < (stpL W s u).pen.1 ∨ (s.pen.1 = (stpL W s u).pen.1 ∧ s.pen.2 < (stpL W s u).pen.2) := by
  unfold stpL
  split
  · left; simp [Lst.pen, dwn]
  · rename_i h0
    simp only
    have hm : 1 ≤ min u.n W := by omega
    unfold fitS
    split
    · left
      unfold fulS
      split <;> simp [Lst.pen, dwn] <;> omega
    · unfold fulS
      split
      · left; simp [Lst.pen, dwn]
      · right
        refine ⟨rfl, ?_⟩
        show s.col < s.col + min u.n W
        omega
/-- a row without the blanks at its end -/
def blkC (c : Cel) : Bool := decide (c.tx = ⟨#[32]⟩) && decide (c.sp = 1)
def trmL (l : List Cel) : List Cel := (l.reverse.dropWhile blkC).reverse
theorem trm_snoc_blk {l : List Cel} {c : Cel} (h : blkC c = true) : trmL (l ++ [c]) = trmL l := by simp [trmL, h]
theorem trm_snoc_no {l : List Cel} {c : Cel} (h : blkC c = false) : trmL (l ++ [c]) = l ++ [c] := by simp [trmL, h]
theorem trm_nil : trmL [] = [] := rfl
end Go.Proofs.YtfjoklbiocniiaaDoor
