/-
  Plain facts on words and the forms of letters, text by text. No program is walked in this text; no conditions.
-/
import Derived.Test.YtdggbnkhbmffoaaGreatDoorPkB
import Derived.Test.YtdggbnkhbmffoaaGreatDoorPkA
namespace Go.Proofs.YtdggbnkhbmffoaaGreatDoor
open Bod Wid

/-- the characters from U+00AA on that are no word characters, whatever their class -/
def butR : List (Int × Int) := [(171, 180), (182, 185), (187, 191), (215, 215), (247, 247), (8192, 8203), (8206, 8303), (11776, 11903), (12288, 12292), (12296, 12320), (12336, 12336), (65072, 65135), (65281, 65295), (65306, 65312)]
/-- a word character -/
def wch (c : Int) : Bool := decide ((48 ≤ c ∧ c ≤ 57) ∨ (65 ≤ c ∧ c ≤ 90) ∨ (97 ≤ c ∧ c ≤ 122) ∨ c = 95) || (decide (170 ≤ c) && !inR butR c && decide (cls c = 3 ∨ cls c = 4 ∨ cls c = 0))
/-- pairs of the n small letters from a, step by step, each with the one by below -/
def prun (a : Int) (n : Nat) (step d : Int) : List (Int × Int) := ((List.range n).map fun (i : Nat) => (a + (i : Int) * step, a + (i : Int) * step - d)).filter fun p => decide (p.1 ≠ 305)
/-- the pairs of a small and a large letter -/
def prs : List (Int × Int) := prun 97 26 1 32 ++ prun 224 23 1 32 ++ prun 248 7 1 32 ++ [(255, 376)] ++ prun 257 28 2 1 ++ prun 331 23 2 1 ++ prun 945 17 1 32 ++ prun 963 7 1 32 ++ prun 1072 32 1 32 ++ prun 1104 16 1 80 ++ prun 1121 17 2 1
def upc (c : Int) : Int := match prs.find? (fun p => decide (p.1 = c)) with | some p => p.2 | none => c
def lowc (c : Int) : Int := match prs.find? (fun p => decide (p.2 = c)) with | some p => p.1 | none => c
theorem up_cases (c : Int) : (upc c = c ∧ ∀ p ∈ prs, p.1 ≠ c) ∨ (c, upc c) ∈ prs := by
  unfold upc
  cases h : prs.find? (fun p => decide (p.1 = c)) with
  | none =>
    refine .inl ⟨rfl, fun p hp e => ?_⟩
    have := List.find?_eq_none.1 h p hp
    simp [e] at this
  | some p =>
    refine .inr ?_
    have h1 : p.1 = c := by simpa using List.find?_some h
    have h2 := List.mem_of_find?_eq_some h
    show (c, p.2) ∈ prs
    rw [← h1]
    exact h2
theorem low_cases (c : Int) : (lowc c = c ∧ ∀ p ∈ prs, p.2 ≠ c) ∨ (lowc c, c) ∈ prs := by
  unfold lowc
  cases h : prs.find? (fun p => decide (p.2 = c)) with
  | none =>
    refine .inl ⟨rfl, fun p hp e => ?_⟩
    have := List.find?_eq_none.1 h p hp
    simp [e] at this
  | some p =>
    refine .inr ?_
    have h1 : p.2 = c := by simpa using List.find?_some h
    have h2 := List.mem_of_find?_eq_some h
    show (p.1, c) ∈ prs
    rw [← h1]
    exact h2
/-- of each pair: its forms, and what the two have in common -/
theorem prs_all : (prs.all fun p => decide (upc p.1 = p.2) && decide (lowc p.2 = p.1) && decide (upc p.2 = p.2) && decide (lowc p.1 = p.1) && (wch p.1 && wch p.2) && decide (cls p.1 = 0) && decide (cls p.2 = 0) && decide (65 ≤ p.1 ∧ p.1 < 2048) && decide (65 ≤ p.2 ∧ p.2 < 2048) && (decide (p.1 < 128) == decide (p.2 < 128)) && decide (p.1 ≠ p.2)) = true := by decide +kernel
theorem pair {a b : Int} (h : (a, b) ∈ prs) : (upc a = b ∧ lowc b = a ∧ upc b = b ∧ lowc a = a) ∧ (wch a = true ∧ wch b = true) ∧ (cls a = 0 ∧ cls b = 0) ∧ (65 ≤ a ∧ a < 2048) ∧ (65 ≤ b ∧ b < 2048) ∧ (a < 128 ↔ b < 128) ∧ a ≠ b := by
  have := List.all_eq_true.1 prs_all (a, b) h
  simp only [Bool.and_eq_true, decide_eq_true_eq, beq_iff_eq, decide_eq_decide] at this
  obtain ⟨⟨⟨⟨⟨⟨⟨⟨⟨⟨h1, h2⟩, h3⟩, h4⟩, h5⟩, h6⟩, h7⟩, h8⟩, h9⟩, h10⟩, h11⟩ := this
  exact ⟨⟨h1, h2, h3, h4⟩, h5, ⟨h6, h7⟩, h8, h9, h10, h11⟩
theorem up_wch (c : Int) : wch (upc c) = wch c := by
  rcases up_cases c with h | h
  · rw [h.1]
  · obtain ⟨_, ⟨h1, h2⟩, _⟩ := pair h; rw [h1, h2]
theorem low_wch (c : Int) : wch (lowc c) = wch c := by
  rcases low_cases c with h | h
  · rw [h.1]
  · obtain ⟨_, ⟨h1, h2⟩, _⟩ := pair h; rw [h1, h2]
theorem up_cls (c : Int) : cls (upc c) = cls c := by
  rcases up_cases c with h | h
  · rw [h.1]
  · obtain ⟨_, _, ⟨h1, h2⟩, _⟩ := pair h; rw [h1, h2]
theorem low_cls (c : Int) : cls (lowc c) = cls c := by
  rcases low_cases c with h | h
  · rw [h.1]
  · obtain ⟨_, _, ⟨h1, h2⟩, _⟩ := pair h; rw [h1, h2]
theorem up_eq {c d : Int} (hd : d < 65) : upc c = d ↔ c = d := by
  rcases up_cases c with h | h
  · rw [h.1]
  · obtain ⟨_, _, _, h1, h2, _⟩ := pair h
    constructor <;> intro e <;> omega
theorem low_eq {c d : Int} (hd : d < 65) : lowc c = d ↔ c = d := by
  rcases low_cases c with h | h
  · rw [h.1]
  · obtain ⟨_, _, _, h1, h2, _⟩ := pair h
    constructor <;> intro e <;> omega
theorem up_len (c : Int) : (upc c < 128 ↔ c < 128) ∧ (upc c < 2048 ↔ c < 2048) ∧ (upc c < 65536 ↔ c < 65536) := by
  rcases up_cases c with h | h
  · rw [h.1]; exact ⟨Iff.rfl, Iff.rfl, Iff.rfl⟩
  · obtain ⟨_, _, _, h1, h2, h3, _⟩ := pair h
    exact ⟨h3.symm, by omega, by omega⟩
theorem low_len (c : Int) : (lowc c < 128 ↔ c < 128) ∧ (lowc c < 2048 ↔ c < 2048) ∧ (lowc c < 65536 ↔ c < 65536) := by
  rcases low_cases c with h | h
  · rw [h.1]; exact ⟨Iff.rfl, Iff.rfl, Iff.rfl⟩
  · obtain ⟨_, _, _, h1, h2, h3, _⟩ := pair h
    exact ⟨h3, by omega, by omega⟩
/-- a form is a character just where the other is -/
theorem up_bad (c : Int) : bad (upc c) ↔ bad c := by
  rcases up_cases c with h | h
  · rw [h.1]
  · obtain ⟨_, _, _, h1, h2, _⟩ := pair h
    unfold bad; omega
theorem low_bad (c : Int) : bad (lowc c) ↔ bad c := by
  rcases low_cases c with h | h
  · rw [h.1]
  · obtain ⟨_, _, _, h1, h2, _⟩ := pair h
    unfold bad; omega
theorem up_up (c : Int) : upc (upc c) = upc c := by
  rcases up_cases c with h | h
  · rw [h.1, h.1]
  · exact (pair h).1.2.2.1
theorem low_low (c : Int) : lowc (lowc c) = lowc c := by
  rcases low_cases c with h | h
  · rw [h.1, h.1]
  · exact (pair h).1.2.2.2
theorem low_up (c : Int) : lowc (upc c) = lowc c := by
  rcases up_cases c with h | h
  · rw [h.1]
  · obtain ⟨⟨_, h1, _, h2⟩, _⟩ := pair h; rw [h1, h2]
theorem up_low (c : Int) : upc (lowc c) = upc c := by
  rcases low_cases c with h | h
  · rw [h.1]
  · obtain ⟨⟨h1, _, h2, _⟩, _⟩ := pair h; rw [h1, h2]
/-- what has another upper form has no other lower one, and leads back -/
theorem up_back {c : Int} (h : upc c ≠ c) : lowc c = c ∧ lowc (upc c) = c ∧ upc (upc c) = upc c := by
  rcases up_cases c with h1 | h1
  · exact absurd h1.1 h
  · obtain ⟨⟨_, e1, e2, e3⟩, _⟩ := pair h1; exact ⟨e3, e1, e2⟩
theorem low_back {c : Int} (h : lowc c ≠ c) : upc c = c ∧ upc (lowc c) = c ∧ lowc (lowc c) = lowc c := by
  rcases low_cases c with h1 | h1
  · exact absurd h1.1 h
  · obtain ⟨⟨e1, _, e2, e3⟩, _⟩ := pair h1; exact ⟨e2, e1, e3⟩
/-- what joins two units asks their classes and the ends of lines alone -/
theorem up_jn (a u : Int) : jn (upc a) (upc u) = jn a u := by
  unfold jn
  simp only [up_cls, up_eq (c := a) (d := 13) (by omega), up_eq (c := u) (d := 10) (by omega)]
theorem low_jn (a u : Int) : jn (lowc a) (lowc u) = jn a u := by
  unfold jn
  simp only [low_cls, low_eq (c := a) (d := 13) (by omega), low_eq (c := u) (d := 10) (by omega)]
end Go.Proofs.YtdggbnkhbmffoaaGreatDoor
namespace Go.Proofs.YtdggbnkhbmffoaaGreatDoor
open Bod Wid

/-- the spans of the greatest runs, an open one carried along -/
def wrun (p : Clu → Bool) : Option (Nat × Nat) → List Clu → List (Nat × Nat)
  | none, [] => []
  | some x, [] => [x]
  | none, c :: r => if p c then wrun p (some (c.fr, c.to)) r else wrun p none r
  | some x, c :: r => if p c then wrun p (some (x.1, c.to)) r else x :: wrun p none r
/-- the words of a list of clusters -/
def wsp (p : Clu → Bool) (l : List Clu) : List (Nat × Nat) := wrun p none l
/-- where a run that is open at t ends -/
def lastTo (p : Clu → Bool) : Nat → List Clu → Nat
  | t, [] => t
  | t, c :: r => if p c then lastTo p c.to r else t
theorem wrun_some (p : Clu → Bool) : ∀ (l : List Clu) (x : Nat × Nat), wrun p (some x) l = (x.1, lastTo p x.2 l) :: wrun p none (l.dropWhile p)
  | [], x => by simp [wrun, lastTo]
  | c :: r, x => by
    by_cases h : p c = true
    · simp only [wrun, lastTo, if_pos h, List.dropWhile_cons]
      exact wrun_some p r (x.1, c.to)
    · simp only [wrun, lastTo, List.dropWhile_cons, if_neg h]
/-- the words that begin at the index i or behind it -/
def wfrom (p : Clu → Bool) (l : List Clu) (i : Nat) : List (Nat × Nat) :=
  wrun p none (if i ≠ 0 ∧ (l[i - 1]?.map p).getD false = true then (l.drop i).dropWhile p else l.drop i)
theorem wfrom_zero (p : Clu → Bool) (l : List Clu) : wfrom p l 0 = wsp p l := by simp [wfrom, wsp]
theorem wfrom_end (p : Clu → Bool) (l : List Clu) {i : Nat} (h : l.length ≤ i) : wfrom p l i = [] := by
  unfold wfrom
  rw [List.drop_of_length_le h]
  simp [wrun]
theorem drop_at {l : List Clu} {i : Nat} {c : Clu} (h : l[i]? = some c) : l.drop i = c :: l.drop (i + 1) := by
  have hi := (List.getElem?_eq_some_iff.1 h).1
  rw [List.drop_eq_getElem_cons hi]
  congr 1
  exact (List.getElem?_eq_some_iff.1 h).2
/-- no word begins at a cluster that is none of a word -/
theorem wfrom_not {p : Clu → Bool} {l : List Clu} {i : Nat} {c : Clu} (h : l[i]? = some c) (hp : p c = false) : wfrom p l i = wfrom p l (i + 1) := by
  have e : wrun p none (l.drop i) = wrun p none (l.drop (i + 1)) := by rw [drop_at h]; simp [wrun, hp]
  have e2 : wrun p none ((l.drop i).dropWhile p) = wrun p none (l.drop i) := by rw [drop_at h]; simp [hp]
  unfold wfrom
  rw [if_neg (show ¬ (i + 1 ≠ 0 ∧ (l[i + 1 - 1]?.map p).getD false = true) by rw [Nat.add_sub_cancel, h]; simp [hp]), ← e]
  split
  · exact e2
  · rfl
/-- nor at one within a word -/
theorem wfrom_in {p : Clu → Bool} {l : List Clu} {i : Nat} {c d : Clu} (h : l[i + 1]? = some c) (hp : p c = true) (hd : l[i]? = some d) (hq : p d = true) : wfrom p l (i + 1) = wfrom p l (i + 1 + 1) := by
  unfold wfrom
  rw [if_pos (show i + 1 ≠ 0 ∧ (l[i + 1 - 1]?.map p).getD false = true by rw [Nat.add_sub_cancel, hd]; simp [hq]), if_pos (show i + 1 + 1 ≠ 0 ∧ (l[i + 1 + 1 - 1]?.map p).getD false = true by rw [Nat.add_sub_cancel, h]; simp [hp]), drop_at h]
  simp [hp]
/-- at a word's first cluster it is told, up to the end of its run -/
theorem wfrom_start {p : Clu → Bool} {l : List Clu} {i : Nat} {c : Clu} (h : l[i]? = some c) (hp : p c = true) (hs : i = 0 ∨ ∃ d, l[i - 1]? = some d ∧ p d = false) : wfrom p l i = (c.fr, lastTo p c.to (l.drop (i + 1))) :: wfrom p l (i + 1) := by
  unfold wfrom
  rw [if_neg (show ¬ (i ≠ 0 ∧ (l[i - 1]?.map p).getD false = true) by
    rintro ⟨h0, h1⟩
    rcases hs with hs | ⟨d, hd, hq⟩
    · exact h0 hs
    · rw [hd] at h1; simp [hq] at h1), if_pos (show i + 1 ≠ 0 ∧ (l[i + 1 - 1]?.map p).getD false = true by rw [Nat.add_sub_cancel, h]; simp [hp]), drop_at h]
  simp only [wrun, if_pos hp]
  exact wrun_some p _ _
/-- the end of a run, found index by index -/
theorem lastTo_step {p : Clu → Bool} {l : List Clu} {k : Nat} {c : Clu} {t : Nat} (h : l[k + 1]? = some c) (hp : p c = true) : lastTo p t (l.drop (k + 1)) = lastTo p c.to (l.drop (k + 1 + 1)) := by
  rw [drop_at h]
  simp [lastTo, hp]
theorem lastTo_stop {p : Clu → Bool} {l : List Clu} {k t : Nat} (h : ∀ c, l[k + 1]? = some c → p c = false) : lastTo p t (l.drop (k + 1)) = t := by
  cases hc : l[k + 1]? with
  | none =>
    rw [List.drop_of_length_le (List.getElem?_eq_none_iff.1 hc)]
    rfl
  | some c =>
    rw [drop_at hc]
    simp [lastTo, h c hc]
/-- spans lie one behind the other, apart -/
theorem wrun_len (p : Clu → Bool) : ∀ (l : List Clu) (x : Option (Nat × Nat)), (wrun p x l).length ≤ l.length + (if x.isSome then 1 else 0)
  | [], none => by simp [wrun]
  | [], some x => by simp [wrun]
  | c :: r, none => by
    by_cases h : p c = true
    · have := wrun_len p r (some (c.fr, c.to))
      simp only [wrun, if_pos h, List.length_cons]
      simpa using this
    · have := wrun_len p r none
      simp only [wrun, if_neg h, List.length_cons]
      simp at this ⊢
      omega
  | c :: r, some x => by
    by_cases h : p c = true
    · have := wrun_len p r (some (x.1, c.to))
      simp only [wrun, if_pos h, List.length_cons]
      simp at this ⊢
      omega
    · have := wrun_len p r none
      simp only [wrun, if_neg h, List.length_cons]
      simp at this ⊢
      omega
theorem wsp_len (p : Clu → Bool) (l : List Clu) : (wsp p l).length ≤ l.length := by
  have := wrun_len p l none
  show (wrun p none l).length ≤ _
  simpa using this
/-- the words of a text: its clusters marked by their first unit -/
def words (s : ByteArray) : List (Nat × Nat) := wsp (fun c => wch (ch s c.fr)) (cl s)
end Go.Proofs.YtdggbnkhbmffoaaGreatDoor
namespace Go.Proofs.YtdggbnkhbmffoaaGreatDoor
open Bod

set_option maxHeartbeats 4000000 in
theorem dec_short {n m b0 b1 b2 b3 : Nat} (hn : n ≤ m) (hL : (Lib.decodeN m b0 b1 b2 b3).2 ≤ n) : Lib.decodeN n b0 b1 b2 b3 = Lib.decodeN m b0 b1 b2 b3 := by
  by_cases hb : Lib.decodeN m b0 b1 b2 b3 = (65533, 1)
  · rw [hb]; exact dec_bad_mono hn hb
  · by_cases h0 : b0 < 128
    · simp only [Lib.decodeN, if_pos h0]
    · unfold Lib.decodeN at hb hL ⊢
      rw [if_neg h0] at hb hL ⊢
      rw [if_neg h0]
      by_cases c1 : b0 / 32 = 6 ∧ (1 < m ∧ b1 / 64 = 2)
      · rw [if_pos c1] at hb hL ⊢
        split at hb
        · rename_i g
          rw [if_pos g] at hL ⊢
          rw [if_pos (show b0 / 32 = 6 ∧ (1 < n ∧ b1 / 64 = 2) by simp only at hL; omega)]
        · exact absurd rfl hb
      · rw [if_neg c1] at hb hL ⊢
        rw [if_neg (show ¬ (b0 / 32 = 6 ∧ (1 < n ∧ b1 / 64 = 2)) by omega)]
        by_cases c2 : b0 / 16 = 14 ∧ (1 < m ∧ b1 / 64 = 2) ∧ (2 < m ∧ b2 / 64 = 2)
        · rw [if_pos c2] at hb hL ⊢
          split at hb
          · rename_i g
            rw [if_pos g] at hL ⊢
            rw [if_pos (show b0 / 16 = 14 ∧ (1 < n ∧ b1 / 64 = 2) ∧ (2 < n ∧ b2 / 64 = 2) by simp only at hL; omega)]
          · exact absurd rfl hb
        · rw [if_neg c2] at hb hL ⊢
          rw [if_neg (show ¬ (b0 / 16 = 14 ∧ (1 < n ∧ b1 / 64 = 2) ∧ (2 < n ∧ b2 / 64 = 2)) by omega)]
          by_cases c3 : b0 / 8 = 30 ∧ (1 < m ∧ b1 / 64 = 2) ∧ (2 < m ∧ b2 / 64 = 2) ∧ (3 < m ∧ b3 / 64 = 2)
          · rw [if_pos c3] at hb hL ⊢
            split at hb
            · rename_i g
              rw [if_pos g] at hL ⊢
              rw [if_pos (show b0 / 8 = 30 ∧ (1 < n ∧ b1 / 64 = 2) ∧ (2 < n ∧ b2 / 64 = 2) ∧ (3 < n ∧ b3 / 64 = 2) by simp only at hL; omega)]
            · exact absurd rfl hb
          · rw [if_neg c3] at hb
            exact absurd rfl hb
/-- the first unit of a piece that holds all of it -/
theorem un_first {s : ByteArray} {i j : Nat} (hi : i < s.size) (hj : i + sz s i ≤ j) (h : j ≤ s.size) : un (s.extract i j) 0 = un s i := by
  have hz := (dec_sz (s.size - i) (bt s i) (bt s (i + 1)) (bt s (i + 2)) (bt s (i + 3)) (by omega)).1
  have hz' : 1 ≤ sz s i := hz
  obtain ⟨n, rfl⟩ : ∃ n, j = i + n := ⟨j - i, by omega⟩
  rw [un_piece s i n (by omega) h]
  exact dec_short (by omega) (show sz s i ≤ n by omega)
theorem ch_first {s : ByteArray} {i j : Nat} (hi : i < s.size) (hj : i + sz s i ≤ j) (h : j ≤ s.size) : ch (s.extract i j) 0 = ch s i ∧ sz (s.extract i j) 0 = sz s i := by
  have := un_first hi hj h
  unfold ch sz
  rw [this]
  exact ⟨rfl, rfl⟩
end Go.Proofs.YtdggbnkhbmffoaaGreatDoor
namespace Go.Proofs.YtdggbnkhbmffoaaGreatDoor
open Bod Wid

/-- one more cluster: it goes on with the last word, or begins one -/
def wst (p : Clu → Bool) (a : List (Nat × Nat)) (c : Clu) : List (Nat × Nat) :=
  if p c then (match a.getLast? with
    | some x => if x.2 = c.fr then a.dropLast ++ [(x.1, c.to)] else a ++ [(c.fr, c.to)]
    | none => a ++ [(c.fr, c.to)]) else a
def wac (p : Clu → Bool) (l : List Clu) : List (Nat × Nat) := l.foldl (wst p) []
theorem wac_snoc (p : Clu → Bool) (l : List Clu) (c : Clu) : wac p (l ++ [c]) = wst p (wac p l) c := by simp [wac]
theorem wst_no {p : Clu → Bool} {a : List (Nat × Nat)} {c : Clu} (h : p c = false) : wst p a c = a := by simp [wst, h]
theorem wst_on {p : Clu → Bool} {a : List (Nat × Nat)} {x : Nat} {c : Clu} (h : p c = true) : wst p (a ++ [(x, c.fr)]) c = a ++ [(x, c.to)] := by simp [wst, h]
theorem wst_new {p : Clu → Bool} {a : List (Nat × Nat)} {c : Clu} (h : p c = true) (hl : ∀ y, a.getLast? = some y → y.2 ≠ c.fr) : wst p a c = a ++ [(c.fr, c.to)] := by
  unfold wst
  rw [if_pos h]
  cases hy : a.getLast? with
  | none => rfl
  | some y => simp only; rw [if_neg (hl y hy)]
theorem wst_fold (p : Clu → Bool) : ∀ (l : List Clu) (i j : Nat), tiled i l j → (∀ a x, l.foldl (wst p) (a ++ [(x, i)]) = a ++ wrun p (some (x, i)) l) ∧ (∀ a, (∀ y, a.getLast? = some y → y.2 < i) → l.foldl (wst p) a = a ++ wrun p none l)
  | [], i, j, _ => ⟨fun a x => rfl, fun a _ => by simp [wrun]⟩
  | c :: r, i, j, h => by
    obtain ⟨h1, h2, h3⟩ := h
    obtain ⟨k1, k2⟩ := wst_fold p r c.to j h3
    subst h1
    refine ⟨fun a x => ?_, fun a ha => ?_⟩
    · by_cases hp : p c = true
      · rw [List.foldl_cons, wst_on hp, k1]
        simp [wrun, hp]
      · rw [Bool.not_eq_true] at hp
        rw [List.foldl_cons, wst_no hp, k2 _ (fun y hy => by simp at hy; rw [← hy]; exact h2)]
        simp [wrun, hp]
    · by_cases hp : p c = true
      · rw [List.foldl_cons, wst_new hp (fun y hy => by have := ha y hy; omega), k1]
        simp [wrun, hp]
      · rw [Bool.not_eq_true] at hp
        rw [List.foldl_cons, wst_no hp, k2 _ (fun y hy => by have := ha y hy; omega)]
        simp [wrun, hp]
theorem wac_eq (p : Clu → Bool) {l : List Clu} {i j : Nat} (h : tiled i l j) : wac p l = wsp p l := by
  have := (wst_fold p l i j h).2 [] (fun y hy => by cases hy)
  simpa [wac, wsp] using this
/-- where words lie -/
theorem wrun_mem (p : Clu → Bool) (lo : Nat) : ∀ (l : List Clu) (i j : Nat) (x : Option (Nat × Nat)), tiled i l j → lo ≤ i → (∀ y, x = some y → lo ≤ y.1 ∧ y.1 < y.2 ∧ y.2 ≤ i) → ∀ w ∈ wrun p x l, lo ≤ w.1 ∧ w.1 < w.2 ∧ w.2 ≤ j
  | [], i, j, none, _, _, _, w, hw => by simp [wrun] at hw
  | [], i, j, some y, h, _, hy, w, hw => by
    simp only [wrun, List.mem_singleton] at hw
    subst hw
    have := hy w rfl
    have : i = j := h
    omega
  | c :: r, i, j, none, h, hlo, _, w, hw => by
    obtain ⟨h1, h2, h3⟩ := h
    simp only [wrun] at hw
    split at hw
    · exact wrun_mem p lo r c.to j _ h3 (by omega) (fun y e => by cases e; exact ⟨by simp only; omega, by simp only; omega, Nat.le_refl _⟩) w hw
    · exact wrun_mem p lo r c.to j _ h3 (by omega) (fun y e => by cases e) w hw
  | c :: r, i, j, some x, h, hlo, hy, w, hw => by
    obtain ⟨h1, h2, h3⟩ := h
    have hx := hy x rfl
    have hj := tiled_le h3
    simp only [wrun] at hw
    split at hw
    · exact wrun_mem p lo r c.to j _ h3 (by omega) (fun y e => by cases e; exact ⟨hx.1, by simp only; omega, Nat.le_refl _⟩) w hw
    · rcases List.mem_cons.1 hw with rfl | hw
      · omega
      · exact wrun_mem p lo r c.to j _ h3 (by omega) (fun y e => by cases e) w hw
theorem wsp_mem (p : Clu → Bool) {l : List Clu} {i j : Nat} (h : tiled i l j) : ∀ w ∈ wsp p l, i ≤ w.1 ∧ w.1 < w.2 ∧ w.2 ≤ j := wrun_mem p i l i j none h (Nat.le_refl _) (fun y e => by cases e)
/-- words begin and end where clusters do -/
theorem wrun_ends (p : Clu → Bool) (P : Nat → Prop) : ∀ (l : List Clu) (x : Option (Nat × Nat)), (∀ c ∈ l, P c.fr ∧ P c.to) → (∀ y, x = some y → P y.1 ∧ P y.2) → ∀ w ∈ wrun p x l, P w.1 ∧ P w.2
  | [], none, _, _, w, hw => by simp [wrun] at hw
  | [], some y, _, hy, w, hw => by
    simp only [wrun, List.mem_singleton] at hw
    subst hw
    exact hy w rfl
  | c :: r, none, h, _, w, hw => by
    simp only [wrun] at hw
    split at hw
    · exact wrun_ends p P r _ (fun d hd => h d (by simp [hd])) (fun y e => by cases e; exact h c (by simp)) w hw
    · exact wrun_ends p P r _ (fun d hd => h d (by simp [hd])) (fun y e => by cases e) w hw
  | c :: r, some x, h, hy, w, hw => by
    simp only [wrun] at hw
    split at hw
    · exact wrun_ends p P r _ (fun d hd => h d (by simp [hd])) (fun y e => by cases e; exact ⟨(hy x rfl).1, (h c (by simp)).2⟩) w hw
    · rcases List.mem_cons.1 hw with rfl | hw
      · exact hy w rfl
      · exact wrun_ends p P r _ (fun d hd => h d (by simp [hd])) (fun y e => by cases e) w hw
theorem words_cb {s : ByteArray} {w : Nat × Nat} (h : w ∈ words s) : cbZ s w.1 = true ∧ cbZ s w.2 = true :=
  wrun_ends _ (fun i => cbZ s (i : Nat) = true) (cl s) none (fun c hc => ⟨cl_fr s c hc, (cl_cb s c hc).1⟩) (fun y e => by cases e) w h
theorem words_mem {s : ByteArray} {w : Nat × Nat} (h : w ∈ words s) : w.1 < w.2 ∧ w.2 ≤ s.size := (wsp_mem _ (cl_tile s) w h).2
/-- they lie one behind the other, apart -/
theorem wrun_sorted (p : Clu → Bool) : ∀ (l : List Clu) (i j : Nat) (x : Option (Nat × Nat)), tiled i l j → (∀ y, x = some y → y.1 < y.2 ∧ y.2 ≤ i) → (wrun p x l).Pairwise fun a b => a.2 < b.1
  | [], i, j, none, _, _ => by simp [wrun]
  | [], i, j, some y, h, _ => by simp [wrun]
  | c :: r, i, j, none, h, _ => by
    obtain ⟨h1, h2, h3⟩ := h
    simp only [wrun]
    split
    · exact wrun_sorted p r c.to j _ h3 (fun y e => by cases e; exact ⟨by simp only; omega, Nat.le_refl _⟩)
    · exact wrun_sorted p r c.to j _ h3 (fun y e => by cases e)
  | c :: r, i, j, some x, h, hy => by
    obtain ⟨h1, h2, h3⟩ := h
    have hx := hy x rfl
    simp only [wrun]
    split
    · exact wrun_sorted p r c.to j _ h3 (fun y e => by cases e; exact ⟨by simp only; omega, Nat.le_refl _⟩)
    · refine List.pairwise_cons.2 ⟨fun w hw => ?_, wrun_sorted p r c.to j _ h3 (fun y e => by cases e)⟩
      have := wrun_mem p c.to r c.to j none h3 (Nat.le_refl _) (fun y e => by cases e) w hw
      omega
theorem words_sorted (s : ByteArray) : (words s).Pairwise fun a b => a.2 < b.1 := wrun_sorted _ (cl s) 0 s.size none (cl_tile s) (fun y e => by cases e)

/-- the end of the first word that ends above a, or n -/
def aheadW (ws : List (Nat × Nat)) (n a : Nat) : Nat := ((ws.find? fun w => decide (a < w.2)).map (·.2)).getD n
/-- the beginning of the last word that begins below a, or 0 -/
def behindW (ws : List (Nat × Nat)) (a : Nat) : Nat := ((ws.map (·.1)).filter fun x => decide (x < a)).getLast?.getD 0
theorem find_head {ws : List (Nat × Nat)} {m : Nat} (h : ∀ w ∈ ws, m < w.2) : ws.find? (fun w => decide (m < w.2)) = ws.head? := by
  cases ws with
  | nil => rfl
  | cons w r => simp [h w (by simp)]
theorem find_past (p : Clu → Bool) : ∀ (a b : List Clu) (i m n : Nat) (x : Option (Nat × Nat)), tiled i a m → tiled m b n → (∀ y, x = some y → y.1 < y.2 ∧ y.2 = i) →
    ((wrun p x (a ++ b)).find? fun w => decide (m < w.2)).map (·.2) = (wrun p none b).head?.map (·.2)
  | [], b, i, m, n, none, _, hb, _ => by
    rw [List.nil_append, find_head (fun w hw => by have := wrun_mem p m b m n none hb (Nat.le_refl _) (fun y e => by cases e) w hw; omega)]
  | [], [], i, m, n, some x, ha, _, hx => by
    have : i = m := ha
    have := (hx x rfl).2
    simp [wrun]; omega
  | [], c :: r, i, m, n, some x, ha, hb, hx => by
    have e : i = m := ha
    obtain ⟨e1, e2⟩ := hx x rfl
    obtain ⟨h1, h2, h3⟩ := hb
    simp only [List.nil_append, wrun]
    split
    · rw [wrun_some, wrun_some]
      have hm := wrun_mem p m r c.to n (some (m, c.to)) h3 (by omega) (fun y e => by cases e; exact ⟨Nat.le_refl _, by simp only; omega, Nat.le_refl _⟩) (m, lastTo p c.to r) (by rw [wrun_some]; simp)
      simp [hm.2.1]
    · rw [List.find?_cons_of_neg (by simp; omega), find_head (fun w hw => by have := wrun_mem p c.to r c.to n none h3 (Nat.le_refl _) (fun y e => by cases e) w hw; omega)]
  | c :: a, b, i, m, n, none, ha, hb, _ => by
    obtain ⟨h1, h2, h3⟩ := ha
    simp only [List.cons_append, wrun]
    split
    · exact find_past p a b c.to m n _ h3 hb (fun y e => by cases e; exact ⟨by simp only; omega, rfl⟩)
    · exact find_past p a b c.to m n _ h3 hb (fun y e => by cases e)
  | c :: a, b, i, m, n, some x, ha, hb, hx => by
    obtain ⟨h1, h2, h3⟩ := ha
    obtain ⟨e1, e2⟩ := hx x rfl
    have hm := tiled_le h3
    simp only [List.cons_append, wrun]
    split
    · exact find_past p a b c.to m n _ h3 hb (fun y e => by cases e; exact ⟨by simp only; omega, rfl⟩)
    · rw [List.find?_cons_of_neg (by simp; omega)]
      exact find_past p a b c.to m n _ h3 hb (fun y e => by cases e)
/-- the beginnings of words in two parts -/
theorem starts_app (p : Clu → Bool) : ∀ (a b : List Clu) (i m n : Nat) (x : Option (Nat × Nat)), tiled i a m → tiled m b n → ∃ t, (wrun p x (a ++ b)).map (·.1) = (wrun p x a).map (·.1) ++ t ∧ ∀ y ∈ t, m ≤ y
  | [], b, i, m, n, none, _, hb => ⟨(wrun p none b).map (·.1), by simp [wrun], fun y hy => by
      obtain ⟨w, hw, rfl⟩ := List.mem_map.1 hy
      exact (wrun_mem p m b m n none hb (Nat.le_refl _) (fun y e => by cases e) w hw).1⟩
  | [], b, i, m, n, some x, ha, hb => ⟨(wrun p none (b.dropWhile p)).map (·.1), by simp [wrun_some, wrun], fun y hy => by
      obtain ⟨w, hw, rfl⟩ := List.mem_map.1 hy
      have : ∀ (l : List Clu) (m : Nat), tiled m l n → ∀ w ∈ wrun p none (l.dropWhile p), m ≤ w.1 := by
        intro l
        induction l with
        | nil => intro m _ w hw; simp [wrun] at hw
        | cons c r ih =>
          intro m h w hw
          obtain ⟨h1, h2, h3⟩ := h
          by_cases hp : p c = true
          · rw [List.dropWhile_cons_of_pos hp] at hw
            have := ih c.to h3 w hw
            omega
          · rw [List.dropWhile_cons_of_neg hp] at hw
            exact (wrun_mem p m (c :: r) m n none ⟨h1, h2, h3⟩ (Nat.le_refl _) (fun y e => by cases e) w hw).1
      exact this b m hb w hw⟩
  | c :: a, b, i, m, n, none, ha, hb => by
    obtain ⟨h1, h2, h3⟩ := ha
    simp only [List.cons_append, wrun]
    split
    · exact starts_app p a b c.to m n _ h3 hb
    · exact starts_app p a b c.to m n _ h3 hb
  | c :: a, b, i, m, n, some x, ha, hb => by
    obtain ⟨h1, h2, h3⟩ := ha
    simp only [List.cons_append, wrun]
    split
    · exact starts_app p a b c.to m n _ h3 hb
    · obtain ⟨t, h4, h5⟩ := starts_app p a b c.to m n none h3 hb
      exact ⟨t, by simp [h4], h5⟩
end Go.Proofs.YtdggbnkhbmffoaaGreatDoor
namespace Go.Proofs.YtdggbnkhbmffoaaGreatDoor
open Bod Wid

/-- what is written for the unit at i -/
def pc (g : Nat → Int → Int) (s : ByteArray) (i : Nat) : List UInt8 := if ch s i < 0 then [s.get! i] else Lib.encodeRune (g i (ch s i))
/-- the offsets of the units from a up to b -/
def sg (s : ByteArray) (a b : Nat) : List Nat := (offs s a).takeWhile fun i => decide (i < b)
/-- what is written for the units from a up to b -/
def fs (g : Nat → Int → Int) (s : ByteArray) (a b : Nat) : List UInt8 := (sg s a b).flatMap (pc g s)
/-- the text in these forms -/
def fm (g : Nat → Int → Int) (s : ByteArray) : ByteArray := ⟨(fs g s 0 s.size).toArray⟩
/-- each form is the upper one or the lower one -/
def Gd (g : Nat → Int → Int) : Prop := ∀ i c, g i c = upc c ∨ g i c = lowc c
theorem gd_up : Gd fun _ => upc := fun _ _ => .inl rfl
theorem gd_low : Gd fun _ => lowc := fun _ _ => .inr rfl

theorem sg_nil {s : ByteArray} {a b : Nat} (h : b ≤ a) : sg s a b = [] := by
  unfold sg
  by_cases ha : a < s.size
  · rw [offs_step ha, List.takeWhile_cons_of_neg (by simp; omega)]
  · rw [offs_end (by omega)]; rfl
theorem sg_step {s : ByteArray} {a b : Nat} (h : a < b) (hb : b ≤ s.size) : sg s a b = a :: sg s (a + sz s a) b := by
  unfold sg
  rw [offs_step (by omega), List.takeWhile_cons_of_pos (by simpa using h)]
theorem sg_all (s : ByteArray) : ∀ (f a : Nat), s.size - a ≤ f → offs s a = sg s a s.size
  | f, a, hf => by
    by_cases h : a < s.size
    · cases f with
      | zero => omega
      | succ f =>
        have := sz_pos h
        rw [sg_step h (Nat.le_refl _), offs_step h, sg_all s f (a + sz s a) (by omega)]
    · rw [sg_nil (by omega), offs_end (by omega)]
theorem sg_app {s : ByteArray} {b c : Nat} (hb : B s b) (hc : c ≤ s.size) (hbc : b ≤ c) : ∀ (f a : Nat), b - a ≤ f → a ≤ b → sg s a c = sg s a b ++ sg s b c
  | f, a, hf, ha => by
    by_cases h : a < b
    · cases f with
      | zero => omega
      | succ f =>
        have h1 := hb.2 a h
        have := sz_pos (s := s) (i := a) (by omega)
        rw [sg_step (a := a) (b := c) (by omega) hc, sg_step h (by omega), sg_app hb hc hbc f (a + sz s a) (by omega) h1]
        rfl
    · have : a = b := by omega
      subst this
      rw [sg_nil (Nat.le_refl _)]; rfl
theorem fs_app {g : Nat → Int → Int} {s : ByteArray} {a b c : Nat} (hb : B s b) (hc : c ≤ s.size) (hab : a ≤ b) (hbc : b ≤ c) : fs g s a c = fs g s a b ++ fs g s b c := by
  unfold fs
  rw [sg_app hb hc hbc b a (by omega) hab, List.flatMap_append]
theorem fs_nil {g : Nat → Int → Int} {s : ByteArray} {a b : Nat} (h : b ≤ a) : fs g s a b = [] := by unfold fs; rw [sg_nil h]; rfl
theorem fs_one {g : Nat → Int → Int} {s : ByteArray} {a : Nat} (h : a < s.size) : fs g s a (a + sz s a) = pc g s a := by
  unfold fs
  rw [sg_step (by have := sz_pos h; omega) (sz_in h), sg_nil (Nat.le_refl _)]
  simp
theorem fs_step {g : Nat → Int → Int} {s : ByteArray} {a b : Nat} (h : a < b) (hb : b ≤ s.size) : fs g s a b = pc g s a ++ fs g s (a + sz s a) b := by
  unfold fs
  rw [sg_step h hb, List.flatMap_cons]
/-- the forms of -1, of characters -/
theorem gd_neg {g : Nat → Int → Int} (hg : Gd g) (i : Nat) : g i (-1) = -1 := by
  rcases hg i (-1) with h | h <;> rw [h]
  · exact (up_eq (by omega)).2 rfl
  · exact (low_eq (by omega)).2 rfl
theorem gd_valid {g : Nat → Int → Int} (hg : Gd g) (i : Nat) {c : Int} (hc : Lib.validRune c = true) : Lib.validRune (g i c) = true := by
  rw [valid_iff] at hc ⊢
  have h : bad (g i c) ↔ bad c := by
    rcases hg i c with h | h <;> rw [h]
    · exact up_bad c
    · exact low_bad c
  unfold bad at h
  omega
theorem enc_len {r : Int} (h : Lib.validRune r = true) : ((Lib.encodeRuneZ r).length : Int) = if r < 128 then 1 else if r < 2048 then 2 else if r < 65536 then 3 else 4 := by
  rcases enc_shape h with ⟨h1, h2, e⟩ | ⟨h1, h2, e⟩ | ⟨h1, e⟩ | ⟨h1, h2, e⟩ <;> rw [e]
  · rw [if_pos (by omega)]; rfl
  · rw [if_neg (by omega), if_pos (by omega)]; rfl
  · rw [if_neg (by omega), if_neg (by omega), if_pos (by omega)]; rfl
  · rw [if_neg (by omega), if_neg (by omega), if_neg (by omega)]; rfl
theorem gd_len {g : Nat → Int → Int} (hg : Gd g) (i : Nat) {c : Int} (hc : Lib.validRune c = true) : (Lib.encodeRuneZ (g i c)).length = (Lib.encodeRuneZ c).length := by
  have h1 := enc_len (gd_valid hg i hc)
  have h2 := enc_len hc
  have h : (g i c < 128 ↔ c < 128) ∧ (g i c < 2048 ↔ c < 2048) ∧ (g i c < 65536 ↔ c < 65536) := by
    rcases hg i c with h | h <;> rw [h]
    · exact up_len c
    · exact low_len c
  obtain ⟨a1, a2, a3⟩ := h
  simp only [a1, a2, a3] at h1
  omega
theorem encR_len (r : Int) : (Lib.encodeRune r).length = (Lib.encodeRuneZ r).length := by simp [Lib.encodeRune]
theorem enc_sz {s : ByteArray} {i : Nat} (hi : i < s.size) (hc : 0 ≤ ch s i) : (Lib.encodeRuneZ (ch s i)).length = sz s i := by
  rw [← encR_len, (good_bytes hi hc).2, ← Lib.size_eq]
  have := sz_in hi
  simp
  omega
theorem pc_len {g : Nat → Int → Int} (hg : Gd g) {s : ByteArray} {i : Nat} (hi : i < s.size) : (pc g s i).length = sz s i := by
  unfold pc
  split
  · rename_i h; rw [(ch_neg h).2]; rfl
  · rename_i h
    rw [encR_len, gd_len hg i (good_bytes hi (by omega)).1, enc_sz hi (by omega)]
theorem fs_len {g : Nat → Int → Int} (hg : Gd g) {s : ByteArray} {b : Nat} (hb : B s b) : ∀ (f a : Nat), b - a ≤ f → a ≤ b → (fs g s a b).length = b - a
  | f, a, hf, ha => by
    by_cases h : a < b
    · cases f with
      | zero => omega
      | succ f =>
        have h0 := hb.1
        have h1 := hb.2 a h
        have := sz_pos (s := s) (i := a) (by omega)
        rw [fs_step h hb.1, List.length_append, pc_len hg (by omega), fs_len hg hb f (a + sz s a) (by omega) h1]
        omega
    · rw [fs_nil (by omega)]
      simp
      omega
theorem fm_data (g : Nat → Int → Int) (s : ByteArray) : (fm g s).data.toList = fs g s 0 s.size := rfl
theorem fm_size {g : Nat → Int → Int} (hg : Gd g) (s : ByteArray) : (fm g s).size = s.size := by
  rw [Lib.size_eq, fm_data, fs_len hg (B_end s) s.size 0 (by omega) (by omega)]
  omega
theorem fm_at {g : Nat → Int → Int} {s : ByteArray} {a : Nat} (ha : B s a) (h : a < s.size) : (fm g s).data.toList = fs g s 0 a ++ pc g s a ++ fs g s (a + sz s a) s.size := by
  rw [fm_data, fs_app ha (Nat.le_refl _) (Nat.zero_le _) (by omega), fs_step h (Nat.le_refl _), List.append_assoc]
theorem fm_good {g : Nat → Int → Int} (hg : Gd g) {s : ByteArray} {a : Nat} (ha : B s a) (h : a < s.size) (hc : 0 ≤ ch s a) : ch (fm g s) a = g a (ch s a) ∧ sz (fm g s) a = sz s a := by
  have hv := gd_valid hg a (good_bytes h hc).1
  have hd := fm_at (g := g) ha h
  unfold pc at hd
  rw [if_neg (by omega)] at hd
  have := enc_dec (i := a) hv (at_of_data hd (by rw [fs_len hg ha a 0 (by omega) (by omega)]; omega))
  exact ⟨this.1, by rw [this.2, gd_len hg a (good_bytes h hc).1, enc_sz h hc]⟩
theorem fm_byte {g : Nat → Int → Int} (hg : Gd g) {s : ByteArray} {a : Nat} (ha : B s a) (h : a < s.size) (hc : ch s a < 0) : bt (fm g s) a = bt s a := by
  have hd := fm_at (g := g) ha h
  unfold pc at hd
  rw [if_pos hc] at hd
  have hl : (fs g s 0 a).length = a := by rw [fs_len hg ha a 0 (by omega) (by omega)]; omega
  rw [bt_eq, hd, List.append_assoc, List.getElem?_append_right (by omega), hl, Nat.sub_self]
  rfl
theorem lead_byte {r : Int} (hv : Lib.validRune r = true) {s : ByteArray} {i : Nat} (h : At s i (Lib.encodeRuneZ r)) : bt s i / 64 ≠ 2 := by
  obtain ⟨hl, hb⟩ := h
  rcases enc_shape hv with ⟨h1, h2, e⟩ | ⟨h1, h2, e⟩ | ⟨h1, e⟩ | ⟨h1, h2, e⟩
  all_goals
    rw [e] at hb
    have b0 := hb 0 (by simp)
    simp only [List.getElem?_cons_zero, Option.getD_some, Nat.add_zero] at b0
    omega
/-- a byte goes on with a character just where it did -/
theorem fm_cont {g : Nat → Int → Int} (hg : Gd g) {s : ByteArray} {k : Nat} (hk : k < s.size) : bt (fm g s) k / 64 = 2 ↔ bt s k / 64 = 2 := by
  have hd := dnF_Dn hk
  generalize dnF s k = a at hd
  obtain ⟨h1, h2, h3⟩ := hd
  have ha : a < s.size := by omega
  by_cases hc : ch s a < 0
  · have := (ch_neg hc).2
    have e : k = a := by omega
    subst e
    rw [fm_byte hg h2 ha hc]
  · by_cases e : k = a
    · subst e
      have hv := (good_bytes ha (by omega)).1
      have d1 := fm_at (g := g) h2 ha
      unfold pc at d1
      rw [if_neg (by omega)] at d1
      have l1 := lead_byte (gd_valid hg k hv) (i := k) (at_of_data d1 (by rw [fs_len hg h2 k 0 (by omega) (by omega)]; omega))
      have l2 : bt s k / 64 ≠ 2 := by
        intro h
        have := un_inner h
        exact hc (ch_bad.2 this)
      exact ⟨fun h => absurd h l1, fun h => absurd h l2⟩
    · have c1 : bt s k / 64 = 2 := cont (i := a) (by omega) h3
      have c2 : bt (fm g s) k / 64 = 2 := cont (i := a) (by omega) (by rw [(fm_good hg h2 ha (by omega)).2]; exact h3)
      exact ⟨fun _ => c1, fun _ => c2⟩
set_option maxHeartbeats 4000000 in
theorem dec_like {n b0 b1 b2 b3 c1 c2 c3 : Nat} (h1 : 1 < n → ((c1 / 64 = 2 ↔ b1 / 64 = 2) ∧ (b1 / 64 = 2 → c1 = b1))) (h2 : 2 < n → b1 / 64 = 2 → ((c2 / 64 = 2 ↔ b2 / 64 = 2) ∧ (b2 / 64 = 2 → c2 = b2)))
    (h3 : 3 < n → b1 / 64 = 2 → b2 / 64 = 2 → ((c3 / 64 = 2 ↔ b3 / 64 = 2) ∧ (b3 / 64 = 2 → c3 = b3))) : Lib.decodeN n b0 c1 c2 c3 = Lib.decodeN n b0 b1 b2 b3 := by
  by_cases g1 : 1 < n ∧ b1 / 64 = 2
  · obtain ⟨k1, k2⟩ := h1 g1.1
    have e1 := k2 g1.2
    subst e1
    by_cases g2 : 2 < n ∧ b2 / 64 = 2
    · obtain ⟨k3, k4⟩ := h2 g2.1 g1.2
      have e2 := k4 g2.2
      subst e2
      by_cases g3 : 3 < n ∧ b3 / 64 = 2
      · obtain ⟨_, k6⟩ := h3 g3.1 g1.2 g2.2
        rw [k6 g3.2]
      · have g3' : ¬ (3 < n ∧ c3 / 64 = 2) := fun h => g3 ⟨h.1, (h3 h.1 g1.2 g2.2).1.1 h.2⟩
        unfold Lib.decodeN
        simp only [g3, g3', and_false, if_false]
    · have g2' : ¬ (2 < n ∧ c2 / 64 = 2) := fun h => g2 ⟨h.1, (h2 h.1 g1.2).1.1 h.2⟩
      unfold Lib.decodeN
      simp only [g2, g2', and_false, false_and, if_false]
  · have g1' : ¬ (1 < n ∧ c1 / 64 = 2) := fun h => g1 ⟨h.1, (h1 h.1).1.1 h.2⟩
    unfold Lib.decodeN
    simp only [g1, g1', and_false, false_and, if_false]
theorem fm_bad {g : Nat → Int → Int} (hg : Gd g) {s : ByteArray} {a : Nat} (ha : B s a) (h : a < s.size) (hc : ch s a < 0) : un (fm g s) a = un s a := by
  have hs := fm_size hg s
  have next : ∀ {k : Nat}, B s k → k < s.size → bt s k / 64 = 2 → bt (fm g s) k = bt s k ∧ B s (k + 1) := fun hB hk h2 => by
    have e := un_inner h2
    have e2 : sz s _ = 1 := (ch_neg (ch_bad.2 e)).2
    have := B_next hB hk
    rw [e2] at this
    exact ⟨fm_byte hg hB hk (ch_bad.2 e), this⟩
  have B1 : B s (a + 1) := by
    have := B_next ha h
    rwa [(ch_neg hc).2] at this
  unfold un
  rw [hs, fm_byte hg ha h hc]
  refine dec_like (fun h1 => ⟨fm_cont hg (by omega), fun h2 => (next B1 (by omega) h2).1⟩) (fun h1 h2 => ⟨fm_cont hg (by omega), fun h3 => (next (next B1 (by omega) h2).2 (by omega) h3).1⟩) (fun h1 h2 h3 => ⟨fm_cont hg (by omega), fun h4 => (next (next (next B1 (by omega) h2).2 (by omega) h3).2 (by omega) h4).1⟩)
/-- each unit is its form, at its place -/
theorem fm_un {g : Nat → Int → Int} (hg : Gd g) {s : ByteArray} {a : Nat} (ha : B s a) (h : a < s.size) : ch (fm g s) a = g a (ch s a) ∧ sz (fm g s) a = sz s a := by
  by_cases hc : ch s a < 0
  · have e := fm_bad hg ha h hc
    have e1 := (ch_neg hc).1
    constructor
    · rw [e1, gd_neg hg]
      have : ch (fm g s) a = ch s a := by unfold ch; rw [e]
      rw [this, e1]
    · unfold sz; rw [e]
  · exact fm_good hg ha h (by omega)
theorem fm_offs {g : Nat → Int → Int} (hg : Gd g) {s : ByteArray} : ∀ (f a : Nat), s.size - a ≤ f → B s a → offs (fm g s) a = offs s a
  | f, a, hf, ha => by
    by_cases h : a < s.size
    · cases f with
      | zero => omega
      | succ f =>
        have := sz_pos h
        rw [offs_step h, offs_step (by rw [fm_size hg]; exact h), (fm_un hg ha h).2, fm_offs hg f (a + sz s a) (by omega) (B_next ha h)]
    · have := fm_size hg s
      rw [offs_end (s := s) (by omega), offs_end (by omega)]
theorem fm_B {g : Nat → Int → Int} (hg : Gd g) {s : ByteArray} {b : Nat} : B (fm g s) b ↔ B s b := by
  have key : ∀ (f a : Nat), b - a ≤ f → a ≤ b → B s a → B (fm g s) a → (B (fm g s) b ↔ B s b) := by
    intro f
    induction f with
    | zero => intro a hf hab h1 h2; have e : a = b := by omega
              subst e; exact ⟨fun _ => h1, fun _ => h2⟩
    | succ f ih =>
      intro a hf hab h1 h2
      by_cases e : a = b
      · subst e; exact ⟨fun _ => h1, fun _ => h2⟩
      · by_cases ha : a < s.size
        · have hz := (fm_un hg h1 ha).2
          have hp := sz_pos ha
          by_cases hb : a + sz s a ≤ b
          · exact ih (a + sz s a) (by omega) hb (B_next h1 ha) (by have := B_next h2 (by rw [fm_size hg]; exact ha); rwa [hz] at this)
          · exact ⟨fun h => absurd h (not_B (i := a) (by omega) (by omega)), fun h => absurd h (not_B (i := a) (by omega) (by omega))⟩
        · exact ⟨fun h => by have := h.1; rw [fm_size hg] at this; omega, fun h => by have := h.1; omega⟩
  exact key b 0 (by omega) (Nat.zero_le _) (B_zero _) (B_zero _)
/-- clusters and words stay -/
theorem cel_gd {g : Nat → Int → Int} (hg : Gd g) (i : Nat) (c : Int) : cls (g i c) = cls c ∧ cel (g i c) = cel c ∧ (g i c = 13 ↔ c = 13) ∧ (g i c = 10 ↔ c = 10) ∧ wch (g i c) = wch c := by
  have h127 : cls c = 2 → g i c = c := fun h => by
    rcases hg i c with e | e <;> rw [e]
    · rcases up_cases c with h1 | h1
      · exact h1.1
      · have := (pair h1).2.2.1.1; omega
    · rcases low_cases c with h1 | h1
      · exact h1.1
      · have := (pair h1).2.2.1.2; omega
  have hc : cls (g i c) = cls c := by
    rcases hg i c with e | e <;> rw [e]
    · exact up_cls c
    · exact low_cls c
  refine ⟨hc, ?_, ?_, ?_, ?_⟩
  · unfold cel
    rw [hc]
    by_cases h2 : cls c = 2
    · rw [h127 h2]
    · simp [h2]
  · rcases hg i c with e | e <;> rw [e]
    · exact up_eq (by omega)
    · exact low_eq (by omega)
  · rcases hg i c with e | e <;> rw [e]
    · exact up_eq (by omega)
    · exact low_eq (by omega)
  · rcases hg i c with e | e <;> rw [e]
    · exact up_wch c
    · exact low_wch c
theorem fm_clF {g : Nat → Int → Int} (hg : Gd g) {s : ByteArray} : ∀ (l : List Nat) (c : Clu) (a : Nat), B s a → a < s.size → (∀ i ∈ l, B s i ∧ i < s.size) → clF (fm g s) c (ch (fm g s) a) l = clF s c (ch s a) l
  | [], c, a, _, _, _ => rfl
  | i :: l, c, a, ha, has, hl => by
    obtain ⟨hi, his⟩ := hl i (by simp)
    have ih := fun c => fm_clF hg l c i hi his (fun j hj => hl j (by simp [hj]))
    obtain ⟨a1, a2, a3, a4, _⟩ := cel_gd hg a (ch s a)
    obtain ⟨b1, b2, b3, b4, _⟩ := cel_gd hg i (ch s i)
    have ej : jn (ch (fm g s) a) (ch (fm g s) i) = jn (ch s a) (ch s i) := by
      rw [(fm_un hg ha has).1, (fm_un hg hi his).1]
      unfold jn
      simp only [a1, b1, a3, b4]
    have eb : beg (fm g s) i = beg s i := by
      unfold beg
      rw [(fm_un hg hi his).1, (fm_un hg hi his).2, b1, b2]
    have eg : gro (fm g s) c i = gro s c i := by
      unfold gro
      simp only [(fm_un hg hi his).1, (fm_un hg hi his).2, b4]
    simp only [clF]
    rw [ej, eb, eg, ih, ih]
theorem offs_all (s : ByteArray) : ∀ (f a : Nat), s.size - a ≤ f → B s a → ∀ i ∈ offs s a, B s i ∧ i < s.size
  | f, a, hf, ha, i, hi => by
    by_cases h : a < s.size
    · cases f with
      | zero => omega
      | succ f =>
        have := sz_pos h
        rw [offs_step h] at hi
        rcases List.mem_cons.1 hi with rfl | hi
        · exact ⟨ha, h⟩
        · exact offs_all s f (a + sz s a) (by omega) (B_next ha h) i hi
    · rw [offs_end (by omega)] at hi; cases hi
theorem fm_cl {g : Nat → Int → Int} (hg : Gd g) (s : ByteArray) : cl (fm g s) = cl s := by
  unfold cl
  rw [fm_offs hg s.size 0 (by omega) (B_zero s)]
  by_cases h : 0 < s.size
  · have hu := fm_un hg (B_zero s) h
    obtain ⟨a1, a2, _⟩ := cel_gd hg 0 (ch s 0)
    have eb : beg (fm g s) 0 = beg s 0 := by
      unfold beg
      rw [hu.1, hu.2, a1, a2]
    rw [offs_step h]
    simp only [clL]
    rw [eb]
    exact fm_clF hg _ _ 0 (B_zero s) h (fun i hi => offs_all s s.size (0 + sz s 0) (by omega) (B_next (B_zero s) h) i hi)
  · rw [offs_end (by omega)]; rfl
theorem wrun_congr {p q : Clu → Bool} : ∀ (l : List Clu) (x : Option (Nat × Nat)), (∀ c ∈ l, p c = q c) → wrun p x l = wrun q x l
  | [], none, _ => rfl
  | [], some _, _ => rfl
  | c :: r, none, h => by
    simp only [wrun]
    rw [h c (by simp), wrun_congr r _ (fun d hd => h d (by simp [hd])), wrun_congr r none (fun d hd => h d (by simp [hd]))]
  | c :: r, some x, h => by
    simp only [wrun]
    rw [h c (by simp), wrun_congr r _ (fun d hd => h d (by simp [hd])), wrun_congr r none (fun d hd => h d (by simp [hd]))]
theorem cl_B {s : ByteArray} {c : Clu} (h : c ∈ cl s) : B s c.fr ∧ c.fr < s.size := by
  obtain ⟨m, hm, hB⟩ := cb_B (cl_fr s c h)
  have : c.fr = m := by omega
  subst this
  have := cl_span h
  exact ⟨hB, by omega⟩
theorem fm_words {g : Nat → Int → Int} (hg : Gd g) (s : ByteArray) : words (fm g s) = words s := by
  unfold words wsp
  rw [fm_cl hg]
  refine wrun_congr _ _ fun c hc => ?_
  obtain ⟨h1, h2⟩ := cl_B hc
  rw [(fm_un hg h1 h2).1]
  exact (cel_gd hg c.fr _).2.2.2.2
end Go.Proofs.YtdggbnkhbmffoaaGreatDoor
namespace Go.Proofs.YtdggbnkhbmffoaaGreatDoor
open Bod Wid

/-- a word cluster -/
def wcl (s : ByteArray) (c : Clu) : Bool := wch (ch s c.fr)
/-- does a word cluster begin at the boundary a? -/
def wat (s : ByteArray) (a : Nat) : Bool := decide (a < s.size) && wch (ch s a)
/-- the clusters ahead of a and behind it -/
structure Fr (s : ByteArray) (a : Nat) (pre post : List Clu) : Prop where
  eq : pre ++ post = cl s
  l : tiled 0 pre a
  r : tiled a post s.size
theorem tiled_cut {s : ByteArray} {a : Nat} (ha : cbZ s a = true) : ∀ (l : List Clu) (i j : Nat), tiled i l j → (∀ c ∈ l, Sp s c) → i ≤ a → a ≤ j → ∃ pre post, pre ++ post = l ∧ tiled i pre a ∧ tiled a post j
  | [], i, j, h, _, h1, h2 => by
    have e : i = j := h
    have : a = i := by omega
    exact ⟨[], [], rfl, this.symm, by show a = j; omega⟩
  | c :: r, i, j, h, hs, h1, h2 => by
    by_cases e : a = i
    · subst e; exact ⟨[], c :: r, rfl, rfl, h⟩
    · obtain ⟨g1, g2, g3⟩ := h
      have hc := (hs c (by simp)).2 a (by omega)
      have hto : c.to ≤ a := by
        by_cases q : c.to ≤ a
        · exact q
        · rw [hc (by omega)] at ha; cases ha
      obtain ⟨pre, post, q1, q2, q3⟩ := tiled_cut ha r c.to j g3 (fun d hd => hs d (by simp [hd])) hto h2
      exact ⟨c :: pre, post, by rw [← q1]; rfl, ⟨g1, g2, q2⟩, q3⟩
theorem fr_of {s : ByteArray} {a : Nat} (ha : cbZ s a = true) : ∃ pre post, Fr s a pre post := by
  obtain ⟨m, e, hB⟩ := cb_B ha
  have : a ≤ s.size := by have := hB.1; omega
  obtain ⟨pre, post, h1, h2, h3⟩ := tiled_cut ha (cl s) 0 s.size (cl_tile s) (cl_cb s) (Nat.zero_le _) this
  exact ⟨pre, post, h1, h2, h3⟩
theorem tiled_snoc {a : List Clu} {c : Clu} {i m : Nat} (h : tiled i a c.fr) (h1 : c.fr < c.to) (h2 : c.to = m) : tiled i (a ++ [c]) m := by
  induction a generalizing i with
  | nil => exact ⟨h.symm, by have : i = c.fr := h; omega, h2⟩
  | cons d r ih =>
    obtain ⟨g1, g2, g3⟩ := h
    exact ⟨g1, g2, ih g3⟩
theorem tiled_last {a : List Clu} {c : Clu} {i m : Nat} (h : tiled i (a ++ [c]) m) : tiled i a c.fr ∧ c.fr < c.to ∧ c.to = m := by
  obtain ⟨k, h1, h2, h3, h4⟩ := tiled_app h
  exact ⟨by rw [h2]; exact h1, by omega, h4⟩
theorem Fr.mem {s : ByteArray} {a : Nat} {pre post : List Clu} (h : Fr s a pre post) {c : Clu} (hc : c ∈ pre ++ post) : c ∈ cl s := h.eq ▸ hc
theorem Fr.next {s : ByteArray} {a : Nat} {pre r : List Clu} {c : Clu} (h : Fr s a pre (c :: r)) : IsNext s a c.to ∧ Fr s c.to (pre ++ [c]) r ∧ a < c.to ∧ c.to ≤ s.size ∧ wat s a = wcl s c := by
  obtain ⟨g1, g2, g3⟩ := h.r
  have hm := h.mem (c := c) (by simp)
  have hsp := cl_cb s c hm
  have hin := cl_span hm
  refine ⟨⟨hsp.1, .inl (by omega), fun j h1 h2 => hsp.2 j (by omega) h2⟩, ⟨by rw [← h.eq]; simp, tiled_snoc (by rw [g1]; exact h.l) (by omega) rfl, g3⟩, by omega, hin.2, ?_⟩
  unfold wat wcl
  rw [decide_eq_true (by omega), g1, Bool.true_and]
theorem Fr.done {s : ByteArray} {a : Nat} {pre : List Clu} (h : Fr s a pre []) : a = s.size ∧ wat s a = false := by
  have e : a = s.size := h.r
  refine ⟨e, ?_⟩
  unfold wat
  rw [decide_eq_false (by omega), Bool.false_and]
theorem Fr.cb {s : ByteArray} {a : Nat} {pre post : List Clu} (h : Fr s a pre post) : cbZ s a = true ∧ a ≤ s.size := by
  cases post with
  | nil => rw [h.done.1]; exact ⟨cb_end s, Nat.le_refl _⟩
  | cons c r =>
    have := cl_fr s c (h.mem (by simp))
    rw [h.r.1] at this
    have := h.next
    exact ⟨by assumption, by omega⟩

/-- the end of the first word of a list of clusters, or n -/
def firstW (s : ByteArray) (l : List Clu) : Nat := ((wrun (wcl s) none l).head?.map (·.2)).getD s.size
theorem first_not {s : ByteArray} {c : Clu} {r : List Clu} (h : wcl s c = false) : firstW s (c :: r) = firstW s r := by
  unfold firstW
  simp [wrun, h]
theorem first_in {s : ByteArray} {c : Clu} {r : List Clu} (a : Nat) (h : wcl s c = true) : firstW s (c :: r) = lastTo (wcl s) a (c :: r) := by
  unfold firstW
  simp [wrun, h, wrun_some, lastTo]
theorem first_nil (s : ByteArray) (a : Nat) (h : a = s.size) : firstW s [] = lastTo (wcl s) a [] := by
  unfold firstW
  simp [wrun, lastTo, h]
theorem words_wcl (s : ByteArray) : words s = wrun (wcl s) none (cl s) := rfl
theorem ahead_first {s : ByteArray} {a : Nat} {pre post : List Clu} (h : Fr s a pre post) : aheadW (words s) s.size a = firstW s post := by
  unfold aheadW firstW
  rw [words_wcl, ← h.eq, find_past (wcl s) pre post 0 a s.size none h.l h.r (fun y e => by cases e)]
theorem find_congr {α : Type} {p q : α → Bool} : ∀ {l : List α}, (∀ x ∈ l, p x = q x) → l.find? p = l.find? q
  | [], _ => rfl
  | x :: r, h => by
    simp only [List.find?_cons]
    rw [h x (by simp), find_congr (l := r) (fun y hy => h y (by simp [hy]))]
/-- within a cluster the same word lies ahead as at its beginning -/
theorem ahead_in {s : ByteArray} {m a : Nat} (hc : cbZ s a = false) (hp : IsPrev s a m) : aheadW (words s) s.size a = aheadW (words s) s.size m := by
  unfold aheadW
  rw [find_congr]
  intro w hw
  have h2 := (words_cb hw).2
  have hne : w.2 ≠ a := fun e => by rw [e, hc] at h2; cases h2
  have hno : ¬ (m < w.2 ∧ w.2 < a) := fun h => by rw [hp.no w.2 (by omega) (by omega)] at h2; cases h2
  have hd : m ≤ a := by rcases hp.dn with h | ⟨h, _⟩ <;> omega
  simp only [decide_eq_decide]
  omega

/-- the clusters that begin below a -/
structure Bh (s : ByteArray) (a : Nat) (pre : List Clu) : Prop where
  ex : ∃ m post, Fr s m pre post ∧ a ≤ m
  last : ∀ p c, pre = p ++ [c] → c.fr < a
  none : pre = [] → a = 0
theorem bh_fr {s : ByteArray} {a : Nat} {pre post : List Clu} (h : Fr s a pre post) : Bh s a pre :=
  ⟨⟨a, post, h, Nat.le_refl _⟩, fun p c e => by have := h.l; rw [e] at this; obtain ⟨_, h1, h2⟩ := tiled_last this; omega, fun e => by have := h.l; rw [e] at this; exact (show 0 = a from this).symm⟩
/-- there is such a list for every offset -/
theorem bh_of {s : ByteArray} {a : Nat} (ha : a ≤ s.size) : ∃ pre, Bh s a pre := by
  cases hc : cbZ s a with
  | true =>
    obtain ⟨pre, post, h⟩ := fr_of hc
    exact ⟨pre, bh_fr h⟩
  | false =>
    obtain ⟨m, hp⟩ : ∃ m, IsPrev s a m := by
      have : ∀ k : Nat, k ≤ a → (∀ j : Int, (k : Int) < j → j < a → cbZ s j = false) → k < a ∨ k = a → ∃ m, IsPrev s a m := by
        intro k
        induction k with
        | zero => intro _ h _; exact ⟨0, cb_zero s, by by_cases e : a = 0 <;> omega, h⟩
        | succ k ih =>
          intro hk h hlt
          by_cases e : k + 1 < a ∧ cbZ s ((k + 1 : Nat) : Int) = true
          · exact ⟨k + 1, e.2, .inl (by omega), h⟩
          · refine ih (by omega) (fun j h1 h2 => ?_) (.inl (by omega))
            by_cases ej : j = ((k + 1 : Nat) : Int)
            · rw [ej]
              cases hb : cbZ s ((k + 1 : Nat) : Int) with
              | false => rfl
              | true => exact absurd ⟨by omega, hb⟩ e
            · exact h j (by omega) h2
      exact this a (Nat.le_refl _) (fun j h1 h2 => by omega) (.inr rfl)
    obtain ⟨pre, post, h⟩ := fr_of hp.cb
    have hlt : m < a := by
      rcases hp.dn with h | ⟨h, h'⟩
      · omega
      · have : a = 0 := by omega
        rw [this, show ((0 : Nat) : Int) = 0 from rfl, cb_zero] at hc; cases hc
    cases post with
    | nil => have := h.done.1; omega
    | cons c r =>
      obtain ⟨n1, n2, n3, n4, _⟩ := h.next
      refine ⟨pre ++ [c], ⟨c.to, r, n2, ?_⟩, fun p d e => ?_, fun e => by simp at e⟩
      · by_cases q : a ≤ c.to
        · exact q
        · have := hp.no c.to (by omega) (by omega)
          rw [n1.cb] at this; cases this
      · have := List.append_inj_right' e (by rfl)
        have e2 : c = d := by simpa using this
        rw [← e2, h.r.1]; exact hlt
theorem Bh.prev {s : ByteArray} {a : Nat} {pre : List Clu} {c : Clu} (h : Bh s a (pre ++ [c])) : IsPrev s a c.fr ∧ (∃ post, Fr s c.fr pre post) ∧ c.fr < a ∧ c.fr < s.size ∧ wat s c.fr = wcl s c := by
  obtain ⟨⟨m, post, hf, hm⟩, hl, _⟩ := h
  have hc := hf.mem (c := c) (by simp)
  have hsp := cl_cb s c hc
  have hin := cl_span hc
  obtain ⟨t1, t2, t3⟩ := tiled_last hf.l
  have hlt := hl pre c rfl
  refine ⟨⟨cl_fr s c hc, .inl (by omega), fun j h1 h2 => hsp.2 j h1 (by omega)⟩, ⟨c :: post, by rw [← hf.eq]; simp, t1, rfl, t2, by rw [t3]; exact hf.r⟩, hlt, by omega, ?_⟩
  unfold wat wcl
  rw [decide_eq_true (by omega), Bool.true_and]
/-- the beginning of the last word of a list of clusters, or 0 -/
def lastW (s : ByteArray) (l : List Clu) : Nat := ((wrun (wcl s) none l).map (·.1)).getLast?.getD 0
theorem behind_last {s : ByteArray} {a : Nat} {pre : List Clu} (h : Bh s a pre) : behindW (words s) a = lastW s pre := by
  obtain ⟨⟨m, post, hf, hm⟩, hl, hn⟩ := h
  obtain ⟨t, h1, h2⟩ := starts_app (wcl s) pre post 0 m s.size none hf.l hf.r
  unfold behindW lastW
  rw [words_wcl, ← hf.eq, h1, List.filter_append]
  have e1 : t.filter (fun x => decide (x < a)) = [] := by
    rw [List.filter_eq_nil_iff]
    intro x hx
    have := h2 x hx
    simp; omega
  have e2 : ((wrun (wcl s) none pre).map (·.1)).filter (fun x => decide (x < a)) = (wrun (wcl s) none pre).map (·.1) := by
    rw [List.filter_eq_self]
    intro x hx
    obtain ⟨w, hw, rfl⟩ := List.mem_map.1 hx
    have hin : ∀ c ∈ pre, c.fr < a := by
      rcases List.eq_nil_or_concat pre with e | ⟨p, c, e⟩
      · subst e; intro c hc; cases hc
      · rw [List.concat_eq_append] at e
        subst e
        intro d hd
        have hlc := hl p c rfl
        obtain ⟨t1, t2, t3⟩ := tiled_last hf.l
        rcases List.mem_append.1 hd with hd | hd
        · have := tiled_mem t1 d hd; omega
        · simp at hd; subst hd; exact hlc
    have hst : ∀ w ∈ wrun (wcl s) none pre, ∃ c ∈ pre, w.1 = c.fr := by
      have : ∀ (l : List Clu) (x : Option (Nat × Nat)), (∀ y, x = some y → ∃ c ∈ pre, y.1 = c.fr) → (∀ c ∈ l, c ∈ pre) → ∀ w ∈ wrun (wcl s) x l, ∃ c ∈ pre, w.1 = c.fr := by
        intro l
        induction l with
        | nil =>
          intro x hx _ w hw
          cases x with
          | none => simp [wrun] at hw
          | some y => simp [wrun] at hw; subst hw; exact hx w rfl
        | cons c r ih =>
          intro x hx hl w hw
          cases x with
          | none =>
            simp only [wrun] at hw
            split at hw
            · exact ih _ (fun y e => by cases e; exact ⟨c, hl c (by simp), rfl⟩) (fun d hd => hl d (by simp [hd])) w hw
            · exact ih _ (fun y e => by cases e) (fun d hd => hl d (by simp [hd])) w hw
          | some y =>
            simp only [wrun] at hw
            split at hw
            · exact ih _ (fun z e => by cases e; exact hx y rfl) (fun d hd => hl d (by simp [hd])) w hw
            · rcases List.mem_cons.1 hw with rfl | hw
              · exact hx w rfl
              · exact ih _ (fun z e => by cases e) (fun d hd => hl d (by simp [hd])) w hw
      exact this pre none (fun y e => by cases e) (fun c hc => hc)
    obtain ⟨c, hc, e⟩ := hst w hw
    have := hin c hc
    rw [e]
    simpa using this
  rw [e1, e2, List.append_nil]
theorem wrun_wac (p : Clu → Bool) {l : List Clu} {i j : Nat} (h : tiled i l j) : wrun p none l = wac p l := (wac_eq p h).symm
theorem last_not {s : ByteArray} {c : Clu} {pre : List Clu} {i m : Nat} (ht : tiled i (pre ++ [c]) m) (h : wcl s c = false) : lastW s (pre ++ [c]) = lastW s pre := by
  unfold lastW
  rw [wrun_wac _ ht, wrun_wac _ (tiled_last ht).1, wac_snoc, wst_no h]
/-- the word that ends with a word cluster goes on ahead of it, if a word cluster lies there -/
theorem last_on {s : ByteArray} {c d : Clu} {pre : List Clu} {i m : Nat} (ht : tiled i (pre ++ [d] ++ [c]) m) (h : wcl s c = true) (hd : wcl s d = true) : lastW s (pre ++ [d] ++ [c]) = lastW s (pre ++ [d]) := by
  obtain ⟨t1, _, _⟩ := tiled_last ht
  obtain ⟨t2, t3, t4⟩ := tiled_last t1
  unfold lastW
  rw [wrun_wac _ ht, wrun_wac _ t1, wac_snoc (wcl s) (pre ++ [d]) c]
  obtain ⟨a, x, e⟩ : ∃ a x, wac (wcl s) (pre ++ [d]) = a ++ [(x, c.fr)] := by
    rw [wac_snoc]
    unfold wst
    rw [if_pos hd]
    cases hg : (wac (wcl s) pre).getLast? with
    | none => exact ⟨wac (wcl s) pre, d.fr, by simp only [t4]⟩
    | some y =>
      simp only
      split
      · exact ⟨_, _, by rw [t4]⟩
      · exact ⟨_, _, by rw [t4]⟩
  rw [e, wst_on h]
  simp
theorem last_new {s : ByteArray} {c : Clu} {pre : List Clu} {i m : Nat} (ht : tiled i (pre ++ [c]) m) (h : wcl s c = true) (hd : pre = [] ∨ ∃ p d, pre = p ++ [d] ∧ wcl s d = false) : lastW s (pre ++ [c]) = c.fr := by
  obtain ⟨t1, _, _⟩ := tiled_last ht
  unfold lastW
  rw [wrun_wac _ ht, wac_snoc, wst_new h]
  · simp
  · intro y hy
    rcases hd with e | ⟨p, d, e, hw⟩
    · subst e; simp [wac] at hy
    · subst e
      obtain ⟨t2, t3, t4⟩ := tiled_last t1
      rw [wac_snoc, wst_no hw, wac_eq _ t2] at hy
      have := (wsp_mem _ t2 y (List.mem_of_getLast? hy)).2.2
      omega
theorem last_nil (s : ByteArray) : lastW s [] = 0 := rfl
end Go.Proofs.YtdggbnkhbmffoaaGreatDoor
namespace Go.Proofs.YtdggbnkhbmffoaaGreatDoor
open Bod Wid

/-- a piece that ends at a boundary has the units that the text has there -/
theorem un_sub {s : ByteArray} {a b k : Nat} (hb : B s b) (hk : a + k < b) : un (s.extract a b) k = un s (a + k) := by
  have h0 := hb.1
  have h1 := hb.2 (a + k) hk
  have e1 : s.extract a s.size = s.extract a b ++ s.extract b s.size := ByteArray.extract_eq_extract_append_extract b (by omega) h0
  have e2 := un_extract s a s.size k (Nat.le_refl _) (by omega) (.inr rfl)
  have hs : (s.extract a b).size = b - a := size_extract s a b h0
  rw [e1] at e2
  rw [← e2]
  refine un_left _ _ k (by omega) ?_
  have : sz (s.extract a b ++ s.extract b s.size) k = sz s (a + k) := by unfold sz; rw [e2]
  omega
theorem fs_sub {f : Int → Int} {s : ByteArray} {a b : Nat} (hb : B s b) : ∀ (n k : Nat), b - (a + k) ≤ n → a + k ≤ b → fs (fun _ => f) (s.extract a b) k (s.extract a b).size = fs (fun _ => f) s (a + k) b
  | n, k, hn, hk => by
    have h0 := hb.1
    have hs : (s.extract a b).size = b - a := size_extract s a b h0
    by_cases h : a + k < b
    · cases n with
      | zero => omega
      | succ n =>
        have hu := un_sub hb h
        have hz : sz (s.extract a b) k = sz s (a + k) := by unfold sz; rw [hu]
        have hc : ch (s.extract a b) k = ch s (a + k) := by unfold ch; rw [hu]
        have hp := sz_pos (s := s) (i := a + k) (by omega)
        have hle := hb.2 (a + k) h
        have hpc : pc (fun _ => f) (s.extract a b) k = pc (fun _ => f) s (a + k) := by
          unfold pc
          rw [hc]
          by_cases hn : ch s (a + k) < 0
          · rw [if_pos hn, if_pos hn]
            have hbt : bt (s.extract a b) k = bt s (a + k) := by rw [bt_extract, if_pos h]
            unfold bt at hbt
            rw [UInt8.toNat_inj.1 hbt]
          · rw [if_neg hn, if_neg hn]
        have ih := fs_sub (f := f) (a := a) hb n (k + sz s (a + k)) (by omega) (by omega)
        rw [fs_step (s := s.extract a b) (a := k) (by omega) (Nat.le_refl _), fs_step h h0, hz, hpc, ih, Nat.add_assoc]
    · rw [fs_nil (by omega), fs_nil (by omega)]
theorem fm_sub {f : Int → Int} {s : ByteArray} {a b : Nat} (hb : B s b) (hab : a ≤ b) : (fm (fun _ => f) (s.extract a b)).data.toList = fs (fun _ => f) s a b := by
  rw [fm_data, fs_sub hb b 0 (by omega) (by omega), Nat.add_zero]
theorem fs_congr {g h : Nat → Int → Int} {s : ByteArray} {b : Nat} (hb : b ≤ s.size) : ∀ (n a : Nat), b - a ≤ n → (∀ i, a ≤ i → i < b → g i = h i) → fs g s a b = fs h s a b
  | n, a, hn, hg => by
    by_cases ha : a < b
    · cases n with
      | zero => omega
      | succ n =>
        have hp := sz_pos (s := s) (i := a) (by omega)
        rw [fs_step ha hb, fs_step ha hb, fs_congr hb n (a + sz s a) (by omega) (fun i h1 h2 => hg i (by omega) h2)]
        congr 1
        unfold pc
        rw [hg a (Nat.le_refl _) ha]
    · rw [fs_nil (by omega), fs_nil (by omega)]

/-- the upper form where a word begins, the lower one elsewhere -/
def capG (ws : List (Nat × Nat)) (i : Nat) (c : Int) : Int := if ws.any (fun w => decide (w.1 = i)) then upc c else lowc c
theorem gd_cap (ws : List (Nat × Nat)) : Gd (capG ws) := fun i c => by
  unfold capG
  split
  · exact .inl rfl
  · exact .inr rfl
/-- behind k words, at d -/
structure CapI (s : ByteArray) (k d : Nat) : Prop where
  b : B s d
  pre : ∀ p ∈ (words s).take k, p.1 < d
  post : ∀ p ∈ (words s).drop k, d ≤ p.1
theorem capI_zero (s : ByteArray) : CapI s 0 0 := ⟨B_zero s, fun p h => by simp at h, fun p _ => Nat.zero_le _⟩
theorem word_B {s : ByteArray} {p : Nat × Nat} (h : p ∈ words s) : B s p.1 ∧ p.1 < s.size ∧ p.1 + sz s p.1 ≤ p.2 ∧ p.2 ≤ s.size ∧ B s p.2 := by
  obtain ⟨c1, c2⟩ := words_cb h
  obtain ⟨h1, h2⟩ := words_mem h
  obtain ⟨m, e, hB⟩ := cb_B c1
  obtain ⟨m2, e2, hB2⟩ := cb_B c2
  have : p.1 = m := by omega
  subst this
  have : p.2 = m2 := by omega
  subst this
  exact ⟨hB, by omega, hB2.2 _ h1, h2, hB2⟩
theorem words_lt {s : ByteArray} {i j : Nat} {p q : Nat × Nat} (hp : (words s)[i]? = some p) (hq : (words s)[j]? = some q) (h : i < j) : p.2 < q.1 := by
  have hs := words_sorted s
  obtain ⟨hi, ei⟩ := List.getElem?_eq_some_iff.1 hp
  obtain ⟨hj, ej⟩ := List.getElem?_eq_some_iff.1 hq
  have := List.pairwise_iff_getElem.1 hs i j hi hj h
  rw [ei, ej] at this
  exact this
theorem mem_take {α : Type} {l : List α} {k : Nat} {x : α} (h : x ∈ l.take k) : ∃ i, i < k ∧ l[i]? = some x := by
  obtain ⟨i, hi⟩ := List.mem_iff_getElem?.1 h
  have hlt := (List.getElem?_eq_some_iff.1 hi).1
  rw [List.length_take] at hlt
  exact ⟨i, by omega, by rwa [List.getElem?_take_of_lt (by omega)] at hi⟩
theorem mem_drop {α : Type} {l : List α} {k : Nat} {x : α} (h : x ∈ l.drop k) : ∃ i, k ≤ i ∧ l[i]? = some x := by
  obtain ⟨i, hi⟩ := List.mem_iff_getElem?.1 h
  rw [List.getElem?_drop] at hi
  exact ⟨k + i, by omega, hi⟩
theorem CapI.next {s : ByteArray} {k d : Nat} {p : Nat × Nat} (h : CapI s k d) (hp : (words s)[k]? = some p) : d ≤ p.1 ∧ CapI s (k + 1) (p.1 + sz s p.1) := by
  have hm : p ∈ words s := List.mem_of_getElem? hp
  obtain ⟨w1, w2, w3, w4, w5⟩ := word_B hm
  have hpos := sz_pos w2
  have hd : d ≤ p.1 := h.post p (by
    rw [List.drop_eq_getElem_cons (List.getElem?_eq_some_iff.1 hp).1]
    simp [(List.getElem?_eq_some_iff.1 hp).2])
  refine ⟨hd, B_next w1 w2, fun q hq => ?_, fun q hq => ?_⟩
  · obtain ⟨i, hi, hqi⟩ := mem_take hq
    by_cases e : i = k
    · subst e; rw [hp] at hqi; cases hqi; omega
    · have h1 := words_lt hqi hp (by omega)
      have := words_mem (List.mem_of_getElem? hqi)
      omega
  · obtain ⟨i, hi, hqi⟩ := mem_drop hq
    have := words_lt hp hqi (by omega)
    omega
theorem no_start {s : ByteArray} {k d i e : Nat} (h : CapI s k d) (hi : d ≤ i) (he : i < e) (hp : ∀ p, (words s)[k]? = some p → e ≤ p.1) : capG (words s) i = lowc := by
  funext c
  unfold capG
  rw [if_neg]
  rw [List.any_eq_true]
  rintro ⟨q, hq, hqi⟩
  have hqi : q.1 = i := by simpa using hqi
  obtain ⟨j, hj⟩ := List.mem_iff_getElem?.1 hq
  by_cases hjk : j < k
  · have := h.pre q (by
      rw [List.mem_iff_getElem?]
      exact ⟨j, by rwa [List.getElem?_take_of_lt hjk]⟩)
    omega
  · by_cases e2 : j = k
    · subst e2; have := hp q hj; omega
    · have hk : k < (words s).length := by have := (List.getElem?_eq_some_iff.1 hj).1; omega
      have hpk : (words s)[k]? = some (words s)[k] := List.getElem?_eq_getElem hk
      have h1 := hp _ hpk
      have h2 := words_lt hpk hj (by omega)
      have := words_mem (List.mem_of_getElem? hpk)
      omega
theorem at_start {s : ByteArray} {p : Nat × Nat} (h : p ∈ words s) : capG (words s) p.1 = upc := by
  funext c
  unfold capG
  rw [if_pos]
  rw [List.any_eq_true]
  exact ⟨p, h, by simp⟩
/-- one word more -/
theorem cap_step {s : ByteArray} {k d : Nat} {p : Nat × Nat} (h : CapI s k d) (hp : (words s)[k]? = some p) :
    fs (capG (words s)) s 0 (p.1 + sz s p.1) = fs (capG (words s)) s 0 d ++ fs (fun _ => lowc) s d p.1 ++ fs (fun _ => upc) s p.1 (p.1 + sz s p.1) := by
  have hm : p ∈ words s := List.mem_of_getElem? hp
  obtain ⟨w1, w2, w3, w4, w5⟩ := word_B hm
  obtain ⟨hd, hn⟩ := h.next hp
  have hz := sz_in w2
  rw [fs_app (b := p.1) w1 hz (Nat.zero_le _) (by omega), fs_app (b := d) h.b (by omega) (Nat.zero_le _) hd, fs_one w2, fs_one w2,
    fs_congr (g := capG (words s)) (h := fun _ => lowc) (by omega) p.1 d (by omega) (fun i h1 h2 => no_start h h1 h2 (fun q hq => by rw [hp] at hq; cases hq; exact Nat.le_refl _))]
  congr 1
  unfold pc
  rw [at_start hm]
theorem cap_end {s : ByteArray} {d : Nat} (h : CapI s (words s).length d) : (fm (capG (words s)) s).data.toList = fs (capG (words s)) s 0 d ++ fs (fun _ => lowc) s d s.size := by
  rw [fm_data, fs_app (b := d) h.b (Nat.le_refl _) (Nat.zero_le _) h.b.1,
    fs_congr (g := capG (words s)) (h := fun _ => lowc) (Nat.le_refl _) s.size d (by omega) (fun i h1 h2 => no_start h h1 h2 (fun q hq => by rw [List.getElem?_eq_none (Nat.le_refl _)] at hq; cases hq))]
end Go.Proofs.YtdggbnkhbmffoaaGreatDoor
namespace Go.Proofs.YtdggbnkhbmffoaaGreatDoor
open Bod Wid

/-- at the boundary a, k words are over -/
structure Ti (s : ByteArray) (k a : Nat) (pre post : List Clu) (o : Option (Nat × Nat)) : Prop where
  fr : Fr s a pre post
  ws : (words s).drop k = wrun (wcl s) o post
  st : o = none ∨ ∃ x c r, o = some (x, a) ∧ x < a ∧ post = c :: r ∧ wcl s c = true
theorem ti_zero (s : ByteArray) : ∃ pre post o, Ti s 0 0 pre post o := by
  obtain ⟨pre, post, h⟩ := fr_of (s := s) (a := 0) (cb_zero s)
  have hp : pre = [] := by
    cases pre with
    | nil => rfl
    | cons c r => obtain ⟨_, h2, h3⟩ := h.l; have := tiled_le h3; omega
  subst hp
  exact ⟨[], post, none, h, by rw [List.drop_zero, words_wcl, ← h.eq]; rfl, .inl rfl⟩
theorem Ti.done {s : ByteArray} {k a : Nat} {pre : List Clu} {o : Option (Nat × Nat)} (h : Ti s k a pre [] o) : a = s.size ∧ (words s).length ≤ k := by
  refine ⟨h.fr.done.1, ?_⟩
  rcases h.st with e | ⟨x, c, r, _, _, e, _⟩
  · have := h.ws
    rw [e] at this
    simpa [wrun] using this
  · cases e
theorem lastTo_ge (p : Clu → Bool) : ∀ (l : List Clu) (i j : Nat), tiled i l j → i ≤ lastTo p i l
  | [], i, j, _ => Nat.le_refl _
  | c :: r, i, j, h => by
    obtain ⟨h1, h2, h3⟩ := h
    unfold lastTo
    split
    · have := lastTo_ge p r c.to j h3; omega
    · exact Nat.le_refl _
/-- at a word cluster -/
theorem Ti.word {s : ByteArray} {k a : Nat} {pre r : List Clu} {c : Clu} {o : Option (Nat × Nat)} (h : Ti s k a pre (c :: r) o) (hc : wcl s c = true) :
    ∃ p, (words s)[k]? = some p ∧ p.1 ≤ a ∧ a < p.2 ∧ c.to ≤ p.2 ∧ (c.to = p.2 → wat s c.to = false ∧ ∃ o', Ti s (k + 1) c.to (pre ++ [c]) r o') ∧ (c.to ≠ p.2 → ∃ o', Ti s k c.to (pre ++ [c]) r o') := by
  obtain ⟨n1, n2, n3, n4, n5⟩ := h.fr.next
  have hfr := h.fr.r.1
  obtain ⟨x, hx, hw⟩ : ∃ x, x ≤ a ∧ (words s).drop k = (x, lastTo (wcl s) c.to r) :: wrun (wcl s) none (r.dropWhile (wcl s)) := by
    rcases h.st with e | ⟨x, c', r', e, hx, ep, hc'⟩
    · exact ⟨c.fr, by omega, by rw [h.ws, e]; simp only [wrun, if_pos hc]; exact wrun_some _ _ _⟩
    · exact ⟨x, by omega, by rw [h.ws, e]; simp only [wrun, if_pos hc]; exact wrun_some _ _ _⟩
  have hge := lastTo_ge (wcl s) r c.to s.size n2.r
  have hk : (words s)[k]? = some (x, lastTo (wcl s) c.to r) := by
    have : ((words s).drop k)[0]? = some (x, lastTo (wcl s) c.to r) := by rw [hw]; rfl
    rwa [List.getElem?_drop, Nat.add_zero] at this
  refine ⟨_, hk, hx, by simp only; omega, hge, fun e => ?_, fun e => ?_⟩
  · simp only at e
    have hd : (words s).drop (k + 1) = wrun (wcl s) none (r.dropWhile (wcl s)) := by
      rw [← List.drop_drop, hw]; rfl
    cases r with
    | nil => exact ⟨n2.done.2, none, n2, by rw [hd]; rfl, .inl rfl⟩
    | cons d r =>
      have hnd : wcl s d = false := by
        cases hq : wcl s d with
        | false => rfl
        | true =>
          obtain ⟨_, g2, g3⟩ := n2.r
          have := lastTo_ge (wcl s) r d.to s.size g3
          simp only [lastTo, if_pos hq] at e
          omega
      exact ⟨by rw [n2.next.2.2.2.2]; exact hnd, none, n2, by rw [hd, List.dropWhile_cons_of_neg (by rw [hnd]; decide)], .inl rfl⟩
  · simp only at e
    cases r with
    | nil => exact absurd rfl e
    | cons d r =>
      have hd : wcl s d = true := by
        cases hq : wcl s d with
        | true => rfl
        | false => exact absurd (by simp [lastTo, hq]) e
      exact ⟨some (x, c.to), n2, by rw [hw, wrun_some], .inr ⟨x, d, r, rfl, by omega, rfl, hd⟩⟩
/-- at another cluster -/
theorem Ti.other {s : ByteArray} {k a : Nat} {pre r : List Clu} {c : Clu} {o : Option (Nat × Nat)} (h : Ti s k a pre (c :: r) o) (hc : wcl s c = false) :
    (∀ p, (words s)[k]? = some p → a < p.1) ∧ Ti s k c.to (pre ++ [c]) r none := by
  obtain ⟨n1, n2, n3, n4, n5⟩ := h.fr.next
  have ho : o = none := by
    rcases h.st with e | ⟨x, c', r', e, hx, ep, hc'⟩
    · exact e
    · cases ep; rw [hc] at hc'; cases hc'
  have hw : (words s).drop k = wrun (wcl s) none r := by rw [h.ws, ho]; simp [wrun, hc]
  refine ⟨fun p hp => ?_, n2, hw, .inl rfl⟩
  have hm : p ∈ wrun (wcl s) none r := by
    rw [← hw, List.mem_iff_getElem?]
    exact ⟨0, by rw [List.getElem?_drop, Nat.add_zero]; exact hp⟩
  have := (wsp_mem (wcl s) n2.r p hm).1
  omega

/-- the words' ends one behind the other -/
theorem ahead_next {s : ByteArray} {k a : Nat} {p : Nat × Nat} (hp : (words s)[k]? = some p) (h1 : a < p.2) (h2 : ∀ j q, j < k → (words s)[j]? = some q → q.2 ≤ a) : aheadW (words s) s.size a = p.2 := by
  unfold aheadW
  have : (words s).find? (fun w => decide (a < w.2)) = some p := by
    rw [List.find?_eq_some_iff_getElem]
    obtain ⟨hk, ek⟩ := List.getElem?_eq_some_iff.1 hp
    refine ⟨by simpa using h1, k, hk, ek, fun j hj => ?_⟩
    have := h2 j _ hj (List.getElem?_eq_getElem (by omega))
    simp; omega
  rw [this]
  rfl
theorem ahead_none {s : ByteArray} {a : Nat} (h : ∀ q ∈ words s, q.2 ≤ a) : aheadW (words s) s.size a = s.size := by
  unfold aheadW
  have : (words s).find? (fun w => decide (a < w.2)) = none := by
    rw [List.find?_eq_none]
    intro q hq
    have := h q hq
    simp; omega
  rw [this]
  rfl
theorem filter_take (l : List Nat) (a k : Nat) (h1 : ∀ j x, j < k → l[j]? = some x → x < a) (h2 : ∀ j x, k ≤ j → l[j]? = some x → a ≤ x) : l.filter (fun x => decide (x < a)) = l.take k := by
  have e : l = l.take k ++ l.drop k := (List.take_append_drop k l).symm
  have f1 : (l.take k).filter (fun x => decide (x < a)) = l.take k := by
    rw [List.filter_eq_self]
    intro x hx
    obtain ⟨j, hj, hx⟩ := mem_take hx
    simpa using h1 j x hj hx
  have f2 : (l.drop k).filter (fun x => decide (x < a)) = [] := by
    rw [List.filter_eq_nil_iff]
    intro x hx
    obtain ⟨j, hj, hx⟩ := mem_drop hx
    have := h2 j x hj hx
    simp; omega
  conv => lhs; rw [e]
  rw [List.filter_append, f1, f2, List.append_nil]
theorem behind_prev {s : ByteArray} {k a : Nat} {p : Nat × Nat} (hp : (words s)[k]? = some p) (h1 : p.1 < a) (h2 : ∀ j q, k < j → (words s)[j]? = some q → a ≤ q.1) : behindW (words s) a = p.1 := by
  unfold behindW
  rw [filter_take _ a (k + 1) (fun j x hj hx => ?_) (fun j x hj hx => ?_)]
  · have hk : k < ((words s).map (·.1)).length := by rw [List.length_map]; exact (List.getElem?_eq_some_iff.1 hp).1
    rw [List.getLast?_eq_getElem?, List.length_take, List.getElem?_take_of_lt (by omega), show min (k + 1) ((words s).map (·.1)).length - 1 = k by omega, List.getElem?_map, hp]
    rfl
  · rw [List.getElem?_map] at hx
    obtain ⟨q, hq, rfl⟩ := Option.map_eq_some_iff.1 hx
    by_cases e : j = k
    · subst e; rw [hp] at hq; cases hq; exact h1
    · have := words_lt hq hp (by omega)
      have := words_mem (List.mem_of_getElem? hq)
      omega
  · rw [List.getElem?_map] at hx
    obtain ⟨q, hq, rfl⟩ := Option.map_eq_some_iff.1 hx
    exact h2 j q (by omega) hq
theorem behind_none {s : ByteArray} {a : Nat} (h : ∀ q ∈ words s, a ≤ q.1) : behindW (words s) a = 0 := by
  unfold behindW
  rw [List.filter_eq_nil_iff.2]
  · rfl
  · intro x hx
    obtain ⟨q, hq, rfl⟩ := List.mem_map.1 hx
    have := h q hq
    simp; omega
end Go.Proofs.YtdggbnkhbmffoaaGreatDoor
