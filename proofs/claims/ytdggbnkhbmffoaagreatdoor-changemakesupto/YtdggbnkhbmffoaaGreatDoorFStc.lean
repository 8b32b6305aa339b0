/-
  What the law ChangeStands asks: its command, whether an edit lies inside, and its first line, whose order is drawn. Conditions: those of each theorem.
-/
import Derived.Test.YtdggbnkhbmffoaaGreatDoorFBox
import Derived.Test.YtdggbnkhbmffoaaGreatDoorURegInv
namespace Go.Proofs.YtdggbnkhbmffoaaGreatDoor
open Go.RowKit Go.Shelf Bod Wid

set_option maxRecDepth 100000 in
set_option maxHeartbeats 1000000 in
theorem command_any (x : Ak) (w : World) : Calls Tryz.prog 7 #[.agg #[.int .i64 x.k, .int .i64 x.c, .int .i64 x.i, .int .i64 x.r]] w fun e W' => e = .returned (.agg #[.int .i64 x.k, .int .i64 x.c, .string ⟨#[112, 97, 115, 115, 101, 100, 32, 111, 118, 101, 114]⟩, .int .u8 113]) ∧ Below w.heap.size w W' := by
  have HB : Hid (∀ o o', Below w.heap.size w ((w.alloc o).alloc o')) := fun o o' => ((Below.refl _ w).alloc (Nat.le_refl _) o).alloc (by simp) o'
  go_enter Tryz.func7, Tryz.ntmps7
  go_wp2
  exact bodyPost_ret (v := .agg #[.int .i64 x.k, .int .i64 x.c, .string ⟨#[112, 97, 115, 115, 101, 100, 32, 111, 118, 101, 114]⟩, .int .u8 113]) (by simp [results, Tryz.results7, go_sem]) rfl ⟨rfl, HB.out _ _⟩

/-- the frame of the law's first line -/
def frS (ts : Array Value) (y : Nat → Value) : Array Value :=
  (((((((((((((ts.setIfInBounds 15 (y 0)).setIfInBounds 16 (y 1)).setIfInBounds 17 (y 2)).setIfInBounds 18 (y 3)).setIfInBounds 19 (y 4)).setIfInBounds 20 (y 5)).setIfInBounds 21 (y 6)).setIfInBounds 22 (y 7)).setIfInBounds 14 (y 8)).setIfInBounds 23 (y 9)).setIfInBounds 24 (y 10)).setIfInBounds 5 (y 11)).setIfInBounds 6 (y 13))
def updS (y : Nat → Value) (i : Nat) (z : Value) : Nat → Value := fun j => if j = i then z else y j
theorem nameS {c : Code} {P : Program} {Q : Exit → Act → World → Prop} {a : Act} {w : World} (h : ∀ A, A = a → c.wp P Q A w) : c.wp P Q a w := h a rfl
theorem dgs {v : List Bool} {i j : Nat} (h : i ≠ j) : (v.set i true).getD j false = v.getD j false := by
  rw [List.getD_eq_getElem?_getD, List.getD_eq_getElem?_getD, List.getElem?_set, if_neg h]
/-- what each operation's slot has, once it has run -/
def PS (w : World) (x : Ak) (s : ByteArray) (c : Chg) (e : Int) (st : Bool) : Nat → Value → World → Prop
  | 0, y, _ => y = .agg #[.int .i64 x.k, .int .i64 x.c, .int .i64 x.i, .int .i64 x.r]
  | 1, y, _ => y = .agg #[.int .i64 x.k, .int .i64 x.c, .string ⟨#[112, 97, 115, 115, 101, 100, 32, 111, 118, 101, 114]⟩, .int .u8 113]
  | 2, y, _ => y = .string s
  | 3, y, _ => y = .pointer (some ⟨w.heap.size, 2, none⟩)
  | 4, y, _ => y = .int .i64 x.i
  | 5, y, _ => y = .pointer (some ⟨w.heap.size, 3, none⟩)
  | 6, y, _ => y = .int .i64 x.r
  | 7, y, _ => y = .tuple #[.agg #[.int .i64 c.at', .int .i64 c.cut, .string c.put, .int .i64 c.cur, .string c.kill, .bool c.ahead], .int .i64 e]
  | 8, y, _ => y = .tuple #[.agg #[.int .i64 c.at', .int .i64 c.cut, .string c.put, .int .i64 c.cur, .string c.kill, .bool c.ahead], .int .i64 e]
  | 9, y, _ => y = .agg #[.int .i64 c.at', .int .i64 c.cut, .string c.put, .int .i64 c.cur, .string c.kill, .bool c.ahead]
  | 10, y, _ => y = .int .i64 e
  | 11, y, W => ∃ b, y = .pointer (some ⟨b, 0, none⟩) ∧ w.heap.size < b ∧ W.heap[b]? = some (.cells (chc (if st then c else chz)) 29 (0, 0))
  | 13, y, _ => y = .int .i64 e
  | _, _, _ => True
section
variable {w W W' : World} {x : Ak} {s : ByteArray} {c : Chg} {e : Int} {v : List Bool} {y : Nat → Value}
theorem PS.below {st : Bool} (hb : Below W.heap.size W W') : ∀ {i : Nat} {z : Value}, PS w x s c e st i z W → PS w x s c e st i z W'
  | 0, _, h => h
  | 1, _, h => h
  | 2, _, h => h
  | 3, _, h => h
  | 4, _, h => h
  | 5, _, h => h
  | 6, _, h => h
  | 7, _, h => h
  | 8, _, h => h
  | 9, _, h => h
  | 10, _, h => h
  | 11, _, ⟨g, h1, h2, h3⟩ => ⟨g, h1, h2, (hb.block _ (Array.getElem?_eq_some_iff.1 h3).1).trans h3⟩
  | 12, _, h => h
  | 13, _, h => h
  | _ + 14, _, h => h
/-- no other slot knows of the store -/
theorem PS.flag {st st' : Bool} : ∀ {i : Nat} {z : Value}, i ≠ 11 → PS w x s c e st i z W → PS w x s c e st' i z W'
  | 0, _, _, h => h
  | 1, _, _, h => h
  | 2, _, _, h => h
  | 3, _, _, h => h
  | 4, _, _, h => h
  | 5, _, _, h => h
  | 6, _, _, h => h
  | 7, _, _, h => h
  | 8, _, _, h => h
  | 9, _, _, h => h
  | 10, _, _, h => h
  | 11, _, h, _ => absurd rfl h
  | 12, _, _, h => h
  | 13, _, _, h => h
  | _ + 14, _, _, h => h
structure DS (w : World) (x : Ak) (s : ByteArray) (c : Chg) (e : Int) (v : List Bool) (y : Nat → Value) (W : World) : Prop where
  b : Bx w x [] W
  h : ∀ i, v.getD i false = true → PS w x s c e (v.getD 12 false) i (y i) W
  w : v.getD 12 false = true → v.getD 11 false = true
theorem DS.set (h : DS w x s c e v y W) (hb : Below W.heap.size W W') {i : Nat} {z : Value} (hi : i ≠ 12) (hy : PS w x s c e (v.getD 12 false) i z W') : DS w x s c e (v.set i true) (updS y i z) W' := by
  refine ⟨h.b.below hb, fun j e => ?_, fun e => ?_⟩
  rotate_left
  · rw [dgs hi] at e
    by_cases k : i = 11
    · subst k
      have := h.w e
      rw [List.getD_eq_getElem?_getD] at this ⊢
      cases hq : v[11]? with
      | none => rw [hq] at this; cases this
      | some q =>
        have hl := (List.getElem?_eq_some_iff.1 hq).1
        simp [hl]
    · rw [dgs k]; exact h.w e
  rw [dgs hi]
  by_cases k : j = i
  · subst k
    unfold updS
    rw [if_pos rfl]
    exact hy
  · rw [dgs (fun e => k e.symm)] at e
    unfold updS
    rw [if_neg k]
    exact (h.h j e).below hb
theorem DS.store (h : DS w x s c e v y W) (hv : v.length = 14) (h11 : v.getD 11 false = true) {b : Nat} (hb : w.heap.size < b) (hy : y 11 = .pointer (some ⟨b, 0, none⟩)) (hz : W.heap[b]? = some (.cells (chc chz) 29 (0, 0))) :
    DS w x s c e (v.set 12 true) y ((((((W.setCell ⟨b, 0, none⟩ (.int .i64 c.at')).setCell ⟨b, 1, none⟩ (.int .i64 c.cut)).setCell ⟨b, 2, none⟩ (.string c.put)).setCell ⟨b, 3, none⟩ (.int .i64 c.cur)).setCell ⟨b, 4, none⟩ (.string c.kill)).setCell ⟨b, 5, none⟩ (.bool c.ahead)) := by
  obtain ⟨q1, q2⟩ := cset (.int .i64 c.at') (.int .i64 c.cut) (.string c.put) (.int .i64 c.cur) (.string c.kill) (.bool c.ahead) h.b.bel (Nat.le_of_lt hb) hz
  have hset : (v.set 12 true).getD 12 false = true := by simp [List.getD_eq_getElem?_getD, hv]
  refine ⟨⟨q1, ?_, fun p hp => by cases hp⟩, fun j hj => ?_, fun _ => by rw [dgs (by decide)]; exact h11⟩
  · have hne : b ≠ w.heap.size := by omega
    have hk : ∀ (V : World) (i : Nat) (u : Value), (V.setCell ⟨b, i, none⟩ u).heap[w.heap.size]? = V.heap[w.heap.size]? := fun V i u => by
      unfold World.setCell
      show (V.heap.modify b _)[w.heap.size]? = _
      rw [Array.getElem?_modify, if_neg hne]
    rw [hk, hk, hk, hk, hk, hk]
    exact h.b.ask
  · rw [hset]
    by_cases k : j = 11
    · subst k
      exact ⟨b, hy, hb, q2⟩
    by_cases k2 : j = 12
    · subst k2; trivial
    · rw [dgs (fun e => k2 e.symm)] at hj
      exact (h.h j hj).flag k
end
end Go.Proofs.YtdggbnkhbmffoaaGreatDoor
