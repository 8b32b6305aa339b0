/-
  The walk of the law ChangeMakes: every command makes the document's change. Conditions: those of walk_of.
-/
import Derived.Test.YtdggbnkhbmffoaaGreatDoorFRs
import Derived.Test.YtdggbnkhbmffoaaGreatDoorFAwk
import Derived.Test.YtdggbnkhbmffoaaGreatDoorFStc
import Derived.Deep.CutRange
namespace Go.Proofs.YtdggbnkhbmffoaaGreatDoor.changeMakes
open Go.RowKit Go.Shelf Bod Wid

/-- the frame of a drawn line -/
def frA (ts : Array Value) (y : Nat → Value) : Array Value :=
  (((((((((((((ts.setIfInBounds 24 (y 0)).setIfInBounds 25 (y 1)).setIfInBounds 26 (y 2)).setIfInBounds 27 (y 3)).setIfInBounds 28 (y 4)).setIfInBounds 29 (y 5)).setIfInBounds 30 (y 6)).setIfInBounds 31 (y 7)).setIfInBounds 23 (y 8)).setIfInBounds 32 (y 9)).setIfInBounds 33 (y 10)).setIfInBounds 7 (y 11)).setIfInBounds 8 (y 13))
/-- the frame of a drawn line -/
def frB (ts : Array Value) (y : Nat → Value) : Array Value :=
  (((((((((((((ts.setIfInBounds 35 (y 0)).setIfInBounds 36 (y 1)).setIfInBounds 37 (y 2)).setIfInBounds 38 (y 3)).setIfInBounds 39 (y 4)).setIfInBounds 40 (y 5)).setIfInBounds 41 (y 6)).setIfInBounds 42 (y 7)).setIfInBounds 34 (y 8)).setIfInBounds 43 (y 9)).setIfInBounds 44 (y 10)).setIfInBounds 9 (y 11)).setIfInBounds 10 (y 13))
/-- an ask's box, and all that was there -/
structure Bm (w : World) (gb : Nat) (x : Ak) (W : World) : Prop where
  bel : Below w.heap.size w W
  ask : W.heap[gb]? = some (.cells #[.int .i64 x.k, .int .i64 x.c, .int .i64 x.i, .int .i64 x.r] 25 (0, 0))
  lt : gb < w.heap.size
/-- what each operation's slot has, once it has run -/
def PM (w : World) (gb : Nat) (T : TypeId) (x : Ak) (s : ByteArray) (c : Chg) (e : Int) (st : Bool) : Nat → Value → World → Prop
  | 0, y, _ => y = .agg #[.int .i64 x.k, .int .i64 x.c, .int .i64 x.i, .int .i64 x.r]
  | 1, y, _ => y = .agg #[.int .i64 x.k, .int .i64 x.c, .string ⟨#[112, 97, 115, 115, 101, 100, 32, 111, 118, 101, 114]⟩, .int .u8 113]
  | 2, y, _ => y = .string s
  | 3, y, _ => y = .pointer (some ⟨gb, 2, none⟩)
  | 4, y, _ => y = .int .i64 x.i
  | 5, y, _ => y = .pointer (some ⟨gb, 3, none⟩)
  | 6, y, _ => y = .int .i64 x.r
  | 7, y, _ => y = .tuple #[.agg #[.int .i64 c.at', .int .i64 c.cut, .string c.put, .int .i64 c.cur, .string c.kill, .bool c.ahead], .int .i64 e]
  | 8, y, _ => y = .tuple #[.agg #[.int .i64 c.at', .int .i64 c.cut, .string c.put, .int .i64 c.cur, .string c.kill, .bool c.ahead], .int .i64 e]
  | 9, y, _ => y = .agg #[.int .i64 c.at', .int .i64 c.cut, .string c.put, .int .i64 c.cur, .string c.kill, .bool c.ahead]
  | 10, y, _ => y = .int .i64 e
  | 11, y, W => ∃ b, y = .pointer (some ⟨b, 0, none⟩) ∧ w.heap.size ≤ b ∧ W.heap[b]? = some (.cells (chc (if st then c else chz)) T (0, 0))
  | 13, y, _ => y = .int .i64 e
  | _, _, _ => True
section
variable {w W W' : World} {gb : Nat} {T : TypeId} {x : Ak} {s : ByteArray} {c : Chg} {e : Int} {v : List Bool} {y : Nat → Value}
theorem Bm.below (h : Bm w gb x W) (hb : Below W.heap.size W W') : Bm w gb x W' := ⟨below_on h.bel hb, (hb.block _ (Array.getElem?_eq_some_iff.1 h.ask).1).trans h.ask, h.lt⟩
theorem Bm.get (h : Bm w gb x W) : W.cell? ⟨gb, 0, none⟩ = some (.int .i64 x.k) ∧ W.cell? ⟨gb, 1, none⟩ = some (.int .i64 x.c) ∧ W.cell? ⟨gb, 2, none⟩ = some (.int .i64 x.i) ∧ W.cell? ⟨gb, 3, none⟩ = some (.int .i64 x.r) := (box4 h.ask).1
theorem PM.below {st : Bool} (hb : Below W.heap.size W W') : ∀ {i : Nat} {z : Value}, PM w gb T x s c e st i z W → PM w gb T x s c e st i z W'
  | 0, _, h => h
  | 1, _, h => h
  | 2, _, h => h
  | 3, _, h => h
  | 4, _, h => h
  | 5, _, h => h
  | 6, _, h => h
  | 7, _, h => h
  | 8, _, h => h
  | 9, _, h => h
  | 10, _, h => h
  | 11, _, ⟨g, h1, h2, h3⟩ => ⟨g, h1, h2, (hb.block _ (Array.getElem?_eq_some_iff.1 h3).1).trans h3⟩
  | 12, _, h => h
  | 13, _, h => h
  | _ + 14, _, h => h
/-- no other slot knows of the store -/
theorem PM.flag {st st' : Bool} : ∀ {i : Nat} {z : Value}, i ≠ 11 → PM w gb T x s c e st i z W → PM w gb T x s c e st' i z W'
  | 0, _, _, h => h
  | 1, _, _, h => h
  | 2, _, _, h => h
  | 3, _, _, h => h
  | 4, _, _, h => h
  | 5, _, _, h => h
  | 6, _, _, h => h
  | 7, _, _, h => h
  | 8, _, _, h => h
  | 9, _, _, h => h
  | 10, _, _, h => h
  | 11, _, h, _ => absurd rfl h
  | 12, _, _, h => h
  | 13, _, _, h => h
  | _ + 14, _, _, h => h
structure DM (w : World) (gb : Nat) (T : TypeId) (x : Ak) (s : ByteArray) (c : Chg) (e : Int) (v : List Bool) (y : Nat → Value) (W : World) : Prop where
  b : Bm w gb x W
  h : ∀ i, v.getD i false = true → PM w gb T x s c e (v.getD 12 false) i (y i) W
  w : v.getD 12 false = true → v.getD 11 false = true
theorem DM.set (h : DM w gb T x s c e v y W) (hb : Below W.heap.size W W') {i : Nat} {z : Value} (hi : i ≠ 12) (hy : PM w gb T x s c e (v.getD 12 false) i z W') : DM w gb T x s c e (v.set i true) (updS y i z) W' := by
  refine ⟨h.b.below hb, fun j e => ?_, fun e => ?_⟩
  rotate_left
  · rw [dgs hi] at e
    by_cases k : i = 11
    · subst k
      have := h.w e
      rw [List.getD_eq_getElem?_getD] at this ⊢
      cases hq : v[11]? with
      | none => rw [hq] at this; cases this
      | some q =>
        have hl := (List.getElem?_eq_some_iff.1 hq).1
        simp [hl]
    · rw [dgs k]; exact h.w e
  rw [dgs hi]
  by_cases k : j = i
  · subst k
    unfold updS
    rw [if_pos rfl]
    exact hy
  · rw [dgs (fun e => k e.symm)] at e
    unfold updS
    rw [if_neg k]
    exact (h.h j e).below hb
theorem DM.store (h : DM w gb T x s c e v y W) (hv : v.length = 14) (h11 : v.getD 11 false = true) {b : Nat} (hb : w.heap.size ≤ b) (hy : y 11 = .pointer (some ⟨b, 0, none⟩)) (hz : W.heap[b]? = some (.cells (chc chz) T (0, 0))) :
    DM w gb T x s c e (v.set 12 true) y ((((((W.setCell ⟨b, 0, none⟩ (.int .i64 c.at')).setCell ⟨b, 1, none⟩ (.int .i64 c.cut)).setCell ⟨b, 2, none⟩ (.string c.put)).setCell ⟨b, 3, none⟩ (.int .i64 c.cur)).setCell ⟨b, 4, none⟩ (.string c.kill)).setCell ⟨b, 5, none⟩ (.bool c.ahead)) := by
  obtain ⟨q1, q2⟩ := cset (.int .i64 c.at') (.int .i64 c.cut) (.string c.put) (.int .i64 c.cur) (.string c.kill) (.bool c.ahead) h.b.bel hb hz
  have hset : (v.set 12 true).getD 12 false = true := by simp [List.getD_eq_getElem?_getD, hv]
  have hlt := h.b.lt
  refine ⟨⟨q1, ?_, hlt⟩, fun j hj => ?_, fun _ => by rw [dgs (by decide)]; exact h11⟩
  · have hne : gb ≠ b := by omega
    rw [set_ne _ hne, set_ne _ hne, set_ne _ hne, set_ne _ hne, set_ne _ hne, set_ne _ hne]
    exact h.b.ask
  · rw [hset]
    by_cases k : j = 11
    · subst k
      exact ⟨b, hy, hb, q2⟩
    by_cases k2 : j = 12
    · subst k2; trivial
    · rw [dgs (fun e => k2 e.symm)] at hj
      exact (h.h j hj).flag k
end
set_option maxRecDepth 100000 in
set_option maxHeartbeats 4000000 in
theorem walk (hM : Tryz.prog.follows .mixedOrders = true) (s : ByteArray) (hs : s.size ≤ 1048576) (a0 : Option Addr) (n cap : Nat) (hn : n ≤ 1048576) (l : List Ak) (w : World) (hA : Asks4 w a0 n l) (hT : Tw w) :
    Calls Tryz.prog 3 #[.string s, .slice a0 n cap] w fun e W' => e = .returned (.bool true) ∧ Below w.heap.size w W' := by
  have CA : Hid (Calls Tryz.prog 5 #[] w fun e W' => e = .returned (.bool true) ∧ Hid (Below w.heap.size w W')) := awake_any hM w hT
  have CO : Hid (∀ (x : Ak) (d : Chg) (e : Int), x.fit → ofP s x.k x.c x.i x.r = (d, e) → ∀ W, Below w.heap.size w W → Calls Tryz.prog 6 #[.agg #[.int .i64 x.k, .int .i64 x.c, .string ⟨#[112, 97, 115, 115, 101, 100, 32, 111, 118, 101, 114]⟩, .int .u8 113], .string s, .int .i64 x.i, .int .i64 x.r] W fun e' W' => e' = .returned (rsv (d, e)) ∧ Below W.heap.size W W') := fun x d e hx h W hW => by
    have := Of_any hM s (by omega) x.k x.c x.i x.r hx.2.2.1.2 hx.2.2.2.2 ⟨#[112, 97, 115, 115, 101, 100, 32, 111, 118, 101, 114]⟩ 113 W (hT.below hW)
    rw [h] at this
    exact this
  have CP : Hid (∀ (x : Ak) (d : Chg) (e : Int), ofP s x.k x.c x.i x.r = (d, e) → ∀ W, Calls Tryz.prog 8 #[.agg #[.int .i64 x.k, .int .i64 x.c, .string ⟨#[112, 97, 115, 115, 101, 100, 32, 111, 118, 101, 114]⟩, .int .u8 113], .string s, .int .i64 x.i, .int .i64 x.r] W fun e' W' => e' = .returned (rsv (d, e)) ∧ Below W.heap.size W W') := fun x d e h W => by
    have := rOf_any hM s (by omega) x.k x.c x.i x.r ⟨#[112, 97, 115, 115, 101, 100, 32, 111, 118, 101, 114]⟩ 113 W
    rw [h] at this
    exact this
  have HM : Hid (Tryz.prog.follows .mixedOrders = true) := hM
  have HL : Hid (Asks4 w a0 n l) := hA
  clear hT hM hA
  go_enter Tryz.func3, Tryz.ntmps3
  go_wp2_with (go_at_call 5; refine CA.out.mono ?_; clear CA; rintro e w1 ⟨rfl, HB⟩)
  go_loopw [5] (fun t5 wr => ∃ i : Nat, i ≤ n ∧ t5 = .int .i64 (i : Int) ∧ Hid (Below w.heap.size w wr)) (fun t5 _ => n - (intOf t5).toNat)
  case atStart => exact ⟨0, Nat.zero_le _, rfl, HB⟩
  case round =>
    obtain ⟨i, hi, rfl, HW⟩ := hrel
    clear HB
    by_cases hlt : i < n
    · have hlt' : (i : Int) < n := by omega
      have hlt0 : (0 : Int) ≤ i := by omega
      obtain ⟨x, hx⟩ : ∃ x, l[i]? = some x := ⟨_, List.getElem?_eq_getElem (by have := HL.out.1; omega)⟩
      obtain ⟨g, o, rfl, HG⟩ : ∃ g o, a0 = some ⟨g, o, none⟩ ∧ Hid (wr.cell? ⟨g, o + i * 4, none⟩ = some (.int .i64 x.k) ∧ wr.cell? ⟨g, o + i * 4 + 1, none⟩ = some (.int .i64 x.c) ∧ wr.cell? ⟨g, o + i * 4 + 2, none⟩ = some (.int .i64 x.i) ∧ wr.cell? ⟨g, o + i * 4 + 3, none⟩ = some (.int .i64 x.r)) := by
        obtain ⟨g, o, h1, h2, h3⟩ := HL.out.2.2 (by omega)
        obtain ⟨u0, u1, u2, u3⟩ := h3 i x hx
        exact ⟨g, o, h1, (HW.out.cell (p := ⟨g, o + i * 4, none⟩) h2).trans u0, (HW.out.cell (p := ⟨g, o + i * 4 + 1, none⟩) h2).trans u1, (HW.out.cell (p := ⟨g, o + i * 4 + 2, none⟩) h2).trans u2, (HW.out.cell (p := ⟨g, o + i * 4 + 3, none⟩) h2).trans u3⟩
      have hfit : x.fit := HL.out.2.1 x (List.mem_of_getElem? hx)
      obtain ⟨d, e, hde⟩ : ∃ d e, ofP s x.k x.c x.i x.r = (d, e) := ⟨_, _, rfl⟩
      obtain ⟨q0, q1, q2, q3, q4, q5⟩ := d
      have C3 : Hid (∀ W, Below w.heap.size w W → Calls Tryz.prog 6 #[.agg #[.int .i64 x.k, .int .i64 x.c, .string ⟨#[112, 97, 115, 115, 101, 100, 32, 111, 118, 101, 114]⟩, .int .u8 113], .string s, .int .i64 x.i, .int .i64 x.r] W fun e' W' => e' = .returned (.tuple #[.agg #[.int .i64 q0, .int .i64 q1, .string q2, .int .i64 q3, .string q4, .bool q5], .int .i64 e]) ∧ Below W.heap.size W W') := CO.out x _ e hfit hde
      have C4 : Hid (∀ W, Calls Tryz.prog 8 #[.agg #[.int .i64 x.k, .int .i64 x.c, .string ⟨#[112, 97, 115, 115, 101, 100, 32, 111, 118, 101, 114]⟩, .int .u8 113], .string s, .int .i64 x.i, .int .i64 x.r] W fun e' W' => e' = .returned (.tuple #[.agg #[.int .i64 q0, .int .i64 q1, .string q2, .int .i64 q3, .string q4, .bool q5], .int .i64 e]) ∧ Below W.heap.size W W') := CP.out x _ e hde
      obtain ⟨u0, u1, u2, u3⟩ := HG.out
      clear HG hx hfit hde HL CO CP
      go_upto_region 7 with fail
      have HQ0 : Hid (Bm (wr.alloc (.cells #[.int .i64 x.k, .int .i64 x.c, .int .i64 x.i, .int .i64 x.r] 25)) wr.heap.size x (wr.alloc (.cells #[.int .i64 x.k, .int .i64 x.c, .int .i64 x.i, .int .i64 x.r] 25)) ∧ Below w.heap.size w (wr.alloc (.cells #[.int .i64 x.k, .int .i64 x.c, .int .i64 x.i, .int .i64 x.r] 25))) := ⟨⟨Below.refl _ _, World.alloc_heap_new _ _, by simp⟩, below_on HW.out ((Below.refl _ wr).alloc (Nat.le_refl _) _)⟩
      clear u0 u1 u2 u3 HW
      generalize wr.alloc (.cells #[.int .i64 x.k, .int .i64 x.c, .int .i64 x.i, .int .i64 x.r] 25) = w2 at HQ0 ⊢
      generalize wr.heap.size = gb at HQ0 ⊢
      have HB2 : Hid (Bm w2 gb x w2) := HQ0.out.1
      have HW2 : Hid (Below w.heap.size w w2) := HQ0.out.2
      have C5 : Hid (∀ W, Below w2.heap.size w2 W → Calls Tryz.prog 6 #[.agg #[.int .i64 x.k, .int .i64 x.c, .string ⟨#[112, 97, 115, 115, 101, 100, 32, 111, 118, 101, 114]⟩, .int .u8 113], .string s, .int .i64 x.i, .int .i64 x.r] W fun e' W' => e' = .returned (.tuple #[.agg #[.int .i64 q0, .int .i64 q1, .string q2, .int .i64 q3, .string q4, .bool q5], .int .i64 e]) ∧ Below W.heap.size W W') := fun W hW => C3.out W (below_on HW2.out hW)
      clear HQ0 C3
      go_cut [7, 8] from 13 to 53 (fun v7 v8 wx => ∃ b, v7 = .pointer (some ⟨b, 0, none⟩) ∧ v8 = .int .i64 e ∧ Hid (Bm w2 gb x wx ∧ wx.heap[b]? = some (.cells (chc ⟨q0, q1, q2, q3, q4, q5⟩) 29 (0, 0))))
      case first =>
        refine nameS fun A hA => ?_
        refine region_inv HM.out (by kernel_rfl) (fun v a' w' => ∃ y : Nat → Value, a' = ⟨frA A.tmps y, []⟩ ∧ Hid (DM w2 gb 29 x s ⟨q0, q1, q2, q3, q4, q5⟩ e v y w')) ?start ?step ?fin
        case start =>
          refine ⟨fun i => A.tmps.getD (([24, 25, 26, 27, 28, 29, 30, 31, 23, 32, 33, 7, 0, 8] : List Nat).getD i 0) undef, ?_, ⟨HB2.out.below (Below.refl _ _).drew, fun i e => ?_, fun e => ?_⟩⟩
          · subst hA
            simp [frA]
          · rw [List.getD_eq_getElem?_getD, List.getElem?_replicate] at e
            split at e <;> simp at e
          · rw [List.getD_eq_getElem?_getD, List.getElem?_replicate] at e
            split at e <;> simp at e
        case step =>
          intro i o v a' w' ho hv hni hop hI
          obtain ⟨y, rfl, HI⟩ := hI
          clear HB2
          have hv : v.length = 14 := hv
          rcases i with _ | _ | _ | _ | _ | _ | _ | _ | _ | _ | _ | _ | _ | _ | i
          · obtain rfl := Option.some.inj ho
            obtain ⟨c0, c1, c2, c3⟩ := HI.out.b.get
            subst hA
            simp only [frA, List.setIfInBounds_toArray, List.set_cons_succ, List.set_cons_zero]
            go_wp2
            exact ⟨updS y 0 (.agg #[.int .i64 x.k, .int .i64 x.c, .int .i64 x.i, .int .i64 x.r]), by simp [updS], HI.out.set (Below.refl _ _) (by decide) rfl⟩
          · obtain rfl := Option.some.inj ho
            have e0 : y 0 = _ := HI.out.h 0 (open_waits hop (by kernel_rfl))
            subst hA
            simp only [frA, List.setIfInBounds_toArray, List.set_cons_succ, List.set_cons_zero]
            simp only [e0]
            go_wp2_with (go_at_call 7; refine (command_any x _).mono ?_; rintro e' w5 ⟨rfl, hb5⟩)
            exact ⟨updS y 1 (.agg #[.int .i64 x.k, .int .i64 x.c, .string ⟨#[112, 97, 115, 115, 101, 100, 32, 111, 118, 101, 114]⟩, .int .u8 113]), by simp [updS, e0], HI.out.set hb5 (by decide) rfl⟩
          · obtain rfl := Option.some.inj ho
            subst hA
            simp only [frA, List.setIfInBounds_toArray, List.set_cons_succ, List.set_cons_zero]
            go_wp2
            exact ⟨updS y 2 (.string s), by simp [updS], HI.out.set (Below.refl _ _) (by decide) rfl⟩
          · obtain rfl := Option.some.inj ho
            subst hA
            simp only [frA, List.setIfInBounds_toArray, List.set_cons_succ, List.set_cons_zero]
            go_wp2
            exact ⟨updS y 3 (.pointer (some ⟨gb, 2, none⟩)), by simp [updS], HI.out.set (Below.refl _ _) (by decide) rfl⟩
          · obtain rfl := Option.some.inj ho
            have e3 : y 3 = _ := HI.out.h 3 (open_waits hop (by kernel_rfl))
            obtain ⟨c0, c1, c2, c3⟩ := HI.out.b.get
            subst hA
            simp only [frA, List.setIfInBounds_toArray, List.set_cons_succ, List.set_cons_zero]
            simp only [e3]
            go_wp2
            exact ⟨updS y 4 (.int .i64 x.i), by simp [updS, e3], HI.out.set (Below.refl _ _) (by decide) rfl⟩
          · obtain rfl := Option.some.inj ho
            subst hA
            simp only [frA, List.setIfInBounds_toArray, List.set_cons_succ, List.set_cons_zero]
            go_wp2
            exact ⟨updS y 5 (.pointer (some ⟨gb, 3, none⟩)), by simp [updS], HI.out.set (Below.refl _ _) (by decide) rfl⟩
          · obtain rfl := Option.some.inj ho
            have e5 : y 5 = _ := HI.out.h 5 (open_waits hop (by kernel_rfl))
            obtain ⟨c0, c1, c2, c3⟩ := HI.out.b.get
            subst hA
            simp only [frA, List.setIfInBounds_toArray, List.set_cons_succ, List.set_cons_zero]
            simp only [e5]
            go_wp2
            exact ⟨updS y 6 (.int .i64 x.r), by simp [updS, e5], HI.out.set (Below.refl _ _) (by decide) rfl⟩
          · obtain rfl := Option.some.inj ho
            have e1 : y 1 = _ := HI.out.h 1 (open_waits hop (by kernel_rfl))
            have e2 : y 2 = _ := HI.out.h 2 (open_waits hop (by kernel_rfl))
            have e4 : y 4 = _ := HI.out.h 4 (open_waits hop (by kernel_rfl))
            have e6 : y 6 = _ := HI.out.h 6 (open_waits hop (by kernel_rfl))
            subst hA
            simp only [frA, List.setIfInBounds_toArray, List.set_cons_succ, List.set_cons_zero]
            simp only [e1, e2, e4, e6]
            go_wp2_with (go_at_call 6; refine (C5.out _ HI.out.b.bel).mono ?_; rintro e' w5 ⟨rfl, hb5⟩)
            exact ⟨updS y 7 (.tuple #[.agg #[.int .i64 q0, .int .i64 q1, .string q2, .int .i64 q3, .string q4, .bool q5], .int .i64 e]), by simp [updS, e1, e2, e4, e6], HI.out.set hb5 (by decide) rfl⟩
          · obtain rfl := Option.some.inj ho
            have e7 : y 7 = _ := HI.out.h 7 (open_waits hop (by kernel_rfl))
            subst hA
            simp only [frA, List.setIfInBounds_toArray, List.set_cons_succ, List.set_cons_zero]
            simp only [e7]
            go_wp2
            exact ⟨updS y 8 (.tuple #[.agg #[.int .i64 q0, .int .i64 q1, .string q2, .int .i64 q3, .string q4, .bool q5], .int .i64 e]), by simp [updS, e7], HI.out.set (Below.refl _ _) (by decide) rfl⟩
          · obtain rfl := Option.some.inj ho
            have e8 : y 8 = _ := HI.out.h 8 (open_waits hop (by kernel_rfl))
            subst hA
            simp only [frA, List.setIfInBounds_toArray, List.set_cons_succ, List.set_cons_zero]
            simp only [e8]
            go_wp2
            exact ⟨updS y 9 (.agg #[.int .i64 q0, .int .i64 q1, .string q2, .int .i64 q3, .string q4, .bool q5]), by simp [updS, e8], HI.out.set (Below.refl _ _) (by decide) rfl⟩
          · obtain rfl := Option.some.inj ho
            have e8 : y 8 = _ := HI.out.h 8 (open_waits hop (by kernel_rfl))
            subst hA
            simp only [frA, List.setIfInBounds_toArray, List.set_cons_succ, List.set_cons_zero]
            simp only [e8]
            go_wp2
            exact ⟨updS y 10 (.int .i64 e), by simp [updS, e8], HI.out.set (Below.refl _ _) (by decide) rfl⟩
          · obtain rfl := Option.some.inj ho
            have hfl : ∀ hop : v.getD 12 false = true, False := fun h12 => by
              have := HI.out.w h12
              rw [List.getD_eq_getElem?_getD] at hni this
              rw [List.getElem?_eq_getElem (by omega)] at hni this
              simp at hni this
              rw [hni] at this; cases this
            have hfl' : v.getD 12 false = false := by cases h : v.getD 12 false with | false => rfl | true => exact (hfl h).elim
            have HNW : Hid (DM w2 gb 29 x s ⟨q0, q1, q2, q3, q4, q5⟩ e (v.set 11 true) (updS y 11 (.pointer (some ⟨w'.heap.size, 0, none⟩))) (w'.alloc (.cells #[.int .i64 0, .int .i64 0, .string ⟨#[]⟩, .int .i64 0, .string ⟨#[]⟩, .bool false] 29))) := HI.out.set ((Below.refl _ w').alloc (Nat.le_refl _) _) (by decide) ⟨w'.heap.size, rfl, HI.out.b.bel.size, by rw [hfl']; exact World.alloc_heap_new _ _⟩
            clear hfl hfl'
            subst hA
            simp only [frA, List.setIfInBounds_toArray, List.set_cons_succ, List.set_cons_zero]
            go_wp2
            exact ⟨_, by simp [updS], HNW⟩
          · obtain rfl := Option.some.inj ho
            have e9 : y 9 = _ := HI.out.h 9 (open_waits hop (by kernel_rfl))
            have hfl : v.getD 12 false = false := by
              rw [List.getD_eq_getElem?_getD] at hni ⊢
              rw [List.getElem?_eq_getElem (by omega)] at hni ⊢
              exact hni
            obtain ⟨b, e11, hlt, hz⟩ : ∃ b, y 11 = .pointer (some ⟨b, 0, none⟩) ∧ w2.heap.size ≤ b ∧ w'.heap[b]? = some (.cells (chc (if v.getD 12 false then _ else chz)) 29 (0, 0)) := HI.out.h 11 (open_waits hop (by kernel_rfl))
            rw [hfl] at hz
            simp only [Bool.false_eq_true, if_false] at hz
            obtain ⟨⟨z0, z1, z2, z3, z4, z5⟩, f0, f1, f2, f3, f4, f5, hl⟩ := cbox hz
            have HFN : Hid (DM w2 gb 29 x s ⟨q0, q1, q2, q3, q4, q5⟩ e (v.set 12 true) y _) := HI.out.store hv (open_waits hop (by kernel_rfl)) hlt e11 hz
            clear hz hlt hfl
            subst hA
            simp only [frA, List.setIfInBounds_toArray, List.set_cons_succ, List.set_cons_zero]
            simp only [e9, e11]
            go_wp2
            exact ⟨y, by simp [e9, e11], HFN⟩
          · obtain rfl := Option.some.inj ho
            have e10 : y 10 = _ := HI.out.h 10 (open_waits hop (by kernel_rfl))
            subst hA
            simp only [frA, List.setIfInBounds_toArray, List.set_cons_succ, List.set_cons_zero]
            simp only [e10]
            go_wp2
            exact ⟨updS y 13 (.int .i64 e), by simp [updS, e10], HI.out.set (Below.refl _ _) (by decide) rfl⟩
          · simp at ho
        case fin =>
          intro v a' w' hv hall hI
          obtain ⟨y, rfl, HI⟩ := hI
          have hv : v.length = 14 := hv
          have e13 : y 13 = .int .i64 e := HI.out.h 13 (of_all hall (by omega))
          obtain ⟨b, e11, hlt, hz⟩ : ∃ b, y 11 = .pointer (some ⟨b, 0, none⟩) ∧ w2.heap.size ≤ b ∧ w'.heap[b]? = some (.cells (chc (if v.getD 12 false then _ else chz)) 29 (0, 0)) := HI.out.h 11 (of_all hall (by omega))
          rw [of_all hall (by omega), if_pos rfl] at hz
          have HQ : Hid (Bm w2 gb x w' ∧ w'.heap[b]? = some (.cells (chc ⟨q0, q1, q2, q3, q4, q5⟩) 29 (0, 0))) := ⟨HI.out.b, hz⟩
          clear hz hlt HI hall
          subst hA
          simp only [frA, List.setIfInBounds_toArray, List.set_cons_succ, List.set_cons_zero, e11, e13]
          go_wp2_with fail
          go_meet
          exact ⟨b, rfl, rfl, HQ⟩
      case rest =>
        obtain ⟨b7, rfl, rfl, HC⟩ := hcut
        clear C5 HB2
        obtain ⟨w3, hw3⟩ : ∃ w3, w3 = wc := ⟨_, rfl⟩
        subst hw3
        have HB3 : Hid (Bm w3 gb x w3) := ⟨Below.refl _ _, HC.out.1.ask, (Array.getElem?_eq_some_iff.1 HC.out.1.ask).1⟩
        have HW3 : Hid (Below w.heap.size w w3 ∧ w3.heap[b7]? = some (.cells (chc ⟨q0, q1, q2, q3, q4, q5⟩) 29 (0, 0))) := ⟨below_on HW2.out HC.out.1.bel, HC.out.2⟩
        have C6 : Hid (∀ W, Below w3.heap.size w3 W → Calls Tryz.prog 8 #[.agg #[.int .i64 x.k, .int .i64 x.c, .string ⟨#[112, 97, 115, 115, 101, 100, 32, 111, 118, 101, 114]⟩, .int .u8 113], .string s, .int .i64 x.i, .int .i64 x.r] W fun e' W' => e' = .returned (.tuple #[.agg #[.int .i64 q0, .int .i64 q1, .string q2, .int .i64 q3, .string q4, .bool q5], .int .i64 e]) ∧ Below W.heap.size W W') := fun W _ => C4.out W
        clear C4 HC HW2
        go_upto_region 8 with fail
        go_cut [9, 10] from 13 to 53 (fun v7 v8 wx => ∃ b, v7 = .pointer (some ⟨b, 0, none⟩) ∧ v8 = .int .i64 e ∧ Hid (Bm w3 gb x wx ∧ wx.heap[b]? = some (.cells (chc ⟨q0, q1, q2, q3, q4, q5⟩) 37 (0, 0))))
        case first =>
          refine nameS fun A hA => ?_
          refine region_inv HM.out (by kernel_rfl) (fun v a' w' => ∃ y : Nat → Value, a' = ⟨frB A.tmps y, []⟩ ∧ Hid (DM w3 gb 37 x s ⟨q0, q1, q2, q3, q4, q5⟩ e v y w')) ?start ?step ?fin
          case start =>
            refine ⟨fun i => A.tmps.getD (([35, 36, 37, 38, 39, 40, 41, 42, 34, 43, 44, 9, 0, 10] : List Nat).getD i 0) undef, ?_, ⟨HB3.out.below (Below.refl _ _).drew, fun i e => ?_, fun e => ?_⟩⟩
            · subst hA
              simp [frB]
            · rw [List.getD_eq_getElem?_getD, List.getElem?_replicate] at e
              split at e <;> simp at e
            · rw [List.getD_eq_getElem?_getD, List.getElem?_replicate] at e
              split at e <;> simp at e
          case step =>
            intro i o v a' w' ho hv hni hop hI
            obtain ⟨y, rfl, HI⟩ := hI
            clear HB3
            have hv : v.length = 14 := hv
            rcases i with _ | _ | _ | _ | _ | _ | _ | _ | _ | _ | _ | _ | _ | _ | i
            · obtain rfl := Option.some.inj ho
              obtain ⟨c0, c1, c2, c3⟩ := HI.out.b.get
              subst hA
              simp only [frB, List.setIfInBounds_toArray, List.set_cons_succ, List.set_cons_zero]
              go_wp2
              exact ⟨updS y 0 (.agg #[.int .i64 x.k, .int .i64 x.c, .int .i64 x.i, .int .i64 x.r]), by simp [updS], HI.out.set (Below.refl _ _) (by decide) rfl⟩
            · obtain rfl := Option.some.inj ho
              have e0 : y 0 = _ := HI.out.h 0 (open_waits hop (by kernel_rfl))
              subst hA
              simp only [frB, List.setIfInBounds_toArray, List.set_cons_succ, List.set_cons_zero]
              simp only [e0]
              go_wp2_with (go_at_call 7; refine (command_any x _).mono ?_; rintro e' w5 ⟨rfl, hb5⟩)
              exact ⟨updS y 1 (.agg #[.int .i64 x.k, .int .i64 x.c, .string ⟨#[112, 97, 115, 115, 101, 100, 32, 111, 118, 101, 114]⟩, .int .u8 113]), by simp [updS, e0], HI.out.set hb5 (by decide) rfl⟩
            · obtain rfl := Option.some.inj ho
              subst hA
              simp only [frB, List.setIfInBounds_toArray, List.set_cons_succ, List.set_cons_zero]
              go_wp2
              exact ⟨updS y 2 (.string s), by simp [updS], HI.out.set (Below.refl _ _) (by decide) rfl⟩
            · obtain rfl := Option.some.inj ho
              subst hA
              simp only [frB, List.setIfInBounds_toArray, List.set_cons_succ, List.set_cons_zero]
              go_wp2
              exact ⟨updS y 3 (.pointer (some ⟨gb, 2, none⟩)), by simp [updS], HI.out.set (Below.refl _ _) (by decide) rfl⟩
            · obtain rfl := Option.some.inj ho
              have e3 : y 3 = _ := HI.out.h 3 (open_waits hop (by kernel_rfl))
              obtain ⟨c0, c1, c2, c3⟩ := HI.out.b.get
              subst hA
              simp only [frB, List.setIfInBounds_toArray, List.set_cons_succ, List.set_cons_zero]
              simp only [e3]
              go_wp2
              exact ⟨updS y 4 (.int .i64 x.i), by simp [updS, e3], HI.out.set (Below.refl _ _) (by decide) rfl⟩
            · obtain rfl := Option.some.inj ho
              subst hA
              simp only [frB, List.setIfInBounds_toArray, List.set_cons_succ, List.set_cons_zero]
              go_wp2
              exact ⟨updS y 5 (.pointer (some ⟨gb, 3, none⟩)), by simp [updS], HI.out.set (Below.refl _ _) (by decide) rfl⟩
            · obtain rfl := Option.some.inj ho
              have e5 : y 5 = _ := HI.out.h 5 (open_waits hop (by kernel_rfl))
              obtain ⟨c0, c1, c2, c3⟩ := HI.out.b.get
              subst hA
              simp only [frB, List.setIfInBounds_toArray, List.set_cons_succ, List.set_cons_zero]
              simp only [e5]
              go_wp2
              exact ⟨updS y 6 (.int .i64 x.r), by simp [updS, e5], HI.out.set (Below.refl _ _) (by decide) rfl⟩
            · obtain rfl := Option.some.inj ho
              have e1 : y 1 = _ := HI.out.h 1 (open_waits hop (by kernel_rfl))
              have e2 : y 2 = _ := HI.out.h 2 (open_waits hop (by kernel_rfl))
              have e4 : y 4 = _ := HI.out.h 4 (open_waits hop (by kernel_rfl))
              have e6 : y 6 = _ := HI.out.h 6 (open_waits hop (by kernel_rfl))
              subst hA
              simp only [frB, List.setIfInBounds_toArray, List.set_cons_succ, List.set_cons_zero]
              simp only [e1, e2, e4, e6]
              go_wp2_with (go_at_call 8; refine (C6.out _ HI.out.b.bel).mono ?_; rintro e' w5 ⟨rfl, hb5⟩)
              exact ⟨updS y 7 (.tuple #[.agg #[.int .i64 q0, .int .i64 q1, .string q2, .int .i64 q3, .string q4, .bool q5], .int .i64 e]), by simp [updS, e1, e2, e4, e6], HI.out.set hb5 (by decide) rfl⟩
            · obtain rfl := Option.some.inj ho
              have e7 : y 7 = _ := HI.out.h 7 (open_waits hop (by kernel_rfl))
              subst hA
              simp only [frB, List.setIfInBounds_toArray, List.set_cons_succ, List.set_cons_zero]
              simp only [e7]
              go_wp2
              exact ⟨updS y 8 (.tuple #[.agg #[.int .i64 q0, .int .i64 q1, .string q2, .int .i64 q3, .string q4, .bool q5], .int .i64 e]), by simp [updS, e7], HI.out.set (Below.refl _ _) (by decide) rfl⟩
            · obtain rfl := Option.some.inj ho
              have e8 : y 8 = _ := HI.out.h 8 (open_waits hop (by kernel_rfl))
              subst hA
              simp only [frB, List.setIfInBounds_toArray, List.set_cons_succ, List.set_cons_zero]
              simp only [e8]
              go_wp2
              exact ⟨updS y 9 (.agg #[.int .i64 q0, .int .i64 q1, .string q2, .int .i64 q3, .string q4, .bool q5]), by simp [updS, e8], HI.out.set (Below.refl _ _) (by decide) rfl⟩
            · obtain rfl := Option.some.inj ho
              have e8 : y 8 = _ := HI.out.h 8 (open_waits hop (by kernel_rfl))
              subst hA
              simp only [frB, List.setIfInBounds_toArray, List.set_cons_succ, List.set_cons_zero]
              simp only [e8]
              go_wp2
              exact ⟨updS y 10 (.int .i64 e), by simp [updS, e8], HI.out.set (Below.refl _ _) (by decide) rfl⟩
            · obtain rfl := Option.some.inj ho
              have hfl : ∀ hop : v.getD 12 false = true, False := fun h12 => by
                have := HI.out.w h12
                rw [List.getD_eq_getElem?_getD] at hni this
                rw [List.getElem?_eq_getElem (by omega)] at hni this
                simp at hni this
                rw [hni] at this; cases this
              have hfl' : v.getD 12 false = false := by cases h : v.getD 12 false with | false => rfl | true => exact (hfl h).elim
              have HNW : Hid (DM w3 gb 37 x s ⟨q0, q1, q2, q3, q4, q5⟩ e (v.set 11 true) (updS y 11 (.pointer (some ⟨w'.heap.size, 0, none⟩))) (w'.alloc (.cells #[.int .i64 0, .int .i64 0, .string ⟨#[]⟩, .int .i64 0, .string ⟨#[]⟩, .bool false] 37))) := HI.out.set ((Below.refl _ w').alloc (Nat.le_refl _) _) (by decide) ⟨w'.heap.size, rfl, HI.out.b.bel.size, by rw [hfl']; exact World.alloc_heap_new _ _⟩
              clear hfl hfl'
              subst hA
              simp only [frB, List.setIfInBounds_toArray, List.set_cons_succ, List.set_cons_zero]
              go_wp2
              exact ⟨_, by simp [updS], HNW⟩
            · obtain rfl := Option.some.inj ho
              have e9 : y 9 = _ := HI.out.h 9 (open_waits hop (by kernel_rfl))
              have hfl : v.getD 12 false = false := by
                rw [List.getD_eq_getElem?_getD] at hni ⊢
                rw [List.getElem?_eq_getElem (by omega)] at hni ⊢
                exact hni
              obtain ⟨b, e11, hlt, hz⟩ : ∃ b, y 11 = .pointer (some ⟨b, 0, none⟩) ∧ w3.heap.size ≤ b ∧ w'.heap[b]? = some (.cells (chc (if v.getD 12 false then _ else chz)) 37 (0, 0)) := HI.out.h 11 (open_waits hop (by kernel_rfl))
              rw [hfl] at hz
              simp only [Bool.false_eq_true, if_false] at hz
              obtain ⟨⟨z0, z1, z2, z3, z4, z5⟩, f0, f1, f2, f3, f4, f5, hl⟩ := cbox hz
              have HFN : Hid (DM w3 gb 37 x s ⟨q0, q1, q2, q3, q4, q5⟩ e (v.set 12 true) y _) := HI.out.store hv (open_waits hop (by kernel_rfl)) hlt e11 hz
              clear hz hlt hfl
              subst hA
              simp only [frB, List.setIfInBounds_toArray, List.set_cons_succ, List.set_cons_zero]
              simp only [e9, e11]
              go_wp2
              exact ⟨y, by simp [e9, e11], HFN⟩
            · obtain rfl := Option.some.inj ho
              have e10 : y 10 = _ := HI.out.h 10 (open_waits hop (by kernel_rfl))
              subst hA
              simp only [frB, List.setIfInBounds_toArray, List.set_cons_succ, List.set_cons_zero]
              simp only [e10]
              go_wp2
              exact ⟨updS y 13 (.int .i64 e), by simp [updS, e10], HI.out.set (Below.refl _ _) (by decide) rfl⟩
            · simp at ho
          case fin =>
            intro v a' w' hv hall hI
            obtain ⟨y, rfl, HI⟩ := hI
            have hv : v.length = 14 := hv
            have e13 : y 13 = .int .i64 e := HI.out.h 13 (of_all hall (by omega))
            obtain ⟨b, e11, hlt, hz⟩ : ∃ b, y 11 = .pointer (some ⟨b, 0, none⟩) ∧ w3.heap.size ≤ b ∧ w'.heap[b]? = some (.cells (chc (if v.getD 12 false then _ else chz)) 37 (0, 0)) := HI.out.h 11 (of_all hall (by omega))
            rw [of_all hall (by omega), if_pos rfl] at hz
            have HQ : Hid (Bm w3 gb x w' ∧ w'.heap[b]? = some (.cells (chc ⟨q0, q1, q2, q3, q4, q5⟩) 37 (0, 0))) := ⟨HI.out.b, hz⟩
            clear hz hlt HI hall
            subst hA
            simp only [frB, List.setIfInBounds_toArray, List.set_cons_succ, List.set_cons_zero, e11, e13]
            go_wp2_with fail
            go_meet
            exact ⟨b, rfl, rfl, HQ⟩
        case rest =>
          obtain ⟨b9, rfl, rfl, HD⟩ := hcut
          clear C6 HB3
          have HK : Hid (K2 w b7 b9 ⟨q0, q1, q2, q3, q4, q5⟩ wc) := ⟨below_on HW3.out.1 HD.out.1.bel, (HD.out.1.bel.block _ (Array.getElem?_eq_some_iff.1 HW3.out.2).1).trans HW3.out.2, HD.out.2⟩
          clear HD HW3
          obtain ⟨⟨x0, x1, x2, x3, x4, x5⟩, y0, y1, y2, y3, y4, y5⟩ := HK.out.get
          have CX : Hid (Calls Tryz.prog 9 #[.agg #[.int .i64 q0, .int .i64 q1, .string q2, .int .i64 q3, .string q4, .bool q5], .agg #[.int .i64 q0, .int .i64 q1, .string q2, .int .i64 q3, .string q4, .bool q5]] wc fun e W' => e = .returned (.bool true) ∧ Hid (Below wc.heap.size wc W')) := csame_any wc q0 q1 q2 q3 q4 q5
          go_wp2_with (go_at_call 9; refine CX.out.mono ?_; clear CX x0 x1 x2 x3 x4 x5 y0 y1 y2 y3 y4 y5; rintro e' w8 ⟨rfl, HB8⟩)
          exact ⟨⟨i + 1, by omega, by simp, below_on HK.out.bel HB8.out⟩, by simp only [intOf]; omega⟩
    · have hlt' : ¬ (i : Int) < n := by omega
      go_wp2
      go_ret
      exact ⟨rfl, HW.out⟩
theorem walk_of {H : Type} {d : DataW H} (s : ByteArray) (a0 : Option Addr) (len cap : Nat) (w : World) (hT : Lib.Utf8Tabs 1 2 w) (hlo0 : 1 < w.heap.size) (hlo1 : 2 < w.heap.size) (_hs : s.size ≤ 140737488351232) (l : List Ak) (hA : Asks4 w a0 len l) (hu : len ≤ Rows.uptoBulk d) (hk : Rows.uptoSmall H ([DataW.lit (.string s.data.toList), d] ++ []) = true) :
    Calls Tryz.prog 3 #[.string s, .slice a0 len cap] w fun e w' => e = .returned (.bool true) ∧ Below w.heap.size w w' := by
  have h : Rows.uptoBulkAll ([DataW.lit (H := H) (.string s.data.toList), d] ++ []) ≤ 1048576 := of_decide_eq_true hk
  simp only [List.append_nil, Rows.uptoBulkAll, Rows.uptoBulk] at h
  exact walk (by kernel_rfl) s (by rw [Lib.size_eq]; omega) a0 len cap (by omega) l w hA ⟨hT, hlo0, hlo1⟩
end Go.Proofs.YtdggbnkhbmffoaaGreatDoor.changeMakes
