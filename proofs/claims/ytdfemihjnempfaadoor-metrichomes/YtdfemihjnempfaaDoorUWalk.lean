/-
  The walks of package unit's calls on one text: read, Down, Boundary, Next, Up, Prev: what each answers is told by the plain functions of UMath. Conditions: the two tables of unicode/utf8 lie as their text lays them; the text is no longer than any text that can be read.
-/
import Derived.Test.YtdfemihjnempfaaDoorKBase
import Derived.Test.YtdfemihjnempfaaDoorShelf
import Derived.Test.YtdfemihjnempfaaDoorUMath
import Derived.WalkKit
import Derived.WalkLawsBesides
import Derived.WalkSpells
import Derived.Lib.Strings
import Derived.Lib.IndexBytes
import Derived.Lib.RuneCountTail
namespace Go.Proofs.YtdfemihjnempfaaDoor
open Go.RowKit Bod

theorem get_extract (s : ByteArray) (i k : Nat) : ((s.extract i s.size).get! k).toNat = bt s (i + k) := by
  unfold bt
  rw [Lib.tail_get!]

theorem decodeGo_un (s : ByteArray) (i : Nat) (hi : i < s.size) : Lib.decodeGo (s.extract i s.size) = un s i := by
  unfold Lib.decodeGo un
  have hs : (s.extract i s.size).size = s.size - i := by simp
  rw [if_neg (by omega), Lib.decode_at, hs]
  simp only [Nat.sub_zero, get_extract s i _, Nat.zero_add, Nat.add_zero]

theorem bcell {W w1 : World} (hb : Below W.heap.size W w1) : (∀ b o, b < W.heap.size → w1.cell? ⟨b, o, none⟩ = W.cell? ⟨b, o, none⟩) ∧ (∀ b o, b < W.heap.size → w1.frozen? ⟨b, o, none⟩ = W.frozen? ⟨b, o, none⟩) :=
  ⟨fun b o h => hb.cell (p := ⟨b, o, none⟩) h, fun b o h => hb.frozen (p := ⟨b, o, none⟩) h⟩

set_option maxRecDepth 100000 in
set_option maxHeartbeats 1000000 in
theorem read_core (s : ByteArray) (i c k : Nat) (_hs : s.size ≤ maxLen) (hi : i < s.size) (w : World)
    (hd : ∀ o, Calls Tryd.prog 54 #[.string (s.extract i s.size)] (w.alloc o) fun e w' => e = .returned (.tuple #[.int .i32 c, .int .i64 k]) ∧ Below (w.alloc o).heap.size (w.alloc o) w') :
    Calls Tryd.prog 42 #[.string s, .int .i64 i] w fun e w' => e = .returned (.agg #[.int .i32 (if c = 65533 ∧ k = 1 then -1 else (c : Int)), .int .i64 k]) ∧ Below w.heap.size w w' := by
  unfold maxLen at _hs
  have fin : ∀ (w' : World) (a b : Value), Below (w.heap.size + 1) (w.alloc (.cells #[.int .i32 0, .int .i64 0] 60)) w' → Below w.heap.size w ((w'.setCell ⟨w.heap.size, 0, none⟩ a).setCell ⟨w.heap.size, 1, none⟩ b) := fun w' a b hb =>
    ((((Below.refl _ w).alloc (Nat.le_refl _) _).trans (hb.mono (by omega))).setCell (Nat.le_refl _) _).setCell (Nat.le_refl _) _
  by_cases h1 : c = 65533
  · subst h1
    by_cases h2 : k = 1
    · subst h2
      go_enter Tryd.func42, Tryd.ntmps42
      go_wp2_with (go_at_call 54; refine (hd _).mono ?_; rintro e w' ⟨rfl, hb⟩; obtain ⟨hc, hf⟩ := bcell hb; have hz : w.heap.size < w'.heap.size := by have := hb.size; simp at this; omega)
      exact bodyPost_ret (v := .agg #[.int .i32 (-1), .int .i64 1]) (by simp [results, Tryd.results42, go_sem, hc]) rfl ⟨rfl, fin _ _ _ (by simpa using hb)⟩
    · rw [if_neg (by omega)]
      have h3 : ((k : Int) == 1) = false := by simp; omega
      go_enter Tryd.func42, Tryd.ntmps42
      go_wp2_with (go_at_call 54; refine (hd _).mono ?_; rintro e w' ⟨rfl, hb⟩; obtain ⟨hc, hf⟩ := bcell hb; have hz : w.heap.size < w'.heap.size := by have := hb.size; simp at this; omega)
      exact bodyPost_ret (v := .agg #[.int .i32 65533, .int .i64 k]) (by simp [results, Tryd.results42, go_sem, hc]) rfl ⟨rfl, fin _ _ _ (by simpa using hb)⟩
  · rw [if_neg (by omega)]
    have h3 : ((c : Int) == 65533) = false := by simp; omega
    go_enter Tryd.func42, Tryd.ntmps42
    go_wp2_with (go_at_call 54; refine (hd _).mono ?_; rintro e w' ⟨rfl, hb⟩; obtain ⟨hc, hf⟩ := bcell hb; have hz : w.heap.size < w'.heap.size := by have := hb.size; simp at this; omega)
    exact bodyPost_ret (v := .agg #[.int .i32 c, .int .i64 k]) (by simp [results, Tryd.results42, go_sem, hc]) rfl ⟨rfl, fin _ _ _ (by simpa using hb)⟩

theorem read_any (s : ByteArray) (i : Nat) (hs : s.size ≤ maxLen) (hi : i < s.size) (w : World) (hT : Lib.Utf8Tabs 1 2 w) :
    Calls Tryd.prog 42 #[.string s, .int .i64 i] w fun e w' => e = .returned (.agg #[.int .i32 (ch s i), .int .i64 (sz s i)]) ∧ Below w.heap.size w w' := by
  refine read_core s i (un s i).1 (un s i).2 hs hi w fun o => ?_
  rw [← decodeGo_un s i hi]
  exact Tryd.utf8_DecodeRuneInString _ _ (tabs_below hT ((Below.refl _ w).alloc (Nat.le_refl _) o))

theorem field_size (c n : Int) (w : World) : (Instr.field 60 (.agg #[.int .i32 c, .int .i64 n]) 1).run Tryd.prog w = .ok (.int .i64 n) w := by kernel_rfl
theorem field_char (c n : Int) (w : World) : (Instr.field 60 (.agg #[.int .i32 c, .int .i64 n]) 0).run Tryd.prog w = .ok (.int .i32 c) w := by kernel_rfl

end Go.Proofs.YtdfemihjnempfaaDoor
