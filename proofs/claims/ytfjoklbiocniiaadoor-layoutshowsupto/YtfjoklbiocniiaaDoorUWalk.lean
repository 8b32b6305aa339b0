/-
  The walks of package unit's calls on one text: read, Down, Boundary, Next, Up, Prev: what each answers is told by the plain functions of UMath. Conditions: the two tables of unicode/utf8 lie as their text lays them; the text is no longer than any text that can be read.
-/
import Derived.Test.YtfjoklbiocniiaaDoorKBase
import Derived.Test.YtfjoklbiocniiaaDoorShelf
import Derived.Test.YtfjoklbiocniiaaDoorPkA
import Derived.WalkKit
import Derived.WalkLawsBesides
import Derived.WalkSpells
import Derived.Lib.Strings
import Derived.Lib.IndexBytes
import Derived.Lib.RuneCountTail
namespace Go.Proofs.YtfjoklbiocniiaaDoor
open Go.RowKit Bod

theorem get_extract (s : ByteArray) (i k : Nat) : ((s.extract i s.size).get! k).toNat = bt s (i + k) := by
  unfold bt
  rw [Lib.tail_get!]

theorem decodeGo_un (s : ByteArray) (i : Nat) (hi : i < s.size) : Lib.decodeGo (s.extract i s.size) = un s i := by
  unfold Lib.decodeGo un
  have hs : (s.extract i s.size).size = s.size - i := by simp
  rw [if_neg (by omega), Lib.decode_at, hs]
  simp only [Nat.sub_zero, get_extract s i _, Nat.zero_add, Nat.add_zero]

theorem bcell {W w1 : World} (hb : Below W.heap.size W w1) : (∀ b o, b < W.heap.size → w1.cell? ⟨b, o, none⟩ = W.cell? ⟨b, o, none⟩) ∧ (∀ b o, b < W.heap.size → w1.frozen? ⟨b, o, none⟩ = W.frozen? ⟨b, o, none⟩) :=
  ⟨fun b o h => hb.cell (p := ⟨b, o, none⟩) h, fun b o h => hb.frozen (p := ⟨b, o, none⟩) h⟩

set_option maxRecDepth 100000 in
set_option maxHeartbeats 1000000 in
theorem read_core (s : ByteArray) (i c k : Nat) (_hs : s.size ≤ maxLen) (hi : i < s.size) (w : World)
    (hd : ∀ o, Calls Tryd.prog 67 #[.string (s.extract i s.size)] (w.alloc o) fun e w' => e = .returned (.tuple #[.int .i32 c, .int .i64 k]) ∧ Below (w.alloc o).heap.size (w.alloc o) w') :
    Calls Tryd.prog 52 #[.string s, .int .i64 i] w fun e w' => e = .returned (.agg #[.int .i32 (if c = 65533 ∧ k = 1 then -1 else (c : Int)), .int .i64 k]) ∧ Below w.heap.size w w' := by
  unfold maxLen at _hs
  have fin : ∀ (w' : World) (a b : Value), Below (w.heap.size + 1) (w.alloc (.cells #[.int .i32 0, .int .i64 0] 82)) w' → Below w.heap.size w ((w'.setCell ⟨w.heap.size, 0, none⟩ a).setCell ⟨w.heap.size, 1, none⟩ b) := fun w' a b hb =>
    ((((Below.refl _ w).alloc (Nat.le_refl _) _).trans (hb.mono (by omega))).setCell (Nat.le_refl _) _).setCell (Nat.le_refl _) _
  by_cases h1 : c = 65533
  · subst h1
    by_cases h2 : k = 1
    · subst h2
      go_enter Tryd.func52, Tryd.ntmps52
      go_wp2_with (go_at_call 67; refine (hd _).mono ?_; rintro e w' ⟨rfl, hb⟩; obtain ⟨hc, hf⟩ := bcell hb; have hz : w.heap.size < w'.heap.size := by have := hb.size; simp at this; omega)
      exact bodyPost_ret (v := .agg #[.int .i32 (-1), .int .i64 1]) (by simp [results, Tryd.results52, go_sem, hc]) rfl ⟨rfl, fin _ _ _ (by simpa using hb)⟩
    · rw [if_neg (by omega)]
      have h3 : ((k : Int) == 1) = false := by simp; omega
      go_enter Tryd.func52, Tryd.ntmps52
      go_wp2_with (go_at_call 67; refine (hd _).mono ?_; rintro e w' ⟨rfl, hb⟩; obtain ⟨hc, hf⟩ := bcell hb; have hz : w.heap.size < w'.heap.size := by have := hb.size; simp at this; omega)
      exact bodyPost_ret (v := .agg #[.int .i32 65533, .int .i64 k]) (by simp [results, Tryd.results52, go_sem, hc]) rfl ⟨rfl, fin _ _ _ (by simpa using hb)⟩
  · rw [if_neg (by omega)]
    have h3 : ((c : Int) == 65533) = false := by simp; omega
    go_enter Tryd.func52, Tryd.ntmps52
    go_wp2_with (go_at_call 67; refine (hd _).mono ?_; rintro e w' ⟨rfl, hb⟩; obtain ⟨hc, hf⟩ := bcell hb; have hz : w.heap.size < w'.heap.size := by have := hb.size; simp at this; omega)
    exact bodyPost_ret (v := .agg #[.int .i32 c, .int .i64 k]) (by simp [results, Tryd.results52, go_sem, hc]) rfl ⟨rfl, fin _ _ _ (by simpa using hb)⟩

theorem read_any (s : ByteArray) (i : Nat) (hs : s.size ≤ maxLen) (hi : i < s.size) (w : World) (hT : Lib.Utf8Tabs 0 1 w) :
    Calls Tryd.prog 52 #[.string s, .int .i64 i] w fun e w' => e = .returned (.agg #[.int .i32 (ch s i), .int .i64 (sz s i)]) ∧ Below w.heap.size w w' := by
  refine read_core s i (un s i).1 (un s i).2 hs hi w fun o => ?_
  rw [← decodeGo_un s i hi]
  exact Tryd.utf8_DecodeRuneInString _ _ (tabs_below hT ((Below.refl _ w).alloc (Nat.le_refl _) o))

theorem field_size (c n : Int) (w : World) : (Instr.field 82 (.agg #[.int .i32 c, .int .i64 n]) 1).run Tryd.prog w = .ok (.int .i64 n) w := by kernel_rfl
theorem field_char (c n : Int) (w : World) : (Instr.field 82 (.agg #[.int .i32 c, .int .i64 n]) 0).run Tryd.prog w = .ok (.int .i32 c) w := by kernel_rfl

set_option maxRecDepth 100000 in
set_option maxHeartbeats 1000000 in
theorem down_in (s : ByteArray) (i : Nat) (hs : s.size ≤ maxLen) (h0 : 0 < i) (hi : i < s.size) (w : World) (hT : Lib.Utf8Tabs 0 1 w) :
    Calls Tryd.prog 51 #[.string s, .int .i64 i] w fun e w' => e = .returned (.int .i64 (dnF s i)) ∧ Below w.heap.size w w' := by
  have hs' := hs
  unfold maxLen at hs
  have hlo : ¬ ((i : Int) ≤ 0) := by omega
  have hhi : ¬ ((s.size : Int) ≤ i) := by omega
  have hfs := field_size
  go_enter Tryd.func51, Tryd.ntmps51
  go_wp2
  go_loopw [5] (fun t wr => ∃ a : Int, t = .int .i64 a ∧ -1 ≤ a ∧ (i : Int) - 4 ≤ a ∧ a ≤ (i : Int) - 1 ∧ (∀ k : Nat, a < k → k < i → k + sz s k ≤ i) ∧ Below w.heap.size w wr) (fun t _ => (intOf t + 4).toNat)
  case atStart => exact ⟨_, rfl, by omega, by omega, by omega, fun k _ _ => by omega, Below.refl _ _⟩
  case round =>
    obtain ⟨a, rfl, ha1, ha2, ha3, hk, hB⟩ := hrel
    have HK : Hid (∀ k : Nat, a < k → k < i → k + sz s k ≤ i) := hk
    clear hk
    have ht := tabs_below hT hB
    by_cases h1 : 0 ≤ a
    · by_cases h2 : (i : Int) - 4 < a
      · obtain ⟨at_, rfl⟩ := Int.eq_ofNat_of_zero_le h1
        have hsz := sz_in (s := s) (i := at_) (by omega)
        by_cases h3 : (i : Int) < at_ + sz s at_
        · go_wp2_with (go_at_call 52; refine (read_any s at_ hs' (by omega) _ ht).mono ?_; rintro e w' ⟨rfl, hb⟩)
          go_ret
          exact ⟨ret_int (by have := (dnF_Dn (s := s) hi).uniq (e := at_) ⟨by omega, lead_B (by omega) (by omega), by omega⟩; omega), hB.trans (hb.mono hB.size)⟩
        · go_wp2_with (go_at_call 52; refine (read_any s at_ hs' (by omega) _ ht).mono ?_; rintro e w' ⟨rfl, hb⟩)
          go_roundw
          case rel =>
            refine ⟨_, rfl, by omega, by omega, by omega, fun k g1 g2 => ?_, hB.trans (hb.mono hB.size)⟩
            by_cases g3 : k = at_
            · subst g3; omega
            · exact HK.out k (by omega) g2
          case measure => simp [intOf]; omega
      · go_wp2
        go_ret
        exact ⟨ret_int (by have h := (dnF_B (s := s) hi).2 ⟨by omega, fun k hk => (by by_cases g : a < k; exact HK.out k g hk; have := sz_le (s := s) (i := k) (by omega); omega)⟩; omega), hB⟩
    · go_wp2
      go_ret
      exact ⟨ret_int (by have h := (dnF_B (s := s) hi).2 ⟨by omega, fun k hk => HK.out k (by omega) hk⟩; omega), hB⟩

theorem down_any (s : ByteArray) (i : Int) (hs : s.size ≤ maxLen) (w : World) (hT : Lib.Utf8Tabs 0 1 w) :
    Calls Tryd.prog 51 #[.string s, .int .i64 i] w fun e w' => e = .returned (.int .i64 (downZ s i)) ∧ Below w.heap.size w w' := by
  unfold downZ
  by_cases h0 : i ≤ 0
  · rw [if_pos h0]
    go_enter Tryd.func51, Tryd.ntmps51
    go_wp2
    go_ret
    exact ⟨rfl, Below.refl _ _⟩
  · rw [if_neg h0]
    by_cases h1 : (s.size : Int) ≤ i
    · rw [if_pos h1]
      go_enter Tryd.func51, Tryd.ntmps51
      go_wp2
      go_ret
      exact ⟨rfl, Below.refl _ _⟩
    · rw [if_neg h1]
      obtain ⟨k, rfl⟩ := Int.eq_ofNat_of_zero_le (show 0 ≤ i by omega)
      exact down_in s k hs (by omega) (by omega) w hT

theorem bound_any (s : ByteArray) (i : Int) (hs : s.size ≤ maxLen) (w : World) (hT : Lib.Utf8Tabs 0 1 w) :
    Calls Tryd.prog 53 #[.string s, .int .i64 i] w fun e w' => e = .returned (.bool (bdZ s i)) ∧ Below w.heap.size w w' := by
  go_enter Tryd.func53, Tryd.ntmps53
  go_wp2_with (go_at_call 51; refine (down_any s i hs _ hT).mono ?_; rintro e w' ⟨rfl, hb⟩)
  go_ret
  exact ⟨rfl, hb⟩

theorem prev_any (s : ByteArray) (i : Int) (hs : s.size ≤ maxLen) (w : World) (hT : Lib.Utf8Tabs 0 1 w) (hi : i ≤ 9223372036854775807) :
    Calls Tryd.prog 55 #[.string s, .int .i64 i] w fun e w' => e = .returned (.int .i64 (prevZ s i)) ∧ Below w.heap.size w w' := by
  unfold prevZ
  by_cases h0 : i ≤ 0
  · rw [if_pos h0]
    go_enter Tryd.func55, Tryd.ntmps55
    go_wp2
    go_ret
    exact ⟨rfl, Below.refl _ _⟩
  · rw [if_neg h0]
    go_enter Tryd.func55, Tryd.ntmps55
    go_wp2_with (go_at_call 51; refine (down_any s (i - 1) hs _ hT).mono ?_; rintro e w' ⟨rfl, hb⟩)
    go_ret
    exact ⟨rfl, hb⟩

theorem next_any (s : ByteArray) (i : Int) (hs : s.size ≤ maxLen) (w : World) (hT : Lib.Utf8Tabs 0 1 w) :
    Calls Tryd.prog 32 #[.string s, .int .i64 i] w fun e w' => e = .returned (.int .i64 (nextZ s i)) ∧ Below w.heap.size w w' := by
  have hs' := hs
  unfold maxLen at hs
  unfold nextZ
  by_cases h0 : i < 0
  · rw [if_pos h0]
    go_enter Tryd.func32, Tryd.ntmps32
    go_wp2
    go_ret
    exact ⟨rfl, Below.refl _ _⟩
  · rw [if_neg h0]
    by_cases h1 : (s.size : Int) ≤ i
    · rw [if_pos h1]
      go_enter Tryd.func32, Tryd.ntmps32
      go_wp2
      go_ret
      exact ⟨rfl, Below.refl _ _⟩
    · rw [if_neg h1]
      obtain ⟨k, rfl⟩ := Int.eq_ofNat_of_zero_le (show 0 ≤ i by omega)
      have hfs := field_size
      obtain ⟨d, hd⟩ : ∃ d, dnF s k = d := ⟨_, rfl⟩
      have hdk : d ≤ k := by rw [← hd]; exact dnF_le
      have hds := sz_in (s := s) (i := d) (by omega)
      have cD : Calls Tryd.prog 51 #[.string s, .int .i64 k] w fun e w' => e = .returned (.int .i64 d) ∧ Below w.heap.size w w' := by
        have h := down_any s k hs' w hT
        unfold downZ at h
        by_cases hk0 : (k : Int) ≤ 0
        · rw [if_pos hk0] at h
          have : d = 0 := by omega
          subst this
          exact h
        · rw [if_neg hk0, if_neg h1] at h
          simp only [Int.toNat_natCast, hd] at h
          exact h
      simp only [Int.toNat_natCast, hd]
      have hT' : ∀ w', Below w.heap.size w w' → Lib.Utf8Tabs 0 1 w' := fun w' hb => tabs_below hT hb
      go_enter Tryd.func32, Tryd.ntmps32
      go_wp2_with (first | (go_at_call 51; refine cD.mono ?_; rintro e w1 ⟨rfl, hb⟩; have hT1 := hT' _ hb; have HB : Hid (Below w.heap.size w w1) := hb; clear hb) | (go_at_call 52; refine (read_any s d hs' (by omega) _ hT1).mono ?_; rintro e w2 ⟨rfl, hb2⟩))
      go_ret
      exact ⟨rfl, HB.out.trans (hb2.mono HB.out.size)⟩

end Go.Proofs.YtfjoklbiocniiaaDoor
