/-
  Forms of forms, and what At and pieces tell of a text in other forms. No program in this text; no conditions.
-/
import Derived.Test.YtoijjkbnmicadabDoorPkC
import Derived.Test.YtoijjkbnmicadabDoorPkA
namespace Go.Proofs.YtoijjkbnmicadabDoor
open Bod Wid

theorem flat_congr {α β : Type} {f g : α → List β} : ∀ {l : List α}, (∀ i ∈ l, f i = g i) → l.flatMap f = l.flatMap g
  | [], _ => rfl
  | x :: r, h => by rw [List.flatMap_cons, List.flatMap_cons, h x (by simp), flat_congr (l := r) (fun i hi => h i (by simp [hi]))]
theorem fm_flat (g : Nat → Int → Int) (s : ByteArray) : (fm g s).data.toList = (offs s 0).flatMap (pc g s) := by
  rw [fm_data, fs, ← sg_all s s.size 0 (by omega)]
theorem byte_eq {s t : ByteArray} {i : Nat} (h : bt s i = bt t i) : s.get! i = t.get! i := by
  unfold bt at h
  exact UInt8.toNat_inj.1 h
/-- to change twice -/
theorem fm_comp {g h k : Nat → Int → Int} (hg : Gd g) (s : ByteArray) (hk : ∀ i c, h i (g i c) = k i c) : fm h (fm g s) = fm k s := by
  apply ByteArray.ext
  apply Array.ext'
  rw [fm_flat, fm_flat, fm_offs hg s.size 0 (by omega) (B_zero s)]
  refine flat_congr fun i hi => ?_
  obtain ⟨hB, his⟩ := offs_all s s.size 0 (by omega) (B_zero s) i hi
  have hu := (fm_un hg hB his).1
  unfold pc
  rw [hu]
  by_cases hc : ch s i < 0
  · have e1 := (ch_neg hc).1
    rw [if_pos (by rw [e1, gd_neg hg]; omega), if_pos hc, byte_eq (fm_byte hg hB his hc)]
  · have hv := gd_valid hg i (good_bytes his (by omega)).1
    rw [valid_iff] at hv
    rw [if_neg (by omega), if_neg hc, hk]
/-- the unit at an offset -/
theorem fm_atB {g : Nat → Int → Int} (hg : Gd g) (s : ByteArray) (i : Nat) : atB (fm g s) i = atB s i := by
  unfold atB
  rw [fm_size hg]
  congr 1
  have h1 := bdZ_iff (fm g s) i
  have h2 := bdZ_iff s i
  rw [fm_B hg] at h1
  cases ha : bdZ (fm g s) i <;> cases hb : bdZ s i <;> simp_all
theorem atB_iff {s : ByteArray} {i : Nat} (h : atB s i = true) : B s i ∧ i < s.size := by
  unfold atB at h
  rw [Bool.and_eq_true, decide_eq_true_eq] at h
  exact ⟨(bdZ_iff s i).1 h.1, by omega⟩
theorem fm_atC {g : Nat → Int → Int} (hg : Gd g) {s : ByteArray} {i : Nat} (h : atB s i = true) : atC (fm g s) i = g i (atC s i) ∧ atS (fm g s) i = atS s i := by
  obtain ⟨hB, hi⟩ := atB_iff h
  unfold atC atS
  rw [if_pos h, if_pos (by rw [fm_atB hg]; exact h), if_pos h, if_pos (by rw [fm_atB hg]; exact h)]
  simp only [Int.toNat_natCast]
  exact ⟨(fm_un hg hB hi).1, by rw [(fm_un hg hB hi).2]⟩
theorem atB_of {s : ByteArray} {i : Nat} (hB : B s i) (hi : i < s.size) : atB s i = true ∧ atC s i = ch s i ∧ atS s i = sz s i := by
  have h : atB s i = true := by unfold atB; rw [bd_B hB, decide_eq_true (by omega)]; rfl
  unfold atC atS
  rw [if_pos h, if_pos h]
  exact ⟨h, rfl, rfl⟩
/-- a piece between boundaries -/
theorem fm_ext {g : Nat → Int → Int} (hg : Gd g) {s : ByteArray} {a b : Nat} (ha : B s a) (hb : B s b) (hab : a ≤ b) : ((fm g s).extract a b).data.toList = fs g s a b := by
  have hbs := hb.1
  have l1 : (fs g s 0 a).length = a := by rw [fs_len hg ha a 0 (by omega) (Nat.zero_le _)]; omega
  have l2 : (fs g s a b).length = b - a := fs_len hg hb b a (by omega) hab
  rw [Lib.extract_data, fm_data, fs_app (b := a) ha (Nat.le_refl _) (Nat.zero_le _) (by omega), fs_app (b := b) hb (Nat.le_refl _) hab hbs]
  rw [List.drop_append_of_le_length (by omega), List.drop_of_length_le (by omega), List.nil_append, List.take_append_of_le_length (by omega), List.take_of_length_le (by omega)]
/-- behind its first unit a word's capital is its lower form -/
theorem cap_low {s : ByteArray} {p : Nat × Nat} (hp : p ∈ words s) : (fm (capG (words s)) s).extract (p.1 + sz s p.1) p.2 = (fm (fun _ => lowc) s).extract (p.1 + sz s p.1) p.2 := by
  obtain ⟨w1, w2, w3, w4, w5⟩ := word_B hp
  have hpos := sz_pos w2
  apply ByteArray.ext
  apply Array.ext'
  rw [fm_ext (gd_cap _) (B_next w1 w2) w5 w3, fm_ext gd_low (B_next w1 w2) w5 w3]
  refine fs_congr w4 p.2 _ (by omega) fun i h1 h2 => ?_
  funext c
  unfold capG
  rw [if_neg]
  rw [List.any_eq_true]
  rintro ⟨q, hq, hqi⟩
  have hqi : q.1 = i := by simpa using hqi
  obtain ⟨j, hj⟩ := List.mem_iff_getElem?.1 hp
  obtain ⟨k, hk⟩ := List.mem_iff_getElem?.1 hq
  have hm := words_mem hq
  rcases Nat.lt_trichotomy j k with h | h | h
  · have := words_lt hj hk h; omega
  · subst h; rw [hj] at hk; cases hk; omega
  · have := words_lt hk hj h; omega
end Go.Proofs.YtoijjkbnmicadabDoor
