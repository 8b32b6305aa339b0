/-
  Plain facts on what begins an encoding: by the library's tables, and by trying the least and the greatest that could stand behind. No program is named here; no conditions.
-/
import Derived.Test.YtadgbbnkhjapnaaDoorUMathH
namespace Bod
open Go Go.Lib

/-- a text of numbers -/
def txt (zs : List Int) : ByteArray := ⟨(zs.map fun x => x.toNat.toUInt8).toArray⟩
theorem txt_size (zs : List Int) : (txt zs).size = zs.length := by rw [Lib.size_eq]; simp [txt]
theorem txt_bt {zs : List Int} {j : Nat} (hz : ∀ z ∈ zs, 0 ≤ z ∧ z < 256) : (bt (txt zs) j : Int) = zs[j]?.getD 0 := by
  rw [bt_eq]
  simp only [txt, List.getElem?_map]
  cases h : zs[j]? with
  | none => rfl
  | some z =>
    have := hz z (List.mem_of_getElem? h)
    simp
    omega
def goodL (zs : List Int) : Prop := 0 ≤ ch (txt zs) 0
theorem goodL_iff (zs : List Int) : goodL zs ↔ decodeN zs.length (bt (txt zs) 0) (bt (txt zs) 1) (bt (txt zs) 2) (bt (txt zs) 3) ≠ (65533, 1) := by
  unfold goodL
  have := @ch_bad (txt zs) 0
  unfold un at this
  rw [txt_size] at this
  simp only [Nat.sub_zero, Nat.zero_add] at this
  rw [ne_eq, ← this]
  omega

theorem gd2 {b0 b1 b2 b3 : Nat} (h1 : 192 ≤ b0) (h2 : b0 < 224) (c1 : 128 ≤ b1 ∧ b1 ≤ 191) : decodeN 2 b0 b1 b2 b3 ≠ (65533, 1) ↔ 194 ≤ b0 := by
  unfold decodeN
  rw [if_neg (by omega), if_pos (by omega)]
  by_cases h : 194 ≤ b0
  · rw [if_pos (by omega)]
    exact ⟨fun _ => h, fun _ e => by injection e; omega⟩
  · rw [if_neg (by omega)]
    exact ⟨fun q => absurd rfl q, fun q => absurd q h⟩
theorem gd3 {b0 b1 b2 b3 : Nat} (h1 : 224 ≤ b0) (h2 : b0 < 240) (c1 : 128 ≤ b1 ∧ b1 ≤ 191) (c2 : 128 ≤ b2 ∧ b2 ≤ 191) : decodeN 3 b0 b1 b2 b3 ≠ (65533, 1) ↔ (b0 = 224 → 160 ≤ b1) ∧ (b0 = 237 → b1 ≤ 159) := by
  unfold decodeN
  rw [if_neg (by omega), if_neg (by omega), if_pos (by omega)]
  by_cases h : (b0 = 224 → 160 ≤ b1) ∧ (b0 = 237 → b1 ≤ 159)
  · rw [if_pos (by omega)]
    exact ⟨fun _ => h, fun _ e => by injection e; omega⟩
  · rw [if_neg (by omega)]
    exact ⟨fun q => absurd rfl q, fun q => absurd q h⟩
theorem gd4 {b0 b1 b2 b3 : Nat} (h1 : 240 ≤ b0) (h2 : b0 < 248) (c1 : 128 ≤ b1 ∧ b1 ≤ 191) (c2 : 128 ≤ b2 ∧ b2 ≤ 191) (c3 : 128 ≤ b3 ∧ b3 ≤ 191) : decodeN 4 b0 b1 b2 b3 ≠ (65533, 1) ↔ b0 ≤ 244 ∧ (b0 = 240 → 144 ≤ b1) ∧ (b0 = 244 → b1 ≤ 143) := by
  unfold decodeN
  rw [if_neg (by omega), if_neg (by omega), if_neg (by omega), if_pos (by omega)]
  by_cases h : b0 ≤ 244 ∧ (b0 = 240 → 144 ≤ b1) ∧ (b0 = 244 → b1 ≤ 143)
  · rw [if_pos (by omega)]
    exact ⟨fun _ => h, fun _ e => by injection e; omega⟩
  · rw [if_neg (by omega)]
    exact ⟨fun q => absurd rfl q, fun q => absurd q h⟩

theorem good2 {x0 x1 : Int} (h1 : 192 ≤ x0) (h2 : x0 < 224) (c1 : 128 ≤ x1 ∧ x1 ≤ 191) : goodL [x0, x1] ↔ 194 ≤ x0 := by
  have hz : ∀ z ∈ [x0, x1], 0 ≤ z ∧ z < 256 := fun z h => by simp at h; omega
  have e0 := txt_bt (j := 0) hz
  have e1 := txt_bt (j := 1) hz
  simp at e0 e1
  rw [goodL_iff]
  exact (gd2 (by omega) (by omega) (by omega)).trans (by omega)
theorem good3 {x0 x1 x2 : Int} (h1 : 224 ≤ x0) (h2 : x0 < 240) (c1 : 128 ≤ x1 ∧ x1 ≤ 191) (c2 : 128 ≤ x2 ∧ x2 ≤ 191) : goodL [x0, x1, x2] ↔ (x0 = 224 → 160 ≤ x1) ∧ (x0 = 237 → x1 ≤ 159) := by
  have hz : ∀ z ∈ [x0, x1, x2], 0 ≤ z ∧ z < 256 := fun z h => by simp at h; omega
  have e0 := txt_bt (j := 0) hz
  have e1 := txt_bt (j := 1) hz
  have e2 := txt_bt (j := 2) hz
  simp at e0 e1 e2
  rw [goodL_iff]
  exact (gd3 (by omega) (by omega) (by omega) (by omega)).trans (by omega)
theorem good4 {x0 x1 x2 x3 : Int} (h1 : 240 ≤ x0) (h2 : x0 < 248) (c1 : 128 ≤ x1 ∧ x1 ≤ 191) (c2 : 128 ≤ x2 ∧ x2 ≤ 191) (c3 : 128 ≤ x3 ∧ x3 ≤ 191) : goodL [x0, x1, x2, x3] ↔ x0 ≤ 244 ∧ (x0 = 240 → 144 ≤ x1) ∧ (x0 = 244 → x1 ≤ 143) := by
  have hz : ∀ z ∈ [x0, x1, x2, x3], 0 ≤ z ∧ z < 256 := fun z h => by simp at h; omega
  have e0 := txt_bt (j := 0) hz
  have e1 := txt_bt (j := 1) hz
  have e2 := txt_bt (j := 2) hz
  have e3 := txt_bt (j := 3) hz
  simp at e0 e1 e2 e3
  rw [goodL_iff]
  exact (gd4 (by omega) (by omega) (by omega) (by omega) (by omega)).trans (by omega)

/-- a text's bytes as numbers -/
def zsOf (s : ByteArray) : List Int := s.data.toList.map fun x => (x.toNat : Int)
theorem zsOf_len (s : ByteArray) : (zsOf s).length = s.size := by rw [Lib.size_eq]; simp [zsOf]
theorem zsOf_get (s : ByteArray) (j : Nat) : (zsOf s)[j]?.getD 0 = (bt s j : Int) := by
  unfold zsOf
  rw [List.getElem?_map, bt_eq]
  cases s.data.toList[j]? <;> rfl
theorem zsOf_rng (s : ByteArray) : ∀ z ∈ zsOf s, 0 ≤ z ∧ z < 256 := fun z h => by
  unfold zsOf at h
  obtain ⟨x, _, rfl⟩ := List.mem_map.1 h
  have := x.toNat_lt
  omega
theorem list_one {zs : List Int} (h : zs.length = 1) : zs = [zs[0]?.getD 0] := by
  match zs, h with
  | [a], _ => rfl
theorem list_two {zs : List Int} (h : zs.length = 2) : zs = [zs[0]?.getD 0, zs[1]?.getD 0] := by
  match zs, h with
  | [a, b], _ => rfl
theorem list_three {zs : List Int} (h : zs.length = 3) : zs = [zs[0]?.getD 0, zs[1]?.getD 0, zs[2]?.getD 0] := by
  match zs, h with
  | [a, b, c], _ => rfl
theorem zsOf_one {s : ByteArray} (h : s.size = 1) : zsOf s = [(bt s 0 : Int)] := by
  have := list_one (zs := zsOf s) (by rw [zsOf_len, h])
  rwa [zsOf_get] at this
theorem zsOf_two {s : ByteArray} (h : s.size = 2) : zsOf s = [(bt s 0 : Int), (bt s 1 : Int)] := by
  have := list_two (zs := zsOf s) (by rw [zsOf_len, h])
  rwa [zsOf_get, zsOf_get] at this
theorem zsOf_three {s : ByteArray} (h : s.size = 3) : zsOf s = [(bt s 0 : Int), (bt s 1 : Int), (bt s 2 : Int)] := by
  have := list_three (zs := zsOf s) (by rw [zsOf_len, h])
  rwa [zsOf_get, zsOf_get, zsOf_get] at this

/-- what 'tried' tries -/
def Tried (zl zh : List Int) (n : Nat) : Prop := goodL zl ∨ goodL zh ∨ ∃ b : Int, 128 ≤ b ∧ b ≤ 191 ∧ goodL (zl.set n b)

theorem first_facts (b : Nat) (h : 192 ≤ b) (hb : b < 256) : (b < 194 ∧ firstT b = 241) ∨ (194 ≤ b ∧ b < 224 ∧ firstT b = 2) ∨ (b = 224 ∧ firstT b = 19) ∨ (225 ≤ b ∧ b < 240 ∧ b ≠ 237 ∧ firstT b = 3) ∨ (b = 237 ∧ firstT b = 35) ∨ (b = 240 ∧ firstT b = 52) ∨ (241 ≤ b ∧ b < 244 ∧ firstT b = 4) ∨ (b = 244 ∧ firstT b = 68) ∨ (245 ≤ b ∧ firstT b = 241) := by
  unfold firstT
  repeat' split
  all_goals omega

theorem begB_full {s : ByteArray} (h0 : s.size ≠ 0) (h : fullN s.size (firstT (bt s 0) % 8) (accLo (firstT (bt s 0) / 16)) (accHi (firstT (bt s 0) / 16)) (bt s 1) (bt s 2) = true) : begB s = false := by
  unfold begB fullB
  rw [if_neg h0, h]; rfl
theorem begB_not {s : ByteArray} (h0 : s.size ≠ 0) (h : fullN s.size (firstT (bt s 0) % 8) (accLo (firstT (bt s 0) / 16)) (accHi (firstT (bt s 0) / 16)) (bt s 1) (bt s 2) = false) : begB s = true := by
  unfold begB fullB
  rw [if_neg h0, h]; rfl
theorem begB_ascii {s : ByteArray} (h0 : s.size ≠ 0) (h : bt s 0 < 192) : begB s = false := by
  refine begB_full h0 ?_
  have : firstT (bt s 0) = 240 ∨ firstT (bt s 0) = 241 := by
    unfold firstT
    repeat' split
    all_goals omega
  unfold fullN
  rcases this with e | e <;> rw [e, if_pos (by omega)]

theorem acc0 : accLo 0 = 128 ∧ accHi 0 = 191 := ⟨rfl, rfl⟩
theorem acc1 : accLo 1 = 160 ∧ accHi 1 = 191 := ⟨rfl, rfl⟩
theorem acc2 : accLo 2 = 128 ∧ accHi 2 = 159 := ⟨rfl, rfl⟩
theorem acc3 : accLo 3 = 144 ∧ accHi 3 = 191 := ⟨rfl, rfl⟩
theorem acc4 : accLo 4 = 128 ∧ accHi 4 = 143 := ⟨rfl, rfl⟩
theorem acc15 : accLo 15 = 0 ∧ accHi 15 = 0 := ⟨rfl, rfl⟩

theorem fullN_iff (n k lo hi b1 b2 : Nat) : fullN n k lo hi b1 b2 = true ↔ k ≤ n ∨ (1 < n ∧ (b1 < lo ∨ hi < b1)) ∨ (2 < n ∧ (b2 < 128 ∨ 191 < b2)) := by
  unfold fullN
  repeat' split
  all_goals simp
  all_goals omega
theorem begB_iff {s : ByteArray} (h0 : s.size ≠ 0) : begB s = true ↔ ¬ (firstT (bt s 0) % 8 ≤ s.size ∨ (1 < s.size ∧ (bt s 1 < accLo (firstT (bt s 0) / 16) ∨ accHi (firstT (bt s 0) / 16) < bt s 1)) ∨ (2 < s.size ∧ (bt s 2 < 128 ∨ 191 < bt s 2))) := by
  rw [← fullN_iff]
  unfold begB fullB
  rw [if_neg h0]
  simp

/-- Begun by the tables, told by the first bytes -/
theorem begB_tells {s : ByteArray} (h0 : s.size ≠ 0) (h : 192 ≤ bt s 0) : begB s = true ↔
    (bt s 0 < 224 ∧ s.size = 1 ∧ 194 ≤ bt s 0) ∨
    (224 ≤ bt s 0 ∧ bt s 0 < 240 ∧ s.size ≤ 2 ∧ (1 < s.size → (128 ≤ bt s 1 ∧ bt s 1 ≤ 191) ∧ (bt s 0 = 224 → 160 ≤ bt s 1) ∧ (bt s 0 = 237 → bt s 1 ≤ 159))) ∨
    (240 ≤ bt s 0 ∧ bt s 0 ≤ 244 ∧ s.size ≤ 3 ∧ (1 < s.size → (128 ≤ bt s 1 ∧ bt s 1 ≤ 191) ∧ (bt s 0 = 240 → 144 ≤ bt s 1) ∧ (bt s 0 = 244 → bt s 1 ≤ 143)) ∧ (2 < s.size → 128 ≤ bt s 2 ∧ bt s 2 ≤ 191)) := by
  rw [begB_iff h0]
  have hb := bt_lt s 0
  rcases first_facts (bt s 0) h hb with ⟨g, e⟩ | ⟨g, g2, e⟩ | ⟨g, e⟩ | ⟨g, g2, g3, e⟩ | ⟨g, e⟩ | ⟨g, e⟩ | ⟨g, g2, e⟩ | ⟨g, e⟩ | ⟨g, e⟩ <;> rw [e]
  · simp only [show 241 / 16 = 15 from rfl, acc15.1, acc15.2]; omega
  · simp only [show 2 / 16 = 0 from rfl, acc0.1, acc0.2]; omega
  · simp only [show 19 / 16 = 1 from rfl, acc1.1, acc1.2]; omega
  · simp only [show 3 / 16 = 0 from rfl, acc0.1, acc0.2]; omega
  · simp only [show 35 / 16 = 2 from rfl, acc2.1, acc2.2]; omega
  · simp only [show 52 / 16 = 3 from rfl, acc3.1, acc3.2]; omega
  · simp only [show 4 / 16 = 0 from rfl, acc0.1, acc0.2]; omega
  · simp only [show 68 / 16 = 4 from rfl, acc4.1, acc4.2]; omega
  · simp only [show 241 / 16 = 15 from rfl, acc15.1, acc15.2]; omega

/-- what the document's way tells, is what the tables tell -/
theorem beg_short {s : ByteArray} (h0 : s.size ≠ 0) (h : leadM (bt s 0) < 1 ∨ leadM (bt s 0) < s.size) : begB s = false := by
  by_cases c : bt s 0 < 192
  · exact begB_ascii h0 c
  · rw [← Bool.not_eq_true, begB_tells h0 (by omega)]
    unfold leadM at h
    repeat' split at h
    all_goals omega
theorem beg_cont {s : ByteArray} (h0 : s.size ≠ 0) {j : Nat} (h1 : 1 ≤ j) (h2 : j < s.size) (hn : ¬ (128 ≤ bt s j ∧ bt s j ≤ 191)) : begB s = false := by
  by_cases c : bt s 0 < 192
  · exact begB_ascii h0 c
  · rw [← Bool.not_eq_true, begB_tells h0 (by omega)]
    by_cases h3 : s.size ≤ 3
    · have : j = 1 ∨ j = 2 := by omega
      rcases this with rfl | rfl <;> omega
    · omega

theorem rep1 (x : Int) : List.replicate 1 x = [x] := rfl
theorem rep2 (x : Int) : List.replicate 2 x = [x, x] := rfl
theorem rep3 (x : Int) : List.replicate 3 x = [x, x, x] := rfl

set_option maxHeartbeats 2000000 in
theorem beg_tried {s : ByteArray} {m : Nat} (h0 : s.size ≠ 0) (hm : leadM (bt s 0) = m) (h1 : 1 ≤ m) (h2 : s.size ≤ m) (hc : ∀ j, 1 ≤ j → j < s.size → 128 ≤ bt s j ∧ bt s j ≤ 191) :
    begB s = true ↔ Tried (zsOf s ++ List.replicate (m + 1 - s.size) 128) (zsOf s ++ List.replicate (m + 1 - s.size) 191) s.size := by
  have hb := bt_lt s 0
  have hlead : (m = 1 ∧ 192 ≤ bt s 0 ∧ bt s 0 < 224) ∨ (m = 2 ∧ 224 ≤ bt s 0 ∧ bt s 0 < 240) ∨ (m = 3 ∧ 240 ≤ bt s 0 ∧ bt s 0 < 248) := by
    unfold leadM at hm
    repeat' split at hm
    all_goals omega
  rw [begB_tells h0 (by omega)]
  unfold Tried
  rcases hlead with ⟨rfl, g1, g2⟩ | ⟨rfl, g1, g2⟩ | ⟨rfl, g1, g2⟩
  · have hs : s.size = 1 := by omega
    rw [hs, zsOf_one hs, show 1 + 1 - 1 = 1 from rfl, rep1, rep1]
    simp only [List.cons_append, List.nil_append, List.set_cons_succ, List.set_cons_zero]
    rw [good2 (by omega) (by omega) (by omega), good2 (by omega) (by omega) (by omega)]
    constructor
    · intro h; left; omega
    · rintro (h | h | ⟨b, c1, c2, h⟩)
      · left; exact ⟨g2, trivial, by omega⟩
      · left; exact ⟨g2, trivial, by omega⟩
      · rw [good2 (by omega) (by omega) ⟨c1, c2⟩] at h
        left; exact ⟨g2, trivial, by omega⟩
  · have : s.size = 1 ∨ s.size = 2 := by omega
    rcases this with hs | hs
    · rw [hs, zsOf_one hs, show 2 + 1 - 1 = 2 from rfl, rep2, rep2]
      simp only [List.cons_append, List.nil_append, List.set_cons_succ, List.set_cons_zero]
      rw [good3 (by omega) (by omega) (by omega) (by omega), good3 (by omega) (by omega) (by omega) (by omega)]
      constructor
      · intro h
        by_cases c : (bt s 0 : Int) = 224
        · right; left; omega
        · left; omega
      · intro _; omega
    · have k1 := hc 1 (by omega) (by omega)
      rw [hs, zsOf_two hs, show 2 + 1 - 2 = 1 from rfl, rep1, rep1]
      simp only [List.cons_append, List.nil_append, List.set_cons_succ, List.set_cons_zero]
      rw [good3 (by omega) (by omega) (by omega) (by omega), good3 (by omega) (by omega) (by omega) (by omega)]
      constructor
      · intro h; left; omega
      · rintro (h | h | ⟨b, c1, c2, h⟩)
        · omega
        · omega
        · rw [good3 (by omega) (by omega) (by omega) ⟨c1, c2⟩] at h; omega
  · have : s.size = 1 ∨ s.size = 2 ∨ s.size = 3 := by omega
    rcases this with hs | hs | hs
    · rw [hs, zsOf_one hs, show 3 + 1 - 1 = 3 from rfl, rep3, rep3]
      simp only [List.cons_append, List.nil_append, List.set_cons_succ, List.set_cons_zero]
      rw [good4 (by omega) (by omega) (by omega) (by omega) (by omega), good4 (by omega) (by omega) (by omega) (by omega) (by omega)]
      constructor
      · intro h
        by_cases c : (bt s 0 : Int) = 240
        · right; left; omega
        · left; omega
      · rintro (h | h | ⟨b, c1, c2, h⟩)
        · omega
        · omega
        · rw [good4 (by omega) (by omega) ⟨c1, c2⟩ (by omega) (by omega)] at h; omega
    · have k1 := hc 1 (by omega) (by omega)
      rw [hs, zsOf_two hs, show 3 + 1 - 2 = 2 from rfl, rep2, rep2]
      simp only [List.cons_append, List.nil_append, List.set_cons_succ, List.set_cons_zero]
      rw [good4 (by omega) (by omega) (by omega) (by omega) (by omega), good4 (by omega) (by omega) (by omega) (by omega) (by omega)]
      constructor
      · intro h; left; omega
      · rintro (h | h | ⟨b, c1, c2, h⟩)
        · omega
        · omega
        · rw [good4 (by omega) (by omega) (by omega) ⟨c1, c2⟩ (by omega)] at h; omega
    · have k1 := hc 1 (by omega) (by omega)
      have k2 := hc 2 (by omega) (by omega)
      rw [hs, zsOf_three hs, show 3 + 1 - 3 = 1 from rfl, rep1, rep1]
      simp only [List.cons_append, List.nil_append, List.set_cons_succ, List.set_cons_zero]
      rw [good4 (by omega) (by omega) (by omega) (by omega) (by omega), good4 (by omega) (by omega) (by omega) (by omega) (by omega)]
      constructor
      · intro h; left; omega
      · rintro (h | h | ⟨b, c1, c2, h⟩)
        · omega
        · omega
        · rw [good4 (by omega) (by omega) (by omega) (by omega) ⟨c1, c2⟩] at h; omega
end Bod
