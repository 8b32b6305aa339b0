/-
  A text whose characters are laid in other forms, unit by unit: units, clusters and words stay where they are. No program in this text; no conditions.
-/
import Derived.Test.YtoijjkbnmicadaaDoorWMathE
import Derived.Test.YtoijjkbnmicadaaDoorCMathF
import Derived.Test.YtoijjkbnmicadaaDoorUMathF
namespace Go.Proofs.YtoijjkbnmicadaaDoor
open Bod Wid

/-- what is written for the unit at i -/
def pc (g : Nat → Int → Int) (s : ByteArray) (i : Nat) : List UInt8 := if ch s i < 0 then [s.get! i] else Lib.encodeRune (g i (ch s i))
/-- the offsets of the units from a up to b -/
def sg (s : ByteArray) (a b : Nat) : List Nat := (offs s a).takeWhile fun i => decide (i < b)
/-- what is written for the units from a up to b -/
def fs (g : Nat → Int → Int) (s : ByteArray) (a b : Nat) : List UInt8 := (sg s a b).flatMap (pc g s)
/-- the text in these forms -/
def fm (g : Nat → Int → Int) (s : ByteArray) : ByteArray := ⟨(fs g s 0 s.size).toArray⟩
/-- each form is the upper one or the lower one -/
def Gd (g : Nat → Int → Int) : Prop := ∀ i c, g i c = upc c ∨ g i c = lowc c
theorem gd_up : Gd fun _ => upc := fun _ _ => .inl rfl
theorem gd_low : Gd fun _ => lowc := fun _ _ => .inr rfl

theorem sg_nil {s : ByteArray} {a b : Nat} (h : b ≤ a) : sg s a b = [] := by
  unfold sg
  by_cases ha : a < s.size
  · rw [offs_step ha, List.takeWhile_cons_of_neg (by simp; omega)]
  · rw [offs_end (by omega)]; rfl
theorem sg_step {s : ByteArray} {a b : Nat} (h : a < b) (hb : b ≤ s.size) : sg s a b = a :: sg s (a + sz s a) b := by
  unfold sg
  rw [offs_step (by omega), List.takeWhile_cons_of_pos (by simpa using h)]
theorem sg_all (s : ByteArray) : ∀ (f a : Nat), s.size - a ≤ f → offs s a = sg s a s.size
  | f, a, hf => by
    by_cases h : a < s.size
    · cases f with
      | zero => omega
      | succ f =>
        have := sz_pos h
        rw [sg_step h (Nat.le_refl _), offs_step h, sg_all s f (a + sz s a) (by omega)]
    · rw [sg_nil (by omega), offs_end (by omega)]
theorem sg_app {s : ByteArray} {b c : Nat} (hb : B s b) (hc : c ≤ s.size) (hbc : b ≤ c) : ∀ (f a : Nat), b - a ≤ f → a ≤ b → sg s a c = sg s a b ++ sg s b c
  | f, a, hf, ha => by
    by_cases h : a < b
    · cases f with
      | zero => omega
      | succ f =>
        have h1 := hb.2 a h
        have := sz_pos (s := s) (i := a) (by omega)
        rw [sg_step (a := a) (b := c) (by omega) hc, sg_step h (by omega), sg_app hb hc hbc f (a + sz s a) (by omega) h1]
        rfl
    · have : a = b := by omega
      subst this
      rw [sg_nil (Nat.le_refl _)]; rfl
theorem fs_app {g : Nat → Int → Int} {s : ByteArray} {a b c : Nat} (hb : B s b) (hc : c ≤ s.size) (hab : a ≤ b) (hbc : b ≤ c) : fs g s a c = fs g s a b ++ fs g s b c := by
  unfold fs
  rw [sg_app hb hc hbc b a (by omega) hab, List.flatMap_append]
theorem fs_nil {g : Nat → Int → Int} {s : ByteArray} {a b : Nat} (h : b ≤ a) : fs g s a b = [] := by unfold fs; rw [sg_nil h]; rfl
theorem fs_one {g : Nat → Int → Int} {s : ByteArray} {a : Nat} (h : a < s.size) : fs g s a (a + sz s a) = pc g s a := by
  unfold fs
  rw [sg_step (by have := sz_pos h; omega) (sz_in h), sg_nil (Nat.le_refl _)]
  simp
theorem fs_step {g : Nat → Int → Int} {s : ByteArray} {a b : Nat} (h : a < b) (hb : b ≤ s.size) : fs g s a b = pc g s a ++ fs g s (a + sz s a) b := by
  unfold fs
  rw [sg_step h hb, List.flatMap_cons]
/-- the forms of -1, of characters -/
theorem gd_neg {g : Nat → Int → Int} (hg : Gd g) (i : Nat) : g i (-1) = -1 := by
  rcases hg i (-1) with h | h <;> rw [h]
  · exact (up_eq (by omega)).2 rfl
  · exact (low_eq (by omega)).2 rfl
theorem gd_valid {g : Nat → Int → Int} (hg : Gd g) (i : Nat) {c : Int} (hc : Lib.validRune c = true) : Lib.validRune (g i c) = true := by
  rw [valid_iff] at hc ⊢
  have h : bad (g i c) ↔ bad c := by
    rcases hg i c with h | h <;> rw [h]
    · exact up_bad c
    · exact low_bad c
  unfold bad at h
  omega
theorem enc_len {r : Int} (h : Lib.validRune r = true) : ((Lib.encodeRuneZ r).length : Int) = if r < 128 then 1 else if r < 2048 then 2 else if r < 65536 then 3 else 4 := by
  rcases enc_shape h with ⟨h1, h2, e⟩ | ⟨h1, h2, e⟩ | ⟨h1, e⟩ | ⟨h1, h2, e⟩ <;> rw [e]
  · rw [if_pos (by omega)]; rfl
  · rw [if_neg (by omega), if_pos (by omega)]; rfl
  · rw [if_neg (by omega), if_neg (by omega), if_pos (by omega)]; rfl
  · rw [if_neg (by omega), if_neg (by omega), if_neg (by omega)]; rfl
theorem gd_len {g : Nat → Int → Int} (hg : Gd g) (i : Nat) {c : Int} (hc : Lib.validRune c = true) : (Lib.encodeRuneZ (g i c)).length = (Lib.encodeRuneZ c).length := by
  have h1 := enc_len (gd_valid hg i hc)
  have h2 := enc_len hc
  have h : (g i c < 128 ↔ c < 128) ∧ (g i c < 2048 ↔ c < 2048) ∧ (g i c < 65536 ↔ c < 65536) := by
    rcases hg i c with h | h <;> rw [h]
    · exact up_len c
    · exact low_len c
  obtain ⟨a1, a2, a3⟩ := h
  simp only [a1, a2, a3] at h1
  omega
theorem encR_len (r : Int) : (Lib.encodeRune r).length = (Lib.encodeRuneZ r).length := by simp [Lib.encodeRune]
theorem enc_sz {s : ByteArray} {i : Nat} (hi : i < s.size) (hc : 0 ≤ ch s i) : (Lib.encodeRuneZ (ch s i)).length = sz s i := by
  rw [← encR_len, (good_bytes hi hc).2, ← Lib.size_eq]
  have := sz_in hi
  simp
  omega
theorem pc_len {g : Nat → Int → Int} (hg : Gd g) {s : ByteArray} {i : Nat} (hi : i < s.size) : (pc g s i).length = sz s i := by
  unfold pc
  split
  · rename_i h; rw [(ch_neg h).2]; rfl
  · rename_i h
    rw [encR_len, gd_len hg i (good_bytes hi (by omega)).1, enc_sz hi (by omega)]
theorem fs_len {g : Nat → Int → Int} (hg : Gd g) {s : ByteArray} {b : Nat} (hb : B s b) : ∀ (f a : Nat), b - a ≤ f → a ≤ b → (fs g s a b).length = b - a
  | f, a, hf, ha => by
    by_cases h : a < b
    · cases f with
      | zero => omega
      | succ f =>
        have h0 := hb.1
        have h1 := hb.2 a h
        have := sz_pos (s := s) (i := a) (by omega)
        rw [fs_step h hb.1, List.length_append, pc_len hg (by omega), fs_len hg hb f (a + sz s a) (by omega) h1]
        omega
    · rw [fs_nil (by omega)]
      simp
      omega
theorem fm_data (g : Nat → Int → Int) (s : ByteArray) : (fm g s).data.toList = fs g s 0 s.size := rfl
theorem fm_size {g : Nat → Int → Int} (hg : Gd g) (s : ByteArray) : (fm g s).size = s.size := by
  rw [Lib.size_eq, fm_data, fs_len hg (B_end s) s.size 0 (by omega) (by omega)]
  omega
theorem fm_at {g : Nat → Int → Int} {s : ByteArray} {a : Nat} (ha : B s a) (h : a < s.size) : (fm g s).data.toList = fs g s 0 a ++ pc g s a ++ fs g s (a + sz s a) s.size := by
  rw [fm_data, fs_app ha (Nat.le_refl _) (Nat.zero_le _) (by omega), fs_step h (Nat.le_refl _), List.append_assoc]
theorem fm_good {g : Nat → Int → Int} (hg : Gd g) {s : ByteArray} {a : Nat} (ha : B s a) (h : a < s.size) (hc : 0 ≤ ch s a) : ch (fm g s) a = g a (ch s a) ∧ sz (fm g s) a = sz s a := by
  have hv := gd_valid hg a (good_bytes h hc).1
  have hd := fm_at (g := g) ha h
  unfold pc at hd
  rw [if_neg (by omega)] at hd
  have := enc_dec (i := a) hv (at_of_data hd (by rw [fs_len hg ha a 0 (by omega) (by omega)]; omega))
  exact ⟨this.1, by rw [this.2, gd_len hg a (good_bytes h hc).1, enc_sz h hc]⟩
theorem fm_byte {g : Nat → Int → Int} (hg : Gd g) {s : ByteArray} {a : Nat} (ha : B s a) (h : a < s.size) (hc : ch s a < 0) : bt (fm g s) a = bt s a := by
  have hd := fm_at (g := g) ha h
  unfold pc at hd
  rw [if_pos hc] at hd
  have hl : (fs g s 0 a).length = a := by rw [fs_len hg ha a 0 (by omega) (by omega)]; omega
  rw [bt_eq, hd, List.append_assoc, List.getElem?_append_right (by omega), hl, Nat.sub_self]
  rfl
theorem lead_byte {r : Int} (hv : Lib.validRune r = true) {s : ByteArray} {i : Nat} (h : At s i (Lib.encodeRuneZ r)) : bt s i / 64 ≠ 2 := by
  obtain ⟨hl, hb⟩ := h
  rcases enc_shape hv with ⟨h1, h2, e⟩ | ⟨h1, h2, e⟩ | ⟨h1, e⟩ | ⟨h1, h2, e⟩
  all_goals
    rw [e] at hb
    have b0 := hb 0 (by simp)
    simp only [List.getElem?_cons_zero, Option.getD_some, Nat.add_zero] at b0
    omega
/-- a byte goes on with a character just where it did -/
theorem fm_cont {g : Nat → Int → Int} (hg : Gd g) {s : ByteArray} {k : Nat} (hk : k < s.size) : bt (fm g s) k / 64 = 2 ↔ bt s k / 64 = 2 := by
  have hd := dnF_Dn hk
  generalize dnF s k = a at hd
  obtain ⟨h1, h2, h3⟩ := hd
  have ha : a < s.size := by omega
  by_cases hc : ch s a < 0
  · have := (ch_neg hc).2
    have e : k = a := by omega
    subst e
    rw [fm_byte hg h2 ha hc]
  · by_cases e : k = a
    · subst e
      have hv := (good_bytes ha (by omega)).1
      have d1 := fm_at (g := g) h2 ha
      unfold pc at d1
      rw [if_neg (by omega)] at d1
      have l1 := lead_byte (gd_valid hg k hv) (i := k) (at_of_data d1 (by rw [fs_len hg h2 k 0 (by omega) (by omega)]; omega))
      have l2 : bt s k / 64 ≠ 2 := by
        intro h
        have := un_inner h
        exact hc (ch_bad.2 this)
      exact ⟨fun h => absurd h l1, fun h => absurd h l2⟩
    · have c1 : bt s k / 64 = 2 := cont (i := a) (by omega) h3
      have c2 : bt (fm g s) k / 64 = 2 := cont (i := a) (by omega) (by rw [(fm_good hg h2 ha (by omega)).2]; exact h3)
      exact ⟨fun _ => c1, fun _ => c2⟩
set_option maxHeartbeats 4000000 in
theorem dec_like {n b0 b1 b2 b3 c1 c2 c3 : Nat} (h1 : 1 < n → ((c1 / 64 = 2 ↔ b1 / 64 = 2) ∧ (b1 / 64 = 2 → c1 = b1))) (h2 : 2 < n → b1 / 64 = 2 → ((c2 / 64 = 2 ↔ b2 / 64 = 2) ∧ (b2 / 64 = 2 → c2 = b2)))
    (h3 : 3 < n → b1 / 64 = 2 → b2 / 64 = 2 → ((c3 / 64 = 2 ↔ b3 / 64 = 2) ∧ (b3 / 64 = 2 → c3 = b3))) : Lib.decodeN n b0 c1 c2 c3 = Lib.decodeN n b0 b1 b2 b3 := by
  by_cases g1 : 1 < n ∧ b1 / 64 = 2
  · obtain ⟨k1, k2⟩ := h1 g1.1
    have e1 := k2 g1.2
    subst e1
    by_cases g2 : 2 < n ∧ b2 / 64 = 2
    · obtain ⟨k3, k4⟩ := h2 g2.1 g1.2
      have e2 := k4 g2.2
      subst e2
      by_cases g3 : 3 < n ∧ b3 / 64 = 2
      · obtain ⟨_, k6⟩ := h3 g3.1 g1.2 g2.2
        rw [k6 g3.2]
      · have g3' : ¬ (3 < n ∧ c3 / 64 = 2) := fun h => g3 ⟨h.1, (h3 h.1 g1.2 g2.2).1.1 h.2⟩
        unfold Lib.decodeN
        simp only [g3, g3', and_false, if_false]
    · have g2' : ¬ (2 < n ∧ c2 / 64 = 2) := fun h => g2 ⟨h.1, (h2 h.1 g1.2).1.1 h.2⟩
      unfold Lib.decodeN
      simp only [g2, g2', and_false, false_and, if_false]
  · have g1' : ¬ (1 < n ∧ c1 / 64 = 2) := fun h => g1 ⟨h.1, (h1 h.1).1.1 h.2⟩
    unfold Lib.decodeN
    simp only [g1, g1', and_false, false_and, if_false]
theorem fm_bad {g : Nat → Int → Int} (hg : Gd g) {s : ByteArray} {a : Nat} (ha : B s a) (h : a < s.size) (hc : ch s a < 0) : un (fm g s) a = un s a := by
  have hs := fm_size hg s
  have next : ∀ {k : Nat}, B s k → k < s.size → bt s k / 64 = 2 → bt (fm g s) k = bt s k ∧ B s (k + 1) := fun hB hk h2 => by
    have e := un_inner h2
    have e2 : sz s _ = 1 := (ch_neg (ch_bad.2 e)).2
    have := B_next hB hk
    rw [e2] at this
    exact ⟨fm_byte hg hB hk (ch_bad.2 e), this⟩
  have B1 : B s (a + 1) := by
    have := B_next ha h
    rwa [(ch_neg hc).2] at this
  unfold un
  rw [hs, fm_byte hg ha h hc]
  refine dec_like (fun h1 => ⟨fm_cont hg (by omega), fun h2 => (next B1 (by omega) h2).1⟩) (fun h1 h2 => ⟨fm_cont hg (by omega), fun h3 => (next (next B1 (by omega) h2).2 (by omega) h3).1⟩) (fun h1 h2 h3 => ⟨fm_cont hg (by omega), fun h4 => (next (next (next B1 (by omega) h2).2 (by omega) h3).2 (by omega) h4).1⟩)
/-- each unit is its form, at its place -/
theorem fm_un {g : Nat → Int → Int} (hg : Gd g) {s : ByteArray} {a : Nat} (ha : B s a) (h : a < s.size) : ch (fm g s) a = g a (ch s a) ∧ sz (fm g s) a = sz s a := by
  by_cases hc : ch s a < 0
  · have e := fm_bad hg ha h hc
    have e1 := (ch_neg hc).1
    constructor
    · rw [e1, gd_neg hg]
      have : ch (fm g s) a = ch s a := by unfold ch; rw [e]
      rw [this, e1]
    · unfold sz; rw [e]
  · exact fm_good hg ha h (by omega)
theorem fm_offs {g : Nat → Int → Int} (hg : Gd g) {s : ByteArray} : ∀ (f a : Nat), s.size - a ≤ f → B s a → offs (fm g s) a = offs s a
  | f, a, hf, ha => by
    by_cases h : a < s.size
    · cases f with
      | zero => omega
      | succ f =>
        have := sz_pos h
        rw [offs_step h, offs_step (by rw [fm_size hg]; exact h), (fm_un hg ha h).2, fm_offs hg f (a + sz s a) (by omega) (B_next ha h)]
    · have := fm_size hg s
      rw [offs_end (s := s) (by omega), offs_end (by omega)]
theorem fm_B {g : Nat → Int → Int} (hg : Gd g) {s : ByteArray} {b : Nat} : B (fm g s) b ↔ B s b := by
  have key : ∀ (f a : Nat), b - a ≤ f → a ≤ b → B s a → B (fm g s) a → (B (fm g s) b ↔ B s b) := by
    intro f
    induction f with
    | zero => intro a hf hab h1 h2; have e : a = b := by omega
              subst e; exact ⟨fun _ => h1, fun _ => h2⟩
    | succ f ih =>
      intro a hf hab h1 h2
      by_cases e : a = b
      · subst e; exact ⟨fun _ => h1, fun _ => h2⟩
      · by_cases ha : a < s.size
        · have hz := (fm_un hg h1 ha).2
          have hp := sz_pos ha
          by_cases hb : a + sz s a ≤ b
          · exact ih (a + sz s a) (by omega) hb (B_next h1 ha) (by have := B_next h2 (by rw [fm_size hg]; exact ha); rwa [hz] at this)
          · exact ⟨fun h => absurd h (not_B (i := a) (by omega) (by omega)), fun h => absurd h (not_B (i := a) (by omega) (by omega))⟩
        · exact ⟨fun h => by have := h.1; rw [fm_size hg] at this; omega, fun h => by have := h.1; omega⟩
  exact key b 0 (by omega) (Nat.zero_le _) (B_zero _) (B_zero _)
/-- clusters and words stay -/
theorem cel_gd {g : Nat → Int → Int} (hg : Gd g) (i : Nat) (c : Int) : cls (g i c) = cls c ∧ cel (g i c) = cel c ∧ (g i c = 13 ↔ c = 13) ∧ (g i c = 10 ↔ c = 10) ∧ wch (g i c) = wch c := by
  have h127 : cls c = 2 → g i c = c := fun h => by
    rcases hg i c with e | e <;> rw [e]
    · rcases up_cases c with h1 | h1
      · exact h1.1
      · have := (pair h1).2.2.1.1; omega
    · rcases low_cases c with h1 | h1
      · exact h1.1
      · have := (pair h1).2.2.1.2; omega
  have hc : cls (g i c) = cls c := by
    rcases hg i c with e | e <;> rw [e]
    · exact up_cls c
    · exact low_cls c
  refine ⟨hc, ?_, ?_, ?_, ?_⟩
  · unfold cel
    rw [hc]
    by_cases h2 : cls c = 2
    · rw [h127 h2]
    · simp [h2]
  · rcases hg i c with e | e <;> rw [e]
    · exact up_eq (by omega)
    · exact low_eq (by omega)
  · rcases hg i c with e | e <;> rw [e]
    · exact up_eq (by omega)
    · exact low_eq (by omega)
  · rcases hg i c with e | e <;> rw [e]
    · exact up_wch c
    · exact low_wch c
theorem fm_clF {g : Nat → Int → Int} (hg : Gd g) {s : ByteArray} : ∀ (l : List Nat) (c : Clu) (a : Nat), B s a → a < s.size → (∀ i ∈ l, B s i ∧ i < s.size) → clF (fm g s) c (ch (fm g s) a) l = clF s c (ch s a) l
  | [], c, a, _, _, _ => rfl
  | i :: l, c, a, ha, has, hl => by
    obtain ⟨hi, his⟩ := hl i (by simp)
    have ih := fun c => fm_clF hg l c i hi his (fun j hj => hl j (by simp [hj]))
    obtain ⟨a1, a2, a3, a4, _⟩ := cel_gd hg a (ch s a)
    obtain ⟨b1, b2, b3, b4, _⟩ := cel_gd hg i (ch s i)
    have ej : jn (ch (fm g s) a) (ch (fm g s) i) = jn (ch s a) (ch s i) := by
      rw [(fm_un hg ha has).1, (fm_un hg hi his).1]
      unfold jn
      simp only [a1, b1, a3, b4]
    have eb : beg (fm g s) i = beg s i := by
      unfold beg
      rw [(fm_un hg hi his).1, (fm_un hg hi his).2, b1, b2]
    have eg : gro (fm g s) c i = gro s c i := by
      unfold gro
      simp only [(fm_un hg hi his).1, (fm_un hg hi his).2, b4]
    simp only [clF]
    rw [ej, eb, eg, ih, ih]
theorem offs_all (s : ByteArray) : ∀ (f a : Nat), s.size - a ≤ f → B s a → ∀ i ∈ offs s a, B s i ∧ i < s.size
  | f, a, hf, ha, i, hi => by
    by_cases h : a < s.size
    · cases f with
      | zero => omega
      | succ f =>
        have := sz_pos h
        rw [offs_step h] at hi
        rcases List.mem_cons.1 hi with rfl | hi
        · exact ⟨ha, h⟩
        · exact offs_all s f (a + sz s a) (by omega) (B_next ha h) i hi
    · rw [offs_end (by omega)] at hi; cases hi
theorem fm_cl {g : Nat → Int → Int} (hg : Gd g) (s : ByteArray) : cl (fm g s) = cl s := by
  unfold cl
  rw [fm_offs hg s.size 0 (by omega) (B_zero s)]
  by_cases h : 0 < s.size
  · have hu := fm_un hg (B_zero s) h
    obtain ⟨a1, a2, _⟩ := cel_gd hg 0 (ch s 0)
    have eb : beg (fm g s) 0 = beg s 0 := by
      unfold beg
      rw [hu.1, hu.2, a1, a2]
    rw [offs_step h]
    simp only [clL]
    rw [eb]
    exact fm_clF hg _ _ 0 (B_zero s) h (fun i hi => offs_all s s.size (0 + sz s 0) (by omega) (B_next (B_zero s) h) i hi)
  · rw [offs_end (by omega)]; rfl
theorem wrun_congr {p q : Clu → Bool} : ∀ (l : List Clu) (x : Option (Nat × Nat)), (∀ c ∈ l, p c = q c) → wrun p x l = wrun q x l
  | [], none, _ => rfl
  | [], some _, _ => rfl
  | c :: r, none, h => by
    simp only [wrun]
    rw [h c (by simp), wrun_congr r _ (fun d hd => h d (by simp [hd])), wrun_congr r none (fun d hd => h d (by simp [hd]))]
  | c :: r, some x, h => by
    simp only [wrun]
    rw [h c (by simp), wrun_congr r _ (fun d hd => h d (by simp [hd])), wrun_congr r none (fun d hd => h d (by simp [hd]))]
theorem cl_B {s : ByteArray} {c : Clu} (h : c ∈ cl s) : B s c.fr ∧ c.fr < s.size := by
  obtain ⟨m, hm, hB⟩ := cb_B (cl_fr s c h)
  have : c.fr = m := by omega
  subst this
  have := cl_span h
  exact ⟨hB, by omega⟩
theorem fm_words {g : Nat → Int → Int} (hg : Gd g) (s : ByteArray) : words (fm g s) = words s := by
  unfold words wsp
  rw [fm_cl hg]
  refine wrun_congr _ _ fun c hc => ?_
  obtain ⟨h1, h2⟩ := cl_B hc
  rw [(fm_un hg h1 h2).1]
  exact (cel_gd hg c.fr _).2.2.2.2
end Go.Proofs.YtoijjkbnmicadaaDoor
