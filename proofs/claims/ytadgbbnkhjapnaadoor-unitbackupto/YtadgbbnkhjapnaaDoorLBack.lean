/-
  The walk of the law UnitBack: for every list of at most 1048576 numbers it returns true: what is written is read again, and what an encoding begins with is only begun. Conditions: the two tables of unicode/utf8 lie as their text lays them; the list can be read.
-/
import Derived.Test.YtadgbbnkhjapnaaDoorUCuts
import Derived.Test.YtadgbbnkhjapnaaDoorUAlike
import Derived.Test.YtadgbbnkhjapnaaDoorUMathF
import Derived.Test.YtadgbbnkhjapnaaDoorUEnc
import Derived.Test.YtadgbbnkhjapnaaDoorUBegun
import Derived.Test.YtadgbbnkhjapnaaDoorURunes
namespace Go.Proofs.YtadgbbnkhjapnaaDoor.unitBack
open Go.RowKit Bod

set_option maxHeartbeats 1000000 in
theorem scalar_any (r : Int) (w : World) : Calls Tryd.prog 20 #[.int .i32 r] w fun e w' => e = .returned (.bool (Lib.validRune r)) ∧ w = w' := by
  by_cases h1 : 0 ≤ r
  · by_cases h2 : r ≤ 1114111
    · by_cases h3 : r < 55296
      · rw [show Lib.validRune r = true from (valid_iff r).2 (by omega)]
        go_enter Tryd.func20, Tryd.ntmps20
        go_wp2
        go_ret
        exact ⟨rfl, rfl⟩
      · by_cases h4 : 57343 < r
        · rw [show Lib.validRune r = true from (valid_iff r).2 (by omega)]
          go_enter Tryd.func20, Tryd.ntmps20
          go_wp2
          go_ret
          exact ⟨rfl, rfl⟩
        · rw [show Lib.validRune r = false from by rw [← Bool.not_eq_true, valid_iff]; omega]
          go_enter Tryd.func20, Tryd.ntmps20
          go_wp2
          go_ret
          exact ⟨rfl, rfl⟩
    · rw [show Lib.validRune r = false from by rw [← Bool.not_eq_true, valid_iff]; omega]
      go_enter Tryd.func20, Tryd.ntmps20
      go_wp2
      go_ret
      exact ⟨rfl, rfl⟩
  · rw [show Lib.validRune r = false from by rw [← Bool.not_eq_true, valid_iff]; omega]
    go_enter Tryd.func20, Tryd.ntmps20
    go_wp2
    go_ret
    exact ⟨rfl, rfl⟩

/-- the text of a list's encodings, and where the k-th begins -/
def txt (rs : List Int) : ByteArray := ⟨(encs rs).toArray⟩
def pos (rs : List Int) (k : Nat) : Nat := (encs (rs.take k)).length
theorem txt_data (rs : List Int) : (txt rs).data.toList = encs rs := by simp [txt]
theorem encs_append (a b : List Int) : encs (a ++ b) = encs a ++ encs b := by simp [encs]
theorem encs_one {r : Int} (h : Lib.validRune r = true) : encs [r] = Lib.encodeRune r := by simp [encs, h]
theorem encs_none {r : Int} (h : Lib.validRune r = false) : encs [r] = [] := by simp [encs, h]
theorem split_at {rs : List Int} {k : Nat} (hk : k < rs.length) : rs = rs.take k ++ [rs[k]] ++ rs.drop (k + 1) := by
  rw [← List.take_succ_eq_append_getElem hk, List.take_append_drop]
theorem pos_succ {rs : List Int} {k : Nat} (hk : k < rs.length) : pos rs (k + 1) = pos rs k + (encs [rs[k]]).length := by
  unfold pos; rw [List.take_succ_eq_append_getElem hk, encs_append, List.length_append]
theorem txt_at {rs : List Int} {k : Nat} (hk : k < rs.length) (hv : Lib.validRune rs[k] = true) : At (txt rs) (pos rs k) (Lib.encodeRuneZ rs[k]) := by
  refine at_of_data (u := encs (rs.take k)) (v := encs (rs.drop (k + 1))) ?_ rfl
  rw [txt_data]
  conv => lhs; rw [split_at hk]
  rw [encs_append, encs_append, encs_one hv]
theorem one_at {r : Int} (hv : Lib.validRune r = true) : At (txt [r]) 0 (Lib.encodeRuneZ r) ∧ (txt [r]).size = (Lib.encodeRuneZ r).length := by
  have hd : (txt [r]).data.toList = [] ++ Lib.encodeRune r ++ [] := by rw [txt_data, encs_one hv]; simp
  refine ⟨at_of_data hd rfl, ?_⟩
  rw [Lib.size_eq, hd]; simp [Lib.encodeRune]
theorem txt_len (rs : List Int) : (txt rs).size ≤ 4 * rs.length := by rw [Lib.size_eq, txt_data]; exact encs_len rs
theorem txt_none : (txt ([] : List Int)) = ⟨#[]⟩ := rfl


set_option maxRecDepth 100000 in
set_option maxHeartbeats 4000000 in
theorem walk (rs : List Int) (b o cap : Nat) (hlen : rs.length ≤ 1048576) (hr : ∀ r ∈ rs, -2147483648 ≤ r ∧ r ≤ 2147483647) (w : World) (hT : Lib.Utf8Tabs 0 1 w) (hlo0 : 0 < w.heap.size) (hlo1 : 1 < w.heap.size)
    (h : ∀ j, j < rs.length → w.cell? ⟨b, o + j, none⟩ = some (.int .i32 (rs[j]?.getD 0))) (hb : b < w.heap.size) :
    Calls Tryd.prog 8 #[.slice (some ⟨b, o, none⟩) rs.length cap] w fun e w' => e = .returned (.bool true) ∧ Below w.heap.size w w' := by
  have CC : Hid (Calls Tryd.prog 9 #[] w fun e w' => e = .returned (.bool true) ∧ Below w.heap.size w w') := cuts_any w hT hlo0 hlo1
  obtain ⟨t, ht⟩ : ∃ t, txt rs = t := ⟨_, rfl⟩
  have htl : t.size ≤ 4 * rs.length := by rw [← ht]; exact txt_len rs
  obtain ⟨N, hN⟩ : ∃ N, (offs t 0).length = N := ⟨_, rfl⟩
  have hNs : N ≤ t.size := by rw [← hN]; exact offs_len_le t
  have CE : Hid (∀ (W : World), Below w.heap.size w W → Calls Tryd.prog 16 #[.slice (some ⟨b, o, none⟩) rs.length cap] W fun e W' => e = .returned (.string t) ∧ Below w.heap.size w W') := fun W hbw => by
    rw [← ht]
    exact (encode_core rs b o cap W (by omega) hr (fun j hj => (hbw.cell (p := ⟨b, o + j, none⟩) hb).trans (h j hj)) (Nat.lt_of_lt_of_le hb hbw.size)).mono fun e W' ⟨h1, h2⟩ => ⟨h1, hbw.trans (h2.mono hbw.size)⟩
  have CU : Hid (∀ (W : World), Below w.heap.size w W → Calls Tryd.prog 12 #[.string t] W fun e W' => ∃ g, e = .returned (.slice (some ⟨g, 0, none⟩) N N) ∧ (∀ j, j < N → W'.cell? ⟨g, j * 2, none⟩ = some (.int .i32 (chAt t (offs t 0) j)) ∧ W'.cell? ⟨g, j * 2 + 1, none⟩ = some (.int .i64 (szAt t (offs t 0) j))) ∧ g < W'.heap.size ∧ Below w.heap.size w W') := fun W hbw => by
    refine (units_any t (by unfold maxLen; omega) (by omega) W (tabs_below hT hbw) (Nat.lt_of_lt_of_le hlo0 hbw.size) (Nat.lt_of_lt_of_le hlo1 hbw.size)).mono ?_
    rintro e W' ⟨g, rfl, hrow, hb2⟩
    refine ⟨g, by rw [hN], fun j hj => ?_, (hrow.lt g rfl).2, hbw.trans (hb2.mono hbw.size)⟩
    obtain ⟨e1, e2⟩ := ucells_get t (offs t 0) j (by omega)
    exact ⟨(hrow.cellAt (j * 2) (by omega)).trans e1, (hrow.cellAt (j * 2 + 1) (by omega)).trans e2⟩
  have CB : Hid (∀ (W : World), Below w.heap.size w W → ∀ (p : ByteArray) q, p.size ≤ 4 → begB p = q → Calls Tryd.prog 18 #[.string p] W fun e W' => e = .returned (.bool q) ∧ Below W.heap.size W W') := fun W hbw p q hp hq => by
    rw [← hq]; exact begun_any p (by unfold maxLen; omega) W (tabs_below hT hbw)
  have CT : Hid (∀ (W : World), Below w.heap.size w W → ∀ (p : ByteArray) (q : Nat), p.size ≤ 4 → (offs p 0).length = q → Calls Tryd.prog 13 #[.string p] W fun e W' => e = .returned (.int .i64 q) ∧ Below W.heap.size W W') := fun W hbw p q hp hq => by
    rw [← hq]; exact count_any p (by unfold maxLen; omega) W (tabs_below hT hbw) (Nat.lt_of_lt_of_le hlo0 hbw.size) (Nat.lt_of_lt_of_le hlo1 hbw.size)
  have HN : Hid ((offs t 0).length = N) := hN
  have HT : Hid (txt rs = t) := ht
  have HH : Hid (∀ j, j < rs.length → w.cell? ⟨b, o + j, none⟩ = some (.int .i32 (rs[j]?.getD 0))) := h
  have HR : Hid (∀ r ∈ rs, -2147483648 ≤ r ∧ r ≤ 2147483647) := hr
  clear hN hT hlo0 hlo1 ht h hr
  go_enter Tryd.func8, Tryd.ntmps8
  go_wp2_with (first | (go_at_call 9; refine (Hid.out CC).mono ?_; rintro e w1 ⟨rfl, hb1⟩; have hB : Hid (Below w.heap.size w w1) := hb1; clear hb1) | (go_at_call 16; refine (CE.out _ hB.out).mono ?_; clear hB; rintro e w1 ⟨rfl, hb1⟩; have hB : Hid (Below w.heap.size w w1) := hb1; clear hb1) | (go_at_call 12; refine (CU.out _ hB.out).mono ?_; clear hB; rintro e W2 ⟨g, rfl, hcells, hg, hb1⟩; have hB2 : Hid (Below w.heap.size w W2) := hb1; have HC : Hid (∀ j, j < N → W2.cell? ⟨g, j * 2, none⟩ = some (.int .i32 (chAt t (offs t 0) j)) ∧ W2.cell? ⟨g, j * 2 + 1, none⟩ = some (.int .i64 (szAt t (offs t 0) j))) := hcells; clear hb1 hcells))
  go_loopw [4, 16] (fun nn c wr => ∃ (pre : List Nat) (k : Nat), nn = .int .i64 pre.length ∧ c = .int .i64 k ∧ k ≤ rs.length ∧ pre.length ≤ N ∧ pre ++ offs t (pos rs k) = offs t 0 ∧ Below W2.heap.size W2 wr) (fun _ c _ => rs.length - (intOf c).toNat)
  case atStart => exact ⟨[], 0, rfl, rfl, by omega, by simp, rfl, Below.refl _ _⟩
  case round =>
    obtain ⟨pre, k, rfl, rfl, hk, hpl, hpre, hBw⟩ := hrel
    have HP : Hid (pre ++ offs t (pos rs k) = offs t 0) := hpre
    clear hpre
    have hB : Hid (Below W2.heap.size W2 wr) := hBw
    clear hBw
    by_cases hlt : k < rs.length
    · have hb2 : b < W2.heap.size := Nat.lt_of_lt_of_le hb hB2.out.size
      have d0 : wr.cell? ⟨b, o + k, none⟩ = some (.int .i32 rs[k]) := by
        refine (hB.out.cell (p := ⟨b, o + k, none⟩) hb2).trans ((hB2.out.cell (p := ⟨b, o + k, none⟩) hb).trans ?_)
        have := HH.out k hlt
        rw [List.getElem?_eq_getElem hlt] at this
        exact this
      obtain ⟨r, hrk⟩ : ∃ r, rs[k] = r := ⟨_, rfl⟩
      have hrb := HR.out r (by rw [← hrk]; exact List.getElem_mem hlt)
      have hps : Hid (pos rs (k + 1) = pos rs k + (encs [r]).length) := by have := pos_succ hlt; rw [hrk] at this; exact this
      have cE : ∀ W : World, W.cell? ⟨wr.heap.size, 0, none⟩ = some (.int .i32 r) → wr.heap.size < W.heap.size → Calls Tryd.prog 16 #[.slice (some ⟨wr.heap.size, 0, none⟩) 1 1] W fun e w' => e = .returned (.string (txt [r])) ∧ Below W.heap.size W w' := fun W h1 h2 =>
        encode_one r wr.heap.size W hrb h1 h2
      have cS := scalar_any r
      cases hv : Lib.validRune r with
      | false =>
        have he : txt [r] = ⟨#[]⟩ := by unfold txt; rw [encs_none hv]
        have hz : Hid ((encs [r]).length = 0) := by show (encs [r]).length = 0; rw [encs_none hv]; rfl
        rw [he] at cE
        rw [hv] at cS
        rw [hrk] at d0
        clear he hrk hv
        go_wp2_with (first | (go_at_call 16; refine (cE _ (by simp) (by simp)).mono ?_; rintro e w3 ⟨rfl, hb3⟩) | (go_at_call 20; refine (cS _).mono ?_; rintro e w4 ⟨rfl, rfl⟩))
        exact ⟨⟨pre, k + 1, rfl, by go_num, by omega, hpl, by rw [hps.out, hz.out, Nat.add_zero]; exact HP.out, hB.out.trans ((((Below.refl _ wr).alloc (Nat.le_refl _) _).mono hB.out.size).trans (hb3.mono (by have := hB.out.size; simp; omega)))⟩, by simp [intOf]; omega⟩
      | true =>
        obtain ⟨L, hL⟩ : ∃ L, (Lib.encodeRuneZ r).length = L := ⟨_, rfl⟩
        have hl4 := Lib.encodeRuneZ_length r
        rw [hL] at hl4
        have hat := txt_at hlt (by rw [hrk]; exact hv)
        rw [hrk, HT.out] at hat
        obtain ⟨hch, hsz⟩ := enc_dec hv hat
        rw [hL] at hsz
        have hpt := hat.1
        rw [hL] at hpt
        obtain ⟨hoa, hos⟩ := one_at hv
        obtain ⟨e, he⟩ : ∃ e, txt [r] = e := ⟨_, rfl⟩
        rw [he] at hoa hos cE
        have hes : e.size = L := by rw [hos, hL]
        have G1 : Hid (begB e = false) := beg_whole hv hos hoa
        have G2 : Hid (∀ m, 1 ≤ m → m < L → begB (e.extract 0 m) = true ∧ (offs (e.extract 0 m) 0).length = m) := fun m m1 m2 => ⟨beg_part hv hos hoa m1 (by omega), count_part hv hos hoa m1 (by omega)⟩
        have hlen1 : Hid ((encs [r]).length = L) := by show (encs [r]).length = L; rw [encs_one hv]; simp [Lib.encodeRune, hL]
        obtain ⟨P, hP⟩ : ∃ P, pos rs k = P := ⟨_, rfl⟩
        rw [hP] at hch hsz hpt
        have hst := offs_step (s := t) (i := P) (by omega)
        rw [hsz] at hst
        have HS : Hid (offs t P = P :: offs t (P + L)) := hst
        have hP2 : Hid (pos rs (k + 1) = P + L) := by show pos rs (k + 1) = P + L; rw [hps.out, hP, hlen1.out]
        have HP' : Hid (pre ++ offs t P = offs t 0) := by have := HP.out; rw [hP] at this; exact this
        have hplt : pre.length < N := by have := HN.out; rw [← HP'.out, HS.out] at this; simp at this; omega
        have hget : (offs t 0).getD pre.length 0 = P := by rw [← HP'.out, HS.out]; simp
        obtain ⟨c0, c1⟩ := HC.out pre.length hplt
        unfold chAt at c0
        unfold szAt at c1
        rw [hget, hch] at c0
        rw [hget, hsz] at c1
        have hcar : ∀ (o : Obj) (w3 : World), Below (wr.alloc o).heap.size (wr.alloc o) w3 → w3.cell? ⟨g, pre.length * 2, none⟩ = some (.int .i32 r) ∧ w3.cell? ⟨g, pre.length * 2 + 1, none⟩ = some (.int .i64 L) ∧ Hid (Below W2.heap.size W2 w3) := fun o w3 hb3 => by
          have hbb : Below W2.heap.size W2 w3 := hB.out.trans ((((Below.refl _ wr).alloc (Nat.le_refl _) o).mono hB.out.size).trans (hb3.mono (by have := hB.out.size; simp; omega)))
          exact ⟨(hbb.cell (p := ⟨g, pre.length * 2, none⟩) hg).trans c0, (hbb.cell (p := ⟨g, pre.length * 2 + 1, none⟩) hg).trans c1, hbb⟩
        have HK : Hid _ := hcar
        rw [hv] at cS
        rw [hrk] at d0
        have t1 : decide (N ≤ pre.length) = false := by simp; omega
        clear hcar c0 c1 hget hst hrk hv hat hch hsz hpt hoa hos he hP hL hps HP
        go_wp2_with (first | (go_at_call 16; refine (cE _ (by simp) (by simp)).mono ?_; rintro _ w3 ⟨rfl, hb3⟩; obtain ⟨f0, f1, hB3⟩ := HK.out _ _ hb3; clear hb3 HK) | (go_at_call 20; refine (cS _).mono ?_; rintro _ w4 ⟨rfl, rfl⟩) | (go_at_call 18; refine (CB.out _ (hB2.out.trans (hB3.out.mono hB2.out.size)) e false (by omega) G1.out).mono ?_; rintro _ w5 ⟨rfl, hb5⟩; have hB5 : Hid (Below W2.heap.size W2 w5) := hB3.out.trans (hb5.mono hB3.out.size); clear hb5 hB3))
        go_loopw [8] (fun q wr2 => ∃ m : Nat, q = .int .i64 m ∧ 1 ≤ m ∧ m ≤ L ∧ Below W2.heap.size W2 wr2) (fun q _ => L - (intOf q).toNat)
        case atStart => exact ⟨1, rfl, by omega, by omega, hB5.out⟩
        case round =>
          clear hB5 hB
          obtain ⟨m, rfl, hm1, hm2, hBw⟩ := hrel
          have hB6 : Hid (Below W2.heap.size W2 wr) := hBw
          clear hBw
          by_cases hm : m < L
          · obtain ⟨G3, G4⟩ := G2.out m hm1 hm
            have hms := size_extract e 0 m (by omega)
            have G3' : Hid (begB (e.extract 0 m) = true) := G3
            have G4' : Hid ((offs (e.extract 0 m) 0).length = m) := G4
            have hms' : Hid ((e.extract 0 m).size = m - 0) := hms
            clear G3 G4 hms
            go_wp2_with (first | (go_at_call 18; refine (CB.out _ (hB2.out.trans (hB6.out.mono hB2.out.size)) _ true (by rw [hms'.out]; omega) G3'.out).mono ?_; rintro _ w7 ⟨rfl, hb7⟩; have hB7 : Hid (Below W2.heap.size W2 w7) := hB6.out.trans (hb7.mono hB6.out.size); clear hb7) | (go_at_call 13; refine (CT.out _ (hB2.out.trans (hB7.out.mono hB2.out.size)) _ m (by rw [hms'.out]; omega) G4'.out).mono ?_; rintro _ w8 ⟨rfl, hb8⟩; have hB8 : Hid (Below W2.heap.size W2 w8) := hB7.out.trans (hb8.mono hB7.out.size); clear hb8))
            exact ⟨⟨m + 1, by go_num, by omega, by omega, hB8.out⟩, by simp [intOf]; omega⟩
          · go_wp2
            exact ⟨⟨pre ++ [P], k + 1, by simp, by go_num, by omega, by simp; omega, by rw [hP2.out, ← HP'.out, HS.out]; simp, hB6.out⟩, by simp [intOf]; omega⟩
    · have hk' : k = rs.length := by omega
      subst hk'
      have hend : offs t (pos rs rs.length) = [] := offs_end (by unfold pos; rw [List.take_length, ← HT.out, Lib.size_eq, txt_data]; exact Nat.le_refl _)
      have hpn : pre.length = N := by
        have := HP.out; rw [hend, List.append_nil] at this; rw [this]; exact HN.out
      rw [hpn]
      clear hend hpn
      go_wp2
      go_ret
      exact ⟨rfl, hB2.out.trans (hB.out.mono hB2.out.size)⟩

set_option maxRecDepth 100000 in
set_option maxHeartbeats 4000000 in
theorem walk_none (a : Option Addr) (cap : Nat) (w : World) (hT : Lib.Utf8Tabs 0 1 w) (hlo0 : 0 < w.heap.size) (hlo1 : 1 < w.heap.size) :
    Calls Tryd.prog 8 #[.slice a 0 cap] w fun e w' => e = .returned (.bool true) ∧ Below w.heap.size w w' := by
  have CC : Hid (Calls Tryd.prog 9 #[] w fun e w' => e = .returned (.bool true) ∧ Below w.heap.size w w') := cuts_any w hT hlo0 hlo1
  have h0 : offs (⟨#[]⟩ : ByteArray) 0 = [] := offs_end (Nat.le_refl _)
  have CE : Hid (∀ (W : World), Below w.heap.size w W → Calls Tryd.prog 16 #[.slice a 0 cap] W fun e W' => e = .returned (.string ⟨#[]⟩) ∧ Below w.heap.size w W') := fun W hbw =>
    (encode_none a cap W).mono fun e W' ⟨h1, h2⟩ => ⟨h1, hbw.trans (h2.mono hbw.size)⟩
  have CU : Hid (∀ (W : World), Below w.heap.size w W → Calls Tryd.prog 12 #[.string ⟨#[]⟩] W fun e W' => ∃ g, e = .returned (.slice (some ⟨g, 0, none⟩) 0 0) ∧ Below w.heap.size w W') := fun W hbw => by
    have h := units_any ⟨#[]⟩ (by unfold maxLen; decide) (by rw [h0]; decide) W (tabs_below hT hbw) (Nat.lt_of_lt_of_le hlo0 hbw.size) (Nat.lt_of_lt_of_le hlo1 hbw.size)
    rw [h0] at h
    refine h.mono ?_
    rintro e W' ⟨g, rfl, _, hb2⟩
    exact ⟨g, rfl, hbw.trans (hb2.mono hbw.size)⟩
  clear hT hlo0 hlo1 h0
  go_enter Tryd.func8, Tryd.ntmps8
  go_wp2_with (first | (go_at_call 9; refine (Hid.out CC).mono ?_; rintro e w1 ⟨rfl, hb1⟩; have hB : Hid (Below w.heap.size w w1) := hb1; clear hb1) | (go_at_call 16; refine (CE.out _ hB.out).mono ?_; clear hB; rintro e w1 ⟨rfl, hb1⟩; have hB : Hid (Below w.heap.size w w1) := hb1; clear hb1) | (go_at_call 12; refine (CU.out _ hB.out).mono ?_; clear hB; rintro e W2 ⟨g, rfl, hb1⟩; have hB : Hid (Below w.heap.size w W2) := hb1; clear hb1))
  go_loopw [4, 16] (fun nn c wr => nn = .int .i64 0 ∧ c = .int .i64 0 ∧ wr = W2) (fun _ _ _ => 0)
  case atStart => exact ⟨rfl, rfl, rfl⟩
  case round =>
    obtain ⟨rfl, rfl, rfl⟩ := hrel
    go_wp2
    go_ret
    exact ⟨rfl, hB.out⟩

theorem walk_of {H : Type} (a : Option Addr) (len cap : Nat) (w : World) (hT : Lib.Utf8Tabs 0 1 w) (hlo0 : 0 < w.heap.size) (hlo1 : 1 < w.heap.size) (rs : List Int) (hR : Runes w a len rs) {d : DataW H} (hd : len ≤ Rows.uptoBulk d) (hk : Rows.uptoSmall H ([d] ++ []) = true) :
    Calls Tryd.prog 8 #[.slice a len cap] w fun e w' => e = .returned (.bool true) ∧ Below w.heap.size w w' := by
  have h : Rows.uptoBulkAll ([d] ++ []) ≤ 1048576 := of_decide_eq_true hk
  simp only [List.append_nil, Rows.uptoBulkAll] at h
  obtain ⟨rfl, hb, hc⟩ := hR
  by_cases h0 : rs.length = 0
  · rw [h0]; exact walk_none a cap w hT hlo0 hlo1
  · obtain ⟨b, o, rfl, hlt, hcell⟩ := hc h0
    exact walk rs b o cap (by omega) hb w hT hlo0 hlo1 hcell hlt
end Go.Proofs.YtadgbbnkhjapnaaDoor.unitBack
