/-
  How often a byte stands in a text: the law's count; two pieces changed about. Conditions: those of each theorem.
-/
import Derived.Test.YtiejollfeggeoaaDoorFBox
import Derived.Test.YtiejollfeggeoaaDoorPkI
namespace Go.Proofs.YtiejollfeggeoaaDoor
open Go.RowKit Go.Shelf Bod Wid

/-- how often a byte stands in a text -/
def bcn (b : Nat) (s : ByteArray) : Nat := s.data.toList.countP (fun x => x.toNat == b)
theorem bcn_app (b : Nat) (s t : ByteArray) : bcn b (s ++ t) = bcn b s + bcn b t := by
  unfold bcn
  rw [ByteArray.data_append, Array.toList_append, List.countP_append]
theorem bcn_nls (s : ByteArray) : bcn 10 s = nls s := by
  unfold bcn nls
  congr 1
  funext x
  rw [Bool.eq_iff_iff]
  simp only [beq_iff_eq]
  exact ⟨fun h => UInt8.toNat_inj.1 h, fun h => by rw [h]; rfl⟩
theorem ext_two {s : ByteArray} {a b c : Nat} (h1 : a ≤ b) (h2 : b ≤ c) : s.extract a b ++ s.extract b c = s.extract a c := by
  apply ByteArray.ext
  apply Array.ext'
  rw [ByteArray.data_append, Array.toList_append, data_extract', data_extract', data_extract']
  have e : c - a = (b - a) + (c - b) := by omega
  rw [e, List.take_add, List.drop_drop, show a + (b - a) = b by omega]
theorem bcn_swp {s : ByteArray} {v w : Nat × Nat} (b : Nat) (h1 : v.1 ≤ v.2) (h2 : v.2 ≤ w.1) (h3 : w.1 ≤ w.2) : bcn b (swp s v w) = bcn b (s.extract v.1 w.2) := by
  have e : s.extract v.1 w.2 = s.extract v.1 v.2 ++ s.extract v.2 w.1 ++ s.extract w.1 w.2 := by
    rw [ext_two h1 h2, ext_two (Nat.le_trans h1 h2) h3]
  rw [e]
  unfold swp
  simp only [bcn_app]
  omega
def bct (b : Nat) (s : ByteArray) (i : Nat) : Nat := (s.data.toList.take i).countP (fun x => x.toNat == b)
theorem bct_le (b : Nat) (s : ByteArray) (i : Nat) : bct b s i ≤ i := by
  unfold bct
  exact Nat.le_trans List.countP_le_length (by rw [List.length_take]; omega)
theorem bct_succ (b : Nat) (s : ByteArray) {i : Nat} (h : i < s.size) : bct b s (i + 1) = bct b s i + if s[i].toNat = b then 1 else 0 := by
  unfold bct
  have hl : i < s.data.toList.length := by simpa using h
  rw [List.take_succ_eq_append_getElem hl, List.countP_append]
  congr 1
  have e : s[i] = s.data.toList[i] := rfl
  simp only [List.countP_cons, List.countP_nil, beq_iff_eq, e]
  omega
theorem bct_all (b : Nat) (s : ByteArray) : bct b s s.size = bcn b s := by
  unfold bct bcn
  rw [List.take_of_length_le]
  simp
set_option maxRecDepth 100000 in
set_option maxHeartbeats 1000000 in
theorem cnt_any (s : ByteArray) (hs : s.size ≤ 1099511627776) (b : Nat) (w : World) : Calls Tryd.prog 16 #[.string s, .int .u8 b] w fun e W' => e = .returned (.int .i64 (bcn b s)) ∧ w = W' := by
  go_enter Tryd.func16, Tryd.ntmps16
  go_wp2
  have HW : Hid (w = w) := rfl
  go_loopw [5, 6] (fun t5 t6 wr => ∃ i c : Nat, i ≤ s.size ∧ t5 = .int .i64 c ∧ t6 = .int .i64 i ∧ Hid (bct b s i = c) ∧ Hid (w = wr)) (fun _ t6 _ => s.size - (intOf t6).toNat)
  case atStart => exact ⟨0, 0, by omega, rfl, rfl, rfl, HW⟩
  case round =>
    obtain ⟨i, c, hi, rfl, rfl, HC, HR⟩ := hrel
    by_cases hlt : i < s.size
    · have HN : Hid (bct b s (i + 1) = bct b s i + if s[i].toNat = b then 1 else 0) := bct_succ b s hlt
      have hc : (c : Int) ≤ 1099511627776 := by have := bct_le b s i; have := HC.out; omega
      go_wp2
      · rename_i h
        have h' : s[i].toNat = b := by have := beq_iff_eq.1 h; omega
        exact ⟨⟨i + 1, c + 1, by omega, by go_num, by go_num, (by show _ = _; rw [HN.out, HC.out, if_pos h'] : Hid _), HR⟩, by simp [Go.RowKit.intOf]; omega⟩
      · rename_i h
        have h' : ¬ s[i].toNat = b := fun e => by rw [e] at h; simp at h
        exact ⟨⟨i + 1, c, by omega, rfl, by go_num, (by show _ = _; rw [HN.out, HC.out, if_neg h', Nat.add_zero] : Hid _), HR⟩, by simp [Go.RowKit.intOf]; omega⟩
    · have he : i = s.size := by omega
      have HE : Hid (bcn b s = c) := by show _ = _; rw [← bct_all, ← he]; exact HC.out
      go_wp2
      go_ret
      exact ⟨by simp [HE.out], HR.out⟩
theorem two_clu {s : ByteArray} {x m y : Nat} (hx : cbZ s x = true) (hm : cbZ s m = true) (hy : cbZ s y = true) (h1 : x < m) (h2 : m < y) (n1 : ∀ j : Int, (x : Int) < j → j < m → cbZ s j = false) (n2 : ∀ j : Int, (m : Int) < j → j < y → cbZ s j = false) : (cl (s.extract x y)).length = 2 := by
  obtain ⟨pre, post, h⟩ := mid_ex hx hy (by omega)
  have hsp : ∀ d ∈ (cl (s.extract x y)).map (sh x), Sp s d := fun d hd => cl_cb s d (by rw [h.eq]; exact List.mem_append_right _ (List.mem_append_left _ hd))
  have ht := h.m
  have hl : ((cl (s.extract x y)).map (sh x)).length = (cl (s.extract x y)).length := List.length_map _
  rw [← hl]
  generalize (cl (s.extract x y)).map (sh x) = L at hsp ht
  cases L with
  | nil => have : x = y := ht; omega
  | cons c r =>
    obtain ⟨c1, c2, c3⟩ := ht
    have s1 := hsp c (List.mem_cons_self ..)
    have e : c.to = m := by
      rcases Nat.lt_trichotomy c.to m with e | e | e
      · have := n1 c.to (by omega) (by omega); rw [s1.1] at this; cases this
      · exact e
      · have := s1.2 m (by omega) (by omega); rw [hm] at this; cases this
    rw [e] at c3
    cases r with
    | nil => have : m = y := c3; omega
    | cons d r =>
      obtain ⟨d1, d2, d3⟩ := c3
      have s2 := hsp d (List.mem_cons_of_mem _ (List.mem_cons_self ..))
      have hle := tiled_le d3
      have e2 : d.to = y := by
        rcases Nat.lt_or_ge d.to y with e | e
        · have := n2 d.to (by omega) (by omega); rw [s2.1] at this; cases this
        · omega
      rw [e2] at d3
      rw [(tiled_end _ _ _ d3).2 rfl]
      rfl
theorem two_words {s : ByteArray} {v w : Nat × Nat} {i : Nat} (h1 : (words s)[i - 1]? = some v) (h2 : (words s)[i]? = some w) (hi : 1 ≤ i) : (words (s.extract v.1 w.2)).length = 2 := by
  have m1 := List.mem_of_getElem? h1
  have m2 := List.mem_of_getElem? h2
  have b1 := words_mem m1
  have b2 := words_mem m2
  have b3 := words_lt h1 h2 (by omega)
  obtain ⟨u, t, he, hu, hp, ht⟩ := words_piece (words_cb m1).1 (words_cb m2).2 (by omega) (clear_fst m1) (clear_snd m2)
  have hlen : (wsh v.1 (words (s.extract v.1 w.2))).length = (words (s.extract v.1 w.2)).length := by unfold wsh; exact List.length_map _
  rw [← hlen]
  generalize wsh v.1 (words (s.extract v.1 w.2)) = P at he hp
  have g1 : u.length ≤ i - 1 := by
    rcases Nat.lt_or_ge (i - 1) u.length with e | e
    · rw [he, List.getElem?_append_left e] at h1
      have := hu v (List.mem_of_getElem? h1)
      omega
    · exact e
  have g2 : i < u.length + P.length := by
    rcases Nat.lt_or_ge i (u.length + P.length) with e | e
    · exact e
    · rw [he, List.getElem?_append_right (by omega), List.getElem?_append_right (by omega)] at h2
      have := ht w (List.mem_of_getElem? h2)
      omega
  have at' : ∀ j, j < P.length → ∃ x, (words s)[u.length + j]? = some x ∧ x ∈ P := fun j hj => ⟨P[j], by rw [he, List.getElem?_append_right (by omega), List.getElem?_append_left (by omega), show u.length + j - u.length = j by omega]; exact List.getElem?_eq_getElem hj, List.getElem_mem hj⟩
  have g3 : u.length = i - 1 := by
    rcases Nat.lt_or_ge u.length (i - 1) with e | e
    · obtain ⟨x, x1, x2⟩ := at' 0 (by omega)
      have y1 := hp x x2
      have y2 := words_lt x1 h1 (by omega)
      have y3 := words_mem (List.mem_of_getElem? x1)
      omega
    · omega
  rcases Nat.lt_or_ge (i + 1) (u.length + P.length) with e | e
  · obtain ⟨x, x1, x2⟩ := at' 2 (by omega)
    have y1 := hp x x2
    have y2 := words_lt h2 x1 (by omega)
    have y3 := words_mem (List.mem_of_getElem? x1)
    omega
  · omega
theorem no_nl {s : ByteArray} {a x y : Nat} (ha : cbZ s a = true) (h1 : (lnP s a).1 ≤ x) (h2 : x ≤ y) (h3 : y ≤ (lnP s a).2) : bcn 10 (s.extract x y) = 0 := by
  rw [bcn_nls]
  show cn s x y = 0
  have hp := lnP_pl ha
  obtain ⟨k1, k2, k3⟩ := hp.le
  have e0 : cn s (lnP s a).1 a = 0 := hp.l.2.2
  have e1 : cn s a (lnP s a).2 = 0 := by
    rcases hp.fin with ⟨f1, f2⟩ | ⟨q, f1, f2, f3, f4, f5, f6⟩
    · rw [f2]; exact f1
    · have hb : (lnP s a).2 ≤ q - 1 := by rcases f5.dn with e | ⟨e, e'⟩ <;> omega
      have := cn_mono (s := s) k2 hb
      omega
  have e2 := cn_add (s := s) (a := (lnP s a).1) (b := a) (c := (lnP s a).2) k1 k2
  have e3 := cn_add (s := s) (a := (lnP s a).1) (b := x) (c := (lnP s a).2) h1 (by omega)
  have e4 := cn_add (s := s) (a := x) (b := y) (c := (lnP s a).2) h2 h3
  omega
/-- what a transposition is like -/
theorem tp_fine (s : ByteArray) (k i : Int) (hk : k = 24 ∨ k = 25) : (ofP s k 7 i (-1) = (chz, 8) ∧ (k = 25 → (words s).length < 2)) ∨
    ∃ q0 R z, q0 ≤ R ∧ R ≤ s.size ∧ ofP s k 7 i (-1) = (⟨q0, R - q0, z, R, ⟨#[]⟩, false⟩, 0) ∧ z.size = R - q0 ∧ (∀ b, bcn b (s.extract q0 R) = bcn b z) ∧ (k = 24 → (cl (s.extract q0 R)).length = 2 ∧ bcn 10 (s.extract q0 R) = 0) ∧ (k = 25 → (words (s.extract q0 R)).length = 2) := by
  have ha := (snp_is s i).cb
  unfold ofP
  rcases hk with rfl | rfl
  · rw [if_pos (by decide)]
    show (charsP s (snp s i) = _ ∧ _) ∨ ∃ q0 R z, _ ∧ _ ∧ charsP s (snp s i) = _ ∧ _
    generalize snp s i = a at ha
    unfold charsP
    by_cases h : midP s a ≤ (lnP s a).1
    · rw [if_pos h]; exact .inl ⟨rfl, fun e => by cases e⟩
    · rw [if_neg h]
      obtain ⟨m1, m2, m3, m4, m5, m6, m7⟩ := mid_cb ha h
      have n1 := (pvC_is s (midP s a)).no
      have n2 := (nxt_is s (midP s a)).no
      have n3 := (pv_ok s (midP s a)).1
      have n4 := (nxt_ok s (midP s a)).1
      generalize pvC s (midP s a) = x at *
      generalize nxt s (midP s a) = y at *
      generalize midP s a = M at *
      have z1 : (swp s (x, M) (M, y)).size = y - x := swp_size (v := (x, M)) (w := (M, y)) (Nat.le_of_lt m3) (Nat.le_refl _) (Nat.le_of_lt m4) (show y ≤ s.size by omega)
      have z2 : ∀ b, bcn b (swp s (x, M) (M, y)) = bcn b (s.extract x y) := fun b => bcn_swp (v := (x, M)) (w := (M, y)) b (Nat.le_of_lt m3) (Nat.le_refl _) (Nat.le_of_lt m4)
      have z3 := two_clu n3 m1 n4 m3 m4 n1 n2
      have z4 : bcn 10 (s.extract x y) = 0 := no_nl ha (by omega) (by omega) (by omega)
      have z5 : swapP s (x, M) (M, y) = ⟨x, y - x, swp s (x, M) (M, y), y, ⟨#[]⟩, false⟩ := rfl
      rw [z5]
      generalize swp s (x, M) (M, y) = z at z1 z2
      exact .inr ⟨x, y, z, by omega, by omega, rfl, z1, fun b => (z2 b).symm, fun _ => ⟨z3, z4⟩, fun e => by cases e⟩
  · rw [if_pos (by decide)]
    show (wordsP s (snp s i) = _ ∧ _) ∨ ∃ q0 R z, _ ∧ _ ∧ wordsP s (snp s i) = _ ∧ _
    generalize snp s i = a at ha
    unfold wordsP
    by_cases h : (words s).length < 2
    · rw [if_pos h]; exact .inl ⟨rfl, fun _ => h⟩
    · rw [if_neg h]
      obtain ⟨v, w, h1, h2, h3, h4, h5⟩ := sel_two a h
      rw [h3, h4]
      have b1 := words_mem (List.mem_of_getElem? h1)
      have b2 := words_mem (List.mem_of_getElem? h2)
      have b3 := words_lt h1 h2 (by omega)
      have z1 : (swp s v w).size = w.2 - v.1 := swp_size (by omega) (by omega) (by omega) (by omega)
      have z2 : ∀ b, bcn b (swp s v w) = bcn b (s.extract v.1 w.2) := fun b => bcn_swp b (by omega) (by omega) (by omega)
      have z3 := two_words h1 h2 h5
      have z5 : swapP s v w = ⟨v.1, w.2 - v.1, swp s v w, w.2, ⟨#[]⟩, false⟩ := rfl
      rw [z5]
      generalize swp s v w = z at z1 z2
      exact .inr ⟨v.1, w.2, z, by omega, by omega, rfl, z1, fun b => (z2 b).symm, fun e => absurd e (by decide), fun _ => z3⟩
end Go.Proofs.YtiejollfeggeoaaDoor
