/-
  The law RopeNews returns true for every list of texts: New and Concat have the texts, sums, leaves and heights that the chapter asks. Its conditions: the texts hold together at most 1048576 letters; the two tables of unicode/utf8 start as the program's text lays them (the card ties that).
-/
import Derived.Test.YthalehfkpgedeaaGreatDoorRRight
import Derived.Test.YthalehfkpgedeaaGreatDoorUTexts
namespace Go.Proofs.YthalehfkpgedeaaGreatDoor.ropeNews
open Go.RowKit Go.Shelf Bod Wid

abbrev ptr (b : Nat) : Value := .pointer (some ⟨b, 0, none⟩)
theorem infoRP : (Tryz.prog.info? 25).map (fun i => (i.zero, i.size, i.bytes)) = some (some (.pointer none), 1, 8) := by kernel_rfl
theorem at_grown {W W' : World} {base size n : Nat} {v : Value} {xs : List Value} (hr : W.ownsRow base 25 size v n xs) (hg : W.grownBy W' v.ownBlock) : ∀ {t : Tr} {x : Value}, At W t x → At W' t x
  | .leaf _, _, ⟨b, h1, h2⟩ => ⟨b, h1, (hg.block b (Array.getElem?_eq_some_iff.1 h2).1 fun e => by
      obtain ⟨vs, hv⟩ := row_block hr e.symm
      rw [hv] at h2; cases h2).trans h2⟩
  | .knot _ _, _, ⟨b, x, y, h1, h2, h3, h4⟩ => ⟨b, x, y, h1, (hg.block b (Array.getElem?_eq_some_iff.1 h2).1 fun e => by
      obtain ⟨vs, hv⟩ := row_block hr e.symm
      rw [hv] at h2; cases h2).trans h2, at_grown hr hg h3, at_grown hr hg h4⟩
theorem rp_grown {W W' : World} {base size n : Nat} {v x : Value} {xs : List Value} {t : Tr} (hr : W.ownsRow base 25 size v n xs) (hg : W.grownBy W' v.ownBlock) (h : Rp W t x) : Rp W' t x := by
  rcases h with h | ⟨b, y, h1, h2, h3⟩
  · exact .inl h
  · refine .inr ⟨b, y, h1, (hg.block b (Array.getElem?_eq_some_iff.1 h2).1 fun e => ?_).trans h2, h3.imp id (at_grown hr hg)⟩
    obtain ⟨vs, hv⟩ := row_block hr e.symm
    rw [hv] at h2; cases h2
/-- the ropes of the texts, each with a nil behind it -/
def Lq (W : World) (ss : List ByteArray) (xs : List Value) : Prop := xs.length = 2 * ss.length ∧ ∀ (j : Nat) s, ss[j]? = some s → ∃ b, xs[2 * j]? = some (ptr b) ∧ xs[2 * j + 1]? = some (.pointer none) ∧ Rp W (tof s) (ptr b)
theorem Lq.below {W W' : World} {ss : List ByteArray} {xs : List Value} (h : Lq W ss xs) (hb : Below W.heap.size W W') : Lq W' ss xs := ⟨h.1, fun j s hj => by obtain ⟨b, h1, h2, h3⟩ := h.2 j s hj; exact ⟨b, h1, h2, h3.below hb⟩⟩
theorem Lq.snoc {W W' : World} {base n b : Nat} {v : Value} {ss : List ByteArray} {xs : List Value} {s : ByteArray} (h : Lq W ss xs) (hx : Rp W (tof s) (ptr b)) (hr : W.ownsRow base 25 1 v n xs) (hg : W.grownBy W' v.ownBlock) : Lq W' (ss ++ [s]) (xs ++ [ptr b, .pointer none]) := by
  refine ⟨by simp [h.1]; omega, fun j u hj => ?_⟩
  by_cases hj' : j < ss.length
  · rw [List.getElem?_append_left hj'] at hj
    obtain ⟨c, h1, h2, h3⟩ := h.2 j u hj
    exact ⟨c, by rw [List.getElem?_append_left (by rw [h.1]; omega)]; exact h1, by rw [List.getElem?_append_left (by rw [h.1]; omega)]; exact h2, rp_grown hr hg h3⟩
  · rw [List.getElem?_append_right (by omega)] at hj
    have hj0 : j - ss.length = 0 := by
      have := (List.getElem?_eq_some_iff.1 hj).1
      simp at this
      omega
    rw [hj0] at hj
    cases hj
    exact ⟨b, by rw [List.getElem?_append_right (by rw [h.1]; omega), h.1, show 2 * j - 2 * ss.length = 0 by omega]; rfl, by rw [List.getElem?_append_right (by rw [h.1]; omega), h.1, show 2 * j + 1 - 2 * ss.length = 1 by omega]; rfl, rp_grown hr hg hx⟩
def il (ss : List ByteArray) : List Tr := ss.flatMap fun s => [tof s, .leaf noB]
theorem il_len : ∀ ss : List ByteArray, (il ss).length = 2 * ss.length
  | [] => rfl
  | s :: r => by show (tof s :: .leaf noB :: il r).length = _; simp [il_len r]; omega
theorem il_get : ∀ (ss : List ByteArray) (k : Nat) (t : Tr), (il ss)[k]? = some t → ∃ j s, ss[j]? = some s ∧ ((k = 2 * j ∧ t = tof s) ∨ (k = 2 * j + 1 ∧ t = .leaf noB))
  | [], k, t, h => by simp [il] at h
  | s :: r, 0, t, h => by cases h; exact ⟨0, s, rfl, .inl ⟨rfl, rfl⟩⟩
  | s :: r, 1, t, h => by cases h; exact ⟨0, s, rfl, .inr ⟨rfl, rfl⟩⟩
  | s :: r, k + 2, t, h => by
    obtain ⟨j, u, h1, h2⟩ := il_get r k t h
    exact ⟨j + 1, u, h1, h2.imp (fun h => ⟨by omega, h.2⟩) (fun h => ⟨by omega, h.2⟩)⟩
theorem il_jo : ∀ ss : List ByteArray, joT (il ss) = jo ss
  | [] => rfl
  | s :: r => by show (tof s).text ++ (noB ++ joT (il r)) = s ++ jo r; rw [tof_text, noB_app, il_jo r]
theorem il_good (ss : List ByteArray) : ∀ t ∈ il ss, Good t := fun t ht => by
  obtain ⟨s, _, h⟩ := List.mem_flatMap.1 ht
  rcases List.mem_cons.1 h with rfl | h
  · exact tof_good s
  · rw [List.mem_singleton.1 h]; exact good_no
theorem jo_bd : ∀ ss : List ByteArray, (∀ s ∈ ss, s.size ≤ 1048576) → (jo ss).size ≤ ss.length * 1048576
  | [], _ => Nat.zero_le _
  | s :: r, h => by
    show (s ++ jo r).size ≤ (r.length + 1) * 1048576
    rw [size_app]
    have := jo_bd r (fun x hx => h x (List.mem_cons_of_mem _ hx))
    have := h s List.mem_cons_self
    omega
theorem jo_snoc {ss : List ByteArray} {k : Nat} {s : ByteArray} (h : ss[k]? = some s) : jo (ss.take (k + 1)) = jo (ss.take k) ++ s := by
  rw [List.take_add_one, h, jo_app]
  congr 1
  exact jo_one s
theorem two_new (w : World) (a b : Value) (t : TypeId) : ∀ j u, [a, b][j]? = some u → (w.alloc (.cells #[a, b] t)).cell? ((⟨w.heap.size, 0, none⟩ : Addr).add j) = some u := by
  intro j u hj
  match j, hj with
  | 0, hj => simp at hj; subst hj; simp [Addr.add]
  | 1, hj => simp at hj; subst hj; simp [Addr.add]
  | j + 2, hj => simp at hj
/-- the list of ropes as it stands -/
structure NL (w : World) (ss : List ByteArray) (k : Nat) (v : Value) (W : World) (xs : List Value) : Prop where
  lq : Lq W (ss.take k) xs
  row : W.ownsRow w.heap.size 25 1 v (2 * k) xs
  bel : Below w.heap.size w W
theorem NL.below {w : World} {ss : List ByteArray} {k : Nat} {v : Value} {W W' : World} {xs : List Value} (h : NL w ss k v W xs) (hb : Below W.heap.size W W') : NL w ss k v W' xs := ⟨h.lq.below hb, row_below' h.row hb, Below.on h.bel hb⟩
theorem NL.rdp {w : World} {ss : List ByteArray} {v : Value} {W : World} {xs : List Value} (h : NL w ss ss.length v W xs) : RdP W v (il ss) := by
  have hq := h.lq
  rw [List.take_length] at hq
  rcases h.row.2 with ⟨h0, h1⟩ | ⟨g, cap, cur, hv, _, hgb, hc, _⟩
  · have hl : il ss = [] := List.length_eq_zero_iff.1 (by rw [il_len]; exact h1)
    rw [h0, hl]
    exact ⟨none, 0, rfl, Nat.le_refl _, fun h => absurd rfl h⟩
  · have hrow := h.row
    rw [hv] at hrow ⊢
    refine ⟨_, cap, by rw [il_len], by rw [il_len]; exact hc, fun _ => ⟨g, 0, rfl, (Array.getElem?_eq_some_iff.1 hgb).1, fun k t hk => ?_⟩⟩
    obtain ⟨j, s, h1, h2⟩ := il_get ss k t hk
    obtain ⟨b, e1, e2, e3⟩ := hq.2 j s h1
    have hj := (List.getElem?_eq_some_iff.1 h1).1
    rcases h2 with ⟨rfl, rfl⟩ | ⟨rfl, rfl⟩
    · exact ⟨ptr b, by rw [Nat.zero_add, hrow.cellAt _ (by omega)]; exact e1, e3⟩
    · exact ⟨.pointer none, by rw [Nat.zero_add, hrow.cellAt _ (by omega)]; exact e2, .inl ⟨rfl, rfl⟩⟩
set_option maxRecDepth 100000 in
set_option maxHeartbeats 2000000 in
theorem walk (a0 : Option Addr) (len cap : Nat) (ss : List ByteArray) (w : World) (hS : Texts w a0 len ss) (hl : len ≤ 1048576) (hz : ∀ s ∈ ss, s.size ≤ 1048576) (hE : Ev w) :
    Calls Tryz.prog 3 #[.slice a0 len cap] w fun e w' => e = .returned (.bool true) ∧ Below w.heap.size w w' := by
  obtain ⟨i0, hi, hz0, hz1, hz2⟩ := info_parts infoRP
  obtain ⟨hlen, hcell⟩ := hS
  have hjo : (jo ss).size ≤ 1099511627776 := by have := jo_bd ss hz; rw [hlen] at this; omega
  have HC : Hid (∀ k s, ss[k]? = some s → ∃ g o, a0 = some ⟨g, o, none⟩ ∧ g < w.heap.size ∧ w.cell? ⟨g, o + k, none⟩ = some (.string s)) := fun k s hk => by
    have hk' := (List.getElem?_eq_some_iff.1 hk).1
    obtain ⟨b, o, h1, h2, h3⟩ := hcell (by omega)
    refine ⟨b, o, h1, h2, ?_⟩
    have := h3 k (by omega)
    rw [List.getD_eq_getElem?_getD, hk] at this
    simpa using this
  have C0 : Hid (Calls Tryz.prog 9 #[] w fun e W' => e = .returned (.bool true) ∧ NL w ss 0 (.slice none 0 0) W' []) := (holds_any w hE).mono fun e W' ⟨h1, h2⟩ => ⟨h1, ⟨by rw [List.take_zero]; rfl, fun j s hj => by simp at hj⟩, World.ownsRow_nil _ _ _ _, h2⟩
  have C1 : Hid (∀ (s : ByteArray) (k : Nat) (v : Value) (W : World) xs, s.size ≤ 1048576 → Hid (NL w ss k v W xs) → Calls Tryz.prog 10 #[.string s] W fun e W' => ∃ b, e = .returned (ptr b) ∧ Hid (Rp W' (tof s) (ptr b) ∧ NL w ss k v W' xs)) := fun s k v W xs hs hn => (rnew_any s (by unfold B40; omega) W (hE.below hn.out.bel)).mono fun e W' h => by
    obtain ⟨b, h1, h2, h3⟩ := MkR.rp h
    exact ⟨b, h1, h2, hn.out.below h3⟩
  have C2 : Hid (∀ (s : ByteArray) (k b : Nat) (v : Value) (W : World) xs, s.size ≤ 1048576 → Hid (Rp W (tof s) (ptr b) ∧ NL w ss k v W xs) → Calls Tryz.prog 11 #[ptr b, .string s] W fun e W' => e = .returned (.bool true) ∧ Hid (Rp W' (tof s) (ptr b) ∧ NL w ss k v W' xs)) := fun s k b v W xs hs ⟨h1, h2⟩ => by
    have := right_any h1 (tof_good s) (by rw [tof_text]; omega) (hE.below h2.bel)
    rw [tof_text] at this
    exact this.mono fun e W' ⟨k1, k2⟩ => ⟨k1, h1.below k2, h2.below k2⟩
  have C3 : Hid (∀ (v : Value) (W : World) xs, Hid (NL w ss len v W xs) → Calls Tryz.prog 12 #[v] W fun e W' => ∃ b, e = .returned (ptr b) ∧ Hid (Rp W' (tog (il ss)) (ptr b) ∧ NL w ss len v W' xs)) := fun v W xs hn => by
    have hn' := hn.out
    rw [← hlen] at hn'
    refine (rconcat_any (by rw [il_len, hlen]; unfold B40; omega) hn'.rdp (il_good ss) (by rw [il_jo]; exact hjo) (hE.below hn'.bel)).mono fun e W' h => ?_
    obtain ⟨b, h1, h2, h3⟩ := MkR.rp h
    exact ⟨b, h1, h2, hn.out.below h3⟩
  have C4 : Hid (∀ (b : Nat) (v : Value) (W : World) xs, Hid (Rp W (tog (il ss)) (ptr b) ∧ NL w ss len v W xs) → Calls Tryz.prog 11 #[ptr b, .string (jo (ss.take len))] W fun e W' => e = .returned (.bool true) ∧ Hid (NL w ss len v W' xs)) := fun b v W xs ⟨h1, h2⟩ => by
    obtain ⟨g1, g2⟩ := tog_ok _ (Nat.le_refl (il ss).length) (il_good ss)
    rw [il_jo] at g2
    have := right_any h1 g1 (by rw [g2]; exact hjo) (hE.below h2.bel)
    rw [g2] at this
    rw [← hlen, List.take_length]
    exact this.mono fun e W' ⟨k1, k2⟩ => ⟨k1, hlen ▸ h2.below k2⟩
  have C5 : Hid (∀ (v : Value) (W : World) xs, Hid (NL w ss len v W xs) → Calls Tryz.prog 12 #[.slice none 0 0] W fun e W' => ∃ b, e = .returned (ptr b) ∧ Hid (Rp W' (.leaf noB) (ptr b) ∧ Below w.heap.size w W')) := fun v W xs hn => by
    have := rconcat_any (ts := []) (v := .slice none 0 0) (w := W) (by decide) ⟨none, 0, rfl, Nat.le_refl _, fun h => absurd rfl h⟩ (fun t h => by cases h) (by decide) (hE.below hn.out.bel)
    refine this.mono fun e W' h => ?_
    obtain ⟨b, h1, h2, h3⟩ := MkR.rp h
    rw [tog] at h2
    exact ⟨b, h1, h2, Below.on hn.out.bel h3⟩
  have C6 : Hid (∀ (b : Nat) (W : World), Hid (Rp W (.leaf noB) (ptr b) ∧ Below w.heap.size w W) → Calls Tryz.prog 11 #[ptr b, .string ⟨#[]⟩] W fun e W' => e = .returned (.bool true) ∧ Below w.heap.size w W') := fun b W ⟨h1, h2⟩ => (right_any h1 good_no (by decide) (hE.below h2)).mono fun e W' ⟨k1, k2⟩ => ⟨k1, Below.on h2 k2⟩
  have HLN : Hid (ss.length = len) := hlen
  have HZ : Hid (∀ s ∈ ss, s.size ≤ 1048576) := hz
  have HJ : Hid (∀ k, (jo (ss.take k)).size ≤ 1099511627776) := fun k => by
    have := jo_size (ss.take k) (ss.drop k)
    rw [List.take_append_drop] at this
    omega
  clear hE hlen hcell hz hjo
  go_enter Tryz.func3, Tryz.ntmps3
  go_wp2_with (go_at_call 9; refine C0.out.mono ?_; clear C0; rintro e w1 ⟨rfl, hN0⟩)
  go_loopw [3, 4, 16] (fun t3 t4 t16 wr => ∃ k : Nat, t16 = .int .i64 k ∧ k ≤ len ∧ t4 = .string (jo (ss.take k)) ∧ Hid (∃ xs, NL w ss k t3 wr xs)) (fun _ _ t16 _ => len - (intOf t16).toNat)
  case atStart => exact ⟨0, rfl, Nat.zero_le _, rfl, [], hN0⟩
  case round =>
    clear hN0
    obtain ⟨k, rfl, hk, rfl, HX⟩ := hrel
    obtain ⟨xs, hn⟩ := HX.out
    clear HX
    have HN : Hid (NL w ss k _ wr xs) := hn
    clear hn
    have hbs := HN.out.bel.size
    by_cases c : k < len
    · obtain ⟨s, hs⟩ : ∃ s, ss[k]? = some s := ⟨ss[k]'(by rw [HLN.out]; exact c), List.getElem?_eq_getElem _⟩
      obtain ⟨g, o, rfl, hg, hc0⟩ := HC.out k s hs
      have d0 : wr.cell? ⟨g, o + k, none⟩ = some (.string s) := (HN.out.bel.cell (p := ⟨g, _, none⟩) hg).trans hc0
      have zs := HZ.out s (List.mem_of_getElem? hs)
      have zj := HJ.out k
      have hsn := jo_snoc hs
      have HSN : Hid (jo (ss.take (k + 1)) = jo (ss.take k) ++ s) := hsn
      have HTK : Hid (ss.take (k + 1) = ss.take k ++ [s]) := by show _ = _; rw [List.take_add_one, hs]; rfl
      generalize jo (ss.take k) = J at *
      clear hs hc0 hsn C3 C4 C5 C6
      go_wp2_with (first | (go_at_call 10; refine (C1.out _ _ _ _ _ zs HN).mono ?_; clear C1 HN; rintro e w2 ⟨b, rfl, H⟩) | (go_at_call 11; refine (C2.out _ _ _ _ _ _ zs H).mono ?_; clear C2 H; rintro e w3 ⟨rfl, H⟩; have HR : Hid ((w3.alloc (.cells #[ptr b, .pointer none] 25)).ownsRow w.heap.size 25 1 _ (2 * k) xs) := H.out.2.row.alloc _; have hb3 := H.out.2.bel.size) | (at_builtin; refine wpList_append_own _ rfl _ _ 24 rfl w.heap.size 25 i0 _ 1 8 Tryz.underlying24 hi hz0 hz1 hz2 rfl (by decide) _ (2 * k) _ rfl HR.out ⟨w3.heap.size, 0, none⟩ 2 2 [ptr b, .pointer none] rfl rfl (two_new _ _ _ _) (by simp [Value.oneCell']) (by unfold maxLen; omega) (by omega) (by simp; omega) ?_; intro v4 w4 hrow4 hg4 _; have H4 : Hid (NL w ss (k + 1) v4 w4 (xs ++ [ptr b, .pointer none])) := ⟨by rw [HTK.out]; exact (H.out.2.lq.below ((Below.refl _ w3).alloc (Nat.le_refl _) _)).snoc (H.out.1.below ((Below.refl _ w3).alloc (Nat.le_refl _) _)) HR.out hg4, by rw [show 2 * (k + 1) = 2 * k + 2 by omega]; exact hrow4, (H.out.2.bel.alloc hb3 _).grown hg4 (by simp; omega) (fun j e => (HR.out.lt j e).1)⟩; clear hrow4 hg4 HR H))
      exact ⟨⟨k + 1, by go_num, by omega, by rw [HSN.out], _, H4.out⟩, by simp [intOf]; omega⟩
    · have hkl : k = len := by omega
      subst hkl
      clear C1 hi hz0 hz1 hz2
      go_wp2_with (first | (go_at_call 12; refine (C3.out _ _ _ HN).mono ?_; clear C3 HN; rintro e w2 ⟨b, rfl, H⟩) | (go_at_call 11; refine (C4.out _ _ _ _ H).mono ?_; clear C4 H; rintro e w3 ⟨rfl, HN⟩))
      obtain ⟨ao, L2, cv, rfl⟩ := row_slice HN.out.row
      obtain ⟨wo, hwo⟩ : ∃ wo, wo = wr := ⟨_, rfl⟩
      subst hwo
      go_loopw [50] (fun t50 wq => ∃ j : Nat, t50 = .int .i64 j ∧ j ≤ k ∧ Hid (NL w ss k (.slice ao L2 cv) wq xs)) (fun t50 _ => k - (intOf t50).toNat)
      case atStart => exact ⟨0, rfl, Nat.zero_le _, HN⟩
      case round =>
        clear HN
        obtain ⟨j, rfl, hj, HN⟩ := hrel
        by_cases c2 : j < k
        · obtain ⟨s, hs⟩ : ∃ s, ss[j]? = some s := ⟨ss[j]'(by rw [HLN.out]; exact c2), List.getElem?_eq_getElem _⟩
          obtain ⟨g, o, rfl, hg, hc0⟩ := HC.out j s hs
          have d0 : wr.cell? ⟨g, o + j, none⟩ = some (.string s) := (HN.out.bel.cell (p := ⟨g, _, none⟩) hg).trans hc0
          have zs := HZ.out s (List.mem_of_getElem? hs)
          obtain ⟨b2, x1, x2, x3⟩ := HN.out.lq.2 j s (by rw [List.getElem?_take, if_pos c2]; exact hs)
          obtain ⟨gv, rfl, hL2, e1, e2⟩ : ∃ gv, ao = some ⟨gv, 0, none⟩ ∧ L2 = 2 * k ∧ wr.cell? ⟨gv, 2 * j, none⟩ = some (ptr b2) ∧ wr.cell? ⟨gv, 2 * j + 1, none⟩ = some (.pointer none) := by
            rcases HN.out.row.2 with ⟨h0, h1⟩ | ⟨gv, cap', cur, hv, _⟩
            · omega
            · have hrow := HN.out.row
              cases hv
              exact ⟨gv, rfl, rfl, by rw [hrow.cellAt _ (by omega)]; exact x1, by rw [hrow.cellAt _ (by omega)]; exact x2⟩
          have HH : Hid (Rp wr (tof s) (ptr b2) ∧ NL w ss k _ wr xs) := ⟨x3, HN.out⟩
          obtain ⟨i2, hi2⟩ : ∃ i2, 2 * j = i2 := ⟨_, rfl⟩
          rw [hi2] at e1 e2
          have m2 : (2 : Int) * j = (i2 : Int) := by omega
          have b3 : i2 + 1 < L2 := by omega
          have b4 : L2 ≤ 2097152 := by omega
          have HX2 : Hid (∀ W, NL w ss k (.slice (some ⟨gv, 0, none⟩) L2 cv) W xs → W.cell? ⟨gv, i2 + 1, none⟩ = some (.pointer none)) := fun W h => by have hrow := h.row; rw [hL2] at hrow; rw [hrow.cellAt _ (by omega), ← hi2]; exact x2
          clear x1 x2 x3 hs hc0 hL2 hi2 C5 C6 HN
          go_wp2_with (go_at_call 11; refine (C2.out _ _ _ _ _ _ zs HH).mono ?_; clear C2 HH; rintro e w4 ⟨rfl, H⟩; have e3 : w4.cell? ⟨gv, i2 + 1, none⟩ = some (.pointer none) := HX2.out _ H.out.2; clear HX2)
          exact ⟨⟨j + 1, by go_num, by omega, H.out.2⟩, by simp [intOf]; omega⟩
        · go_wp2_with (first | (go_at_call 12; refine (C5.out _ _ _ HN).mono ?_; clear C5 HN; rintro e w4 ⟨b4, rfl, H⟩) | (go_at_call 11; refine (C6.out _ _ H).mono ?_; clear C6 H; rintro e w5 ⟨rfl, hb⟩))
          go_ret
          exact ⟨rfl, hb⟩
theorem walk_of {H : Type} {d : DataW H} (a0 : Option Addr) (len cap : Nat) (w : World) (hT : Lib.Utf8Tabs 1 2 w) (hlo0 : 1 < w.heap.size) (hlo1 : 2 < w.heap.size) (ss : List ByteArray) (hS : Texts w a0 len ss) (hu : len ≤ Rows.uptoBulk d ∧ ∀ s ∈ ss, s.size ≤ Rows.uptoBulk d) (hk : Rows.uptoSmall H ([d] ++ []) = true) :
    Calls Tryz.prog 3 #[.slice a0 len cap] w fun e w' => e = .returned (.bool true) ∧ Below w.heap.size w w' := by
  have h : Rows.uptoBulkAll ([d] ++ []) ≤ 1048576 := of_decide_eq_true hk
  simp only [List.append_nil, Rows.uptoBulkAll] at h
  exact walk a0 len cap ss w hS (by omega) (fun s hs => by have := hu.2 s hs; omega) ⟨hT, hlo0, hlo1⟩
end Go.Proofs.YthalehfkpgedeaaGreatDoor.ropeNews
