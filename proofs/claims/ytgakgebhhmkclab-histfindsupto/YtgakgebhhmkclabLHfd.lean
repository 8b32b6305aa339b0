/-
  The walk of the law HistFinds: what is found is there, and nothing newer. Conditions: what the law reads is of at most 1048576 values and letters.
-/
import Derived.Test.YtgakgebhhmkclabHLaw
import Derived.Test.YtgakgebhhmkclabUHop
import Derived.Lib.IndexBytes
namespace Go.Proofs.Ytgakgebhhmkclab
open Go.RowKit

/-- does t begin at j of s? -/
def bg (s t : ByteArray) (j : Nat) : Bool := decide (j + t.size ≤ s.size) && Lib.occAt s.data.toList t.data.toList j
theorem lasti_spec (s t : ByteArray) : (Lib.lastIndex s.data.toList t.data.toList = -1 ∧ ∀ j, bg s t j = false) ∨ ∃ a : Nat, Lib.lastIndex s.data.toList t.data.toList = (a : Int) ∧ bg s t a = true ∧ ∀ j, a < j → bg s t j = false := by
  have e : Lib.lastIndex s.data.toList t.data.toList = if t.size ≤ s.size then Lib.lastOcc s.data.toList t.data.toList (s.size - t.size + 1) else -1 := rfl
  by_cases hm : t.size ≤ s.size
  · rw [if_pos hm] at e
    rcases Lib.lastOcc_spec s.data.toList t.data.toList (s.size - t.size + 1) with ⟨h1, h2⟩ | ⟨a, h1, h2, h3, h4⟩
    · refine .inl ⟨e.trans h1, fun j => ?_⟩
      unfold bg
      by_cases hj : j + t.size ≤ s.size
      · rw [h2 j (by omega)]; simp
      · simp [hj]
    · refine .inr ⟨a, e.trans h2, ?_, fun j hj => ?_⟩
      · unfold bg
        rw [h3]
        simp; omega
      · unfold bg
        by_cases hj2 : j + t.size ≤ s.size
        · rw [h4 j hj (by omega)]; simp
        · simp [hj2]
  · rw [if_neg hm] at e
    refine .inl ⟨e, fun j => ?_⟩
    unfold bg
    have : ¬ j + t.size ≤ s.size := by omega
    simp [this]
theorem find_spec (es : Tl) (t : ByteArray) (C : Nat) (hC : C ≤ es.length) : (fdL es t C = (0, 0, 10) ∧ ∀ k s, k < C → es[k]? = some s → ∀ j, bg s t j = false) ∨
    ∃ (i a : Nat) (s : ByteArray), i < C ∧ es[i]? = some s ∧ fdL es t C = ((i : Int), (a : Int), 0) ∧ bg s t a = true ∧ ∀ k s', k < C → es[k]? = some s' → ∀ j, bg s' t j = true → k < i ∨ k = i ∧ j ≤ a := by
  induction C with
  | zero => exact .inl ⟨rfl, fun k s h => by omega⟩
  | succ C ih =>
    obtain ⟨s, hs⟩ : ∃ s, es[C]? = some s := ⟨es[C]'(by omega), List.getElem?_eq_getElem _⟩
    have e : fdL es t (C + 1) = if 0 ≤ Lib.lastIndex s.data.toList t.data.toList then ((C : Int), Lib.lastIndex s.data.toList t.data.toList, 0) else fdL es t C := by
      rw [fdL, List.getD_eq_getElem?_getD, hs]; rfl
    rcases lasti_spec s t with ⟨h1, h2⟩ | ⟨a, h1, h2, h3⟩
    · rw [h1, if_neg (by omega)] at e
      rw [e]
      rcases ih (by omega) with ⟨q1, q2⟩ | ⟨i, a, s', q1, q2, q3, q4, q5⟩
      · refine .inl ⟨q1, fun k x hk hx j => ?_⟩
        rcases Nat.lt_succ_iff_lt_or_eq.1 hk with h | rfl
        · exact q2 k x h hx j
        · rw [hs] at hx; cases hx; exact h2 j
      · refine .inr ⟨i, a, s', by omega, q2, q3, q4, fun k x hk hx j hj => ?_⟩
        rcases Nat.lt_succ_iff_lt_or_eq.1 hk with h | rfl
        · exact q5 k x h hx j hj
        · rw [hs] at hx; cases hx; rw [h2 j] at hj; cases hj
    · rw [h1, if_pos (by omega)] at e
      refine .inr ⟨C, a, s, by omega, hs, e, h2, fun k x hk hx j hj => ?_⟩
      rcases Nat.lt_succ_iff_lt_or_eq.1 hk with h | rfl
      · exact .inl h
      · rw [hs] at hx; cases hx
        refine .inr ⟨rfl, Nat.le_of_not_lt fun h => ?_⟩
        rw [h3 j h] at hj; cases hj
set_option maxRecDepth 100000 in
set_option maxHeartbeats 1000000 in
theorem begins_any {s t : ByteArray} (hs : s.size ≤ 1099511627776) (ht : t.size ≤ 1099511627776) {j : Nat} (hj : j ≤ 1099511627776) (w : World) :
    Calls Try.prog 8 #[.string s, .string t, .int .i64 (j : Int)] w fun e w' => e = .returned (.bool (bg s t j)) ∧ w' = w := by
  obtain ⟨n, hn⟩ : ∃ n, s.size = n := ⟨_, rfl⟩
  obtain ⟨m, hm⟩ : ∃ m, t.size = m := ⟨_, rfl⟩
  by_cases hjm : j + m ≤ n
  · have hx := Lib.occ_of_piece s t j (by omega)
    have e : bg s t j = ((s.extract j (j + m)).toList == t.toList) := by unfold bg; rw [hm, hn, hx, hm]; simp [hjm]
    rw [e]
    have h1 : (j : Int) ≤ (n : Int) - (m : Int) := by omega
    have h2 : (j : Int) + (m : Int) ≤ (n : Int) := by omega
    rw [hn] at hs
    rw [hm] at ht
    clear hx e
    generalize hβ : ((s.extract j (j + m)).toList == t.toList) = β
    go_enter Try.func8, Try.ntmps8
    go_wp2
    go_ret
    exact ⟨by simp, rfl⟩
  · have e : bg s t j = false := by unfold bg; rw [hm, hn]; simp [hjm]
    rw [e]
    have h1 : ¬ (j : Int) ≤ (n : Int) - (m : Int) := by omega
    rw [hn] at hs
    rw [hm] at ht
    clear e
    go_enter Try.func8, Try.ntmps8
    go_wp2
    go_ret
    exact ⟨rfl, rfl⟩
set_option maxRecDepth 100000 in
set_option maxHeartbeats 8000000 in
theorem walk_of (b : Int) (la : Option Addr) (ln lc : Nat) (t : ByteArray) (i : Int) (w : World) (hb : -9223372036854775808 ≤ b ∧ b ≤ 9223372036854775807) (ls : Tl) (hL : RdS w (.slice la ln lc) ls) (hl : tls ls ≤ 1048576 ∧ True) (ht : t.size ≤ 1048576) (hi : -9223372036854775808 ≤ i ∧ i ≤ 9223372036854775807) :
    Calls Try.prog 3 #[.int .i64 b, .slice la ln lc, .string t, .int .i64 i] w fun e w' => e = .returned (.bool true) ∧ Below w.heap.size w w' := by
  have hN : ls.length = ln := by obtain ⟨_, _, e, _⟩ := hL; cases e; rfl
  have hln : ln ≤ 1048576 := by have := tls_len ls; omega
  have CK : Hid (Calls Try.prog 4 #[] w fun e w' => e = .returned (.bool true) ∧ Hid (Below w.heap.size w w')) := awake_any w
  have CF : Hid (∀ W, Below w.heap.size w W → Calls Try.prog 5 #[.int .i64 b, .slice la ln lc] W fun e W' => ∃ pb, e = .returned (.pointer (some ⟨pb, 0, none⟩)) ∧ Hid (Ps w pb ((Hs.new b).fill ls) W')) := fun W hW => filled_any hb hL (fun s hs => by have := tls_mem hs; omega) hln hW
  have hok : ((Hs.new b).fill ls).Ok := (Hs.Ok.new b).fill (fun s hs => by have := tls_mem hs; omega)
  have hrest : ((Hs.new b).fill ls).Rest := (Hs.Rest.new b).fill ls
  generalize (Hs.new b).fill ls = H at CF hok hrest
  obtain ⟨n, hn⟩ : ∃ n, H.es.length = n := ⟨_, rfl⟩
  have hn3 : n ≤ 1000 := by have h1 := hok.len; have h2 := hok.b; omega
  have HN : Hid (H.es.length = n ∧ ∀ s ∈ H.es, s.size ≤ 1099511627776) := ⟨hn, hok.fe⟩
  have CE : Hid (∀ W pb, Ps w pb H W → Calls Try.prog 6 #[.pointer (some ⟨pb, 0, none⟩)] W fun e W' => ∃ a c, e = .returned (.slice a n c) ∧ Hid (Ps w pb H W' ∧ RdS W' (.slice a n c) H.es)) := fun W pb k => (entries_ps k).mono (by
    rintro e W' ⟨a, c, rfl, q1, q2, q3⟩
    rw [hn] at q1 ⊢
    exact ⟨a, c, rfl, q2, RdS.of_row q1⟩)
  have CP : Hid (∀ W pb, Ps w pb H W → Calls Try.prog 9 #[.pointer (some ⟨pb, 0, none⟩)] W fun e W' => e = .returned (.int .i64 (n : Int)) ∧ W' = W) := fun W pb k => by have := place_ps k; rw [hrest.1, hn] at this; exact this
  have CL : Hid (∀ W pb, Ps w pb H W → Calls Try.prog 10 #[.pointer (some ⟨pb, 0, none⟩)] W fun e W' => e = .returned (.int .i64 (n : Int)) ∧ W' = W) := fun W pb k => by have := len_ps k; rw [hn] at this; exact this
  have CD : Hid (∀ W pb, Ps w pb H W → Calls Try.prog 11 #[.pointer (some ⟨pb, 0, none⟩)] W fun e W' => e = .returned (.int .i64 0) ∧ Hid (Below w.heap.size w W')) := fun W pb k => by have := drafts_ps k; rw [hrest.2] at this; exact this.mono fun e W' q => ⟨q.1, q.2.2⟩
  have ht2 : t.size ≤ 1099511627776 := by omega
  have CG : Hid (∀ W (s : ByteArray) (j : Nat), s ∈ H.es → j ≤ 1099511627776 → Calls Try.prog 8 #[.string s, .string t, .int .i64 (j : Int)] W fun e W' => e = .returned (.bool (bg s t j)) ∧ W' = W) := fun W s j hs hj => begins_any (HN.out.2 s hs) ht2 hj W
  have hfd := find_spec H.es t (capN i H.es.length) (capN_le _ _)
  have HCa : Hid (∀ k : Nat, k < n → (k : Int) < i → k < capN i H.es.length) := fun k h1 h2 => by rw [hn]; unfold capN; rw [if_neg (by omega)]; split <;> omega
  have HCb : Hid (∀ k : Nat, k < capN i H.es.length → k < n ∧ (k : Int) < i) := fun k h => by
    rw [hn] at h
    unfold capN at h
    split at h
    · omega
    · split at h <;> omega
  have HRd : Hid (∀ W a c k s, RdS W (.slice a n c) H.es → H.es[k]? = some s → ∃ g o, a = some ⟨g, o, none⟩ ∧ W.cell? ⟨g, o + k, none⟩ = some (.string s)) := fun W a c k s q hs => RdS.at q (Below.refl _ _) hs
  clear hL hl hN hrest hok
  by_cases hp0 : t = ⟨#[]⟩
  · have CFi : Hid (∀ W pb, Ps w pb H W → Calls Try.prog 7 #[.pointer (some ⟨pb, 0, none⟩), .string t, .int .i64 i] W fun e W' => e = .returned (.tuple #[.int .i64 0, .int .i64 0, .int .i64 10]) ∧ W' = W) := fun W pb k => by have := find_ps k (t := t) hi; rw [Hs.find, if_pos hp0] at this; exact this
    subst hp0
    clear hfd hn
    go_enter Try.func3, Try.ntmps3
    go_upto_region 10 with (first
      | (go_at_call 4; refine CK.out.mono ?_; clear CK; rintro e w1 ⟨rfl, H1⟩)
      | (go_at_call 5; refine (CF.out _ H1.out).mono ?_; clear CF H1; rintro e w2 ⟨pb, rfl, H2⟩)
      | (go_at_call 6; refine (CE.out _ _ H2.out).mono ?_; clear CE H2; rintro e w3 ⟨xa, xc, rfl, H3⟩)
      | (go_at_call 7; refine (CFi.out _ _ H3.out.1).mono ?_; clear CFi; rintro e w4 ⟨rfl, hw⟩; subst hw))
    obtain ⟨WZ, hWZ⟩ : ∃ WZ, w4 = WZ := ⟨_, rfl⟩
    rw [hWZ] at H3 ⊢
    clear hWZ
    go_wp2
    go_loopw [14] (fun t14 wr => ∃ k : Nat, k ≤ n ∧ t14 = .int .i64 k ∧ WZ = wr) (fun t14 _ => n - (intOf t14).toNat)
    case atStart => exact ⟨0, Nat.zero_le _, rfl, rfl⟩
    case round =>
      obtain ⟨k, hk, rfl, rfl⟩ := hrel
      by_cases hlt : k < n ∧ (k : Int) < i
      · obtain ⟨hlt, hki⟩ := hlt
        obtain ⟨s, hs⟩ : ∃ s, H.es[k]? = some s := ⟨H.es[k]'(by rw [HN.out.1]; exact hlt), List.getElem?_eq_getElem _⟩
        obtain ⟨g, o, eg, c0⟩ := HRd.out _ _ _ _ _ H3.out.2 hs
        subst eg
        have hss := HN.out.2 s (List.mem_of_getElem? hs)
        obtain ⟨sn, hsn⟩ : ∃ sn, s.size = sn := ⟨_, rfl⟩
        have HSN : Hid (s.size = sn) := hsn
        rw [hsn] at hss
        have hlt' : (k : Int) < (n : Int) := by omega
        clear hs
        go_wp2
        go_loopw [15] (fun t15 wr => t15 = .int .i64 0 ∧ WZ = wr) (fun _ _ => 0)
        case atStart => exact ⟨rfl, rfl⟩
        case round =>
          obtain ⟨rfl, rfl⟩ := hrel
          by_cases hz : 0 < sn
          · have hz' : (0 : Int) < (sn : Int) := by omega
            go_wp2
            exact ⟨⟨k + 1, by omega, by go_num, by first | trivial | rfl⟩, by simp [intOf]; omega⟩
          · have hz' : ¬ (0 : Int) < (sn : Int) := by omega
            go_wp2
            exact ⟨⟨k + 1, by omega, by go_num, by first | trivial | rfl⟩, by simp [intOf]; omega⟩
      · by_cases hkn : k < n
        · have hki : ¬ (k : Int) < i := fun e => hlt ⟨hkn, e⟩
          have hkn' : (k : Int) < (n : Int) := by omega
          clear hlt
          go_wp2_with (first
            | (go_at_call 9; refine (CP.out _ _ H3.out.1).mono ?_; clear CP; rintro e w7 ⟨rfl, hw⟩; subst hw)
            | (go_at_call 10; refine (CL.out _ _ H3.out.1).mono ?_; clear CL; rintro e w7 ⟨rfl, hw⟩; subst hw)
            | (go_at_call 11; refine (CD.out _ _ H3.out.1).mono ?_; clear CD; rintro e w8 ⟨rfl, H8⟩))
          go_ret
          exact ⟨rfl, H8.out⟩
        · have hkn' : ¬ (k : Int) < (n : Int) := by omega
          clear hlt
          go_wp2_with (first
            | (go_at_call 9; refine (CP.out _ _ H3.out.1).mono ?_; clear CP; rintro e w7 ⟨rfl, hw⟩; subst hw)
            | (go_at_call 10; refine (CL.out _ _ H3.out.1).mono ?_; clear CL; rintro e w7 ⟨rfl, hw⟩; subst hw)
            | (go_at_call 11; refine (CD.out _ _ H3.out.1).mono ?_; clear CD; rintro e w8 ⟨rfl, H8⟩))
          go_ret
          exact ⟨rfl, H8.out⟩
  · have hemp := not_emp hp0
    rcases hfd with ⟨f1, f2⟩ | ⟨fi, fa, fs, f1, f2, f3, f4, f5⟩
    · have CFi : Hid (∀ W pb, Ps w pb H W → Calls Try.prog 7 #[.pointer (some ⟨pb, 0, none⟩), .string t, .int .i64 i] W fun e W' => e = .returned (.tuple #[.int .i64 0, .int .i64 0, .int .i64 10]) ∧ W' = W) := fun W pb k => by have := find_ps k (t := t) hi; rw [Hs.find, if_neg hp0, f1] at this; exact this
      have HNo : Hid (∀ k s, k < n → (k : Int) < i → H.es[k]? = some s → ∀ j, bg s t j = false) := fun k s h1 h2 hs => f2 k s (HCa.out k h1 h2) hs
      clear f1 f2 hn
      go_enter Try.func3, Try.ntmps3
      go_upto_region 10 with (first
        | (go_at_call 4; refine CK.out.mono ?_; clear CK; rintro e w1 ⟨rfl, H1⟩)
        | (go_at_call 5; refine (CF.out _ H1.out).mono ?_; clear CF H1; rintro e w2 ⟨pb, rfl, H2⟩)
        | (go_at_call 6; refine (CE.out _ _ H2.out).mono ?_; clear CE H2; rintro e w3 ⟨xa, xc, rfl, H3⟩)
        | (go_at_call 7; refine (CFi.out _ _ H3.out.1).mono ?_; clear CFi; rintro e w4 ⟨rfl, hw⟩; subst hw))
      obtain ⟨WZ, hWZ⟩ : ∃ WZ, w4 = WZ := ⟨_, rfl⟩
      rw [hWZ] at H3 ⊢
      clear hWZ
      go_wp2
      go_loopw [14] (fun t14 wr => ∃ k : Nat, k ≤ n ∧ t14 = .int .i64 k ∧ WZ = wr) (fun t14 _ => n - (intOf t14).toNat)
      case atStart => exact ⟨0, Nat.zero_le _, rfl, rfl⟩
      case round =>
        obtain ⟨k, hk, rfl, rfl⟩ := hrel
        by_cases hlt : k < n ∧ (k : Int) < i
        · obtain ⟨hlt, hki⟩ := hlt
          obtain ⟨s, hs⟩ : ∃ s, H.es[k]? = some s := ⟨H.es[k]'(by rw [HN.out.1]; exact hlt), List.getElem?_eq_getElem _⟩
          obtain ⟨g, o, eg, c0⟩ := HRd.out _ _ _ _ _ H3.out.2 hs
          subst eg
          have hss := HN.out.2 s (List.mem_of_getElem? hs)
          obtain ⟨sn, hsn⟩ : ∃ sn, s.size = sn := ⟨_, rfl⟩
          have HSN : Hid (s.size = sn) := hsn
          rw [hsn] at hss
          have hlt' : (k : Int) < (n : Int) := by omega
          have CGs : Hid (∀ j : Nat, j ≤ sn → Calls Try.prog 8 #[.string s, .string t, .int .i64 (j : Int)] WZ fun e W' => e = .returned (.bool (bg s t j)) ∧ W' = WZ) := fun j hj => CG.out WZ s j (List.mem_of_getElem? hs) (by omega)
          have HNk : Hid (∀ j, bg s t j = false) := HNo.out k s hlt hki hs
          clear hs
          go_wp2
          go_loopw [15] (fun t15 wr => ∃ j : Nat, j ≤ sn ∧ t15 = .int .i64 j ∧ WZ = wr) (fun t15 _ => sn - (intOf t15).toNat)
          case atStart => exact ⟨0, Nat.zero_le _, rfl, rfl⟩
          case round =>
            obtain ⟨j, hj, rfl, rfl⟩ := hrel
            by_cases hz : j < sn
            · have hz' : (j : Int) < (sn : Int) := by omega
              have CB := CGs.out j hj
              rw [HNk.out j] at CB
              go_wp2_with (go_at_call 8; refine CB.mono ?_; clear CB; rintro e w6 ⟨rfl, hw⟩; subst hw)
              exact ⟨⟨j + 1, by omega, by go_num, by first | trivial | rfl⟩, by simp [intOf]; omega⟩
            · have hz' : ¬ (j : Int) < (sn : Int) := by omega
              go_wp2
              exact ⟨⟨k + 1, by omega, by go_num, by first | trivial | rfl⟩, by simp [intOf]; omega⟩
        · by_cases hkn : k < n
          · have hki : ¬ (k : Int) < i := fun e => hlt ⟨hkn, e⟩
            have hkn' : (k : Int) < (n : Int) := by omega
            clear hlt
            go_wp2_with (first
              | (go_at_call 9; refine (CP.out _ _ H3.out.1).mono ?_; clear CP; rintro e w7 ⟨rfl, hw⟩; subst hw)
              | (go_at_call 10; refine (CL.out _ _ H3.out.1).mono ?_; clear CL; rintro e w7 ⟨rfl, hw⟩; subst hw)
              | (go_at_call 11; refine (CD.out _ _ H3.out.1).mono ?_; clear CD; rintro e w8 ⟨rfl, H8⟩))
            go_ret
            exact ⟨rfl, H8.out⟩
          · have hkn' : ¬ (k : Int) < (n : Int) := by omega
            clear hlt
            go_wp2_with (first
              | (go_at_call 9; refine (CP.out _ _ H3.out.1).mono ?_; clear CP; rintro e w7 ⟨rfl, hw⟩; subst hw)
              | (go_at_call 10; refine (CL.out _ _ H3.out.1).mono ?_; clear CL; rintro e w7 ⟨rfl, hw⟩; subst hw)
              | (go_at_call 11; refine (CD.out _ _ H3.out.1).mono ?_; clear CD; rintro e w8 ⟨rfl, H8⟩))
            go_ret
            exact ⟨rfl, H8.out⟩
    · have CFi : Hid (∀ W pb, Ps w pb H W → Calls Try.prog 7 #[.pointer (some ⟨pb, 0, none⟩), .string t, .int .i64 i] W fun e W' => e = .returned (.tuple #[.int .i64 (fi : Int), .int .i64 (fa : Int), .int .i64 0]) ∧ W' = W) := fun W pb k => by have := find_ps k (t := t) hi; rw [Hs.find, if_neg hp0, f3] at this; exact this
      have HYes : Hid (∀ k s, k < n → (k : Int) < i → H.es[k]? = some s → ∀ j, bg s t j = true → k < fi ∨ k = fi ∧ j ≤ fa) := fun k s h1 h2 hs => f5 k s (HCa.out k h1 h2) hs
      obtain ⟨g1, g2⟩ := HCb.out fi f1
      have HFs : Hid (H.es[fi]? = some fs ∧ bg fs t fa = true) := ⟨f2, f4⟩
      have hfa : fa ≤ 1099511627776 := by
        have h1 := HN.out.2 fs (List.mem_of_getElem? f2)
        unfold bg at f4
        simp at f4
        omega
      have g1' : (fi : Int) < (n : Int) := by omega
      have g3 : decide ((fi : Int) < 0) = false := by simp
      have g4 : decide (n ≤ fi) = false := by simp; omega
      have g5 : decide (i ≤ (fi : Int)) = false := by simp; omega
      clear f1 f2 f3 f4 f5 hn
      go_enter Try.func3, Try.ntmps3
      go_upto_region 8 with (first
        | (go_at_call 4; refine CK.out.mono ?_; clear CK; rintro e w1 ⟨rfl, H1⟩)
        | (go_at_call 5; refine (CF.out _ H1.out).mono ?_; clear CF H1; rintro e w2 ⟨pb, rfl, H2⟩)
        | (go_at_call 6; refine (CE.out _ _ H2.out).mono ?_; clear CE H2; rintro e w3 ⟨xa, xc, rfl, H3⟩)
        | (go_at_call 7; refine (CFi.out _ _ H3.out.1).mono ?_; clear CFi; rintro e w4 ⟨rfl, hw⟩; subst hw))
      obtain ⟨g0, o0, eg0, d0⟩ := HRd.out _ _ _ _ _ H3.out.2 HFs.out.1
      subst eg0
      have CG0 : Hid (Calls Try.prog 8 #[.string fs, .string t, .int .i64 (fa : Int)] w4 fun e W' => e = .returned (.bool true) ∧ W' = w4) := by have := CG.out w4 fs fa (List.mem_of_getElem? HFs.out.1) hfa; rw [HFs.out.2] at this; exact this
      go_upto_region 10 with (go_at_call 8; refine CG0.out.mono ?_; clear CG0; rintro e w5 ⟨rfl, hw⟩; subst hw)
      clear d0
      obtain ⟨WZ, hWZ⟩ : ∃ WZ, w5 = WZ := ⟨_, rfl⟩
      rw [hWZ] at H3 ⊢
      clear hWZ
      go_wp2
      go_loopw [14] (fun t14 wr => ∃ k : Nat, k ≤ n ∧ t14 = .int .i64 k ∧ WZ = wr) (fun t14 _ => n - (intOf t14).toNat)
      case atStart => exact ⟨0, Nat.zero_le _, rfl, rfl⟩
      case round =>
        obtain ⟨k, hk, rfl, rfl⟩ := hrel
        by_cases hlt : k < n ∧ (k : Int) < i
        · obtain ⟨hlt, hki⟩ := hlt
          obtain ⟨s, hs⟩ : ∃ s, H.es[k]? = some s := ⟨H.es[k]'(by rw [HN.out.1]; exact hlt), List.getElem?_eq_getElem _⟩
          obtain ⟨g, o, eg, c0⟩ := HRd.out _ _ _ _ _ H3.out.2 hs
          cases eg
          have hss := HN.out.2 s (List.mem_of_getElem? hs)
          obtain ⟨sn, hsn⟩ : ∃ sn, s.size = sn := ⟨_, rfl⟩
          have HSN : Hid (s.size = sn) := hsn
          rw [hsn] at hss
          have hlt' : (k : Int) < (n : Int) := by omega
          have CGs : Hid (∀ j : Nat, j ≤ sn → Calls Try.prog 8 #[.string s, .string t, .int .i64 (j : Int)] WZ fun e W' => e = .returned (.bool (bg s t j)) ∧ W' = WZ) := fun j hj => CG.out WZ s j (List.mem_of_getElem? hs) (by omega)
          have HYk : Hid (∀ j, bg s t j = true → k < fi ∨ k = fi ∧ j ≤ fa) := HYes.out k s hlt hki hs
          clear hs
          go_wp2
          go_loopw [15] (fun t15 wr => ∃ j : Nat, j ≤ sn ∧ t15 = .int .i64 j ∧ WZ = wr) (fun t15 _ => sn - (intOf t15).toNat)
          case atStart => exact ⟨0, Nat.zero_le _, rfl, rfl⟩
          case round =>
            obtain ⟨j, hj, rfl, rfl⟩ := hrel
            by_cases hz : j < sn
            · have hz' : (j : Int) < (sn : Int) := by omega
              have CB := CGs.out j hj
              by_cases hbg : bg s t j = true
              · rw [hbg] at CB
                rcases HYk.out j hbg with hc | ⟨hc1, hc2⟩
                · have h1 : ¬ (fi : Int) < (k : Int) := by omega
                  have h2 : ¬ (k : Int) = (fi : Int) := by omega
                  have h3 : ((k : Int) == (fi : Int)) = false := by simp; omega
                  clear hbg hc
                  go_wp2_with (go_at_call 8; refine CB.mono ?_; clear CB; rintro e w6 ⟨rfl, hw⟩; subst hw)
                  exact ⟨⟨j + 1, by omega, by go_num, by first | trivial | rfl⟩, by simp [intOf]; omega⟩
                · have h1 : ¬ (fi : Int) < (k : Int) := by omega
                  have h3 : ((k : Int) == (fi : Int)) = true := by simp; omega
                  have h4 : ¬ (fa : Int) < (j : Int) := by omega
                  clear hbg hc1
                  go_wp2_with (go_at_call 8; refine CB.mono ?_; clear CB; rintro e w6 ⟨rfl, hw⟩; subst hw)
                  exact ⟨⟨j + 1, by omega, by go_num, by first | trivial | rfl⟩, by simp [intOf]; omega⟩
              · have hbf : bg s t j = false := by simpa using hbg
                rw [hbf] at CB
                clear hbg hbf
                go_wp2_with (go_at_call 8; refine CB.mono ?_; clear CB; rintro e w6 ⟨rfl, hw⟩; subst hw)
                exact ⟨⟨j + 1, by omega, by go_num, by first | trivial | rfl⟩, by simp [intOf]; omega⟩
            · have hz' : ¬ (j : Int) < (sn : Int) := by omega
              go_wp2
              exact ⟨⟨k + 1, by omega, by go_num, by first | trivial | rfl⟩, by simp [intOf]; omega⟩
        · by_cases hkn : k < n
          · have hki : ¬ (k : Int) < i := fun e => hlt ⟨hkn, e⟩
            have hkn' : (k : Int) < (n : Int) := by omega
            clear hlt
            go_wp2_with (first
              | (go_at_call 9; refine (CP.out _ _ H3.out.1).mono ?_; clear CP; rintro e w7 ⟨rfl, hw⟩; subst hw)
              | (go_at_call 10; refine (CL.out _ _ H3.out.1).mono ?_; clear CL; rintro e w7 ⟨rfl, hw⟩; subst hw)
              | (go_at_call 11; refine (CD.out _ _ H3.out.1).mono ?_; clear CD; rintro e w8 ⟨rfl, H8⟩))
            go_ret
            exact ⟨rfl, H8.out⟩
          · have hkn' : ¬ (k : Int) < (n : Int) := by omega
            clear hlt
            go_wp2_with (first
              | (go_at_call 9; refine (CP.out _ _ H3.out.1).mono ?_; clear CP; rintro e w7 ⟨rfl, hw⟩; subst hw)
              | (go_at_call 10; refine (CL.out _ _ H3.out.1).mono ?_; clear CL; rintro e w7 ⟨rfl, hw⟩; subst hw)
              | (go_at_call 11; refine (CD.out _ _ H3.out.1).mono ?_; clear CD; rintro e w8 ⟨rfl, H8⟩))
            go_ret
            exact ⟨rfl, H8.out⟩
end Go.Proofs.Ytgakgebhhmkclab
