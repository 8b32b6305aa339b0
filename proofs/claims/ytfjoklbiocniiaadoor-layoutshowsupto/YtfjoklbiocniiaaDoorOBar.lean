/-
  The law's own bare and shown. Conditions: a text of at most 2^22 bytes; a frame of at most 2^31 rows of at most 2^31 cells.
-/
import Derived.Test.YtfjoklbiocniiaaDoorORsm
import Derived.Test.YtfjoklbiocniiaaDoorCPlaces
import Derived.Test.YtfjoklbiocniiaaDoorOShw
import Derived.Test.YtfjoklbiocniiaaDoorOSmf
namespace Go.Proofs.YtfjoklbiocniiaaDoor
open Go.RowKit Go.Shelf Bod Wid
theorem cat_str (a : List UInt8) (t : ByteArray) : (⟨a.toArray⟩ : ByteArray) ++ t = ⟨(a ++ t.data.toList).toArray⟩ := by
  apply ByteArray.ext
  simp
theorem txL_neq {t : ByteArray} (h : ¬ t = ⟨#[32]⟩) : txL t.data.toList = t.data.toList := by
  unfold txL
  rw [if_neg]
  intro e
  apply h
  apply ByteArray.ext
  apply Array.toList_inj.1
  exact e
theorem bl_eq {t : ByteArray} (h : ¬ t = ⟨#[32]⟩) : (t.toList == [32]) = false := by
  rw [beq_eq_false_iff_ne]
  intro e
  apply h
  rw [ByteArray.toList_eq] at e
  apply ByteArray.ext
  apply Array.toList_inj.1
  exact e
theorem txL_eq {t : ByteArray} (h : t = ⟨#[32]⟩) : txL t.data.toList = [] := by subst h; rfl
/-- Next, at a boundary -/
theorem cnx_any (t : ByteArray) (ht : t.size ≤ 67108864) (i : Nat) (hi : i ≤ (cl t).length) (w : World) (hT : Lib.Utf8Tabs 0 1 w) :
    Calls Tryd.prog 17 #[.string t, .int .i64 (bdF t i : Int)] w fun e Y => e = .returned (.int .i64 (bdF t (i + 1) : Int)) ∧ Hid (Below w.heap.size w Y) :=
  (cnext_any t (bdF t i) (by unfold maxLen; omega) w hT).mono fun e Y ⟨m, he, hm, hb⟩ => by
    have : m = bdF t (i + 1) := by
      by_cases h : i < (cl t).length
      · exact hm.uniq (bdF_lt h).2.2
      · have hi : i = (cl t).length := by omega
        subst hi
        rw [bdF_end t (Nat.le_refl _)] at hm
        rw [bdF_end t (by omega)]
        exact hm.uniq (bdF_last t)
    rw [this] at he
    exact ⟨he, hb⟩
/-- the first clusters, without blanks -/
def barK (t : ByteArray) (i : Nat) : List UInt8 := ((cl t).take i).flatMap fun c => txL (sub t c.fr c.to)
theorem barK_next {t : ByteArray} {i : Nat} {c : Clu} (h : (cl t)[i]? = some c) : barK t (i + 1) = barK t i ++ txL (t.extract (bdF t i) (bdF t (i + 1))).data.toList := by
  obtain ⟨h1, h2⟩ := bdF_at h
  unfold barK
  rw [List.take_add_one, h, h1, h2]
  simp [sub]
theorem barK_le (t : ByteArray) (i : Nat) : (barK t i).length ≤ (barL t).length := by
  have e : barL t = barK t i ++ ((cl t).drop i).flatMap fun c => txL (sub t c.fr c.to) := by
    unfold barL barK
    rw [← List.flatMap_append, List.take_append_drop]
  rw [e, List.length_append]
  omega
set_option maxRecDepth 100000 in
set_option maxHeartbeats 2000000 in
theorem bare_any (t : ByteArray) (ht : t.size ≤ 67108864) (w : World) (hT : Lib.Utf8Tabs 0 1 w) :
    Calls Tryd.prog 18 #[.string t] w fun e w' => e = .returned (.string ⟨(barL t).toArray⟩) ∧ Below w.heap.size w w' := by
  obtain ⟨N, hN⟩ : ∃ N, (cl t).length = N := ⟨_, rfl⟩
  have hb0 := bdF_zero t
  have hK0 : barK t 0 = [] := rfl
  have hKN : barK t N = barL t := by unfold barK barL; rw [← hN, List.take_length]
  have HB : Hid (∀ i, i < N → bdF t i < bdF t (i + 1) ∧ bdF t (i + 1) ≤ t.size ∧ ∃ c, (cl t)[i]? = some c) := fun i hi => ⟨(bdF_lt (by omega)).1, (bdF_lt (by omega)).2.1, _, List.getElem?_eq_getElem (by omega)⟩
  have HE : Hid (bdF t N = t.size ∧ barK t N = barL t) := ⟨bdF_end t (by omega), hKN⟩
  have CN : Hid (∀ (i : Nat) X, i ≤ N → Below w.heap.size w X → Calls Tryd.prog 17 #[.string t, .int .i64 (bdF t i : Int)] X fun e Y => e = .returned (.int .i64 (bdF t (i + 1) : Int)) ∧ Hid (Below X.heap.size X Y)) := fun i X hi hX => cnx_any t ht i (by omega) X (tabs_below hT hX)
  have HT : Hid (t.size ≤ 67108864) := ht
  clear hT hN hKN ht
  go_enter Tryd.func18, Tryd.ntmps18
  go_wp2
  go_loopw [3, 4] (fun t3 t4 wr => ∃ i : Nat, i ≤ N ∧ t4 = .int .i64 (bdF t i : Int) ∧ t3 = .string ⟨(barK t i).toArray⟩ ∧ Hid (Below w.heap.size w wr)) (fun _ t4 _ => t.size - (intOf t4).toNat)
  case atStart => exact ⟨0, Nat.zero_le _, by rw [hb0]; rfl, by rw [hK0], Below.refl _ w⟩
  case round =>
    obtain ⟨i, hi, rfl, rfl, HW⟩ := hrel
    clear hb0 hK0
    by_cases hlt : i < N
    · obtain ⟨h1, h2, c, hc⟩ := HB.out i hlt
      have hnx := barK_next hc
      have CT := CN.out i wr hi HW.out
      have HI : Hid (i < N) := hlt
      obtain ⟨a, ha⟩ : ∃ a, bdF t i = a := ⟨_, rfl⟩
      obtain ⟨b, hb⟩ : ∃ b, bdF t (i + 1) = b := ⟨_, rfl⟩
      rw [ha, hb] at hnx CT
      rw [ha, hb] at h1
      rw [hb] at h2
      rw [ha]
      have HBB : Hid (bdF t (i + 1) = b) := hb
      have g1 : (a : Int) < (t.size : Int) := by omega
      have g2 : ¬ (b : Int) ≤ (a : Int) := by omega
      have g3 : (a : Int) ≤ (b : Int) := by omega
      have g4 : (b : Int) ≤ (t.size : Int) := by omega
      obtain ⟨own, hown⟩ : ∃ own, t.extract a b = own := ⟨_, rfl⟩
      rw [hown] at hnx
      have HOW : Hid (t.extract a b = own) := hown
      by_cases hbk : own = ⟨#[32]⟩
      · rw [txL_eq hbk, List.append_nil] at hnx
        have HNX : Hid (barK t (i + 1) = barK t i) := hnx
        subst hbk
        clear hnx hc hlt ha hb
        go_wp2_with (go_at_call 17; refine CT.mono ?_; clear CT; rintro e w1 ⟨rfl, HB1⟩)
        have HW1 : Hid (Below w.heap.size w w1) := HW.out.trans (HB1.out.mono HW.out.size)
        exact ⟨⟨i + 1, by have := HI.out; omega, by rw [HBB.out], by rw [HNX.out], HW1⟩, by simp [intOf]; omega⟩
      · rw [txL_neq hbk] at hnx
        have HNX : Hid (barK t (i + 1) = barK t i ++ own.data.toList) := hnx
        have hq := bl_eq hbk
        have hq2 : ¬ 9223372036854775807 < (barK t i).length + own.size := by
          have h1 := barK_le t (i + 1)
          have h2 := bar_len t
          have h3 := HT.out
          rw [hnx, List.length_append, ← Lib.size_eq] at h1
          omega
        clear hnx hc hlt ha hb
        go_wp2_with (go_at_call 17; refine CT.mono ?_; clear CT; rintro e w1 ⟨rfl, HB1⟩)
        have HW1 : Hid (Below w.heap.size w w1) := HW.out.trans (HB1.out.mono HW.out.size)
        exact ⟨⟨i + 1, by have := HI.out; omega, by rw [HBB.out], by rw [HNX.out, ← cat_str], HW1⟩, by simp [intOf]; omega⟩
    · have e : i = N := by omega
      subst e
      rw [HE.out.1]
      have HF : Hid (barK t i = barL t) := HE.out.2
      clear HE HB CN
      go_wp2
      go_ret
      exact ⟨by rw [HF.out]; rfl, HW.out⟩
theorem shR_app (R S : List (List Cel)) : shR (R ++ S) = shR R ++ shR S := by simp [shR]
/-- the texts of a frame's cells, so far -/
def shK (R : List (List Cel)) (i : Nat) : List UInt8 := shR (R.take i)
theorem shK_next {R : List (List Cel)} {i : Nat} {l : List Cel} (h : R[i]? = some l) : shK R (i + 1) = shK R i ++ shC l := by
  unfold shK
  rw [List.take_add_one, h]
  exact shR_snoc _ _
theorem shK_le {R : List (List Cel)} {i k : Nat} {l : List Cel} (h : R[i]? = some l) : (shR (R.take i) ++ shC (l.take k)).length ≤ (shR R).length := by
  have hi := (List.getElem?_eq_some_iff.1 h).1
  have e : R = R.take i ++ ([l] ++ R.drop (i + 1)) := by
    rw [← List.append_assoc]
    have e1 := List.take_append_drop (i + 1) R
    rw [List.take_add_one, h] at e1
    exact e1.symm
  have e2 : shR R = shR (R.take i) ++ (shC l ++ shR (R.drop (i + 1))) := by
    conv => lhs; rw [e]
    rw [shR_app, shR_app]
    simp [shR]
  have e3 : shC l = shC (l.take k) ++ shC (l.drop k) := by rw [← shC_app, List.take_append_drop]
  rw [e2, e3]
  simp only [List.length_append]
  omega
theorem shC_next {l : List Cel} {k : Nat} {c : Cel} (h : l[k]? = some c) : shC (l.take (k + 1)) = shC (l.take k) ++ txL c.tx.data.toList := by
  rw [List.take_add_one, h]
  show shC (l.take k ++ [c]) = _
  rw [shC_app]
  simp [shC]
set_option maxRecDepth 100000 in
set_option maxHeartbeats 2000000 in
theorem shown_any (fw fr fc : Int) (rv : Value) (R : List (List Cel)) (hn : R.length ≤ 2147483648) (hl : ∀ l ∈ R, l.length ≤ 2147483648) (htot : (shR R).length ≤ 1099511627776) (w : World) (h : RdRw w rv R) :
    Calls Tryd.prog 20 #[.agg #[.int .i64 fw, rv, .int .i64 fr, .int .i64 fc]] w fun e w' => e = .returned (.string ⟨(shR R).toArray⟩) ∧ Below w.heap.size w w' := by
  obtain ⟨a, cap, rfl, hc⟩ := h.get
  obtain ⟨N, hN⟩ : ∃ N, R.length = N := ⟨_, rfl⟩
  rw [hN] at hn ⊢
  have HB0 : Hid (Below w.heap.size w (w.alloc (.cells #[.int .i64 fw, .slice a N cap, .int .i64 fr, .int .i64 fc] 30)) ∧ (w.alloc (.cells #[.int .i64 fw, .slice a N cap, .int .i64 fr, .int .i64 fc] 30)).heap[w.heap.size]? = some (.cells #[.int .i64 fw, .slice a N cap, .int .i64 fr, .int .i64 fc] 30 (0, 0))) := ⟨(Below.refl _ w).alloc (Nat.le_refl _) _, World.alloc_heap_new _ _⟩
  have HC : Hid (∀ Y, Below w.heap.size w Y → ∀ (k : Nat) x, R[k]? = some x → ∃ g o b m, a = some ⟨g, o, none⟩ ∧ Y.cell? ⟨g, o + k, none⟩ = some (.slice b x.length m) ∧ ∀ (j : Nat) y, x[j]? = some y → ∃ g' o', b = some ⟨g', o', none⟩ ∧ Y.cell? ⟨g', o' + j * 2, none⟩ = some (.string y.tx)) := fun Y hY k x hk => by
    obtain ⟨g, o, b, m, e, hg, c0, hr⟩ := hc k x hk
    refine ⟨g, o, b, m, e, (hY.cell (p := ⟨g, o + k, none⟩) hg).trans c0, fun j y hj => ?_⟩
    obtain ⟨a', c', e', hy⟩ := hr.get
    obtain ⟨g', o', e2, y0, -⟩ := hy j y hj
    obtain ⟨rfl, -, -⟩ := Value.slice.inj e'
    exact ⟨g', o', e2, (hY.cell (p := ⟨g', o' + j * 2, none⟩) (World.block_lt_of_cell? w _ y0)).trans y0⟩
  have HR : Hid (R.length = N ∧ (∀ l ∈ R, l.length ≤ 2147483648) ∧ shK R N = shR R ∧ shK R 0 = []) := ⟨hN, hl, by unfold shK; rw [← hN, List.take_length], rfl⟩
  clear hc h hN hl
  go_enter Tryd.func20, Tryd.ntmps20
  go_wp2
  generalize (w.alloc (.cells #[.int .i64 fw, .slice a N cap, .int .i64 fr, .int .i64 fc] 30)) = W1 at HB0 ⊢
  obtain ⟨⟨x0, x1, x2, x3⟩, -⟩ := box4 HB0.out.2
  clear x0 x2 x3
  go_loopw [3, 4] (fun t3 t4 wr => ∃ i : Nat, i ≤ N ∧ t4 = .int .i64 i ∧ t3 = .string ⟨(shK R i).toArray⟩ ∧ wr = W1) (fun _ t4 _ => N - (intOf t4).toNat)
  case atStart => exact ⟨0, Nat.zero_le _, rfl, by rw [HR.out.2.2.2], rfl⟩
  case round =>
    obtain ⟨i, hi, rfl, rfl, rfl⟩ := hrel
    by_cases hlt : i < N
    · obtain ⟨l, hl⟩ : ∃ l, R[i]? = some l := ⟨R[i]'(by rw [HR.out.1]; exact hlt), List.getElem?_eq_getElem _⟩
      obtain ⟨g, o, b, m, rfl, c0, hin⟩ := HC.out wr HB0.out.1 i l hl
      have hll := HR.out.2.1 l (List.mem_of_getElem? hl)
      have hnx := shK_next hl
      have HLE : Hid (∀ k, (shR (R.take i) ++ shC (l.take k)).length ≤ 1099511627776) := fun k => Nat.le_trans (shK_le hl) htot
      obtain ⟨n, hn'⟩ : ∃ n, l.length = n := ⟨_, rfl⟩
      rw [hn'] at c0 hll
      have HIN : Hid (∀ (j : Nat) y, l[j]? = some y → ∃ g' o', b = some ⟨g', o', none⟩ ∧ wr.cell? ⟨g', o' + j * 2, none⟩ = some (.string y.tx)) := hin
      have HNX : Hid (shK R (i + 1) = shK R i ++ shC l ∧ l.length = n ∧ shC (l.take n) = shC l ∧ shC (l.take 0) = []) := ⟨hnx, hn', by rw [← hn', List.take_length], rfl⟩
      have HLT : Hid (i < N) := hlt
      clear hin hnx hn' hl
      obtain ⟨wo, hwo⟩ : ∃ wo, wo = wr := ⟨_, rfl⟩
      subst hwo
      obtain ⟨ps, hps⟩ : ∃ ps, shK R i = ps := ⟨_, rfl⟩
      have HPS : Hid (shK R i = ps) := hps
      rw [hps]
      clear hps
      go_wp2
      go_loopw [3, 5] (fun t3 t5 wr => ∃ k : Nat, k ≤ n ∧ t5 = .int .i64 k ∧ t3 = .string ⟨(ps ++ shC (l.take k)).toArray⟩ ∧ wr = wo) (fun _ t5 _ => n - (intOf t5).toNat)
      case atStart => exact ⟨0, Nat.zero_le _, rfl, by rw [HNX.out.2.2.2, List.append_nil], rfl⟩
      case round =>
        obtain ⟨k, hk, rfl, rfl, rfl⟩ := hrel
        by_cases hkn : k < n
        · obtain ⟨y, hy⟩ : ∃ y, l[k]? = some y := ⟨l[k]'(by rw [HNX.out.2.1]; exact hkn), List.getElem?_eq_getElem _⟩
          obtain ⟨g', o', rfl, y0⟩ := HIN.out k y hy
          have hny := shC_next hy
          obtain ⟨tx, sp⟩ := y
          simp only at y0 hny
          have HKN : Hid (k < n) := hkn
          clear hy
          by_cases hbk : tx = ⟨#[32]⟩
          · rw [txL_eq hbk, List.append_nil] at hny
            have HNY : Hid (shC (l.take (k + 1)) = shC (l.take k)) := hny
            clear hny
            go_wp2
            exact ⟨⟨k + 1, by have := HKN.out; omega, by go_num, by rw [HNY.out], trivial⟩, by have := HKN.out; simp [intOf]; omega⟩
          · rw [txL_neq hbk] at hny
            have HNY : Hid (shC (l.take (k + 1)) = shC (l.take k) ++ tx.data.toList) := hny
            have hq := bl_eq hbk
            have hq3 : (ps ++ shC (l.take k)).length + tx.size ≤ 1099511627776 := by
              have h1 := HLE.out (k + 1)
              rw [hny, ← List.append_assoc, List.length_append, ← Lib.size_eq] at h1
              rw [← HPS.out]
              exact h1
            have hq2 : ¬ 9223372036854775807 < ps.length + (shC (l.take k)).length + tx.size := by rw [List.length_append] at hq3; omega
            have hq4 : ¬ 9223372036854775807 < (ps ++ shC (l.take k)).length + tx.size := by omega
            clear hny hq3
            go_wp2
            exact ⟨⟨k + 1, by have := HKN.out; omega, by go_num, by rw [HNY.out, ← List.append_assoc, ← cat_str], trivial⟩, by have := HKN.out; simp [intOf]; omega⟩
        · have e : k = n := by omega
          subst e
          have HEQ : Hid (ps ++ shC (l.take k) = shK R (i + 1)) := by show _ = _; rw [HNX.out.2.2.1, HNX.out.1, HPS.out]
          rw [HEQ.out]
          clear HNX HIN HPS
          go_wp2
          exact ⟨⟨i + 1, by have := HLT.out; omega, by go_num, rfl, trivial⟩, by have := HLT.out; simp [intOf]; omega⟩
    · have e : i = N := by omega
      subst e
      rw [HR.out.2.2.1]
      clear HC HR
      go_wp2
      go_ret
      exact ⟨rfl, HB0.out.1⟩
end Go.Proofs.YtfjoklbiocniiaaDoor
