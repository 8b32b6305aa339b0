/-
  The law MetricCuts returns true: a text cut anywhere joins to what it was. Conditions: the two tables of unicode/utf8 lie as their text lays them; the arguments together hold at most 1048576 values and letters.
-/
import Derived.Test.YtdfemihjnempfaaDoorMLaw
import Derived.Test.YtdfemihjnempfaaDoorUHalves
import Derived.Deep.DeepCutAuto
namespace Go.Proofs.YtdfemihjnempfaaDoor.metricCuts
open Go.RowKit Bod Wid

theorem range_mid (s : ByteArray) {a b : Nat} (h : a ≤ b) (hb : b ≤ s.size) : rangeOf s a b = s.extract a b := range_some (by omega) (by omega) (by omega)
theorem ext_app (s : ByteArray) {a b : Nat} (h : a ≤ b) (_hb : b ≤ s.size) : s.extract 0 a ++ s.extract a b = s.extract 0 b := by
  apply ext_data
  rw [data_app, data_extract', data_extract', data_extract', List.drop_zero, Nat.sub_zero, Nat.sub_zero]
  rw [← List.take_append_drop a (List.take b s.data.toList), List.take_take, Nat.min_eq_left h, List.drop_take]
/-- the parts so far: the texts that they are of, where they lie -/
structure CI (w : World) (s : ByteArray) (v : Value) (A k : Nat) (ss : List ByteArray) (W : World) : Prop where
  len : ss.length = k
  cat : cat ss = s.extract 0 A
  le : A ≤ s.size
  row : W.ownsRow w.heap.size 25 7 v k (ssc ss)
  bel : Below w.heap.size w W
theorem CI.push {w : World} {s : ByteArray} {v v' : Value} {A B k : Nat} {ss : List ByteArray} {W W1 W2 W3 : World} {o : Obj} (h : CI w s v A k ss W) (hAB : A ≤ B) (hB : B ≤ s.size) (hb : Below W.heap.size W W1) (hW2 : W1.alloc o = W2) (hg : W2.grownBy W3 v.ownBlock)
    (hrow : W3.ownsRow w.heap.size 25 7 v' (k + 1) (ssc ss ++ (scs (smr (s.extract A B))).toList)) : CI w s v' B (k + 1) (ss ++ [s.extract A B]) W3 := by
  refine ⟨by rw [List.length_append, h.len]; rfl, ?_, hB, by rw [ssc_snoc]; exact hrow, ?_⟩
  · rw [cat_snoc, h.cat, ext_app s hAB hB]
  · have b1 : Below w.heap.size w W1 := h.bel.trans (hb.mono h.bel.size)
    have b2 : Below w.heap.size w W2 := by rw [← hW2]; exact b1.alloc b1.size _
    exact b2.grown hg b2.size (fun j e => (h.row.lt j e).1)
set_option maxRecDepth 100000 in
set_option maxHeartbeats 4000000 in
theorem walk (s : ByteArray) (a0 : Option Addr) (len cap : Nat) (rs : List Int) (hs : s.size ≤ 1048576) (hlen : len ≤ 1048576) (w : World) (hR : Halves w a0 len rs) (hT : Lib.Utf8Tabs 1 2 w) (hlo0 : 1 < w.heap.size) (hlo1 : 2 < w.heap.size) :
    Calls Tryd.prog 7 #[.string s, .slice a0 len cap] w fun e w' => e = .returned (.bool true) ∧ Below w.heap.size w w' := by
  have cC := counts_any w hT hlo0 hlo1
  have TT : Hid (∀ W, Below w.heap.size w W → Lib.Utf8Tabs 1 2 W ∧ 1 < W.heap.size ∧ 2 < W.heap.size) := fun W hb => ⟨tabs_below hT hb, Nat.lt_of_lt_of_le hlo0 hb.size, Nat.lt_of_lt_of_le hlo1 hb.size⟩
  obtain ⟨i0, hi, hz0, hz1, hz2⟩ := info_parts info_sum
  have HR : Hid _ := hR
  clear hT hlo0 hlo1 hR
  go_enter Tryd.func7, Tryd.ntmps7
  go_wp2_with (go_at_call 9; refine cC.mono ?_; clear cC; rintro e w1 ⟨rfl, hb1⟩; have HB : Hid (Below w.heap.size w w1) := hb1; clear hb1)
  go_loopw [5, 6, 14] (fun v x t wr => ∃ (k A : Nat) (ss : List ByteArray), x = .int .i64 A ∧ t = .int .i64 k ∧ k ≤ len ∧ Hid (CI w s v A k ss wr)) (fun _ _ t _ => len - (intOf t).toNat)
  case atStart => exact ⟨0, 0, [], rfl, rfl, Nat.zero_le _, ⟨rfl, (by apply ext_data; rw [data_extract']; rfl), Nat.zero_le _, World.ownsRow_nil _ _ _ _, HB.out⟩⟩
  case round =>
    obtain ⟨k, A, ss, rfl, rfl, hk, HK⟩ := hrel
    clear HB
    have hA := HK.out.le
    by_cases hlt : k < len
    · obtain ⟨b, o, rfl, hbl, hcs⟩ := HR.out.2.2 (by omega)
      have hkr : k < rs.length := by rw [HR.out.1]; exact hlt
      have hcell := (HK.out.bel.cell (p := ⟨b, o + k, none⟩) hbl).trans (hcs k hkr)
      have hcb := HR.out.2.1 (rs[k]?.getD 0) (by rw [List.getElem?_eq_getElem hkr]; exact List.getElem_mem _)
      obtain ⟨c, hc⟩ : ∃ c : Nat, rs[k]?.getD 0 = c := ⟨(rs[k]?.getD 0).toNat, by omega⟩
      rw [hc] at hcell hcb
      clear hcs hkr hc
      obtain ⟨q, hq⟩ : ∃ q : Nat, (c : Int) % ((s.size : Int) - (A : Int) + 1) = q := ⟨((c : Int) % ((s.size : Int) - (A : Int) + 1)).toNat, by have := Int.emod_nonneg (c : Int) (show (s.size : Int) - (A : Int) + 1 ≠ 0 by omega); omega⟩
      have hqle : A + q ≤ s.size := by have := Int.emod_lt_of_pos (c : Int) (show 0 < (s.size : Int) - (A : Int) + 1 by omega); omega
      have hpos : (1 : Int) ≤ (s.size : Int) - (A : Int) + 1 := by omega
      have CR : Hid (Calls Tryd.prog 14 #[.string s, .int .i64 A, .int .i64 ((A : Int) + (q : Int))] wr fun e W' => e = .returned (sv (smr (s.extract A (A + q)))) ∧ Below wr.heap.size wr W') := by
        obtain ⟨t1, t2, t3⟩ := TT.out wr HK.out.bel
        have := mrange_any s A ((A + q : Nat) : Int) (by omega) (by omega) (by omega) wr t1 t2 t3
        rw [range_mid s (by omega) hqle] at this
        rw [Int.natCast_add] at this
        exact this
      obtain ⟨m, hm⟩ : ∃ m, smr (s.extract A (A + q)) = m := ⟨_, rfl⟩
      rw [hm] at CR
      have HM : Hid (smr (s.extract A (A + q)) = m) := hm
      clear hm
      go_upto_region 9 with fail
      go_wp2_with (first | (go_at_call 14; refine CR.out.mono ?_; clear CR; rintro e w2 ⟨rfl, hb2⟩; have HB2 : Hid (Below wr.heap.size wr w2) := hb2; clear hb2) | (at_builtin; refine wpList_append_own _ rfl _ _ 32 rfl w.heap.size 25 i0 _ 7 72 Tryd.underlying32 hi hz0 hz1 hz2 rfl (by decide) _ k _ rfl ((row_below' HK.out.row HB2.out).alloc _) ⟨w2.heap.size, 0, none⟩ 1 1 [.int .i64 m.by', .int .i64 m.un, .int .i64 m.cl, .int .i64 m.ce, .int .i64 m.nl, .string m.hd, .string m.tl] rfl rfl (World.news_of_block (World.alloc_heap_new w2 _)) (by simp [Value.oneCell']) (by unfold maxLen; omega) (by omega) (by have h1 := HK.out.bel.size; have h2 := HB2.out.size; simp; omega) ?_; intro v3 w3 hrow3 hg3 _; have HG3 : Hid _ := hg3; have HW3 : Hid (w3.ownsRow w.heap.size 25 7 v3 (k + 1) (ssc ss ++ (scs m).toList)) := hrow3; clear hg3 hrow3))
      exact ⟨⟨k + 1, A + q, ss ++ [s.extract A (A + q)], by go_num, by go_num, by omega, HK.out.push (by omega) hqle HB2.out rfl HG3.out (by rw [HM.out]; exact HW3.out)⟩, by simp [intOf]; omega⟩
    · have hd' : decide (k < len) = false := decide_eq_false hlt
      have CR : Hid (Calls Tryd.prog 14 #[.string s, .int .i64 A, .int .i64 s.size] wr fun e W' => e = .returned (sv (smr (s.extract A s.size))) ∧ Below wr.heap.size wr W') := by
        obtain ⟨t1, t2, t3⟩ := TT.out wr HK.out.bel
        have := mrange_any s A ((s.size : Nat) : Int) (by omega) (by omega) (by omega) wr t1 t2 t3
        rw [range_mid s hA (Nat.le_refl _)] at this
        exact this
      have CJ : Hid (∀ v W ss', CI w s v s.size (k + 1) ss' W → Calls Tryd.prog 16 #[v] W fun e W' => e = .returned (sv (smr s)) ∧ Below w.heap.size w W') := fun v W ss' h => by
        obtain ⟨t1, t2, t3⟩ := TT.out W h.bel
        have ec : cat ss' = s := by rw [h.cat]; simp
        have hr := h.row
        rw [← h.len] at hr
        have := mjoin_any ss' v W (RdS.of_row hr) (by rw [ec]; omega) (by rw [h.len]; omega) t1 t2 t3
        rw [ec] at this
        exact this.mono fun e W' ⟨h1, h2⟩ => ⟨h1, h.bel.trans (h2.mono h.bel.size)⟩
      have CS : Hid (∀ W, Below w.heap.size w W → Calls Tryd.prog 10 #[.string s] W fun e W' => e = .returned (sv (smr s)) ∧ Below w.heap.size w W') := fun W hb => by
        obtain ⟨t1, t2, t3⟩ := TT.out W hb
        exact (measure_any s (by omega) W t1 t2 t3).mono fun e W' ⟨h1, h2⟩ => ⟨h1, hb.trans (h2.mono hb.size)⟩
      obtain ⟨m, hm⟩ : ∃ m, smr (s.extract A s.size) = m := ⟨_, rfl⟩
      rw [hm] at CR
      have HM : Hid (smr (s.extract A s.size) = m) := hm
      clear hm
      generalize smr s = M at CJ CS
      go_wp2_with (first | (go_at_call 14; refine CR.out.mono ?_; clear CR; rintro e w2 ⟨rfl, hb2⟩; have HB2 : Hid (Below wr.heap.size wr w2) := hb2; clear hb2) | (at_builtin; refine wpList_append_own _ rfl _ _ 32 rfl w.heap.size 25 i0 _ 7 72 Tryd.underlying32 hi hz0 hz1 hz2 rfl (by decide) _ k _ rfl ((row_below' HK.out.row HB2.out).alloc _) ⟨w2.heap.size, 0, none⟩ 1 1 [.int .i64 m.by', .int .i64 m.un, .int .i64 m.cl, .int .i64 m.ce, .int .i64 m.nl, .string m.hd, .string m.tl] rfl rfl (World.news_of_block (World.alloc_heap_new w2 _)) (by simp [Value.oneCell']) (by unfold maxLen; omega) (by omega) (by have h1 := HK.out.bel.size; have h2 := HB2.out.size; simp; omega) ?_; intro v3 w3 hrow3 hg3 _; have HI : Hid (CI w s v3 s.size (k + 1) (ss ++ [s.extract A s.size]) w3) := HK.out.push hA (Nat.le_refl _) HB2.out rfl hg3 (by rw [HM.out]; exact hrow3); clear hg3 hrow3) | (go_at_call 16; refine (CJ.out _ _ _ HI.out).mono ?_; clear CJ HI; rintro e w4 ⟨rfl, hb4⟩; have HB4 : Hid (Below w.heap.size w w4) := hb4; clear hb4) | (go_at_call 10; refine (CS.out _ HB4.out).mono ?_; clear CS; rintro e w5 ⟨rfl, hb5⟩; have HB5 : Hid (Below w.heap.size w w5) := hb5; clear hb5))
      go_ret
      exact ⟨rfl, HB5.out⟩

theorem walk_of {H : Type} (s : ByteArray) (a : Option Addr) (len cap : Nat) (w : World) (hT : Lib.Utf8Tabs 1 2 w) (hlo0 : 1 < w.heap.size) (hlo1 : 2 < w.heap.size) (_z : s.size ≤ 140737488351232) (rs : List Int) (y : Halves w a len rs) {d : DataW H} (u : len ≤ Rows.uptoBulk d) (hk : Rows.uptoSmall H ([DataW.lit (.string s.data.toList), d] ++ []) = true) :
    Calls Tryd.prog 7 #[.string s, .slice a len cap] w fun e w' => e = .returned (.bool true) ∧ Below w.heap.size w w' := by
  have h : Rows.uptoBulkAll ([DataW.lit (H := H) (.string s.data.toList), d] ++ []) ≤ 1048576 := of_decide_eq_true hk
  simp only [List.append_nil, Rows.uptoBulkAll, Rows.uptoBulk] at h
  have hs := Lib.size_eq s
  exact walk s a len cap rs (by omega) (by omega) w y hT hlo0 hlo1
end Go.Proofs.YtdfemihjnempfaaDoor.metricCuts
