/-
  The law SeekBack returns true for every list of pieces and of picks: the places and the numbers lead to one another, and each call goes up with its number. Its conditions: the pieces and picks hold together at most 1048576 letters and values; the two tables of unicode/utf8 start as the program's text lays them (the card ties that).
-/
import Derived.Test.YtiehhafbblbbiabDoorPkO
import Derived.Test.YtiehhafbblbbiabDoorPkG
import Derived.Test.YtiehhafbblbbiabDoorSMathD
import Derived.Test.YtiehhafbblbbiabDoorCPlaces
import Derived.Test.YtiehhafbblbbiabDoorPkI
import Derived.Deep.DeepCutAuto
namespace Go.Proofs.YtiehhafbblbbiabDoor.seekBack
open Go.RowKit Go.Shelf Bod Wid

def Tq (w : World) (s : ByteArray) (v : Value) (W : World) : Prop := (∃ t : Tr, t.text = s ∧ Nt W t v) ∧ Below w.heap.size w W
theorem Tq.below {w : World} {s : ByteArray} {v : Value} {W X : World} (h : Tq w s v W) (hb : Below W.heap.size W X) : Tq w s v X := by
  obtain ⟨⟨t, h1, h2⟩, h3⟩ := h
  exact ⟨⟨t, h1, h2.below hb⟩, Below.on h3 hb⟩
set_option maxRecDepth 100000 in
set_option maxHeartbeats 40000000 in
theorem walk (a0 : Option Addr) (len cap : Nat) (ss : List ByteArray) (a1 : Option Addr) (l1 c1 : Nat) (ps : List Int) (w : World) (hS : Texts w a0 len ss) (hl : len ≤ 1048576) (hz : ∀ s ∈ ss, s.size ≤ 1048576) (y1 : Wholes w a1 l1 ps) (hl1 : l1 ≤ 1048576) (hE : Ev w) :
    Calls Tryd.prog 3 #[.slice a0 len cap, .slice a1 l1 c1] w fun e w' => e = .returned (.bool true) ∧ Below w.heap.size w w' := by
  have hjo : (jo ss).size ≤ 1099511627776 := by have := pc_bd ss hz; rw [hS.1] at this; omega
  have C0 : Hid (Calls Tryd.prog 4 #[] w fun e W' => e = .returned (.bool true) ∧ Hid (Below w.heap.size w W')) := awake_any w hE
  have C1 : Hid (∀ W, Hid (Below w.heap.size w W) → Calls Tryd.prog 5 #[.slice a0 len cap] W fun e W' => e = .returned (.string (jo ss)) ∧ Hid (Below w.heap.size w W')) := fun W hW => (pjoined_any a0 len cap ss w W hW hS hl hz).mono fun e W' ⟨h1, h2⟩ => ⟨h1, h2 ▸ hW⟩
  have C2 : Hid (∀ W, Hid (Below w.heap.size w W) → Calls Tryd.prog 6 #[.slice a0 len cap, .slice a1 l1 c1] W fun e W' => ∃ T p, e = .returned (.iface T p) ∧ Hid (Tq w (jo ss) (.iface T p) W')) := fun W hW => (build_any a0 len cap ss a1 l1 c1 ps w W hW hS hl hz y1 hl1 (hE.below hW)).mono fun e W' ⟨T, p, t, h1, h2, h3, h4⟩ => ⟨T, p, h1, ⟨t, h3, h2⟩, Below.on hW h4⟩
  generalize jo ss = s at *
  have hm : s.size ≤ maxLen := by unfold maxLen; omega
  have Q1 : Hid (∀ W v (n : Int), -9223372036854775808 ≤ n ∧ n ≤ 9223372036854775807 → Hid (Tq w s v W) → Calls Tryd.prog 7 #[v, .int .i64 n] W fun e W' => e = .returned (.tuple #[.int .i64 (fcl s n).1, .int .i64 (fcl s n).2]) ∧ Hid (Tq w s v W')) := fun W v n hn hW => by
    obtain ⟨⟨t, ht, h1⟩, h2⟩ := hW.out
    have := scluster_any (.inr h1) (by rw [ht]; exact hjo) n (hE.below h2)
    rw [ht] at this
    exact this.mono fun e W' ⟨k1, k2⟩ => ⟨k1, hW.out.below k2⟩
  have Q2 : Hid (∀ W v (n : Int), -9223372036854775808 ≤ n ∧ n ≤ 9223372036854775807 → Hid (Tq w s v W) → Calls Tryd.prog 9 #[v, .int .i64 n] W fun e W' => e = .returned (.int .i64 (cn .C s (hld s n))) ∧ Hid (Tq w s v W')) := fun W v n hn hW => by
    obtain ⟨⟨t, ht, h1⟩, h2⟩ := hW.out
    have := sclusters_any (.inr h1) (by rw [ht]; exact hjo) n hn (hE.below h2)
    rw [ht] at this
    exact this.mono fun e W' ⟨k1, k2⟩ => ⟨k1, hW.out.below k2⟩
  have Q3 : Hid (∀ W v (n : Int), -9223372036854775808 ≤ n ∧ n ≤ 9223372036854775807 → Hid (Tq w s v W) → Calls Tryd.prog 12 #[v, .int .i64 n] W fun e W' => e = .returned (.tuple #[.int .i64 (fli s n).1, .int .i64 (fli s n).2]) ∧ Hid (Tq w s v W')) := fun W v n hn hW => by
    obtain ⟨⟨t, ht, h1⟩, h2⟩ := hW.out
    have := sline_any (.inr h1) (by rw [ht]; exact hjo) n hn (hE.below h2)
    rw [ht] at this
    exact this.mono fun e W' ⟨k1, k2⟩ => ⟨k1, hW.out.below k2⟩
  have Q4 : Hid (∀ W v (n : Int), -9223372036854775808 ≤ n ∧ n ≤ 9223372036854775807 → Hid (Tq w s v W) → Calls Tryd.prog 13 #[v, .int .i64 n] W fun e W' => e = .returned (.int .i64 (nlt s (hld s n))) ∧ Hid (Tq w s v W')) := fun W v n hn hW => by
    obtain ⟨⟨t, ht, h1⟩, h2⟩ := hW.out
    have := slines_any (.inr h1) (by rw [ht]; exact hjo) n hn (hE.below h2)
    rw [ht] at this
    exact this.mono fun e W' ⟨k1, k2⟩ => ⟨k1, hW.out.below k2⟩
  have Q5 : Hid (∀ W v (n : Int), -9223372036854775808 ≤ n ∧ n ≤ 9223372036854775807 → Hid (Tq w s v W) → Calls Tryd.prog 14 #[v, .int .i64 n] W fun e W' => e = .returned (.int .i64 (ceL (hld s n) (cl s))) ∧ Hid (Tq w s v W')) := fun W v n hn hW => by
    obtain ⟨⟨t, ht, h1⟩, h2⟩ := hW.out
    have := scells_any (.inr h1) (by rw [ht]; exact hjo) n hn (hE.below h2)
    rw [ht] at this
    exact this.mono fun e W' ⟨k1, k2⟩ => ⟨k1, hW.out.below k2⟩
  have Q6 : Hid (∀ W v (n : Int), -9223372036854775808 ≤ n ∧ n ≤ 9223372036854775807 → Hid (Tq w s v W) → Calls Tryd.prog 15 #[v, .int .i64 n] W fun e W' => e = .returned (.tuple #[.int .i64 (fnd .N s n).1, .int .i64 (fnd .N s n).2]) ∧ Hid (Tq w s v W')) := fun W v n hn hW => by
    obtain ⟨⟨t, ht, h1⟩, h2⟩ := hW.out
    have := scell_any (.inr h1) (by rw [ht]; exact hjo) n (hE.below h2)
    rw [ht] at this
    exact this.mono fun e W' ⟨k1, k2⟩ => ⟨k1, hW.out.below k2⟩
  have Q7 : Hid (∀ W v (n : Nat), n ≤ s.size → Hid (Tq w s v W) → Calls Tryd.prog 10 #[.string s, .int .i64 n] W fun e W' => e = .returned (.bool (cbZ s n)) ∧ Hid (Tq w s v W')) := fun W v n hn hW => (cbound_any s n hm W (hE.below hW.out.2).t (by omega)).mono fun e W' ⟨k1, k2⟩ => ⟨k1, hW.out.below k2⟩
  have Q8 : Hid (∀ W v (n q : Nat), IsNext s n q → Hid (Tq w s v W) → Calls Tryd.prog 11 #[.string s, .int .i64 n] W fun e W' => e = .returned (.int .i64 q) ∧ Hid (Tq w s v W')) := fun W v n q hq hW => (cnext_any s n hm W (hE.below hW.out.2).t).mono fun e W' ⟨m, k1, k2, k3⟩ => ⟨by rw [k1, k2.uniq hq], hW.out.below k3⟩
  have Q9 : Hid (∀ W v, Hid (Tq w s v W) → Calls Tryd.prog 8 #[.string s] W fun e W' => e = .returned (.int .i64 (cl s).length) ∧ Hid (Tq w s v W')) := fun W v hW => (count_any s hm W (hE.below hW.out.2).t (hE.below hW.out.2).l0 (hE.below hW.out.2).l1).mono fun e W' ⟨k1, k2⟩ => ⟨k1, hW.out.below k2⟩
  have Q10 : Hid (∀ W v, Hid (Tq w s v W) → Calls Tryd.prog 16 #[.string s] W fun e W' => e = .returned (.int .i64 (sumN (cl s))) ∧ Hid (Tq w s v W')) := fun W v hW => (ccells_any s hm (by omega) W (hE.below hW.out.2).t (hE.below hW.out.2).l0 (hE.below hW.out.2).l1).mono fun e W' ⟨k1, k2⟩ => ⟨k1, hW.out.below k2⟩
  have HBK : Hid (∀ n : Nat, n ≤ (cl s).length → ∃ p q : Nat, fcl s n = ((p : Int), 0) ∧ p ≤ s.size ∧ cn .C s (hld s p) = n ∧ cbZ s p = true ∧ IsNext s p q ∧ q ≤ s.size ∧ (n + 1 ≤ (cl s).length → fcl s ((n + 1 : Nat) : Int) = ((q : Int), 0))) := bk s
  have HNO : Hid (∀ n : Nat, (cl s).length < n → fcl s n = (0, 1)) := fun n h => fcl_no s h
  have HF0 : Hid (fcl s 0 = (0, 0)) := fcl_zero s
  have hcl := cl_len s
  obtain ⟨M, hM⟩ : ∃ M, (cl s).length = M := ⟨_, rfl⟩
  rw [hM] at Q9 HBK HNO hcl
  clear hS hz y1 hE hM
  go_enter Tryd.func3, Tryd.ntmps3
  go_wp2_with (first | (go_at_call 4; refine C0.out.mono ?_; clear C0; rintro e w0 ⟨rfl, H⟩) | (go_at_call 5; refine (C1.out _ H).mono ?_; clear C1 H; rintro e w1 ⟨rfl, H⟩) | (go_at_call 6; refine (C2.out _ H).mono ?_; clear C2 H; rintro e w2 ⟨T, P, rfl, H⟩))
  rename_i K hKr
  have HKR : Hid (∀ (u4 u7 u8 u9 u10 u25 u26 u27 u28 u29 u30 u31 u32 u33 u34 u35 u36 u37 u38 u39 u40 u41 u42 u43 u44 u45 u46 u47 u48 u49 u50 u51 u52 u53 u54 u55 u56 u57 u58 u59 u60 u61 u62 u63 u64 : Value) (wc : World), Hid (Tq w s (.iface T P) wc) → K { tmps := #[.slice a0 len cap, .slice a1 l1 c1, undef, undef, u4, .string s, .iface T P, u7, u8, u9, u10, undef, undef, undef, undef, undef, undef, undef, .bool true, .bool false, .slice a0 len cap, .string s, .slice a0 len cap, .slice a1 l1 c1, .iface T P, u25, u26, u27, u28, u29, u30, u31, u32, u33, u34, u35, u36, u37, u38, u39, u40, u41, u42, u43, u44, u45, u46, u47, u48, u49, u50, u51, u52, u53, u54, u55, u56, u57, u58, u59, u60, u61, u62, u63, u64, undef, undef, undef, undef, undef, undef, undef, undef, undef, undef, undef, undef, undef, undef, undef, undef, undef, undef, undef, undef, undef, undef, undef, undef, undef, undef, undef, undef, undef, undef, undef, undef, undef, undef, undef, undef, undef, undef, undef, undef, undef, undef, undef, undef, undef, undef, undef, undef, undef, undef, undef, undef, undef, undef, undef, undef, undef, undef, undef, undef, undef, undef, undef, undef, undef, undef, undef, undef, undef, undef, undef, undef, undef, undef, undef, undef, undef, undef, undef], defers := [] } wc) := by
    intro u4 u7 u8 u9 u10 u25 u26 u27 u28 u29 u30 u31 u32 u33 u34 u35 u36 u37 u38 u39 u40 u41 u42 u43 u44 u45 u46 u47 u48 u49 u50 u51 u52 u53 u54 u55 u56 u57 u58 u59 u60 u61 u62 u63 u64 wc hcut
    refine hKr _ _ ?_
    clear hKr
    clear H HF0 HBK HNO Q1 Q2 Q7 Q9
    have H := hcut
    clear hcut
    go_wp2
    go_loopw [11, 12] (fun t11 t12 wq => ∃ i : Nat, t12 = .int .i64 i ∧ i ≤ 400 ∧ i ≤ s.size + 1 ∧ t11 = .int .i64 ((nlt s (i - 1) : Nat) : Int) ∧ Hid (Tq w s (.iface T P) wq)) (fun _ t12 _ => 400 - (intOf t12).toNat)
    case atStart => exact ⟨0, rfl, by omega, by omega, rfl, H⟩
    case round =>
      clear H
      obtain ⟨i, rfl, hi1, hi2, rfl, H⟩ := hrel
      by_cases ci : i ≤ s.size
      · by_cases c4 : i < 400
        · have hi := ci
          have hb1 : nlt s i ≤ s.size := by have := nlt_mono s ci; rw [nlt_all (Nat.le_refl s.size)] at this; have := nls_le s; omega
          obtain ⟨β, hβ⟩ : ∃ β : Bool, decide (0 < i ∧ bt s (i - 1) = 10) = β := ⟨_, rfl⟩
          have HLV : Hid (((nlt s i : Nat) : Int) = ((nlt s (i - 1) : Nat) : Int) + (if β then 1 else 0)) := by
            show ((nlt s i : Nat) : Int) = _
            rw [← hβ]
            by_cases cz : i = 0
            · subst cz; simp
            · obtain ⟨k, rfl⟩ : ∃ k, i = k + 1 := ⟨i - 1, by omega⟩
              have hst := nlt_step s k (by omega)
              simp only [Nat.add_sub_cancel]
              by_cases h10 : bt s k = 10
              · rw [if_pos h10] at hst
                simp [h10]
                omega
              · rw [if_neg h10] at hst
                simp [h10]
                omega
          have Hβ : Hid (decide (0 < i ∧ bt s (i - 1) = 10) = β) := hβ
          obtain ⟨lp, hlp⟩ : ∃ lp, nlt s (i - 1) = lp := ⟨_, rfl⟩
          have hlb : lp ≤ s.size := by rw [← hlp]; exact Nat.le_trans (nlt_mono s (by omega)) hb1
          rw [hlp] at HLV
          rw [hlp]
          clear hβ hlp
          go_upto_region 20 with fail
          go_cut [83] (fun t83 wc => t83 = .bool β ∧ Hid (Tq w s (.iface T P) wc))
          case first =>
            clear Q3 Q4 Q5 Q6 Q8 Q10 HLV
            by_cases cz : i = 0
            · have cz' : ¬ (0 : Int) < (i : Int) := by omega
              have Hb : Hid (β = false) := by show β = false; rw [← Hβ.out]; simp [cz]
              clear cz
              go_wp2
              go_meet
              case rel => exact ⟨by rw [Hb.out], H⟩
            · obtain ⟨k, rfl⟩ : ∃ k, i = k + 1 := ⟨i - 1, by omega⟩
              have ck : k < s.size := by omega
              have e2 : bt s k = (s[k]'ck).toNat := by unfold bt; rw [Utf8W.get!_of_lt s k ck]
              by_cases h10 : (s[k]'ck) = 10
              · have e10 : (((s[k]'ck).toNat : Int) == 10) = true := by rw [h10]; rfl
                have Hb : Hid (β = true) := by show β = true; rw [← Hβ.out]; simp [e2, h10]
                clear e2 cz hb1
                go_wp2
                go_meet
                case rel => exact ⟨by rw [Hb.out], H⟩
              · have hne : (s[k]'ck).toNat ≠ 10 := fun x => h10 (UInt8.toNat_inj.1 x)
                have e10 : (((s[k]'ck).toNat : Int) == 10) = false := by simp; omega
                have Hb : Hid (β = false) := by show β = false; rw [← Hβ.out]; simp [e2, hne]
                clear e2 cz hb1
                go_wp2
                go_meet
                case rel => exact ⟨by rw [Hb.out], H⟩
          case rest =>
           clear H Hβ
           obtain ⟨rfl, H⟩ := hcut
           go_upto_if 83 with fail
           go_cut [11] (fun t11 wc => t11 = .int .i64 ((nlt s i : Nat) : Int) ∧ Hid (Tq w s (.iface T P) wc))
           case first =>
            clear Q3 Q4 Q5 Q6 Q8 Q10
            cases β with
            | true =>
              have HL2 : Hid (((nlt s i : Nat) : Int) = (lp : Int) + 1) := HLV.out
              clear HLV
              go_wp2
              go_meet
              case rel => exact ⟨congrArg (Value.int IntKind.i64) HL2.out.symm, H⟩
            | false =>
              have HL2 : Hid (((nlt s i : Nat) : Int) = (lp : Int)) := HLV.out.trans (Int.add_zero _)
              clear HLV
              go_wp2
              go_meet
              case rel => exact ⟨congrArg (Value.int IntKind.i64) HL2.out.symm, H⟩
           case rest =>
            clear H HLV hlb
            obtain ⟨rfl, H⟩ := hcut
            obtain ⟨L, hL⟩ : ∃ L, nlt s i = L := ⟨_, rfl⟩
            rw [hL]
            rw [hL] at hb1
            obtain ⟨p, hf, hp⟩ := fli_le s (i := i) hi
            rw [hL] at hf
            have hh : hld s ((i : Int)) = i := by unfold hld; omega
            obtain ⟨N, hN⟩ : ∃ N, ceL ((i : Nat) : Int) (cl s) = N := ⟨_, rfl⟩
            have hNb : 0 ≤ N ∧ N ≤ 4398046511104 := by have := ceL_bd ((i : Nat) : Int) (cl_n s); have := cl_len s; rw [hN] at *; omega
            have D3 : Hid (∀ W, Hid (Tq w s (.iface T P) W) → Calls Tryd.prog 12 #[.iface T P, .int .i64 (L : Int)] W fun e W' => e = .returned (.tuple #[.int .i64 (p : Int), .int .i64 0]) ∧ Hid (Tq w s (.iface T P) W')) := fun W h => by have := Q3.out W _ (L : Int) (by omega) h; rw [hf] at this; exact this
            have D4 : Hid (∀ W, Hid (Tq w s (.iface T P) W) → Calls Tryd.prog 13 #[.iface T P, .int .i64 (i : Int)] W fun e W' => e = .returned (.int .i64 (L : Int)) ∧ Hid (Tq w s (.iface T P) W')) := fun W h => by have := Q4.out W _ (i : Int) (by omega) h; rw [hh, hL] at this; exact this
            have D5 : Hid (∀ W, Hid (Tq w s (.iface T P) W) → Calls Tryd.prog 14 #[.iface T P, .int .i64 (i : Int)] W fun e W' => e = .returned (.int .i64 N) ∧ Hid (Tq w s (.iface T P) W')) := fun W h => by have := Q5.out W _ (i : Int) (by omega) h; rw [hh, hN] at this; exact this
            have HE : Hid ((L : Int) = ((nlt s (i + 1 - 1) : Nat) : Int)) := by show (L : Int) = _; rw [Nat.add_sub_cancel, hL]
            rcases ce_back s hi with ⟨c, q, g1, g2, g3, g4, g5⟩ | ⟨g1, g2⟩
            · rw [hN] at g1 g3
              have D6 : Hid (∀ W, Hid (Tq w s (.iface T P) W) → Calls Tryd.prog 15 #[.iface T P, .int .i64 N] W fun e W' => e = .returned (.tuple #[.int .i64 (c : Int), .int .i64 0]) ∧ Hid (Tq w s (.iface T P) W')) := fun W h => by have := Q6.out W _ N (by omega) h; rw [g1] at this; exact this
              have D7 : Hid (∀ W, Hid (Tq w s (.iface T P) W) → Calls Tryd.prog 14 #[.iface T P, .int .i64 (c : Int)] W fun e W' => e = .returned (.int .i64 N) ∧ Hid (Tq w s (.iface T P) W')) := fun W h => by have := Q5.out W _ (c : Int) (by omega) h; rw [g3] at this; exact this
              have D8 : Hid (∀ W, Hid (Tq w s (.iface T P) W) → Calls Tryd.prog 11 #[.string s, .int .i64 (c : Int)] W fun e W' => e = .returned (.int .i64 (q : Int)) ∧ Hid (Tq w s (.iface T P) W')) := fun W h => Q8.out W _ c q g4 h
              clear Q3 Q4 Q5 Q6 Q8 Q10 hf hh hN hL g1 g3 g4
              by_cases cc : c < i
              · go_wp2_with (first | (go_at_call 12; refine (D3.out _ H).mono ?_; clear D3 H; rintro e x0 ⟨rfl, H⟩) | (go_at_call 13; refine (D4.out _ H).mono ?_; clear D4 H; rintro e x1 ⟨rfl, H⟩) | (go_at_call 14; refine (D5.out _ H).mono ?_; clear D5 H; rintro e x2 ⟨rfl, H⟩) | (go_at_call 15; refine (D6.out _ H).mono ?_; clear D6 H; rintro e x3 ⟨rfl, H⟩) | (go_at_call 14; refine (D7.out _ H).mono ?_; clear D7 H; rintro e x4 ⟨rfl, H⟩) | (go_at_call 11; refine (D8.out _ H).mono ?_; clear D8 H; rintro e x5 ⟨rfl, H⟩))
                exact ⟨⟨i + 1, by go_num, by omega, by omega, congrArg (Value.int IntKind.i64) HE.out, H⟩, by simp [intOf]; omega⟩
              · go_wp2_with (first | (go_at_call 12; refine (D3.out _ H).mono ?_; clear D3 H; rintro e x0 ⟨rfl, H⟩) | (go_at_call 13; refine (D4.out _ H).mono ?_; clear D4 H; rintro e x1 ⟨rfl, H⟩) | (go_at_call 14; refine (D5.out _ H).mono ?_; clear D5 H; rintro e x2 ⟨rfl, H⟩) | (go_at_call 15; refine (D6.out _ H).mono ?_; clear D6 H; rintro e x3 ⟨rfl, H⟩) | (go_at_call 14; refine (D7.out _ H).mono ?_; clear D7 H; rintro e x4 ⟨rfl, H⟩))
                exact ⟨⟨i + 1, by go_num, by omega, by omega, congrArg (Value.int IntKind.i64) HE.out, H⟩, by simp [intOf]; omega⟩
            · rw [hN] at g1 g2
              have D6 : Hid (∀ W, Hid (Tq w s (.iface T P) W) → Calls Tryd.prog 15 #[.iface T P, .int .i64 N] W fun e W' => e = .returned (.tuple #[.int .i64 0, .int .i64 1]) ∧ Hid (Tq w s (.iface T P) W')) := fun W h => by have := Q6.out W _ N (by omega) h; rw [g1] at this; exact this
              have D9 : Hid (∀ W, Hid (Tq w s (.iface T P) W) → Calls Tryd.prog 16 #[.string s] W fun e W' => e = .returned (.int .i64 N) ∧ Hid (Tq w s (.iface T P) W')) := fun W h => by have := Q10.out W _ h; rw [← g2] at this; exact this
              clear Q3 Q4 Q5 Q6 Q8 Q10 hf hh hN hL g1 g2
              go_wp2_with (first | (go_at_call 12; refine (D3.out _ H).mono ?_; clear D3 H; rintro e x0 ⟨rfl, H⟩) | (go_at_call 13; refine (D4.out _ H).mono ?_; clear D4 H; rintro e x1 ⟨rfl, H⟩) | (go_at_call 14; refine (D5.out _ H).mono ?_; clear D5 H; rintro e x2 ⟨rfl, H⟩) | (go_at_call 15; refine (D6.out _ H).mono ?_; clear D6 H; rintro e x3 ⟨rfl, H⟩) | (go_at_call 16; refine (D9.out _ H).mono ?_; clear D9 H; rintro e x4 ⟨rfl, H⟩))
              exact ⟨⟨i + 1, by go_num, by omega, by omega, congrArg (Value.int IntKind.i64) HE.out, H⟩, by simp [intOf]; omega⟩
        · have c4' : ¬ (i : Int) < 400 := by omega
          clear Q3 Q4 Q5 Q6 Q8 Q10
          go_wp2
          go_ret
          exact ⟨rfl, H.out.2⟩
      · have ci' : ¬ (i : Int) ≤ (s.size : Int) := by omega
        clear Q3 Q4 Q5 Q6 Q8 Q10
        go_wp2
        go_ret
        exact ⟨rfl, H.out.2⟩
  clear hKr Q3 Q4 Q5 Q6 Q10
  go_loopw [7, 8] (fun t7 t8 wr => ∃ n a : Nat, t8 = .int .i64 n ∧ n ≤ 400 ∧ n ≤ M + 1 ∧ t7 = .int .i64 a ∧ Hid (n ≤ M → fcl s n = ((a : Int), 0)) ∧ Hid (Tq w s (.iface T P) wr)) (fun _ t8 _ => 400 - (intOf t8).toNat)
  case atStart => exact ⟨0, 0, rfl, by omega, by omega, rfl, fun _ => HF0.out, H⟩
  case round =>
    clear H HF0
    obtain ⟨n, a, rfl, hn1, hn2, rfl, HA, H⟩ := hrel
    by_cases c1 : n < 400
    · by_cases c2 : n ≤ M
      · obtain ⟨p, q, b1, b2, b3, b4, b5, b6, b7⟩ := HBK.out n c2
        have hpa : (p : Int) = a := by have := HA.out c2; rw [b1] at this; exact (Prod.mk.inj this).1
        obtain rfl : p = a := by omega
        have D1 : Hid (∀ W, Hid (Tq w s (.iface T P) W) → Calls Tryd.prog 7 #[.iface T P, .int .i64 (n : Int)] W fun e W' => e = .returned (.tuple #[.int .i64 (p : Int), .int .i64 0]) ∧ Hid (Tq w s (.iface T P) W')) := fun W h => by have := Q1.out W _ n (by omega) h; rw [b1] at this; exact this
        have D2 : Hid (∀ W, Hid (Tq w s (.iface T P) W) → Calls Tryd.prog 9 #[.iface T P, .int .i64 (p : Int)] W fun e W' => e = .returned (.int .i64 (n : Int)) ∧ Hid (Tq w s (.iface T P) W')) := fun W h => by have := Q2.out W _ p (by omega) h; rw [b3] at this; exact this
        have D3 : Hid (∀ W, Hid (Tq w s (.iface T P) W) → Calls Tryd.prog 10 #[.string s, .int .i64 (p : Int)] W fun e W' => e = .returned (.bool true) ∧ Hid (Tq w s (.iface T P) W')) := fun W h => by have := Q7.out W _ p b2 h; rw [b4] at this; exact this
        have D4 : Hid (∀ W, Hid (Tq w s (.iface T P) W) → Calls Tryd.prog 11 #[.string s, .int .i64 (p : Int)] W fun e W' => e = .returned (.int .i64 (q : Int)) ∧ Hid (Tq w s (.iface T P) W')) := fun W h => Q8.out W _ p q b5 h
        have HB7 : Hid (n + 1 ≤ M → fcl s ((n + 1 : Nat) : Int) = ((q : Int), 0)) := b7
        clear b1 b3 b4 b5 b7 hpa HA Q1 Q2 Q7 Q8 Q9 HBK HNO
        go_wp2_with (first | (go_at_call 7; refine (D1.out _ H).mono ?_; clear D1 H; rintro e w3 ⟨rfl, H⟩) | (go_at_call 9; refine (D2.out _ H).mono ?_; clear D2 H; rintro e w4 ⟨rfl, H⟩) | (go_at_call 10; refine (D3.out _ H).mono ?_; clear D3 H; rintro e w5 ⟨rfl, H⟩) | (go_at_call 11; refine (D4.out _ H).mono ?_; clear D4 H; rintro e w6 ⟨rfl, H⟩))
        exact ⟨⟨n + 1, q, by go_num, by omega, by omega, rfl, HB7, H⟩, by simp [intOf]; omega⟩
      · obtain rfl : n = M + 1 := by omega
        have D1 : Hid (∀ W, Hid (Tq w s (.iface T P) W) → Calls Tryd.prog 7 #[.iface T P, .int .i64 ((M : Int) + 1)] W fun e W' => e = .returned (.tuple #[.int .i64 0, .int .i64 1]) ∧ Hid (Tq w s (.iface T P) W')) := fun W h => by have := Q1.out W _ ((M + 1 : Nat) : Int) (by omega) h; rw [HNO.out (M + 1) (by omega)] at this; exact this
        have c1' : (M : Int) + 1 < 400 := by omega
        clear HA HBK HNO Q1 Q2 Q7
        go_wp2_with (first | (go_at_call 7; refine (D1.out _ H).mono ?_; clear D1 H; rintro e w3 ⟨rfl, H⟩) | (go_at_call 8; refine (Q9.out _ _ H).mono ?_; clear H; rintro e w4 ⟨rfl, H⟩))
        exact HKR.out _ _ _ _ _ _ _ _ _ _ _ _ _ _ _ _ _ _ _ _ _ _ _ _ _ _ _ _ _ _ _ _ _ _ _ _ _ _ _ _ _ _ _ _ _ _ H
    · have c1' : ¬ (n : Int) < 400 := by omega
      clear HA HBK HNO Q1 Q2 Q7 Q8 Q9
      go_wp2
      exact HKR.out _ _ _ _ _ _ _ _ _ _ _ _ _ _ _ _ _ _ _ _ _ _ _ _ _ _ _ _ _ _ _ _ _ _ _ _ _ _ _ _ _ _ _ _ _ _ H

theorem walk_of {H : Type} {d d1 : DataW H} (a0 : Option Addr) (len cap : Nat) (a1 : Option Addr) (l1 c1 : Nat) (w : World) (hT : Lib.Utf8Tabs 0 1 w) (hlo0 : 0 < w.heap.size) (hlo1 : 1 < w.heap.size) (ss : List ByteArray) (hS : Texts w a0 len ss) (hu : len ≤ Rows.uptoBulk d ∧ ∀ s ∈ ss, s.size ≤ Rows.uptoBulk d) (ps : List Int) (y1 : Wholes w a1 l1 ps) (u1 : l1 ≤ Rows.uptoBulk d1) (hk : Rows.uptoSmall H ([d, d1] ++ []) = true) :
    Calls Tryd.prog 3 #[.slice a0 len cap, .slice a1 l1 c1] w fun e w' => e = .returned (.bool true) ∧ Below w.heap.size w w' := by
  have h : Rows.uptoBulkAll ([d, d1] ++ []) ≤ 1048576 := of_decide_eq_true hk
  simp only [List.append_nil, Rows.uptoBulkAll] at h
  exact walk a0 len cap ss a1 l1 c1 ps w hS (by omega) (fun s hs => by have := hu.2 s hs; omega) y1 (by omega) ⟨hT, hlo0, hlo1⟩
end Go.Proofs.YtiehhafbblbbiabDoor.seekBack
