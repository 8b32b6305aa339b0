/-
  The document's own layer 21: takes, row, Fit: the same frames fit. Conditions: no more than 2^20 in a text and in a row.
-/
import Derived.Test.YtcgnfjcbafmbgaaDoorYListW
import Derived.Test.YtcgnfjcbafmbgaaDoorPFit
namespace Go.Proofs.YtcgnfjcbafmbgaaDoor
open Go.RowKit Go.Shelf Bod Wid
/-- how many cells a text takes -/
def tkN (s : ByteArray) : Nat := if isB s 0 then 1 else if isB s 4 then 2 else 0
theorem clF_ne (s : ByteArray) : ∀ (r : List Nat) (c : Clu) (a : Int), clF s c a r ≠ []
  | [], c, a => by simp [clF]
  | i :: r, c, a => by
    unfold clF
    split
    · exact clF_ne s r _ _
    · simp
theorem cls_bad {c : Int} (h : c < 0) : cls c = 5 := by
  unfold cls
  rw [if_pos (by unfold bad; omega)]
theorem clF_one {s : ByteArray} : ∀ (r : List Nat) (c : Clu) (a : Int) (c' : Clu), clF s c a r = [c'] → ∀ i ∈ r, 0 ≤ ch s i
  | [], _, _, _, _, i, hi => by cases hi
  | i :: r, c, a, c', h, k, hk => by
    unfold clF at h
    by_cases hj : jn a (ch s i) = true
    · rw [if_pos hj] at h
      have h0 : 0 ≤ ch s i := by
        unfold jn at hj
        by_cases e : ch s i = 10
        · omega
        · rw [if_neg e] at hj
          have hc := (of_decide_eq_true hj).1
          by_cases hn : ch s i < 0
          · rw [cls_bad hn] at hc; omega
          · omega
      rcases List.mem_cons.1 hk with rfl | hk
      · exact h0
      · exact clF_one r _ _ c' h k hk
    · rw [if_neg hj] at h
      injection h with h1 h2
      exact absurd h2 (clF_ne s r _ _)
/-- a single cluster that begins with a character that is no bad byte has no bad byte -/
theorem one_all {s : ByteArray} {c : Clu} (h : cl s = [c]) (h0 : 0 ≤ ch s 0) : ∀ i ∈ offs s 0, 0 ≤ ch s i := by
  have hs : 0 < s.size := by
    rcases Nat.eq_zero_or_pos s.size with h1 | h1
    · rw [cl_nil h1] at h; cases h
    · exact h1
  unfold cl at h
  obtain ⟨r, hr⟩ : ∃ r, offs s 0 = 0 :: r := ⟨_, offs_step hs⟩
  rw [hr] at h ⊢
  intro i hi
  rcases List.mem_cons.1 hi with rfl | hi
  · exact h0
  · exact clF_one r _ _ c h i hi
theorem tkN_one {s : ByteArray} {c : Clu} (h : cl s = [c]) : tkN s = if cls (ch s 0) = 0 then 1 else if cls (ch s 0) = 4 then 2 else 0 := by
  unfold tkN isB
  rw [h]
  simp
theorem tkN_no {s : ByteArray} (h : (cl s).length ≠ 1) : tkN s = 0 := by
  have e : ∀ k, isB s k = false := fun k => by
    unfold isB
    split
    · rename_i c hc; rw [hc] at h; exact absurd rfl h
    · rfl
  unfold tkN
  rw [e, e]
  rfl
theorem tkN_B (s : ByteArray) : (tkN s = 1 ↔ isB s 0 = true) ∧ (tkN s = 2 ↔ isB s 4 = true) := by
  unfold tkN
  have : isB s 0 = true → isB s 4 = false := fun h => by
    unfold isB at h ⊢
    split at h
    · rename_i c hc
      have := of_decide_eq_true h
      exact decide_eq_false (by omega)
    · cases h
  cases e0 : isB s 0 with
  | true => rw [this e0]; simp
  | false => cases e4 : isB s 4 <;> simp
theorem own_sl {W : World} {base c n : Nat} {e : TypeId} {v : Value} {xs : List Value} (h : W.ownsRow base e c v n xs) : ∃ a k, v = .slice a n k := by
  rcases h.2 with ⟨h0, h1⟩ | ⟨g, cap, cur, hv, _⟩
  · exact ⟨_, _, by rw [h0, h1]⟩
  · exact ⟨_, _, hv⟩
set_option maxRecDepth 100000 in
set_option maxHeartbeats 1000000 in
theorem rcnt_any (s : ByteArray) (hs : s.size ≤ 2147483648) (w : World) : Calls Tryd.prog 49 #[.string s] w fun e W' => e = .returned (.int .i64 (cl s).length) ∧ Below w.heap.size w W' := by
  have C : Hid (Calls Tryd.prog 62 #[.string s] w fun e W' => ∃ a k, e = .returned (.slice a (cl s).length k) ∧ Hid (Below w.heap.size w W')) := (rlist_any s (by omega) w).mono fun e W' ⟨v, h1, h2, h3⟩ => by
    obtain ⟨a, k, rfl⟩ := own_sl h2
    exact ⟨a, k, h1, h3⟩
  go_enter Tryd.func49, Tryd.ntmps49
  go_wp2_with (go_at_call 62; refine C.out.mono ?_; clear C; rintro e w1 ⟨a, k, rfl, HB⟩)
  go_ret
  exact ⟨rfl, HB.out⟩
set_option maxRecDepth 100000 in
set_option maxHeartbeats 2000000 in
theorem takes_any (s : ByteArray) (hs : s.size ≤ 2147483648) (w : World) : Calls Tryd.prog 38 #[.string s] w fun e W' => e = .returned (.int .i64 (tkN s : Nat)) ∧ Below w.heap.size w W' := by
  have CN : Hid (Calls Tryd.prog 49 #[.string s] w fun e W' => e = .returned (.int .i64 (cl s).length) ∧ Hid (Below w.heap.size w W')) := rcnt_any s hs w
  by_cases h1 : (cl s).length = 1
  · obtain ⟨c, hc⟩ : ∃ c, cl s = [c] := List.length_eq_one_iff.1 h1
    rw [h1] at CN
    have hs0 : 0 < s.size := by
      rcases Nat.eq_zero_or_pos s.size with h | h
      · rw [cl_nil h] at hc; cases hc
      · exact h
    obtain ⟨r, hr⟩ : ∃ r, offs s 0 = 0 :: r := ⟨_, offs_step hs0⟩
    obtain ⟨N, hN⟩ : ∃ N, (offs s 0).length = N := ⟨_, rfl⟩
    have hNs : N ≤ 2147483648 := by have := offs_len_le s; omega
    have hN0 : 0 < N := by rw [← hN, hr]; exact Nat.succ_pos _
    have CU : Hid (∀ X, Below w.heap.size w X → Calls Tryd.prog 50 #[.string s] X fun e W' => ∃ g k, e = .returned (.slice (some ⟨g, 0, none⟩) N k) ∧ Hid ((∀ (i : Nat) x, (offs s 0)[i]? = some x → ∀ Y, Below W'.heap.size W' Y → Y.cell? ⟨g, i * 2, none⟩ = some (.int .i32 (ch s x))) ∧ Below X.heap.size X W')) := fun X hX => (runits_any s (by omega) X).mono fun e W' ⟨v, e1, e2, e3⟩ => by
      rw [hN] at e2
      obtain ⟨g, k, rfl, -, hg⟩ := e2.form hN0
      refine ⟨g, k, e1, fun i x hi Y hY => ?_, e3⟩
      have hlt := (List.getElem?_eq_some_iff.1 hi).1
      have := (e2.cellAt (i * 2) (by omega)).trans (ucells_get s _ i x hi).1
      exact (hY.cell (p := ⟨g, i * 2, none⟩) hg).trans this
    have hcl : Hid (∀ X, Calls Tryd.prog 51 #[.int .i32 (ch s 0)] X fun e w' => e = .returned (.int .i64 (cls (ch s 0))) ∧ Hid (Below X.heap.size X w')) := fun X => rclass_any (ch s 0) X
    have h00 : (offs s 0)[0]? = some 0 := by rw [hr]; rfl
    have hv := tkN_one hc
    by_cases hneg : ch s 0 < 0
    · have h5 := cls_bad hneg
      have h6 : (if cls (ch s 0) = 0 then 1 else if cls (ch s 0) = 4 then 2 else 0) = 0 := by rw [h5]; rfl
      rw [hv, h6]
      have hN1 : (0 : Int) < (N : Int) := by omega
      clear hcl hv h5 h6 hr hN hc
      go_enter Tryd.func38, Tryd.ntmps38
      go_wp2_with (first
        | (go_at_call 49; refine CN.out.mono ?_; clear CN; rintro e w1 ⟨rfl, HB⟩)
        | (go_at_call 50; refine (CU.out _ HB.out).mono ?_; clear CU; rintro e w2 ⟨g, k, rfl, HU⟩))
      go_loopw [4] (fun t wr => t = .int .i64 0 ∧ Hid (Below w2.heap.size w2 wr)) (fun _ _ => 0)
      case atStart => exact ⟨rfl, Below.refl _ w2⟩
      case round =>
        obtain ⟨rfl, HW⟩ := hrel
        have c0 := HU.out.1 0 0 h00 wr HW.out
        rw [Nat.zero_mul] at c0
        go_wp2
        go_ret
        exact ⟨rfl, HB.out.trans ((HU.out.2.trans (HW.out.mono HU.out.2.size)).mono HB.out.size)⟩
    · have hall := one_all hc (by omega)
      rw [hv]
      have HN : Hid ((offs s 0).length = N ∧ N ≤ 2147483648 ∧ 0 < N) := ⟨hN, hNs, hN0⟩
      obtain ⟨q, hq⟩ : ∃ q, cls (ch s 0) = q := ⟨_, rfl⟩
      rw [hq] at hcl ⊢
      have hN1 : (0 : Int) < (N : Int) := by omega
      clear hv hr hN hc hq
      go_enter Tryd.func38, Tryd.ntmps38
      go_wp2_with (first
        | (go_at_call 49; refine CN.out.mono ?_; clear CN; rintro e w1 ⟨rfl, HB⟩)
        | (go_at_call 50; refine (CU.out _ HB.out).mono ?_; clear CU; rintro e w2 ⟨g, k, rfl, HU⟩))
      have HB2 : Hid (Below w.heap.size w w2) := HB.out.trans (HU.out.2.mono HB.out.size)
      go_loopw [4] (fun t wr => ∃ i : Nat, i ≤ N ∧ t = .int .i64 i ∧ Hid (Below w2.heap.size w2 wr)) (fun t _ => N - (intOf t).toNat)
      case atStart => exact ⟨0, Nat.zero_le _, rfl, Below.refl _ w2⟩
      case round =>
        obtain ⟨i, hi, rfl, HW⟩ := hrel
        by_cases hlt : i < N
        · obtain ⟨x, hx⟩ : ∃ x, (offs s 0)[i]? = some x := ⟨(offs s 0)[i]'(by rw [HN.out.1]; exact hlt), List.getElem?_eq_getElem _⟩
          have c0 := HU.out.1 i x hx wr HW.out
          have hx0 := hall x (List.mem_of_getElem? hx)
          have hx1 : ¬ ch s x < 0 := by omega
          have hlt' : (i : Int) < (N : Int) := by omega
          have HLT : Hid (i < N ∧ N ≤ 2147483648) := ⟨hlt, HN.out.2.1⟩
          generalize ch s x = cx at c0 hx1
          clear hx hx0 hall hlt
          go_wp2
          exact ⟨⟨i + 1, by have := HLT.out; omega, by first | rw [w64t (by have := HLT.out; omega)] | (simp; done), HW⟩, by have := HLT.out; first | (rw [w64t (by omega)]; simp [intOf]; omega) | (simp [intOf]; omega)⟩
        · obtain rfl : i = N := by omega
          have hd : ¬ (i : Int) < (i : Int) := by omega
          have c0 := HU.out.1 0 0 h00 wr HW.out
          rw [Nat.zero_mul] at c0
          by_cases e0 : q = 0
          · subst e0
            go_wp2_with (go_at_call 51; refine (hcl.out _).mono ?_; rintro e w3 ⟨rfl, HB3⟩)
            go_ret
            exact ⟨rfl, HB2.out.trans ((HW.out.trans (HB3.out.mono HW.out.size)).mono HB2.out.size)⟩
          · by_cases e4 : q = 4
            · subst e4
              go_wp2_with (go_at_call 51; refine (hcl.out _).mono ?_; rintro e w3 ⟨rfl, HB3⟩)
              go_ret
              exact ⟨rfl, HB2.out.trans ((HW.out.trans (HB3.out.mono HW.out.size)).mono HB2.out.size)⟩
            · have e1 : (q == 0) = false := by simp [e0]
              have e2 : (q == 4) = false := by simp [e4]
              have e3 : (if q = 0 then 1 else if q = 4 then 2 else 0) = 0 := by rw [if_neg e0, if_neg e4]
              go_wp2_with (go_at_call 51; refine (hcl.out _).mono ?_; rintro e w3 ⟨rfl, HB3⟩)
              go_ret
              exact ⟨by first | rfl | (rw [e3]; rfl) | simp [e0, e4], HB2.out.trans ((HW.out.trans (HB3.out.mono HW.out.size)).mono HB2.out.size)⟩
  · rw [tkN_no h1]
    have h2 : ¬ (((cl s).length : Int) = 1) := by omega
    have h3 : (((cl s).length : Int) == 1) = false := by simp; omega
    generalize (cl s).length = n at CN h1 h2 h3
    go_enter Tryd.func38, Tryd.ntmps38
    go_wp2_with (go_at_call 49; refine CN.out.mono ?_; clear CN; rintro e w1 ⟨rfl, HB⟩)
    go_ret
    exact ⟨rfl, HB.out⟩
/-- is a cell of a row as it must be? p: the cell ahead is wide; nx: the cell behind -/
def cellOk (p : Bool) (c : Cel) (nx : Option Cel) : Bool :=
  if c.sp = 1 then isB c.tx 0
  else if c.sp = 2 then isB c.tx 4 && (match nx with | some d => decide (d.sp = 0) | none => false)
  else if c.sp = 0 then decide (c.tx = ⟨#[]⟩) && p else false
def okL : Bool → List Cel → Bool
  | _, [] => true
  | p, c :: r => cellOk p c r.head? && okL (decide (c.sp = 2)) r
theorem okL_fit : ∀ l, okL false l = fitL l
  | [] => rfl
  | [c] => by
    unfold okL okL cellOk fitL oneC
    by_cases h1 : c.sp = 1
    · simp [h1]
    · by_cases h2 : c.sp = 2
      · simp [h2]
      · simp [h1, h2]
  | c :: d :: r => by
    have h1 := okL_fit (d :: r)
    have h2 := okL_fit r
    unfold fitL okL
    by_cases c1 : c.sp = 1
    · rw [show decide (c.sp = 2) = false by simp [c1], h1]
      unfold cellOk oneC twoC
      simp only [c1, if_true, decide_true, Bool.true_and]
      cases isB c.tx 0 <;> simp
    · by_cases c2 : c.sp = 2
      · rw [show decide (c.sp = 2) = true by simp [c2]]
        unfold okL cellOk oneC twoC
        by_cases d0 : d.sp = 0
        · rw [show decide (d.sp = 2) = false by simp [d0], h2]
          simp only [c2, d0, if_true, List.head?_cons, decide_true, Bool.and_true, Bool.true_and]
          cases isB c.tx 4 <;> by_cases e : d.tx = ⟨#[]⟩ <;> simp [e]
        · simp [c2, d0]
      · by_cases c0 : c.sp = 0
        · unfold cellOk oneC twoC
          simp [c0]
        · unfold cellOk oneC twoC
          simp [c0, c1, c2]
def lastT (l : List Cel) : Bool := match l.getLast? with
  | some c => !decide (c.tx = ⟨#[32]⟩)
  | none => true
theorem okL_last : ∀ (l : List Cel) (p : Bool) (c : Cel), okL p l = true → l.getLast? = some c → c.tx = ⟨#[32]⟩ → c.sp = 1
  | [], _, _, _, h, _ => by simp at h
  | [x], p, c, h, hl, ht => by
    obtain rfl : x = c := by simpa using hl
    unfold okL okL cellOk at h
    by_cases h1 : x.sp = 1
    · exact h1
    · by_cases h2 : x.sp = 2
      · simp [h2] at h
      · by_cases h0 : x.sp = 0
        · simp [h0] at h
          rw [ht] at h
          exact absurd h.1 (by decide)
        · simp [h0, h1, h2] at h
  | x :: d :: r, p, c, h, hl, ht => by
    rw [okL, Bool.and_eq_true] at h
    exact okL_last (d :: r) _ c h.2 (by rw [List.getLast?_cons_cons] at hl; exact hl) ht
theorem fitR_eq (W : Int) (l : List Cel) : fitR W l = (decide ((l.length : Int) ≤ W) && (okL false l && lastT l)) := by
  unfold fitR
  rw [← okL_fit]
  cases ho : okL false l with
  | false => simp
  | true =>
    have : lastT l = !lastE l := by
      unfold lastT lastE
      cases hl : l.getLast? with
      | none => rfl
      | some c =>
        unfold blkE
        by_cases ht : c.tx = ⟨#[32]⟩
        · simp [ht, okL_last l false c ho hl ht]
        · simp [ht]
    rw [this]
    simp
/-- is the cell ahead of number i wide? -/
def pvW (l : List Cel) : Nat → Bool
  | 0 => false
  | i + 1 => match l[i]? with
    | some c => decide (c.sp = 2)
    | none => false
theorem okL_at {l : List Cel} {i : Nat} {c : Cel} (h : l[i]? = some c) : okL (pvW l i) (l.drop i) = (cellOk (pvW l i) c l[i + 1]? && okL (pvW l (i + 1)) (l.drop (i + 1))) := by
  have hlt := (List.getElem?_eq_some_iff.1 h).1
  have e : l.drop i = c :: l.drop (i + 1) := by
    rw [List.drop_eq_getElem_cons hlt]
    have := (List.getElem?_eq_some_iff.1 h).2
    rw [this]
  have e2 : (l.drop (i + 1)).head? = l[i + 1]? := by rw [List.head?_drop]
  have e3 : pvW l (i + 1) = decide (c.sp = 2) := by show (match l[i]? with | some c => decide (c.sp = 2) | none => false) = _; rw [h]
  rw [e, okL, e2, e3]
end Go.Proofs.YtcgnfjcbafmbgaaDoor
