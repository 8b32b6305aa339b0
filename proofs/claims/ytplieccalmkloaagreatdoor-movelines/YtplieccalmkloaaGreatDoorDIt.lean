/-
  Package lines' iterator behind Lines: the lines' numbers and spans, one behind the other. Conditions: those of each theorem.
-/
import Derived.Test.YtplieccalmkloaaGreatDoorPkDB
import Derived.Test.YtplieccalmkloaaGreatDoorPkX
namespace Go.Proofs.YtplieccalmkloaaGreatDoor.Sto
open Go.RowKit Go.Shelf Bod Wid
attribute [local go_sem] Oper.semAt_some

theorem isB_ex {s : ByteArray} {a : Nat} : ∀ d : Nat, a + d ≤ s.size → ∃ r, IsB s a (a + d) 1 r
  | 0, _ => ⟨none, by show cn s a (a + 0) < 1; rw [Nat.add_zero, cn_self]; omega⟩
  | d + 1, h => by
    obtain ⟨r, hr⟩ := isB_ex (s := s) (a := a) d (by omega)
    cases r with
    | some p =>
      obtain ⟨h1, h2, h3, h4⟩ := hr
      exact ⟨some p, h1, by omega, h3, h4⟩
    | none =>
      have h0 : cn s a (a + d) < 1 := hr
      have e := cn_add (s := s) (a := a) (b := a + d) (c := a + d + 1) (by omega) (by omega)
      have e1 := cn_one (s := s) (i := a + d) (by omega)
      by_cases hb : byt s (a + d) = 10
      · rw [if_pos hb] at e1
        exact ⟨some (a + d + 1), by omega, by omega, hb, by omega⟩
      · rw [if_neg hb] at e1
        exact ⟨none, by show cn s a (a + d + 1) < 1; omega⟩
theorem isB_ex' {s : ByteArray} {a : Nat} (h : a ≤ s.size) : ∃ r, IsB s a s.size 1 r := by
  have := isB_ex (s := s) (a := a) (s.size - a) (by omega)
  rw [show a + (s.size - a) = s.size by omega] at this
  exact this
theorem lns_go {s : ByteArray} {a : Nat} : ∀ (d : Nat) (ys : List (Nat × Nat)) (p : Nat), s.size - p ≤ d → Lns s a ys (some p) → ∃ zs, Lns s a zs none
  | d, ys, p, hd, h => by
    have hp := (h.len.2 p rfl).2
    obtain ⟨r, hr⟩ := isB_ex' hp
    cases r with
    | none => exact ⟨_, Lns.more h hr⟩
    | some q =>
      have h1 : p < q := hr.1
      have h2 : q ≤ s.size := hr.2.1
      cases d with
      | zero => omega
      | succ d => exact lns_go d _ q (by omega) (Lns.more h hr)
theorem lns_ex (s : ByteArray) : ∃ zs, Lns s 0 zs none := by
  obtain ⟨r, hr⟩ := isB_ex' (s := s) (Nat.zero_le _)
  cases r with
  | none => exact ⟨_, Lns.one hr⟩
  | some q => exact lns_go _ _ q (Nat.le_refl _) (Lns.one hr)
theorem Lns.ne {s : ByteArray} {a : Nat} {ys : List (Nat × Nat)} {r : Option Nat} (h : Lns s a ys r) : ys ≠ [] := by
  cases h <;> simp
theorem Lns.pre {s : ByteArray} {a : Nat} {ys : List (Nat × Nat)} {r : Option Nat} (h : Lns s a ys r) : ∀ {zs : List (Nat × Nat)} {q : Option Nat}, Lns s a zs q → ys.length = zs.length → ys = zs ∧ r = q := by
  induction h with
  | one h1 =>
    intro zs q h2 hl
    cases h2 with
    | one h3 => rw [h1.uniq (Nat.le_refl _) h3]; exact ⟨rfl, rfl⟩
    | more h3 h4 =>
      have := List.length_pos_iff.2 h3.ne
      simp only [List.length_append, List.length_cons, List.length_nil] at hl
      omega
  | more h1 h2 ih =>
    intro zs q h3 hl
    cases h3 with
    | one h4 =>
      have := List.length_pos_iff.2 h1.ne
      simp only [List.length_append, List.length_cons, List.length_nil] at hl
      omega
    | more h4 h5 =>
      obtain ⟨e1, e2⟩ := ih h4 (by simpa using hl)
      cases e2
      rw [h2.uniq (Nat.le_refl _) h5, e1]
      exact ⟨rfl, rfl⟩
theorem Lns.short {s : ByteArray} {a : Nat} {zs : List (Nat × Nat)} {q : Option Nat} (h : Lns s a zs q) : ∀ k, 1 ≤ k → k < zs.length → ∃ p, Lns s a (zs.take k) (some p) := by
  induction h with
  | one h1 => intro k h2 h3; simp at h3; omega
  | @more ys p r h1 h2 ih =>
    intro k h3 h4
    simp only [List.length_append, List.length_cons, List.length_nil] at h4
    by_cases e : k = ys.length
    · exact ⟨p, by rw [e, List.take_left]; exact h1⟩
    · obtain ⟨p', hp⟩ := ih k h3 (by omega)
      exact ⟨p', by rw [List.take_append_of_le_length (by omega)]; exact hp⟩
theorem Lns.uniq {s : ByteArray} {a : Nat} {ys zs : List (Nat × Nat)} (h : Lns s a ys none) (k : Lns s a zs none) : ys = zs := by
  have key : ∀ {ys zs : List (Nat × Nat)}, Lns s a ys none → Lns s a zs none → ¬ ys.length < zs.length := fun {ys zs} h k hlt => by
    obtain ⟨p, hp⟩ := k.short ys.length (List.length_pos_iff.2 h.ne) hlt
    have := (h.pre hp (by rw [List.length_take]; omega)).2
    cases this
  have h1 := key h k
  have h2 := key k h
  exact (h.pre k (by omega)).1
/-- the spans with their numbers -/
def num (ys : List (Nat × Nat)) : List (Nat × Nat × Nat) := (List.range ys.length).zip ys
theorem num_len (ys : List (Nat × Nat)) : (num ys).length = ys.length := by simp [num]
theorem num_get {ys : List (Nat × Nat)} {i : Nat} {x : Nat × Nat} (h : ys[i]? = some x) : (num ys)[i]? = some (i, x) := by
  have hl := (List.getElem?_eq_some_iff.1 h).1
  unfold num
  rw [List.getElem?_zip_eq_some]
  exact ⟨by rw [List.getElem?_range hl], h⟩
/-- what the iterator hands yield -/
abbrev encN (x : Nat × Nat × Nat) : Array Value := #[.int .i64 (x.1 : Int), .agg #[.int .i64 (x.2.1 : Int), .int .i64 (x.2.2 : Int)]]
theorem spl_get {ys : List (Nat × Nat)} : ∀ {i : Nat} {x : Nat × Nat}, ys[i]? = some x → (spl ys)[i * 2]? = some (.int .i64 (x.1 : Int)) ∧ (spl ys)[i * 2 + 1]? = some (.int .i64 (x.2 : Int)) := by
  induction ys with
  | nil => intro i x h; simp at h
  | cons y ys ih =>
    intro i x h
    have e : spl (y :: ys) = .int .i64 (y.1 : Int) :: .int .i64 (y.2 : Int) :: spl ys := by simp [spl]
    rw [e]
    cases i with
    | zero => simp at h; subst h; simp
    | succ i =>
      rw [show (i + 1) * 2 = i * 2 + 1 + 1 by omega]
      simpa using ih (by simpa using h)
set_option maxRecDepth 100000 in
set_option maxHeartbeats 2000000 in
theorem lines_seq (n : Nat) (hn : 1 ≤ n) (Bt B : Nat) (M : Nat → Obj → Prop) {t : Value} {s : ByteArray} (hMP : ∀ k vs fz, B ≤ k → ¬ M k (.cells vs 50 fz)) (w : World) (hBt : w.cell? ⟨Bt, 0, none⟩ = some t) (h : Tl w t s) (ys : List (Nat × Nat)) (hy : Lns s 0 ys none) :
    SeqC Fence.wide n Tryz.prog 37 #[.pointer (some ⟨Bt, 0, none⟩)] encN (KpT M) (fun xs => xs = num ys) (fun pre => pre <+: num ys) (fun pre x => pre ++ [x] <+: num ys) 0 B w := by
  intro l J Jx W hWB hW hJ _ hY h0
  have hBt : W.cell? ⟨Bt, 0, none⟩ = some t := (KpT.of_below (M := fun _ _ => False) (W := w) hW).cell (fun _ _ h => h) hBt
  obtain ⟨t', h1, h2⟩ := (h.below hW).ex
  obtain ⟨T, u, rfl⟩ := h1.iface
  have hs := h.le
  have hyl : ys.length ≤ 1073741825 := by have := hy.len.1; omega
  have CL : Hid (Calls Tryz.prog 38 #[t] W fun e W' => e = .returned (.agg #[.iface T u, .int .i64 s.size]) ∧ Hid (Below W.heap.size W W')) := h2 W (Below.refl _ _)
  have CS : Hid (∀ X, Below W.heap.size W X → Calls Tryz.prog 39 #[.agg #[.iface T u, .int .i64 s.size]] X fun e W' => ∃ (g cap : Nat), e = .returned (.slice (some ⟨g, 0, none⟩) ys.length cap) ∧ Hid (W'.ownsRow W.heap.size 50 2 (.slice (some ⟨g, 0, none⟩) ys.length cap) ys.length (spl ys) ∧ Below W.heap.size W W')) := fun X hX => (spans_any' (h1.below hX) hs).mono fun e W' q => by
    obtain ⟨v, zs, rfl, q1, q2, q3⟩ := q
    cases q1.uniq hy
    obtain ⟨g, cap, rfl⟩ : ∃ g cap, v = .slice (some ⟨g, 0, none⟩) ys.length cap := by
      rcases q2.2 with ⟨_, e⟩ | ⟨g, cap, cur, e, _⟩
      · exact absurd (List.length_eq_zero_iff.1 e) hy.ne
      · exact ⟨g, cap, e⟩
    exact ⟨g, cap, rfl, row_lower q2 hX.size, Below.on hX q3⟩
  have HY : Hid (∀ pre x W1, J pre W1 → B + 0 ≤ W1.heap.size → pre ++ [x] <+: num ys → YieldAt Fence.wide (n - 1) Tryz.prog l (encN x) W1 fun e W' => KeepsFrom B W1 W' ∧ ((e = .returned (.bool true) ∧ J (pre ++ [x]) W' ∧ KpT M W1 W') ∨ (e = .returned (.bool false) ∧ Jx (pre ++ [x]) W'))) := hY
  have HWB : Hid (W.heap.size = B) := hWB
  have HJ : Hid (Ab B B (B + 0) J ∧ J [] W) := ⟨hJ, h0⟩
  generalize s.size = m at CL CS hs
  clear hWB hY hJ h0 h h1 h2 hW
  refine callsIn_of_wp Tryz.func37 rfl trivial ?_ rfl
  simp only [Tryz.ntmps37, List.size_toArray, List.length_cons, List.length_nil, Nat.reduceAdd, Nat.reduceSub, Array.replicate_succ, Array.replicate_zero, List.push_toArray, List.append_toArray, List.nil_append, List.cons_append]
  gi_wp2_with (first
    | (refine ⟨trivial, ?_⟩; gi_at_call 38; refine (callsIn_wide.2 CL.out).mono ?_; clear CL; rintro e w1 ⟨rfl, H1⟩)
    | (refine ⟨trivial, ?_⟩; gi_at_call 39; refine (callsIn_wide.2 (CS.out _ H1.out)).mono ?_; clear CS; rintro e w2 ⟨g, cap, rfl, H2⟩))
  obtain ⟨cur, hg1, hg2, hg3⟩ : ∃ cur, W.heap.size ≤ g ∧ w2.heap[g]? = some (.cells cur 50 (0, 0)) ∧ cur.toList.take (ys.length * 2) = spl ys := by
    rcases H2.out.1.2 with ⟨e, _⟩ | ⟨g', cap', cur, e, k1, k2, _, _, _, k3⟩
    · cases e
    · cases e; exact ⟨cur, k1, k2, k3⟩
  have HC : Hid (∀ X (i : Nat) (x : Nat × Nat), KpT M w2 X → ys[i]? = some x → X.cell? ⟨g, i * 2, none⟩ = some (.int .i64 (x.1 : Int)) ∧ X.cell? ⟨g, i * 2 + 1, none⟩ = some (.int .i64 (x.2 : Int))) := fun X i x hX hx => by
    have hl := (List.getElem?_eq_some_iff.1 hx).1
    obtain ⟨e1, e2⟩ := spl_get hx
    rw [← hg3, List.getElem?_take_of_lt (by omega)] at e1 e2
    have kk : ∀ o, w2.heap[g]? = some o → ¬ M g o := fun o ho => by rw [hg2] at ho; cases ho; exact hMP _ _ _ (by have := HWB.out; omega)
    exact ⟨hX.cell kk (by simpa [World.cell?, hg2] using e1), hX.cell kk (by simpa [World.cell?, hg2] using e2)⟩
  have HJ2 : Hid (J [] w2) := HJ.out.1.grow HJ.out.2 (grown_of_below H2.out.2)
  have HZ : Hid (B ≤ w2.heap.size) := by show B ≤ w2.heap.size; have := H2.out.2.size; have := HWB.out; omega
  clear hg1 hg2 hg3 H1 H2
  gi_loopw [9] (fun t9 wr => ∃ i : Nat, t9 = .int .i64 i ∧ i ≤ ys.length ∧ Hid (J ((num ys).take i) wr ∧ KpT M w2 wr)) (fun t9 _ => ys.length - (intOf t9).toNat)
  case atStart => exact ⟨0, rfl, Nat.zero_le _, HJ2.out, KpT.refl _ _⟩
  case round =>
    obtain ⟨i, rfl, hi, HS⟩ := hrel
    by_cases hlt : i < ys.length
    · have hlt' : (i : Int) < (ys.length : Int) := by omega
      obtain ⟨⟨x, y⟩, hx⟩ : ∃ x, ys[i]? = some x := ⟨_, List.getElem?_eq_getElem hlt⟩
      obtain ⟨c0, c1⟩ := HC.out wr i _ HS.out.2 hx
      have ht : (num ys).take (i + 1) = (num ys).take i ++ [(i, x, y)] := by rw [List.take_add_one, num_get hx]; rfl
      have hnx : (num ys).take i ++ [(i, x, y)] <+: num ys := by rw [← ht]; exact List.take_prefix _ _
      have hsz := HS.out.2.1
      obtain ⟨fn, tmps, assign, body, hyy, hR⟩ : YieldAt Fence.wide (n - 1) Tryz.prog l (encN (i, x, y)) (wr.alloc (.cells #[.int .i64 (x : Int), .int .i64 (y : Int)] 50)) fun e W' => (e = .returned (.bool true) ∧ J ((num ys).take (i + 1)) W' ∧ KpT M (wr.alloc (.cells #[.int .i64 (x : Int), .int .i64 (y : Int)] 50)) W') ∨ (e = .returned (.bool false) ∧ Jx ((num ys).take (i + 1)) W') := by
        rw [ht]
        exact (HY.out ((num ys).take i) (i, x, y) _ (HJ.out.1.alloc _ HS.out.1) (by have := HZ.out; simp; omega) hnx).mono fun _ _ h => h.2
      dsimp only [encN] at hyy
      have HNX : Hid ((num ys).take (i + 1) <+: num ys) := List.take_prefix _ _
      clear ht hnx hx
      gi_wp2
      refine hR.mono ?_
      rintro e W3 (⟨rfl, hJ3, hk3⟩ | ⟨rfl, hJx3⟩)
      · have HK3 : Hid (J ((num ys).take (i + 1)) W3 ∧ KpT M w2 W3) := ⟨hJ3, HS.out.2.trans ((KpT.of_below ((Below.refl _ wr).alloc (Nat.le_refl _) _)).trans hk3)⟩
        clear hJ3 hk3
        gi_wp2
        go_roundw
        case rel => exact ⟨i + 1, by go_num, by omega, HK3.out⟩
        case measure => simp [intOf]; omega
      · have HJ3 : Hid (Jx ((num ys).take (i + 1)) W3) := hJx3
        clear hJx3
        gi_wp2
        refine bodyPost_ret (results_none rfl _ _ _) rfl ?_
        exact ⟨⟨_, rfl⟩, .inr ⟨_, HNX.out, HJ3.out⟩⟩
    · have hlt' : ¬ (i : Int) < (ys.length : Int) := by omega
      gi_wp2
      go_end0
      have hJe := HS.out.1
      rw [List.take_of_length_le (by rw [num_len]; omega)] at hJe
      exact ⟨⟨_, rfl⟩, .inl (by first | exact hJe | exact ⟨_, rfl, hJe⟩)⟩
end Go.Proofs.YtplieccalmkloaaGreatDoor.Sto
