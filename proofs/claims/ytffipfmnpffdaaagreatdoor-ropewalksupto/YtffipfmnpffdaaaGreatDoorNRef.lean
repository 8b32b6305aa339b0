/-
  The walks of the document's own head, tail and Measure of package metric, and of its Count of units: what MMath tells. Conditions: the text is so short that its lists can be made.
-/
import Derived.Test.YtffipfmnpffdaaaGreatDoorPkYL
import Derived.Test.YtffipfmnpffdaaaGreatDoorCRd
import Derived.Test.YtffipfmnpffdaaaGreatDoorMMath
namespace Go.Proofs.YtffipfmnpffdaaaGreatDoor
open Go.RowKit Bod Wid

/-- a summary as a value -/
abbrev scs (m : Sum) : Array Value := #[.int .i64 m.by', .int .i64 m.un, .int .i64 m.cl, .int .i64 m.ce, .int .i64 m.nl, .string m.hd, .string m.tl]
abbrev sv (m : Sum) : Value := .agg (scs m)
def sm0 : Sum := ⟨0, 0, 0, 0, 0, ⟨#[]⟩, ⟨#[]⟩⟩
theorem box7 {W : World} {b : Nat} {v0 v1 v2 v3 v4 v5 v6 : Value} {t : TypeId} (h : W.heap[b]? = some (.cells #[v0, v1, v2, v3, v4, v5, v6] t (0, 0))) :
    (W.cell? ⟨b, 0, none⟩ = some v0 ∧ W.cell? ⟨b, 1, none⟩ = some v1 ∧ W.cell? ⟨b, 2, none⟩ = some v2 ∧ W.cell? ⟨b, 3, none⟩ = some v3 ∧ W.cell? ⟨b, 4, none⟩ = some v4 ∧ W.cell? ⟨b, 5, none⟩ = some v5 ∧ W.cell? ⟨b, 6, none⟩ = some v6) ∧
    W.frozen? ⟨b, 0, none⟩ = false ∧ W.frozen? ⟨b, 1, none⟩ = false ∧ W.frozen? ⟨b, 2, none⟩ = false ∧ W.frozen? ⟨b, 3, none⟩ = false ∧ W.frozen? ⟨b, 4, none⟩ = false ∧ W.frozen? ⟨b, 5, none⟩ = false ∧ W.frozen? ⟨b, 6, none⟩ = false := by
  simp [World.cell?, World.frozen?, h]

set_option maxHeartbeats 1000000 in
theorem rhead_any (s : ByteArray) (w : World) : Calls Tryz.prog 135 #[.string s] w fun e w' => e = .returned (.string (hd s)) ∧ w = w' := by
  unfold hd
  by_cases h : 16 < s.size
  · rw [if_pos h]
    go_enter Tryz.func135, Tryz.ntmps135
    go_wp2
    go_ret
    exact ⟨rfl, rfl⟩
  · rw [if_neg h]
    go_enter Tryz.func135, Tryz.ntmps135
    go_wp2
    go_ret
    exact ⟨rfl, rfl⟩
set_option maxHeartbeats 1000000 in
theorem rtail_any (s : ByteArray) (hs : s.size ≤ maxLen) (w : World) : Calls Tryz.prog 136 #[.string s] w fun e w' => e = .returned (.string (tl s)) ∧ w = w' := by
  unfold maxLen at hs
  unfold tl
  by_cases h : 16 < s.size
  · rw [if_pos h]
    go_enter Tryz.func136, Tryz.ntmps136
    go_wp2
    go_ret
    exact ⟨rfl, rfl⟩
  · rw [if_neg h]
    go_enter Tryz.func136, Tryz.ntmps136
    go_wp2
    go_ret
    exact ⟨rfl, rfl⟩
theorem rucount_any (s : ByteArray) (hs : s.size * 16 ≤ 140737488355328) (w : World) :
    Calls Tryz.prog 137 #[.string s] w fun e W' => e = .returned (.int .i64 (kU.of s)) ∧ Below w.heap.size w W' := by
  rw [kU_of]
  have cL : Calls Tryz.prog 171 #[.string s] w fun e W' => ∃ a cap, e = .returned (.slice a (offs s 0).length cap) ∧ Below w.heap.size w W' := (runits_any s hs w).mono fun _ _ ⟨v, h1, h2, h3⟩ => by
    rcases h2.2 with ⟨h0, h4⟩ | ⟨g, cap, cur, hv, _⟩
    · exact ⟨none, 0, by rw [h1, h0, h4], h3⟩
    · exact ⟨_, cap, by rw [h1, hv], h3⟩
  go_enter Tryz.func137, Tryz.ntmps137
  go_wp2_with (go_at_call 171; refine cL.mono ?_; clear cL; rintro e w1 ⟨a, cap, rfl, hb1⟩)
  go_ret
  exact ⟨rfl, hb1⟩

/-- what lies where: the result's box, the summary's own, the list -/
structure ME (w : World) (l : List Clu) (lv : Value) (N : Nat) (m : Sum) (W : World) : Prop where
  res : W.heap[w.heap.size]? = some (.cells (scs sm0) 106 (0, 0))
  box : W.heap[w.heap.size + 1]? = some (.cells (scs m) 106 (0, 0))
  row : W.ownsRow (w.heap.size + 2) 157 4 lv N (ccl l)
  bel : Below w.heap.size w W
theorem ME.drew {w : World} {l : List Clu} {lv : Value} {N : Nat} {m : Sum} {W : World} (h : ME w l lv N m W) (q : Nat) : ME w l lv N m (W.drewN q) := ⟨h.res, h.box, ⟨h.row.1, h.row.2⟩, ⟨h.bel.os, h.bel.tape, h.bel.output, h.bel.size, h.bel.block⟩⟩
theorem ME.drew1 {w : World} {l : List Clu} {lv : Value} {N : Nat} {m : Sum} {W : World} (h : ME w l lv N m W) : ME w l lv N m W.drew := ⟨h.res, h.box, ⟨h.row.1, h.row.2⟩, ⟨h.bel.os, h.bel.tape, h.bel.output, h.bel.size, h.bel.block⟩⟩
theorem ME.set {w : World} {l : List Clu} {lv : Value} {N : Nat} {m : Sum} {W : World} (h : ME w l lv N m W) (m' : Sum) (i : Nat) (v : Value) (hv : (scs m).setIfInBounds i v = scs m') : ME w l lv N m' (W.setCell ⟨w.heap.size + 1, i, none⟩ v) := by
  have hg := gcell W (w.heap.size + 1) i v
  refine ⟨(hg.block _ (Array.getElem?_eq_some_iff.1 h.res).1 (fun e => by have := Option.some.inj e; omega)).trans h.res, by rw [← hv]; exact set1 v h.box, h.row.kept hg ?_, h.bel.grown hg h.bel.size (fun j e => by cases e; omega)⟩
  cases hb : lv.ownBlock with
  | none => exact .inl rfl
  | some g => exact .inr fun e => by cases e; have := (h.row.lt _ hb).1; omega

theorem sumN_take' (l : List Clu) (k : Nat) (c : Clu) (h : l[k]? = some c) : sumN (l.take (k + 1)) = sumN (l.take k) + c.n := by
  rw [List.take_add_one, h, sumN_app]
  simp [sumN]
theorem count_take (s : ByteArray) (k : Nat) (h : k < s.size) : (s.data.toList.take (k + 1)).countP (· == 10) = (s.data.toList.take k).countP (· == 10) + if s[k] = 10 then 1 else 0 := by
  have e : s.data.toList[k]? = some s[k] := by
    rw [ByteArray.getElem_eq_getElem_data]
    simp
  rw [List.take_add_one, e, List.countP_append]
  simp [List.countP_cons]
theorem set7_below {w W : World} (h : Below w.heap.size w W) (u0 u1 u2 u3 u4 u5 u6 : Value) : Below w.heap.size w (((((((W.setCell ⟨w.heap.size, 0, none⟩ u0).setCell ⟨w.heap.size, 1, none⟩ u1).setCell ⟨w.heap.size, 2, none⟩ u2).setCell ⟨w.heap.size, 3, none⟩ u3).setCell ⟨w.heap.size, 4, none⟩ u4).setCell ⟨w.heap.size, 5, none⟩ u5).setCell ⟨w.heap.size, 6, none⟩ u6) :=
  ((((((h.setCell (p := ⟨w.heap.size, 0, none⟩) (Nat.le_refl _) _).setCell (p := ⟨w.heap.size, 1, none⟩) (Nat.le_refl _) _).setCell (p := ⟨w.heap.size, 2, none⟩) (Nat.le_refl _) _).setCell (p := ⟨w.heap.size, 3, none⟩) (Nat.le_refl _) _).setCell (p := ⟨w.heap.size, 4, none⟩) (Nat.le_refl _) _).setCell (p := ⟨w.heap.size, 5, none⟩) (Nat.le_refl _) _).setCell (p := ⟨w.heap.size, 6, none⟩) (Nat.le_refl _) _
theorem set7_box {W : World} {b : Nat} {t : TypeId} {a0 a1 a2 a3 a4 a5 a6 : Value} (h : W.heap[b]? = some (.cells #[a0, a1, a2, a3, a4, a5, a6] t (0, 0))) (u0 u1 u2 u3 u4 u5 u6 : Value) :
    ((((((((W).setCell ⟨b, 0, none⟩ u0).setCell ⟨b, 1, none⟩ u1).setCell ⟨b, 2, none⟩ u2).setCell ⟨b, 3, none⟩ u3).setCell ⟨b, 4, none⟩ u4).setCell ⟨b, 5, none⟩ u5).setCell ⟨b, 6, none⟩ u6).heap[b]? = some (.cells #[u0, u1, u2, u3, u4, u5, u6] t (0, 0)) := by
  have h0 : (W.setCell ⟨b, 0, none⟩ u0).heap[b]? = some (.cells #[u0, a1, a2, a3, a4, a5, a6] t (0, 0)) := set1 (i := 0) u0 h
  have h1 : ((W.setCell ⟨b, 0, none⟩ u0).setCell ⟨b, 1, none⟩ u1).heap[b]? = some (.cells #[u0, u1, a2, a3, a4, a5, a6] t (0, 0)) := set1 (i := 1) u1 h0
  have h2 : (((W.setCell ⟨b, 0, none⟩ u0).setCell ⟨b, 1, none⟩ u1).setCell ⟨b, 2, none⟩ u2).heap[b]? = some (.cells #[u0, u1, u2, a3, a4, a5, a6] t (0, 0)) := set1 (i := 2) u2 h1
  have h3 : ((((W.setCell ⟨b, 0, none⟩ u0).setCell ⟨b, 1, none⟩ u1).setCell ⟨b, 2, none⟩ u2).setCell ⟨b, 3, none⟩ u3).heap[b]? = some (.cells #[u0, u1, u2, u3, a4, a5, a6] t (0, 0)) := set1 (i := 3) u3 h2
  have h4 : (((((W.setCell ⟨b, 0, none⟩ u0).setCell ⟨b, 1, none⟩ u1).setCell ⟨b, 2, none⟩ u2).setCell ⟨b, 3, none⟩ u3).setCell ⟨b, 4, none⟩ u4).heap[b]? = some (.cells #[u0, u1, u2, u3, u4, a5, a6] t (0, 0)) := set1 (i := 4) u4 h3
  have h5 : ((((((W.setCell ⟨b, 0, none⟩ u0).setCell ⟨b, 1, none⟩ u1).setCell ⟨b, 2, none⟩ u2).setCell ⟨b, 3, none⟩ u3).setCell ⟨b, 4, none⟩ u4).setCell ⟨b, 5, none⟩ u5).heap[b]? = some (.cells #[u0, u1, u2, u3, u4, u5, a6] t (0, 0)) := set1 (i := 5) u5 h4
  have h6 : (((((((W.setCell ⟨b, 0, none⟩ u0).setCell ⟨b, 1, none⟩ u1).setCell ⟨b, 2, none⟩ u2).setCell ⟨b, 3, none⟩ u3).setCell ⟨b, 4, none⟩ u4).setCell ⟨b, 5, none⟩ u5).setCell ⟨b, 6, none⟩ u6).heap[b]? = some (.cells #[u0, u1, u2, u3, u4, u5, u6] t (0, 0)) := set1 (i := 6) u6 h5
  exact h6
theorem push2' (a : Array Obj) (o0 o1 : Obj) : ((a.push o0).push o1)[a.size]? = some o0 ∧ ((a.push o0).push o1)[a.size + 1]? = some o1 := by
  refine ⟨?_, ?_⟩
  · rw [Array.getElem?_push, if_neg (by simp only [Array.size_push]; omega), Array.getElem?_push_size]
  · rw [← Array.size_push o0, Array.getElem?_push_size]
theorem ME.first {w W1 w2 w3 : World} {l : List Clu} {lv : Value} {N : Nat} {z u : Int} {h t : ByteArray}
    (p : W1.heap[w.heap.size]? = some (.cells (scs sm0) 106 (0, 0)) ∧ W1.heap[w.heap.size + 1]? = some (.cells (scs ⟨z, 0, 0, 0, 0, h, t⟩) 106 (0, 0)) ∧ Below w.heap.size w W1 ∧ W1.heap.size = w.heap.size + 2) (h2 : Below W1.heap.size W1 w2)
    (h3 : w3.ownsRow (w2.setCell ⟨w.heap.size + 1, 1, none⟩ (.int .i64 u)).heap.size 157 4 lv N (ccl l) ∧ Below (w2.setCell ⟨w.heap.size + 1, 1, none⟩ (.int .i64 u)).heap.size (w2.setCell ⟨w.heap.size + 1, 1, none⟩ (.int .i64 u)) w3) : ME w l lv N ⟨z, u, 0, 0, 0, h, t⟩ w3 := by
  obtain ⟨p0, p1, pb, pz⟩ := p
  have hs := h2.size
  have q0 := (h2.block _ (by omega)).trans p0
  have q1 := (h2.block _ (by omega)).trans p1
  have hg := gcell w2 (w.heap.size + 1) 1 (.int .i64 u)
  have r0 := (hg.block _ (by omega) (fun e => by have := Option.some.inj e; omega)).trans q0
  have r1 := set1 (i := 1) (.int .i64 u) q1
  have hz : (w2.setCell ⟨w.heap.size + 1, 1, none⟩ (.int .i64 u)).heap.size = w2.heap.size := by simp
  have hb : Below w.heap.size w (w2.setCell ⟨w.heap.size + 1, 1, none⟩ (.int .i64 u)) := (pb.trans (h2.mono pb.size)).setCell (p := ⟨w.heap.size + 1, 1, none⟩) (by simp) _
  refine ⟨(h3.2.block _ (by omega)).trans r0, (h3.2.block _ (by omega)).trans r1, row_lower h3.1 (by omega), hb.trans (h3.2.mono hb.size)⟩

set_option maxRecDepth 100000 in
set_option maxHeartbeats 2000000 in
theorem rmeasure_any (s : ByteArray) (hs : s.size ≤ 4398046511000) (w : World) :
    Calls Tryz.prog 61 #[.string s] w fun e W' => e = .returned (sv (smr s)) ∧ Below w.heap.size w W' := by
  have hs' : s.size ≤ maxLen := by unfold maxLen; omega
  obtain ⟨l, hl⟩ : ∃ l, cl s = l := ⟨_, rfl⟩
  obtain ⟨N, hN⟩ : ∃ N, l.length = N := ⟨_, rfl⟩
  have hNs : N ≤ s.size := by rw [← hN, ← hl]; exact cl_len s
  have HNN : Hid (∀ d ∈ l, 0 ≤ d.n ∧ d.n ≤ 2) := by rw [← hl]; exact cl_n s
  have CH := rhead_any s
  have CT := rtail_any s hs'
  obtain ⟨h, hh⟩ : ∃ h, hd s = h := ⟨_, rfl⟩
  obtain ⟨t, ht⟩ : ∃ t, tl s = t := ⟨_, rfl⟩
  obtain ⟨u, hu⟩ : ∃ u, kU.of s = u := ⟨_, rfl⟩
  rw [hh] at CH
  rw [ht] at CT
  obtain ⟨W1, hW1⟩ : ∃ W1, (w.alloc (.cells #[.int .i64 0, .int .i64 0, .int .i64 0, .int .i64 0, .int .i64 0, .string ⟨#[]⟩, .string ⟨#[]⟩] 106)).alloc (.cells #[.int .i64 s.size, .int .i64 0, .int .i64 0, .int .i64 0, .int .i64 0, .string h, .string t] 106) = W1 := ⟨_, rfl⟩
  have CU : Hid (Calls Tryz.prog 137 #[.string s] W1 fun e W' => e = .returned (.int .i64 u) ∧ Below W1.heap.size W1 W') := by rw [← hu]; exact rucount_any s (by omega) W1
  have CL : Hid (∀ W, Calls Tryz.prog 117 #[.string s] W fun e W' => ∃ a cap, e = .returned (.slice a N cap) ∧ Hid (W'.ownsRow W.heap.size 157 4 (.slice a N cap) N (ccl l) ∧ Below W.heap.size W W')) := fun W => (rlist_any s (by omega) W).mono fun e W' ⟨v, h1, h2, h3⟩ => by
    rw [hl] at h2
    obtain ⟨a, cap, rfl, _⟩ := Rd4.of_row h2
    rw [hN] at h1 h2
    exact ⟨a, cap, h1, h2, h3⟩
  obtain ⟨p0, p1⟩ : W1.heap[w.heap.size]? = some (.cells (scs sm0) 106 (0, 0)) ∧ W1.heap[w.heap.size + 1]? = some (.cells (scs ⟨s.size, 0, 0, 0, 0, h, t⟩) 106 (0, 0)) := by rw [← hW1]; exact push2' w.heap _ _
  have hB1 : Below w.heap.size w W1 := by rw [← hW1]; exact ((Below.refl _ w).alloc (Nat.le_refl _) _).alloc (by simp) _
  have hz1 : W1.heap.size = w.heap.size + 2 := by rw [← hW1]; simp
  have P1 : Hid (W1.heap[w.heap.size]? = some (.cells (scs sm0) 106 (0, 0)) ∧ W1.heap[w.heap.size + 1]? = some (.cells (scs ⟨s.size, 0, 0, 0, 0, h, t⟩) 106 (0, 0)) ∧ Below w.heap.size w W1 ∧ W1.heap.size = w.heap.size + 2) := ⟨p0, p1, hB1, hz1⟩
  have HE : Hid (smr s = ⟨s.size, u, N, sumN l, nls s, h, t⟩) := by
    show smr s = _
    unfold smr
    rw [hh, ht, hu, kC_of, kN_of, hl, hN]
  have HN : Hid (l.length = N) := hN
  clear p0 p1 hB1 hz1 hN hl hh ht hu
  go_enter Tryz.func61, Tryz.ntmps61
  go_wp2_with (first | (go_at_call 135; refine (CH _).mono ?_; clear CH; rintro e w' ⟨rfl, rfl⟩) | (go_at_call 136; refine (CT _).mono ?_; clear CT; rintro e w' ⟨rfl, rfl⟩) | (go_at_call 137; refine (Hid.out CU).mono ?_; clear CU; rintro e w2 ⟨rfl, hb2⟩; have H2 : Hid (Below W1.heap.size W1 w2) := hb2; obtain ⟨⟨_, x1, _, _, _, _, _⟩, _, f1, _, _, _, _, _⟩ := box7 ((hb2.block _ (by have := P1.out.2.2.2; omega)).trans P1.out.2.1); clear hb2) | (go_at_call 117; refine (CL.out _).mono ?_; clear CL; rintro e w3 ⟨a, cap, rfl, H3⟩; have HM3 : Hid (ME w l (.slice a N cap) N ⟨s.size, u, 0, 0, 0, h, t⟩ w3) := ME.first P1.out H2.out H3.out; obtain ⟨⟨_, _, x2, _, _, _, _⟩, _, _, f2, _, _, _, _⟩ := box7 HM3.out.box; clear x1 f1))
  have HM4 : Hid (ME w l (.slice a N cap) N ⟨s.size, u, N, sumN (l.take 0), 0, h, t⟩ (w3.setCell ⟨w.heap.size + 1, 2, none⟩ (.int .i64 N))) := HM3.out.set _ 2 _ (by simp [sumN])
  clear x2 f2 HM3 H2 H3 hW1 P1
  go_loopw [5] (fun x wr => ∃ k : Nat, x = .int .i64 k ∧ k ≤ N ∧ Hid (ME w l (.slice a N cap) N ⟨s.size, u, N, sumN (l.take k), 0, h, t⟩ wr)) (fun x _ => N - (intOf x).toNat)
  case atStart => exact ⟨0, rfl, Nat.zero_le _, HM4⟩
  case round =>
    obtain ⟨k, rfl, hk, HK⟩ := hrel
    clear HM4
    by_cases hlt : k < N
    · obtain ⟨c, hc⟩ : ∃ c, l[k]? = some c := ⟨l[k]'(by rw [HN.out]; exact hlt), List.getElem?_eq_getElem _⟩
      have hr := HK.out.row
      rw [← HN.out] at hr
      obtain ⟨a', cap', he, hr⟩ := Rd4.of_row hr
      cases he
      obtain ⟨g, hg, hgl, hcell⟩ := hr (fun e => by rw [e] at hc; simp at hc)
      subst hg
      obtain ⟨_, _, _, z3⟩ := hcell k c hc
      obtain ⟨⟨_, _, _, y3, _, _, _⟩, _, _, _, f3, _, _, _⟩ := box7 HK.out.box
      have hst := sumN_take' l k c hc
      have b1 := sumN_bd (l.take k) (fun d hd => HNN.out d (List.mem_of_mem_take hd))
      have b2 := HNN.out c (List.mem_of_getElem? hc)
      have b3 : (l.take k).length ≤ N := by rw [List.length_take, HN.out]; omega
      have HK2 : Hid (ME w l (.slice (some ⟨g, 0, none⟩) N cap) N ⟨s.size, u, N, sumN (l.take (k + 1)), 0, h, t⟩ (wr.setCell ⟨w.heap.size + 1, 3, none⟩ (.int .i64 (sumN (l.take k) + c.n))).drew) := (HK.out.set _ 3 _ (by rw [hst]; rfl)).drew1
      clear hst hcell hr hgl
      generalize sumN (l.take k) = x at b1 HK2 y3
      generalize c.n = y at b2 HK2 z3
      go_wp2
      go_region
      go_wp2
      exact ⟨⟨k + 1, by go_num, by omega, HK2⟩, by simp [intOf]; omega⟩
    · have hd : decide (k < N) = false := decide_eq_false hlt
      have HM5 : Hid (ME w l (.slice a N cap) N ⟨s.size, u, N, sumN l, ((s.data.toList.take 0).countP (· == 10) : Nat), h, t⟩ wr) := by
        have := HK.out
        rw [List.take_of_length_le (show l.length ≤ k by rw [HN.out]; omega)] at this
        exact this
      clear HK
      go_wp2
      clear hd hlt hk
      go_loopw [6] (fun x wr => ∃ k : Nat, x = .int .i64 k ∧ k ≤ s.size ∧ Hid (ME w l (.slice a N cap) N ⟨s.size, u, N, sumN l, ((s.data.toList.take k).countP (· == 10) : Nat), h, t⟩ wr)) (fun x _ => s.size - (intOf x).toNat)
      case atStart => exact ⟨0, rfl, Nat.zero_le _, HM5⟩
      case round =>
        obtain ⟨k, rfl, hk, HK⟩ := hrel
        clear HM5
        by_cases hlt : k < s.size
        · obtain ⟨⟨_, _, _, _, y4, _, _⟩, _, _, _, _, f4, _, _⟩ := box7 HK.out.box
          have hcb : (s.data.toList.take k).countP (· == 10) ≤ k := Nat.le_trans List.countP_le_length (by rw [List.length_take]; omega)
          have hct := count_take s k hlt
          by_cases h10 : (s[k]'hlt) = 10
          · have e10 : (((s[k]'hlt).toNat : Int) == 10) = true := by rw [h10]; rfl
            rw [if_pos h10] at hct
            have HK2 : Hid (ME w l (.slice a N cap) N ⟨s.size, u, N, sumN l, ((s.data.toList.take (k + 1)).countP (· == 10) : Nat), h, t⟩ (wr.setCell ⟨w.heap.size + 1, 4, none⟩ (.int .i64 (((s.data.toList.take k).countP (· == 10) : Nat) + 1)))) := HK.out.set _ 4 _ (by rw [hct]; simp)
            clear hct h10 HK
            generalize (s.data.toList.take k).countP (· == 10) = x at hcb HK2 y4
            go_wp2
            exact ⟨⟨k + 1, by go_num, by omega, HK2⟩, by simp [intOf]; omega⟩
          · have e10 : (((s[k]'hlt).toNat : Int) == 10) = false := by
              rw [beq_eq_false_iff_ne]
              intro e
              exact h10 (UInt8.toNat_inj.1 (by have : (s[k]'hlt).toNat = 10 := by omega
                                               exact this))
            rw [if_neg h10] at hct
            have HK2 : Hid (ME w l (.slice a N cap) N ⟨s.size, u, N, sumN l, ((s.data.toList.take (k + 1)).countP (· == 10) : Nat), h, t⟩ wr) := by rw [hct]; exact HK
            clear hct h10 HK
            go_wp2
            exact ⟨⟨k + 1, by go_num, by omega, HK2⟩, by simp [intOf]; omega⟩
        · have HE2 : Hid (ME w l (.slice a N cap) N (smr s) wr) := by
            have := HK.out
            rw [List.take_of_length_le (show s.data.toList.length ≤ k by rw [← Lib.size_eq]; omega)] at this
            rw [HE.out]
            exact this
          clear HK HE
          obtain ⟨m, hm⟩ : ∃ m, smr s = m := ⟨_, rfl⟩
          rw [hm] at HE2
          have HSM : Hid (smr s = m) := hm
          clear hm
          obtain ⟨⟨y0, y1, y2, y3, y4, y5, y6⟩, _⟩ := box7 HE2.out.box
          obtain ⟨⟨z0, z1, z2, z3, z4, z5, z6⟩, f0, f1, f2, f3, f4, f5, f6⟩ := box7 HE2.out.res
          have HB : Hid (Below w.heap.size w wr) := HE2.out.bel
          have hz : w.heap.size < wr.heap.size := (Array.getElem?_eq_some_iff.1 HE2.out.res).1
          clear HE2
          go_wp2
          exact bodyPost_ret (v := sv m) (by simp [results, Tryz.results61, go_sem, z0, z1, z2, z3, z4, z5, z6]) rfl ⟨by rw [HSM.out], set7_below HB.out _ _ _ _ _ _ _⟩
end Go.Proofs.YtffipfmnpffdaaaGreatDoor
