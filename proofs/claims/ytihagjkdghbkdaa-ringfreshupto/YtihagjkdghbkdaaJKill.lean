/-
  Package ring's Kill and Copy. Conditions: those of each theorem.
-/
import Derived.Test.YtihagjkdghbkdaaJPush
namespace Go.Proofs.Ytihagjkdghbkdaa
open Go.RowKit

theorem not_emp {s : ByteArray} (h : ¬ s = ⟨#[]⟩) : s.toList.isEmpty = false := by
  rw [Lib.toList_data]
  obtain ⟨⟨l⟩⟩ := s
  cases l with
  | nil => exact absurd rfl h
  | cons x l => rfl
/-- the first of a row of texts, another one -/
theorem row_set0 {W : World} {base n c g : Nat} {x s : ByteArray} {l : Tl} (h : W.ownsRow base 9 1 (.slice (some ⟨g, 0, none⟩) n c) n (sv (x :: l))) : (W.setCell ⟨g, 0, none⟩ (.string s)).ownsRow base 9 1 (.slice (some ⟨g, 0, none⟩) n c) n (sv (s :: l)) := by
  obtain ⟨hl, h⟩ := h
  refine ⟨by rw [← hl]; simp [sv], ?_⟩
  rcases h with ⟨h1, _⟩ | ⟨g', cap, cur, h1, h2, h3, h4, h5, h6, h7⟩
  · cases h1
  · obtain ⟨e, _, rfl⟩ := Value.slice.inj h1
    cases e
    refine .inr ⟨g, c, _, rfl, h2, set1 _ h3, h4, h5, by simpa using h6, ?_⟩
    have hn : n = l.length + 1 := by rw [sv_len] at hl; simp at hl; omega
    subst hn
    rw [Nat.mul_one] at h7 ⊢
    have hc : 0 < cur.size := by omega
    apply List.ext_getElem?
    intro j
    have hj7 : (cur.toList.take (l.length + 1))[j]? = (sv (x :: l))[j]? := by rw [h7]
    by_cases hj : j < l.length + 1
    · rw [List.getElem?_take_of_lt hj] at hj7 ⊢
      rw [Array.getElem?_toList] at hj7 ⊢
      cases j with
      | zero => simp [sv, hc]
      | succ j => rw [Array.getElem?_setIfInBounds, if_neg (by omega), hj7]; simp [sv]
    · rw [List.getElem?_take_eq_none (by omega), List.getElem?_eq_none (by simp [sv]; omega)]
theorem Pr.joined {w : World} {base pb n c g : Nat} {b st pl : Nat} {x s : ByteArray} {l : Tl} (h : Pr w base pb (.slice (some ⟨g, 0, none⟩) n c) ⟨b, x :: l, st, pl⟩) (hn : n = l.length + 1) :
    Pr (w.setCell ⟨g, 0, none⟩ (.string s)) base pb (.slice (some ⟨g, 0, none⟩) n c) ⟨b, s :: l, st, pl⟩ ∧ Ch pb (some g) w (w.setCell ⟨g, 0, none⟩ (.string s)) := by
  have hg := gcell w g 0 (.string s)
  have hb := h.blk (g := g) rfl
  refine ⟨⟨?_, ?_, h.low, h.ok.b, h.ok.len, h.ok.st, h.ok.pl⟩, Ch.grown hg⟩
  · obtain ⟨p, h1, h2⟩ := h.box
    exact ⟨p, h1, (hg.block pb h.lt (fun e => hb.1 (Option.some.inj e).symm)).trans h2⟩
  · have := h.row
    simp only [List.length_cons] at this ⊢
    rw [← hn] at this ⊢
    exact row_set0 this

set_option maxRecDepth 100000 in
set_option maxHeartbeats 4000000 in
theorem kill_any {w : World} {base pb : Nat} {v : Value} {r : Rg} (h : Pr w base pb v r) {t : ByteArray} (ht : t.size ≤ 35184372088832) (hf : r.Fit 35184372088832) (a : Bool) :
    Calls Try.prog 16 #[.pointer (some ⟨pb, 0, none⟩), .string t, .bool a] w fun e w' => e = .returned (.bool (r.kept t)) ∧ ∃ v', Pr w' base pb v' (r.kill t a) ∧ Ch pb v.ownBlock w w' ∧ Nx w v.ownBlock v'.ownBlock := by
  by_cases h0 : t = ⟨#[]⟩
  · have e1 : r.kept t = false := by simp [Rg.kept, h0]
    have e2 : r.kill t a = r := by simp [Rg.kill, h0]
    rw [e1, e2]
    subst h0
    go_enter Try.func16, Try.ntmps16
    go_wp2
    go_ret
    exact ⟨rfl, v, h, Ch.refl _ _ _, Nx.refl _ _⟩
  · have hemp := not_emp h0
    have HK : Hid (r.kept t = decide (0 < r.b)) := by show r.kept t = _; simp [Rg.kept, h0]
    by_cases hs : r.st = 1 ∧ r.es ≠ []
    · -- put together
      have e2 : r.kill t a = ⟨r.b, Rg.joined t a r.es, 1, 0⟩ := by unfold Rg.kill; rw [if_neg h0, if_pos hs]
      rw [e2, HK.out]
      obtain ⟨b, es, st, pl⟩ := r
      obtain ⟨hs1, hs2⟩ := hs
      simp only at hs1 hs2 h ⊢
      subst hs1
      obtain ⟨x, l, rfl⟩ : ∃ x l, es = x :: l := List.exists_cons_of_ne_nil hs2
      obtain ⟨va, c, rfl, _⟩ := row_slice h.row
      obtain ⟨g, rfl, hcell⟩ := row_at (k := 0) h.row rfl
      have hfz := row_froz (k := 0) h.row
      obtain ⟨p, hp, hbox⟩ := h.box
      obtain ⟨⟨c0, c1, c2, c3⟩, f0, f1, f2, f3⟩ := box4 hbox
      have hx : x.size ≤ 35184372088832 := hf x List.mem_cons_self
      have hsum : t.size + x.size ≤ 140737488355328 := by omega
      have hsum' : x.size + t.size ≤ 140737488355328 := by omega
      have HN : Hid (0 < b) := by have := h.ok.len; simp only [List.length_cons] at this; show 0 < b; omega
      have HJ : Hid (∀ s : ByteArray, s = (if a then t ++ x else x ++ t) → ∀ W, (W = (w.setCell ⟨g, 0, none⟩ (.string s)) ∨ W = (w.setCell ⟨g, 0, none⟩ (.string s)).drew) → ∃ p : Nat, W.heap[pb]? = some (.cells #[.int .i64 (b : Int), .slice (some ⟨g, 0, none⟩) (x :: l).length c, .int .i64 1, .int .i64 (p : Int)] 52 (0, 0)) ∧ Pr (W.setCell ⟨pb, 2, none⟩ (.int .i64 1)) base pb (.slice (some ⟨g, 0, none⟩) (x :: l).length c) ⟨b, Rg.joined t a (x :: l), 1, 0⟩ ∧ Ch pb (some g) w (W.setCell ⟨pb, 2, none⟩ (.int .i64 1))) := fun s hs W hW => by
        obtain ⟨j1, j2⟩ := h.joined (s := s) rfl
        replace j1 : Pr W base pb (.slice (some ⟨g, 0, none⟩) (x :: l).length c) ⟨b, s :: l, 1, pl⟩ := by
          rcases hW with rfl | rfl
          · exact j1
          · exact j1.of_heap rfl (fun _ _ => rfl)
        replace j2 : Ch pb (some g) w W := by
          rcases hW with rfl | rfl
          · exact j2
          · exact j2
        subst hs
        obtain ⟨p, _, hb⟩ := j1.box
        refine ⟨p, hb, j1.state (st := 1) (pl := 0) ⟨j1.ok.b, j1.ok.len, by show 1 ≤ 2; omega, fun e => by cases e⟩ (by decide), j2.trans (Nx.refl _ _) Ch.cell⟩
      have hne : g ≠ pb := (h.blk rfl).1
      obtain ⟨n, hn⟩ : ∃ n, (x :: l).length = n := ⟨_, rfl⟩
      have hn0 : 0 < n := by rw [← hn]; simp
      have hnz : ¬ (n : Int) = 0 := by omega
      have hnz' : ((n : Int) == 0) = false := by simp; omega
      have hnp : (0 : Int) < (n : Int) := by omega
      rw [hn] at HJ c1 ⊢
      clear h hbox hp hf hn ht
      cases a with
      | true =>
        go_enter Try.func16, Try.ntmps16
        go_wp2
        go_region
        obtain ⟨p2, hb2, hP2⟩ := HJ.out (t ++ x) rfl _ (.inr rfl)
        have HP2 : Hid _ := hP2
        obtain ⟨⟨g0, g1, g2, g3⟩, i0, i1, i2, i3⟩ := box4 hb2
        clear HJ hb2 hP2
        go_wp2
        go_ret
        exact ⟨by simp, _, HP2.out.1, HP2.out.2, Nx.refl _ _⟩
      | false =>
        obtain ⟨p2, hb2, hP2⟩ := HJ.out (x ++ t) rfl _ (.inl rfl)
        have HP2 : Hid _ := hP2
        obtain ⟨⟨g0, g1, g2, g3⟩, i0, i1, i2, i3⟩ := box4 hb2
        clear HJ hb2 hP2
        go_enter Try.func16, Try.ntmps16
        go_wp2
        go_ret
        exact ⟨by simp, _, HP2.out.1, HP2.out.2, Nx.refl _ _⟩
    · have CP := push_any h (t := t) (by omega)
      have e2 : r.kill t a = ⟨r.b, (t :: r.es).take r.b, 1, 0⟩ := by unfold Rg.kill; rw [if_neg h0, if_neg hs]
      rw [e2, HK.out]
      have HE : Hid (∀ W v', Pr W base pb v' (r.push t) → Pr (W.setCell ⟨pb, 2, none⟩ (.int .i64 1)) base pb v' ⟨r.b, (t :: r.es).take r.b, 1, 0⟩) := fun W v' hW => hW.state (st := 1) (pl := 0) (h.ok.pushed t (by omega)) (by decide)
      obtain ⟨p, hp, hbox⟩ := h.box
      obtain ⟨⟨c0, c1, c2, c3⟩, f0, f1, f2, f3⟩ := box4 hbox
      obtain ⟨va, c, hv, _⟩ := row_slice h.row
      rw [hv] at c1
      obtain ⟨b, es, st, pl⟩ := r
      simp only at c0 c1 c2 c3 hs HE ⊢
      have HV : Hid (v = _) := hv
      clear h hbox hp hf hv
      by_cases h1 : st = 1
      · subst h1
        have he : es = [] := Classical.byContradiction fun he => hs ⟨rfl, he⟩
        subst he
        go_enter Try.func16, Try.ntmps16
        go_wp2_with (go_at_call 37; refine CP.mono ?_; clear CP; rintro e w1 ⟨rfl, v1, hp1, hc1, hn1⟩; obtain ⟨p1, -, hb1⟩ := hp1.box; obtain ⟨⟨g0, g1, g2, g3⟩, i0, i1, i2, i3⟩ := box4 hb1; have HP1 : Hid _ := HE.out _ _ hp1; have HC1 : Hid (Ch pb v.ownBlock w w1 ∧ Nx w v.ownBlock v1.ownBlock) := ⟨hc1, hn1⟩; clear hp1 hc1 hn1 hb1)
        go_ret
        exact ⟨(by simp; exact Iff.rfl), _, HP1.out, HC1.out.1.trans (Nx.refl _ _) Ch.cell, HC1.out.2⟩
      · have h1' : ¬ (st : Int) = 1 := by omega
        have h1'' : ((st : Int) == 1) = false := by simp; omega
        go_enter Try.func16, Try.ntmps16
        go_wp2_with (go_at_call 37; refine CP.mono ?_; clear CP; rintro e w1 ⟨rfl, v1, hp1, hc1, hn1⟩; obtain ⟨p1, -, hb1⟩ := hp1.box; obtain ⟨⟨g0, g1, g2, g3⟩, i0, i1, i2, i3⟩ := box4 hb1; have HP1 : Hid _ := HE.out _ _ hp1; have HC1 : Hid (Ch pb v.ownBlock w w1 ∧ Nx w v.ownBlock v1.ownBlock) := ⟨hc1, hn1⟩; clear hp1 hc1 hn1 hb1)
        go_ret
        exact ⟨(by simp; exact Iff.rfl), _, HP1.out, HC1.out.1.trans (Nx.refl _ _) Ch.cell, HC1.out.2⟩
set_option maxRecDepth 100000 in
set_option maxHeartbeats 4000000 in
theorem copy_any {w : World} {base pb : Nat} {v : Value} {r : Rg} (h : Pr w base pb v r) {t : ByteArray} (ht : t.size ≤ 35184372088832) :
    Calls Try.prog 22 #[.pointer (some ⟨pb, 0, none⟩), .string t] w fun e w' => e = .returned (.bool (r.kept t)) ∧ ∃ v', Pr w' base pb v' (r.copy t) ∧ Ch pb v.ownBlock w w' ∧ Nx w v.ownBlock v'.ownBlock := by
  by_cases h0 : t = ⟨#[]⟩
  · have e1 : r.kept t = false := by simp [Rg.kept, h0]
    have e2 : r.copy t = r := by simp [Rg.copy, h0]
    rw [e1, e2]
    subst h0
    go_enter Try.func22, Try.ntmps22
    go_wp2
    go_ret
    exact ⟨rfl, v, h, Ch.refl _ _ _, Nx.refl _ _⟩
  · have hemp := not_emp h0
    have HK : Hid (r.kept t = decide (0 < r.b)) := by show r.kept t = _; simp [Rg.kept, h0]
    have CP := push_any h (t := t) (by omega)
    have e2 : r.copy t = ⟨r.b, (t :: r.es).take r.b, 0, 0⟩ := by unfold Rg.copy; rw [if_neg h0]
    rw [e2, HK.out]
    have HE : Hid (∀ W v', Pr W base pb v' (r.push t) → Pr (W.setCell ⟨pb, 2, none⟩ (.int .i64 0)) base pb v' ⟨r.b, (t :: r.es).take r.b, 0, 0⟩) := fun W v' hW => hW.state (st := 0) (pl := 0) (h.ok.pushed t (by omega)) (by decide)
    obtain ⟨b, es, st, pl⟩ := r
    simp only at HE ⊢
    clear h
    go_enter Try.func22, Try.ntmps22
    go_wp2_with (go_at_call 37; refine CP.mono ?_; clear CP; rintro e w1 ⟨rfl, v1, hp1, hc1, hn1⟩; obtain ⟨p1, -, hb1⟩ := hp1.box; obtain ⟨⟨g0, g1, g2, g3⟩, i0, i1, i2, i3⟩ := box4 hb1; have HP1 : Hid _ := HE.out _ _ hp1; have HC1 : Hid (Ch pb v.ownBlock w w1 ∧ Nx w v.ownBlock v1.ownBlock) := ⟨hc1, hn1⟩; clear hp1 hc1 hn1 hb1)
    go_ret
    exact ⟨(by simp; exact Iff.rfl), _, HP1.out, HC1.out.1.trans (Nx.refl _ _) Ch.cell, HC1.out.2⟩
theorem kill_nil (t : ByteArray) (a : Bool) (w : World) : Calls Try.prog 16 #[.pointer none, .string t, .bool a] w fun e w' => e = .returned (.bool false) ∧ w' = w := by
  go_enter Try.func16, Try.ntmps16
  go_wp2
  go_ret
  exact ⟨rfl, rfl⟩
theorem copy_nil (t : ByteArray) (w : World) : Calls Try.prog 22 #[.pointer none, .string t] w fun e w' => e = .returned (.bool false) ∧ w' = w := by
  go_enter Try.func22, Try.ntmps22
  go_wp2
  go_ret
  exact ⟨rfl, rfl⟩
end Go.Proofs.Ytihagjkdghbkdaa
