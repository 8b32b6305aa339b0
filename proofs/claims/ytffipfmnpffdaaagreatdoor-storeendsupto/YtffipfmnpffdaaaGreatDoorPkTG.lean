/-
  A store beside the document's own one, through a script. Conditions: those of each theorem.
-/
import Derived.Test.YtffipfmnpffdaaaGreatDoorPkTD
import Derived.Test.YtffipfmnpffdaaaGreatDoorPkTH
import Derived.Test.YtffipfmnpffdaaaGreatDoorPkTE
import Derived.Test.YtffipfmnpffdaaaGreatDoorPkR
namespace Go.Proofs.YtffipfmnpffdaaaGreatDoor.Sto
open Go.RowKit Go.Shelf Bod Wid
open Gap (Gp RB gRep gReset eBA)

set_option maxRecDepth 100000 in
theorem rins9_of {w : World} {v : Value} {a : Int} {put : ByteArray} {R : ByteArray → Int → World → Prop} (C : Calls Tryz.prog 75 #[v, .int .i64 a, .int .i64 0, .string put] w fun e W' => ∃ o r, e = .returned (.tuple #[.string o, .int .i64 r]) ∧ R o r W') :
    Calls Tryz.prog 72 #[v, .int .i64 a, .string put] w fun e W' => ∃ o r, e = .returned (.int .i64 r) ∧ R o r W' := by
  have C1 : Hid (Calls Tryz.prog 75 #[v, .int .i64 a, .int .i64 0, .string put] w fun e W' => ∃ o r, e = .returned (.tuple #[.string o, .int .i64 r]) ∧ Hid (R o r W')) := C
  clear C
  go_enter Tryz.func72, Tryz.ntmps72
  go_wp2_with (go_at_call 75; refine C1.out.mono ?_; clear C1; rintro e w1 ⟨o, r, rfl, HB⟩)
  go_ret
  exact ⟨o, r, rfl, HB.out⟩
set_option maxRecDepth 100000 in
theorem rdel9_of {w : World} {v : Value} {a n : Int} {R : ByteArray → Int → World → Prop} (C : Calls Tryz.prog 75 #[v, .int .i64 a, .int .i64 n, .string ⟨#[]⟩] w fun e W' => ∃ o r, e = .returned (.tuple #[.string o, .int .i64 r]) ∧ R o r W') :
    Calls Tryz.prog 73 #[v, .int .i64 a, .int .i64 n] w fun e W' => ∃ o r, e = .returned (.tuple #[.string o, .int .i64 r]) ∧ R o r W' := by
  have C1 : Hid (Calls Tryz.prog 75 #[v, .int .i64 a, .int .i64 n, .string ⟨#[]⟩] w fun e W' => ∃ o r, e = .returned (.tuple #[.string o, .int .i64 r]) ∧ Hid (R o r W')) := C
  clear C
  go_enter Tryz.func73, Tryz.ntmps73
  go_wp2_with (go_at_call 75; refine C1.out.mono ?_; clear C1; rintro e w1 ⟨o, r, rfl, HB⟩)
  exact bodyPost_ret (v := .tuple #[.string o, .int .i64 r]) (by simp [results, Tryz.results73, go_sem]) rfl ⟨o, r, rfl, HB.out⟩
set_option maxRecDepth 100000 in
set_option maxHeartbeats 1000000 in
theorem rreset9_any {w : World} {b p : Nat} {g : Gp} {k : Rk} (h : Rf w b p g k) (hlh : k.lo < k.hi) (put : ByteArray) (hp : put.size ≤ 140737488355328) (hk : 0 ≤ k.ed ∧ k.ed ≤ 2305843009213693952 ∧ 0 ≤ k.mv ∧ k.mv ≤ 4611686018427387904) :
    Calls Tryz.prog 77 #[.pointer (some ⟨b, 0, none⟩), .string put] w fun e W' => e = .returned (.int .i64 (gReset g put).2) ∧ Rf W' b p (gReset g put).1 (k.after (gReset g put).2 (g.s.size + put.size) (gReset g put).1.s.size) ∧ Tn (Rt b p) w W' := by
  obtain ⟨⟨c0, c1, c2, c3, c4, c5, c6, c7⟩, hlt⟩ := rcells h.box
  obtain ⟨⟨d0, d1, d2⟩, _, _, hlp⟩ := h.buf.cells
  obtain ⟨G, hG⟩ : ∃ G, (gReset g put).1 = G := ⟨_, rfl⟩
  obtain ⟨E, hE⟩ : ∃ E, (gReset g put).2 = E := ⟨_, rfl⟩
  have hz : (g.s.size : Int) ≤ 1073741824 := by obtain ⟨_, o2, o3⟩ := h.ok; omega
  have C1 : Hid (Calls Tryz.prog 150 #[.pointer (some ⟨p, 0, none⟩), .string put] w fun e W' => e = .returned (.int .i64 E) ∧ Hid (Rf W' b p G k ∧ w.grownBy W' (some p))) := by
    have := Gap.rreset_any put w h.buf
    rw [hG, hE] at this
    exact this.mono fun e W' ⟨q1, q2, q3⟩ => ⟨q1, rf_buf h q2 q3 (by rw [← hG]; exact gReset_ok h.ok put), q3⟩
  rw [hG, hE]
  have C2 : Hid (∀ W, Hid (Rf W b p G k ∧ w.grownBy W (some p)) → Calls Tryz.prog 149 #[.pointer (some ⟨b, 0, none⟩), .int .i64 (g.s.size + put.size)] W fun e W' => e = .returned (.tuple #[]) ∧ Hid (Rf W' b p G (k.edit (g.s.size + put.size) G.s.size) ∧ Tn (Rt b p) w W')) := fun W hW =>
    (redit_any hW.out.1 hlh (g.s.size + put.size) (by omega) (by omega)).mono fun e W' ⟨q1, q2, q3⟩ => ⟨q1, q2, (Tn.of_grown hW.out.2 (.inr rfl)).trans (.of_grown q3 (.inl (.inl rfl)))⟩
  have HT : Hid (∀ W, w.grownBy W (some p) → Tn (Rt b p) w W) := fun W hW => .of_grown hW (.inr rfl)
  unfold Rk.after
  by_cases e0 : E = 0
  · subst e0
    rw [if_pos rfl]
    clear h hlh hk hG hE
    go_enter Tryz.func77, Tryz.ntmps77
    go_wp2_with (first | (go_at_call 150; refine C1.out.mono ?_; clear C1; rintro e w1 ⟨rfl, HB⟩) | (go_at_call 149; refine (C2.out _ HB).mono ?_; clear C2 HB; rintro e w2 ⟨rfl, HB⟩))
    go_ret
    exact ⟨rfl, HB.out⟩
  · rw [if_neg e0]
    have e1 : (E == 0) = false := by simp [e0]
    clear h hlh hk hG hE
    go_enter Tryz.func77, Tryz.ntmps77
    go_wp2_with (first | (go_at_call 150; refine C1.out.mono ?_; clear C1; rintro e w1 ⟨rfl, HB⟩))
    go_ret
    exact ⟨rfl, HB.out.1, HT.out _ HB.out.2⟩
/-- Switch: the error and the numbers -/
def Rk.sw (k : Rk) (to : Int) : Int × Rk := if to = 1 ∨ to = 2 then (if to = k.now then (0, k) else (0, ⟨k.kind, to, k.lo, k.hi, k.mv, k.fo + 1, k.ed⟩)) else (13, k)
set_option maxRecDepth 100000 in
set_option maxHeartbeats 1000000 in
theorem rsw9_any {w : World} {b p : Nat} {g : Gp} {k : Rk} (h : Rf w b p g k) (to : Int) (hk : 0 ≤ k.fo ∧ k.fo ≤ 4611686018427387904) :
    Calls Tryz.prog 78 #[.pointer (some ⟨b, 0, none⟩), .int .i64 to] w fun e W' => e = .returned (.int .i64 (k.sw to).1) ∧ Rf W' b p g (k.sw to).2 ∧ Tn (Rt b p) w W' := by
  obtain ⟨kind, now, lo, hi, mv, fo, ed⟩ := k
  simp only at hk
  obtain ⟨⟨c0, c1, c2, c3, c4, c5, c6, c7⟩, hlt⟩ := rcells h.box
  simp only at c1 c2 c3 c4 c5 c6 c7
  have f2 := rfroz (i := 2) h.box
  have f6 := rfroz (i := 6) h.box
  have HR : Hid (Rf w b p g ⟨kind, now, lo, hi, mv, fo, ed⟩) := h
  have HM : Hid (Rf ((w.setCell ⟨b, 2, none⟩ (.int .i64 to)).setCell ⟨b, 6, none⟩ (.int .i64 (fo + 1))) b p g ⟨kind, to, lo, hi, mv, fo + 1, ed⟩ ∧ Tn (Rt b p) w ((w.setCell ⟨b, 2, none⟩ (.int .i64 to)).setCell ⟨b, 6, none⟩ (.int .i64 (fo + 1)))) := by
    obtain ⟨h1, g1⟩ := h.set (k' := ⟨kind, to, lo, hi, mv, fo, ed⟩) (i := 2) (u := .int .i64 to) rfl
    obtain ⟨h2, g2⟩ := h1.set (k' := ⟨kind, to, lo, hi, mv, fo + 1, ed⟩) (i := 6) (u := .int .i64 (fo + 1)) rfl
    exact ⟨h2, .of_grown (grown_two g1 g2) (.inl rfl)⟩
  have HT : Hid (Tn (Rt b p) w w) := .of_below (Below.refl _ w)
  unfold Rk.sw
  simp only
  clear h
  by_cases t1 : to = 1 ∨ to = 2
  · rw [if_pos t1]
    by_cases t2 : to = now
    · subst t2
      rw [if_pos rfl]
      rcases t1 with rfl | rfl
      · go_enter Tryz.func78, Tryz.ntmps78
        go_wp2
        go_ret
        exact ⟨rfl, HR.out, HT.out⟩
      · go_enter Tryz.func78, Tryz.ntmps78
        go_wp2
        go_ret
        exact ⟨rfl, HR.out, HT.out⟩
    · rw [if_neg t2]
      rcases t1 with rfl | rfl
      · have e1 : (now == 1) = false := by simp; omega
        have e2 : (now != 1) = true := by simp; omega
        go_enter Tryz.func78, Tryz.ntmps78
        go_wp2
        go_ret
        exact ⟨rfl, HM.out⟩
      · have e1 : (now == 2) = false := by simp; omega
        have e2 : (now != 2) = true := by simp; omega
        go_enter Tryz.func78, Tryz.ntmps78
        go_wp2
        go_ret
        exact ⟨rfl, HM.out⟩
  · rw [if_neg t1]
    have e1 : (to == 1) = false := by simp; omega
    have e2 : (to == 2) = false := by simp; omega
    have e3 : (to != 1) = true := by simp; omega
    have e4 : (to != 2) = true := by simp; omega
    go_enter Tryz.func78, Tryz.ntmps78
    go_wp2
    go_ret
    exact ⟨rfl, HR.out, HT.out⟩
end Go.Proofs.YtffipfmnpffdaaaGreatDoor.Sto
namespace Go.Proofs.YtffipfmnpffdaaaGreatDoor.Sto
open Go.RowKit Go.Shelf Bod Wid
open Gap (Gp RB gRep gReset eBA)

/-- the document's numbers, by the store's own -/
def rkOf (bk : Int) (k : Sk) : Rk := ⟨kdK k, bk, loK k, hiK k, k.mv, k.fo, k.ed⟩
theorem lo_hi (k : Sk) : loK k < hiK k := by unfold hiK; omega
theorem rk_edit {bk : Int} {k : Sk} (hb : bk = 1 ∨ bk = 2) (n : Int) (z : Nat) : (rkOf bk k).edit n z = rkOf (smN bk k n z).1 (smN bk k n z).2 := by
  have hlh := lo_hi k
  have e1 : kdK (k.edit n) = kdK k := rfl
  have e2 : loK (k.edit n) = loK k := rfl
  have e3 : hiK (k.edit n) = hiK k := rfl
  unfold Rk.edit smN misM
  rw [e1, e2, e3]
  have f1 : (rkOf bk k).kind = kdK k := rfl
  have f2 : (rkOf bk k).now = bk := rfl
  have f3 : (rkOf bk k).lo = loK k := rfl
  have f4 : (rkOf bk k).hi = hiK k := rfl
  rw [f1, f2, f3, f4]
  generalize hL : loK k = L at *
  generalize hH : hiK k = H at *
  by_cases c1 : kdK k = 3
  · rcases hb with rfl | rfl
    · by_cases c2 : H ≤ (z : Int)
      · rw [if_pos (by omega), if_neg (by omega), if_pos (by simp [c1, c2])]
        simp [rkOf, Sk.went, Sk.edit, kdK, loK, hiK] at hL hH ⊢
        omega
      · rw [if_neg (by omega), if_neg (by simp [c2])]
        simp [rkOf, Sk.edit, kdK, loK, hiK] at hL hH ⊢
        omega
    · by_cases c2 : (z : Int) ≤ L
      · rw [if_pos (by omega), if_pos c2, if_pos (by simp [c1, c2])]
        simp [rkOf, Sk.went, Sk.edit, kdK, loK, hiK] at hL hH ⊢
        omega
      · rw [if_neg (by omega), if_neg (by simp [c2])]
        simp [rkOf, Sk.edit, kdK, loK, hiK] at hL hH ⊢
        omega
  · rw [if_neg (by omega), if_neg (by simp [c1])]
    simp [rkOf, Sk.edit, kdK, loK, hiK] at hL hH ⊢
    omega
theorem rk_after {bk : Int} {k : Sk} (hb : bk = 1 ∨ bk = 2) (e n : Int) (z : Nat) : (rkOf bk k).after e n z = rkOf (smA bk k e n z).1 (smA bk k e n z).2 := by
  unfold Rk.after smA
  by_cases c : e = 0
  · rw [if_pos c, if_pos c]; exact rk_edit hb n z
  · rw [if_neg c, if_neg c]
theorem rk_sw (bk : Int) (k : Sk) (to : Int) : (rkOf bk k).sw to = ((smS bk k to).1, rkOf (smS bk k to).2.1 (smS bk k to).2.2) := by
  unfold Rk.sw smS
  have f2 : (rkOf bk k).now = bk := rfl
  rw [f2]
  by_cases c : to = 1 ∨ to = 2
  · rw [if_pos c, if_pos c]
    by_cases d : to = bk
    · rw [if_pos d, if_pos d]
    · rw [if_neg d, if_neg d]; rfl
  · rw [if_neg c, if_neg c]
/-- the numbers behind n calls -/
structure Bd (n : Nat) (k : Sk) : Prop where
  fit : k.fit
  ed0 : 0 ≤ k.ed
  ed : k.ed ≤ n * 4294967296
  mv0 : 0 ≤ k.mv
  mv : k.mv ≤ n
  fo0 : 0 ≤ k.fo
  fo : k.fo ≤ n
theorem Bd.few {n : Nat} {k : Sk} (h : Bd n k) (hn : n ≤ 16777216) : k.few := by
  obtain ⟨_, a, b, c, d, e, f⟩ := h
  refine ⟨a, ?_, c, ?_, e, ?_⟩ <;> omega
theorem Bd.up {n : Nat} {k : Sk} (h : Bd n k) : Bd (n + 1) k := by
  obtain ⟨f0, a, b, c, d, e, f⟩ := h
  refine ⟨f0, a, ?_, c, ?_, e, ?_⟩ <;> omega
theorem Bd.edit {n : Nat} {bk : Int} {k : Sk} (h : Bd n k) (e d : Int) (z : Nat) (hd : e = 0 → 0 ≤ d ∧ d ≤ 4294967296) : Bd (n + 1) (smA bk k e d z).2 ∧ (smA bk k e d z).2.limit = k.limit := by
  unfold smA
  by_cases c : e = 0
  · have hd := hd c
    rw [if_pos c]
    unfold smN
    obtain ⟨f0, a, b, cc, dd, ee, f⟩ := h
    split
    · refine ⟨⟨f0, ?_, ?_, ?_, ?_, ee, ?_⟩, rfl⟩ <;> simp only [Sk.went, Sk.edit] <;> omega
    · refine ⟨⟨f0, ?_, ?_, cc, ?_, ee, ?_⟩, rfl⟩ <;> simp only [Sk.edit] <;> omega
  · rw [if_neg c]; exact ⟨h.up, rfl⟩
theorem Bd.sw {n : Nat} {bk : Int} {k : Sk} (h : Bd n k) (to : Int) : Bd (n + 1) (smS bk k to).2.2 ∧ (smS bk k to).2.2.limit = k.limit := by
  unfold smS
  by_cases c : to = 1 ∨ to = 2
  · rw [if_pos c]
    by_cases d : to = bk
    · rw [if_pos d]; exact ⟨h.up, rfl⟩
    · rw [if_neg d]
      obtain ⟨f0, a, b, cc, dd, ee, f⟩ := h
      refine ⟨⟨f0, a, ?_, cc, ?_, ?_, ?_⟩, rfl⟩ <;> simp only [Sk.forced] <;> omega
  · rw [if_neg c]; exact ⟨h.up, rfl⟩
/-- only blocks of the two stores' kinds are turned -/
structure Fq (W W' : World) : Prop where
  size : W.heap.size ≤ W'.heap.size
  keep : ∀ (j : Nat) (cur : Array Value) (T : TypeId) (fz : Nat × Nat), W.heap[j]? = some (.cells cur T fz) → T ≠ 50 → T ≠ 192 → T ≠ 5 → T ≠ 190 → T ≠ 61 → T ≠ 185 → W'.heap[j]? = some (.cells cur T fz)
theorem Fq.refl (W : World) : Fq W W := ⟨Nat.le_refl _, fun _ _ _ _ h _ _ _ _ _ _ => h⟩
theorem Fq.trans {W X Y : World} (h : Fq W X) (g : Fq X Y) : Fq W Y := ⟨Nat.le_trans h.size g.size, fun j cur T fz hj a b c d e f => g.keep j cur T fz (h.keep j cur T fz hj a b c d e f) a b c d e f⟩
theorem Fq.of_fty {W X : World} (h : Fty W X) : Fq W X := ⟨h.size, fun j cur T fz hj a b c d _ _ => h.keep j cur T fz hj a b c d⟩
theorem Fq.below {W X : World} (h : Below W.heap.size W X) : Fq W X := .of_fty (.below h)
theorem Fq.of_rt {W X : World} {rb p : Nat} {g : Gp} {rk : Rk} (h : Rf W rb p g rk) (ht : Tn (Rt rb p) W X) : Fq W X :=
  ⟨ht.size, fun j cur T fz hj _ _ _ _ e f => (ht.block j (Array.getElem?_eq_some_iff.1 hj).1 (fun q => by
    rcases q with rfl | rfl
    · rw [h.box] at hj; injection hj with hj; injection hj with _ t _; exact e t.symm
    · have hb : W.heap[j]? = some (.cells _ 185 (0, 0)) := h.buf
      rw [hb] at hj; injection hj with hj; injection hj with _ t _; exact f t.symm)).trans hj⟩
/-- the two stores, and what else stays since W0 -/
structure P2 (w W0 : World) (b rb p : Nat) (s : ByteArray) (bk : Int) (k : Sk) (g : Gp) (rk : Rk) (W : World) : Prop where
  se : Se w b s bk k W
  rf : Rf W rb p g rk
  rb0 : w.heap.size ≤ rb
  p0 : w.heap.size ≤ p
  fq : Fq W0 W
section
variable {w W0 W W' : World} {b rb p : Nat} {s s' : ByteArray} {bk bk' : Int} {k k' : Sk} {g g' : Gp} {rk rk' : Rk}
theorem P2.low (h : P2 w W0 b rb p s bk k g rk W) (hb : Below W.heap.size W W') : P2 w W0 b rb p s bk k g rk W' := ⟨h.se.below hb, h.rf.below hb, h.rb0, h.p0, h.fq.trans (.below hb)⟩
theorem P2.drew (h : P2 w W0 b rb p s bk k g rk W) : P2 w W0 b rb p s bk k g rk W.drew := h.low ⟨rfl, rfl, rfl, Nat.le_refl _, fun _ _ => rfl⟩
theorem P2.st (h : P2 w W0 b rb p s bk k g rk W) (h1 : Se w b s' bk' k' W') (h2 : Fty W W') : P2 w W0 b rb p s' bk' k' g rk W' :=
  ⟨h1, ⟨h2.keep _ _ _ _ h.rf.box (by decide) (by decide) (by decide) (by decide), h2.keep _ _ _ _ h.rf.buf (by decide) (by decide) (by decide) (by decide), h.rf.ok⟩, h.rb0, h.p0, h.fq.trans (.of_fty h2)⟩
theorem P2.ref (h : P2 w W0 b rb p s bk k g rk W) (h1 : Rf W' rb p g' rk') (h2 : Tn (Rt rb p) W W') : P2 w W0 b rb p s bk k g' rk' W' := by
  refine ⟨?_, h1, h.rb0, h.p0, h.fq.trans (.of_rt h.rf h2)⟩
  obtain ⟨x, K, hs⟩ := h.se
  have nb : b ≠ rb := ne_type hs.st.box h.rf.box (by decide)
  have np : b ≠ p := ne_type hs.st.box h.rf.buf (by decide)
  have kb : W'.heap[b]? = W.heap[b]? := h2.block b (Array.getElem?_eq_some_iff.1 hs.st.box).1 (fun e => e.elim nb np)
  refine ⟨x, K, ⟨kb.trans hs.st.box, hs.st.hold.keep h2 (fun j hj => ?_) (fun j cur T fz hj hc => ?_), hs.st.lim⟩, hs.bk, hs.text, tn_bel hs.bel h2 (fun j e => ?_), hs.lo, hs.b0⟩
  · obtain ⟨cur, T, e1, e2⟩ := hs.st.hold.blk_ty hj
    have n1 : j ≠ rb := ne_type e1 h.rf.box (by rcases e2 with rfl | rfl | rfl <;> decide)
    have n2 : j ≠ p := ne_type e1 h.rf.buf (by rcases e2 with rfl | rfl | rfl <;> decide)
    exact fun e => e.elim n1 n2
  · rcases hj with rfl | rfl
    · rw [h.rf.box] at hc; injection hc with hc; injection hc with _ t _; subst t; decide
    · have hb : W.heap[j]? = some (.cells _ 185 (0, 0)) := h.rf.buf
      rw [hb] at hc; injection hc with hc; injection hc with _ t _; subst t; decide
  · rcases e with rfl | rfl
    · exact h.rb0
    · exact h.p0
theorem Se.bk12 (h : Se w b s bk k W) : bk = 1 ∨ bk = 2 := by
  obtain ⟨x, K, h⟩ := h
  rw [← h.bk]; cases Tx.or x <;> simp [Tx.bk]
theorem Se.lim (h : Se w b s bk k W) : ∃ l : Nat, k.limit = l ∧ k.limit.toNat = l ∧ s.size ≤ l ∧ l ≤ 1073741824 := by
  obtain ⟨x, K, h⟩ := h
  have := h.st.lim
  obtain ⟨h1, h2⟩ := h.st.hold.size
  rw [h.text] at h1
  exact ⟨K.lim, this, by omega, h1, h2⟩
end
/-- the two calls of one kind, one behind the other -/
structure Sep (w W0 : World) (b rb p : Nat) (s : ByteArray) (bk : Int) (k : Sk) (g : Gp) (rk : Rk) (s' : ByteArray) (bk' : Int) (k' : Sk) (g' : Gp) (rk' : Rk) (fp fr : FuncId) (ps : List Value) (rv : Value) : Prop where
  pg : ∀ W, P2 w W0 b rb p s bk k g rk W → Calls Tryz.prog fp (.pointer (some ⟨b, 0, none⟩) :: ps).toArray W fun e W' => e = .returned rv ∧ P2 w W0 b rb p s' bk' k' g rk W'
  rg : ∀ W, P2 w W0 b rb p s' bk' k' g rk W → Calls Tryz.prog fr (.pointer (some ⟨rb, 0, none⟩) :: ps).toArray W fun e W' => e = .returned rv ∧ P2 w W0 b rb p s' bk' k' g' rk' W'
/-- both behind the same call: alike again -/
def Lk (n z : Nat) (s : ByteArray) (bk : Int) (k : Sk) (g : Gp) (rk : Rk) : Prop := g.s = s ∧ g.l = k.limit.toNat ∧ rk = rkOf bk k ∧ Bd n k ∧ s.size ≤ z ∧ (bk = 1 ∨ bk = 2)
/-- what a store was made of stays -/
def Kc (k k' : Sk) : Prop := k'.kind = k.kind ∧ k'.lo = k.lo ∧ k'.hi = k.hi ∧ k'.limit = k.limit
theorem smA_kc (bk : Int) (k : Sk) (e d : Int) (z : Nat) : Kc k (smA bk k e d z).2 := by
  unfold smA smN
  split
  · split <;> exact ⟨rfl, rfl, rfl, rfl⟩
  · exact ⟨rfl, rfl, rfl, rfl⟩
theorem smS_kc (bk : Int) (k : Sk) (to : Int) : Kc k (smS bk k to).2.2 := by
  unfold smS
  split
  · split <;> exact ⟨rfl, rfl, rfl, rfl⟩
  · exact ⟨rfl, rfl, rfl, rfl⟩
section
variable {w W0 : World} {b rb p : Nat} {s : ByteArray} {bk : Int} {k : Sk} {g : Gp} {rk : Rk} {n z : Nat}
/-- an edit by Replace, on both sides -/
theorem both_rep (hL : Lk n z s bk k g rk) (hok : g.ok) (hn : n ≤ 16777216) (hE : Ev w) (a c : Int) (put : ByteArray) (ha : -9223372036854775808 ≤ a ∧ a ≤ 9223372036854775807) (hc : c ≤ 9223372036854775807) (hp : put.size ≤ 1048576) :
    ∃ s' bk' k' g' rk' o r, Lk (n + 1) (z + put.size) s' bk' k' g' rk' ∧ g'.ok ∧
      (∀ W, P2 w W0 b rb p s bk k g rk W → Calls Tryz.prog 74 #[.pointer (some ⟨b, 0, none⟩), .int .i64 a, .int .i64 c, .string put] W fun e W' => ∃ o' r', e = .returned (.tuple #[.string o', .int .i64 r']) ∧ (o' = o ∧ r' = r) ∧ P2 w W0 b rb p s' bk' k' g rk W') ∧
      (∀ W, P2 w W0 b rb p s' bk' k' g rk W → Calls Tryz.prog 75 #[.pointer (some ⟨rb, 0, none⟩), .int .i64 a, .int .i64 c, .string put] W fun e W' => ∃ o' r', e = .returned (.tuple #[.string o', .int .i64 r']) ∧ (o' = o ∧ r' = r) ∧ P2 w W0 b rb p s' bk' k' g' rk' W') ∧ Kc k k' := by
  obtain ⟨h1, h2, h3, h4, h5, h6⟩ := hL
  obtain ⟨t1, t2, t3⟩ := gRep_tx g a c put
  obtain ⟨T, hT⟩ : ∃ T, txR s k.limit.toNat a c put = T := ⟨_, rfl⟩
  rw [h1, h2, hT] at t1 t3
  have hd : T.2.2 = 0 → 0 ≤ c + (put.size : Int) ∧ c + (put.size : Int) ≤ 4294967296 := fun e => by
    have := txR_zero (s := s) (l := k.limit.toNat) (a := a) (c := c) (put := put) (by rw [hT]; exact e)
    have := hok.2.1; have := hok.2.2
    rw [h1] at *
    omega
  have hs : T.1.size ≤ s.size + put.size := by
    rw [← hT]
    unfold txR
    split
    · simp
    · rename_i c1
      split
      · simp
      · simp only [size_app]
        rw [size_extract _ _ _ (by omega), size_extract _ _ _ (Nat.le_refl _)]
        omega
  obtain ⟨b1, b2⟩ := h4.edit (bk := bk) T.2.2 (c + put.size) T.1.size hd
  have hr := rk_after (k := k) h6 T.2.2 (c + put.size) T.1.size
  have hg := gRep_ok hok a c put
  have hr2 : (rk.after (gRep g a c put).2.2 (c + put.size) (gRep g a c put).1.s.size) = rkOf (smA bk k T.2.2 (c + put.size) T.1.size).1 (smA bk k T.2.2 (c + put.size) T.1.size).2 := by rw [h3, t1, t3]; exact hr
  have h6' : (smA bk k T.2.2 (c + put.size) T.1.size).1 = 1 ∨ (smA bk k T.2.2 (c + put.size) T.1.size).1 = 2 := by
    unfold smA smN
    split
    · split
      · simp only; omega
      · exact h6
    · exact h6
  refine ⟨T.1, _, _, (gRep g a c put).1, _, T.2.1, T.2.2, ⟨t1, by rw [t2, h2, b2], hr2, b1, by omega, h6'⟩, hg, fun W hW => ?_, fun W hW => ?_, smA_kc _ _ _ _ _⟩
  · refine (se_rep hW.se hE h4.fit (h4.few hn) a c put ha hc (by omega) T hT _ rfl).mono ?_
    rintro e W' ⟨o, r, q1, q2, q3, q4⟩
    exact ⟨o, r, q1, q2, hW.st q3 q4⟩
  · have f := h4.few hn
    refine (rrep9_any hW.rf (by rw [h3]; exact lo_hi k) a c put (by omega) ⟨by rw [h3]; exact f.1, by rw [h3]; have := h4.ed; show k.ed ≤ _; omega, by rw [h3]; exact f.2.2.1, by rw [h3]; exact f.2.2.2.1⟩).mono ?_
    rintro e W' ⟨q1, q2, q3⟩
    refine ⟨_, _, q1, ⟨by rw [t3], by rw [t3]⟩, hW.ref q2 q3⟩
theorem reset_tx (s : ByteArray) (l : Nat) (put : ByteArray) : (txR s l 0 s.size put).2.2 = (if put.size ≤ l then 0 else 2) ∧ (txR s l 0 s.size put).1 = (if put.size ≤ l then put else s) := by
  unfold txR
  rw [if_neg (by omega)]
  by_cases c : put.size ≤ l
  · rw [if_neg (by omega), if_pos c, if_pos c]
    refine ⟨rfl, ?_⟩
    have e1 : s.extract 0 (0 : Int).toNat = ⟨#[]⟩ := by
      apply ByteArray.ext; simp
    have e2 : s.extract ((0 : Int).toNat + (s.size : Int).toNat) s.size = ⟨#[]⟩ := by
      apply ByteArray.ext; simp
    show s.extract 0 (0 : Int).toNat ++ put ++ s.extract ((0 : Int).toNat + (s.size : Int).toNat) s.size = put
    rw [e1, e2]
    apply ByteArray.ext
    simp
  · rw [if_pos (by omega), if_neg c, if_neg c]
    exact ⟨rfl, rfl⟩
theorem sep_rep (hL : Lk n z s bk k g rk) (hok : g.ok) (hn : n ≤ 16777216) (hE : Ev w) (a c : Int) (put : ByteArray) (ha : -9223372036854775808 ≤ a ∧ a ≤ 9223372036854775807) (hc : c ≤ 9223372036854775807) (hp : put.size ≤ 1048576) :
    ∃ s' bk' k' g' rk' o r, Lk (n + 1) (z + put.size) s' bk' k' g' rk' ∧ g'.ok ∧ Sep w W0 b rb p s bk k g rk s' bk' k' g' rk' 74 75 [.int .i64 a, .int .i64 c, .string put] (.tuple #[.string o, .int .i64 r]) ∧ Kc k k' := by
  obtain ⟨s', bk', k', g', rk', o, r, q1, q2, q3, q4, q5⟩ := both_rep (W0 := W0) (b := b) (rb := rb) (p := p) hL hok hn hE a c put ha hc hp
  exact ⟨s', bk', k', g', rk', o, r, q1, q2, ⟨fun W hW => (q3 W hW).mono fun e W' ⟨o', r', e1, ⟨e2, e3⟩, e4⟩ => ⟨by rw [e1, e2, e3], e4⟩, fun W hW => (q4 W hW).mono fun e W' ⟨o', r', e1, ⟨e2, e3⟩, e4⟩ => ⟨by rw [e1, e2, e3], e4⟩⟩, q5⟩
theorem sep_ins (hL : Lk n z s bk k g rk) (hok : g.ok) (hn : n ≤ 16777216) (hE : Ev w) (a : Int) (put : ByteArray) (ha : -9223372036854775808 ≤ a ∧ a ≤ 9223372036854775807) (hp : put.size ≤ 1048576) :
    ∃ s' bk' k' g' rk' r, Lk (n + 1) (z + put.size) s' bk' k' g' rk' ∧ g'.ok ∧ Sep w W0 b rb p s bk k g rk s' bk' k' g' rk' 67 72 [.int .i64 a, .string put] (.int .i64 r) ∧ Kc k k' := by
  obtain ⟨s', bk', k', g', rk', o, r, q1, q2, q3, q4, q5⟩ := both_rep (W0 := W0) (b := b) (rb := rb) (p := p) hL hok hn hE a 0 put ha (by omega) hp
  exact ⟨s', bk', k', g', rk', r, q1, q2, ⟨fun W hW => (sins_of (q3 W hW)).mono fun e W' ⟨o', r', e1, ⟨_, e3⟩, e4⟩ => ⟨by rw [e1, e3], e4⟩, fun W hW => (rins9_of (q4 W hW)).mono fun e W' ⟨o', r', e1, ⟨_, e3⟩, e4⟩ => ⟨by rw [e1, e3], e4⟩⟩, q5⟩
theorem sep_del (hL : Lk n z s bk k g rk) (hok : g.ok) (hn : n ≤ 16777216) (hE : Ev w) (a c : Int) (ha : -9223372036854775808 ≤ a ∧ a ≤ 9223372036854775807) (hc : c ≤ 9223372036854775807) :
    ∃ s' bk' k' g' rk' o r, Lk (n + 1) z s' bk' k' g' rk' ∧ g'.ok ∧ Sep w W0 b rb p s bk k g rk s' bk' k' g' rk' 70 73 [.int .i64 a, .int .i64 c] (.tuple #[.string o, .int .i64 r]) ∧ Kc k k' := by
  obtain ⟨s', bk', k', g', rk', o, r, q1, q2, q3, q4, q5⟩ := both_rep (W0 := W0) (b := b) (rb := rb) (p := p) hL hok hn hE a c ⟨#[]⟩ ha hc (by decide)
  exact ⟨s', bk', k', g', rk', o, r, q1, q2, ⟨fun W hW => (sdel_of (q3 W hW)).mono fun e W' ⟨o', r', e1, ⟨e2, e3⟩, e4⟩ => ⟨by rw [e1, e2, e3], e4⟩, fun W hW => (rdel9_of (q4 W hW)).mono fun e W' ⟨o', r', e1, ⟨e2, e3⟩, e4⟩ => ⟨by rw [e1, e2, e3], e4⟩⟩, q5⟩
theorem sep_reset (hL : Lk n z s bk k g rk) (hok : g.ok) (hn : n ≤ 16777216) (hE : Ev w) (put : ByteArray) (hp : put.size ≤ 1048576) :
    ∃ s' bk' k' g' rk' r, Lk (n + 1) (z + put.size) s' bk' k' g' rk' ∧ g'.ok ∧ Sep w W0 b rb p s bk k g rk s' bk' k' g' rk' 76 77 [.string put] (.int .i64 r) ∧ Kc k k' := by
  obtain ⟨h1, h2, h3, h4, h5, h6⟩ := hL
  obtain ⟨u1, u2⟩ := reset_tx s k.limit.toNat put
  obtain ⟨T, hT⟩ : ∃ T, txR s k.limit.toNat 0 s.size put = T := ⟨_, rfl⟩
  rw [hT] at u1 u2
  have t1 : (gReset g put).1.s = T.1 ∧ (gReset g put).2 = T.2.2 ∧ (gReset g put).1.l = g.l := by
    rw [u1, u2]
    unfold gReset
    rw [h2]
    split
    · exact ⟨rfl, rfl, rfl⟩
    · exact ⟨h1, rfl, h2⟩
  obtain ⟨t1, t3, t2⟩ := t1
  have hok2 := hok.2
  rw [h1] at hok2
  have hd : T.2.2 = 0 → 0 ≤ (s.size : Int) + (put.size : Int) ∧ (s.size : Int) + (put.size : Int) ≤ 4294967296 := fun e => by omega
  have hs : T.1.size ≤ s.size + put.size := by rw [u2]; split <;> omega
  obtain ⟨b1, b2⟩ := h4.edit (bk := bk) T.2.2 (s.size + put.size) T.1.size hd
  have hr := rk_after (k := k) h6 T.2.2 (s.size + put.size) T.1.size
  have hg := gReset_ok hok put
  have hr2 : (rk.after (gReset g put).2 (g.s.size + put.size) (gReset g put).1.s.size) = rkOf (smA bk k T.2.2 (s.size + put.size) T.1.size).1 (smA bk k T.2.2 (s.size + put.size) T.1.size).2 := by rw [h3, t1, t3, h1]; exact hr
  have h6' : (smA bk k T.2.2 (s.size + put.size) T.1.size).1 = 1 ∨ (smA bk k T.2.2 (s.size + put.size) T.1.size).1 = 2 := by
    unfold smA smN
    split
    · split
      · simp only; omega
      · exact h6
    · exact h6
  refine ⟨T.1, _, _, (gReset g put).1, _, T.2.2, ⟨t1, by rw [t2, h2, b2], hr2, b1, by omega, h6'⟩, hg, ⟨fun W hW => ?_, fun W hW => ?_⟩, smA_kc _ _ _ _ _⟩
  · have hq : ∀ X, Below W.heap.size W X → P2 w W0 b rb p s bk k g rk X := fun X hX => hW.low hX
    refine (sreset_of (n := s.size) (put := put) (R := fun o r W' => (o = T.2.1 ∧ r = T.2.2) ∧ P2 w W0 b rb p T.1 (smA bk k T.2.2 (s.size + put.size) T.1.size).1 (smA bk k T.2.2 (s.size + put.size) T.1.size).2 g rk W') (se_len hW.se) (fun X hX => ?_)).mono ?_
    · refine (se_rep (hq X hX).se hE h4.fit (h4.few hn) 0 s.size put (by omega) (by omega) (by omega) T hT _ rfl).mono ?_
      rintro e W' ⟨o, r, q1, q2, q3, q4⟩
      exact ⟨o, r, q1, q2, (hq X hX).st q3 q4⟩
    · rintro e W' ⟨o, r, q1, ⟨_, q2⟩, q3⟩
      exact ⟨by rw [q1, q2], q3⟩
  · have f := h4.few hn
    refine (rreset9_any hW.rf (by rw [h3]; exact lo_hi k) put (by omega) ⟨by rw [h3]; exact f.1, by rw [h3]; have := h4.ed; show k.ed ≤ _; omega, by rw [h3]; exact f.2.2.1, by rw [h3]; exact f.2.2.2.1⟩).mono ?_
    rintro e W' ⟨q1, q2, q3⟩
    exact ⟨by rw [q1, t3], hW.ref q2 q3⟩
theorem sep_sw (hL : Lk n z s bk k g rk) (hok : g.ok) (hn : n ≤ 16777216) (hE : Ev w) (to : Int) :
    ∃ bk' k' rk' r, Lk (n + 1) z s bk' k' g rk' ∧ g.ok ∧ Sep w W0 b rb p s bk k g rk s bk' k' g rk' 25 78 [.int .i64 to] (.int .i64 r) ∧ Kc k k' := by
  obtain ⟨h1, h2, h3, h4, h5, h6⟩ := hL
  obtain ⟨b1, b2⟩ := h4.sw (bk := bk) to
  have hr := rk_sw bk k to
  rw [← h3] at hr
  have h6' : (smS bk k to).2.1 = 1 ∨ (smS bk k to).2.1 = 2 := by
    unfold smS
    split
    · split
      · exact h6
      · assumption
    · exact h6
  have f := h4.few hn
  refine ⟨(smS bk k to).2.1, (smS bk k to).2.2, (rk.sw to).2, (smS bk k to).1, ⟨h1, by rw [h2, b2], by rw [hr], b1, h5, h6'⟩, hok, ⟨fun W hW => ?_, fun W hW => ?_⟩, smS_kc _ _ _⟩
  · refine (se_sw hW.se hE f to _ rfl).mono ?_
    rintro e W' ⟨q1, q2, q3⟩
    exact ⟨q1, hW.st q2 q3⟩
  · refine (rsw9_any hW.rf to ⟨by rw [h3]; exact f.2.2.2.2.1, by rw [h3]; exact f.2.2.2.2.2⟩).mono ?_
    rintro e W' ⟨q1, q2, q3⟩
    exact ⟨by rw [q1, hr], hW.ref q2 q3⟩
end
end Go.Proofs.YtffipfmnpffdaaaGreatDoor.Sto
namespace Go.Proofs.YtffipfmnpffdaaaGreatDoor.Sto
open Go.RowKit Go.Shelf Bod Wid
open Gap (Gp)

theorem p2_lo {w W0 : World} {b rb p : Nat} {s : ByteArray} {bk : Int} {k : Sk} {g : Gp} {rk : Rk} {n z : Nat} (hL : Lk n z s bk k g rk) : Lo b rb (P2 w W0 b rb p s bk k g rk) (loK k) (hiK k) (kdK k) bk k.limit k.mv k.fo k.ed s.size s := by
  obtain ⟨h1, h2, h3, h4, h5, h6⟩ := hL
  subst h3
  have lw : ∀ {W W' : World}, P2 w W0 b rb p s bk k g (rkOf bk k) W → Below W.heap.size W W' → P2 w W0 b rb p s bk k g (rkOf bk k) W' := fun h hb => h.low hb
  refine ⟨?_, ?_, ?_, ?_, ?_, ?_, ?_, ?_, ?_, ?_, ?_, ?_, ?_, ?_⟩ <;> intro W hW
  · obtain ⟨x, K, hs⟩ := hW.se
    exact (thr_any hs.st.spt h4.fit).mono fun e W' ⟨q1, q2⟩ => ⟨q1, lw hW q2⟩
  · exact (rthr_any hW.rf).mono fun e W' ⟨q1, q2⟩ => ⟨q1, lw hW q2⟩
  · obtain ⟨x, K, hs⟩ := hW.se
    exact (kind_any hs.st.spt).mono fun e W' ⟨q1, q2⟩ => ⟨q1, lw hW q2⟩
  · exact (rkind_any hW.rf).mono fun e W' ⟨q1, q2⟩ => ⟨q1, by rw [q2]; exact hW⟩
  · exact (se_back hW.se).mono fun e W' ⟨q1, q2⟩ => ⟨q1, by rw [q2]; exact hW⟩
  · exact (rback_any hW.rf).mono fun e W' ⟨q1, q2⟩ => ⟨q1, by rw [q2]; exact hW⟩
  · obtain ⟨x, K, hs⟩ := hW.se
    exact (limit_any hs.st.spt).mono fun e W' ⟨q1, q2⟩ => ⟨q1, lw hW q2⟩
  · obtain ⟨l, e1, e2, _, _⟩ := hW.se.lim
    have := rlim_any hW.rf
    rw [h2, e2, ← e1] at this
    exact this.mono fun e W' ⟨q1, q2⟩ => ⟨q1, by rw [q2]; exact hW⟩
  · obtain ⟨x, K, hs⟩ := hW.se
    exact (counts_any hs.st.spt).mono fun e W' ⟨q1, q2⟩ => ⟨q1, lw hW q2⟩
  · exact (rcnt_any hW.rf).mono fun e W' ⟨q1, q2⟩ => ⟨q1, lw hW q2⟩
  · exact (se_len hW.se).mono fun e W' ⟨q1, q2⟩ => ⟨q1, lw hW q2⟩
  · have := rlen9_any hW.rf
    rw [h1] at this
    exact this.mono fun e W' ⟨q1, q2⟩ => ⟨q1, by rw [q2]; exact hW⟩
  · obtain ⟨x, K, hs⟩ := hW.se
    have := stext_any hs.st.spt hs.st.hold
    rw [hs.text] at this
    exact this.mono fun e W' ⟨q1, q2⟩ => ⟨q1, lw hW q2⟩
  · have := rtext9_any hW.rf
    rw [h1] at this
    exact this.mono fun e W' ⟨q1, q2⟩ => ⟨q1, by rw [q2]; exact hW⟩
theorem looks_p2 {w W0 W : World} {b rb p : Nat} {s : ByteArray} {bk : Int} {k : Sk} {g : Gp} {rk : Rk} {n z : Nat} (hL : Lk n z s bk k g rk) (h : P2 w W0 b rb p s bk k g rk W) :
    Calls Tryz.prog 24 #[.pointer (some ⟨b, 0, none⟩), .pointer (some ⟨rb, 0, none⟩)] W fun e W' => e = .returned (.bool true) ∧ P2 w W0 b rb p s bk k g rk W' := looks_of (p2_lo hL) W h
end Go.Proofs.YtffipfmnpffdaaaGreatDoor.Sto
namespace Go.Proofs.YtffipfmnpffdaaaGreatDoor.Sto
open Go.RowKit Go.Shelf Bod Wid
open Gap (Gp gSlice gMea)

/-- the two stores, alike, behind n calls, with a text of at most z -/
def Pq (w : World) (b rb p n z : Nat) (W : World) : Prop := ∃ s bk k g rk, Lk n z s bk k g rk ∧ g.ok ∧ P2 w W b rb p s bk k g rk W
/-- what the zero store is made of -/
def Zk (k : Sk) : Prop := k.kind = 0 ∧ k.lo = 0 ∧ k.hi = 0 ∧ k.limit = 0
theorem Zk.kc {k k' : Sk} (h : Zk k) (g : Kc k k') : Zk k' := ⟨g.1.trans h.1, g.2.1.trans h.2.1, g.2.2.1.trans h.2.2.1, g.2.2.2.trans h.2.2.2⟩
/-- .. and the store is the zero one, or was -/
def Pz (w : World) (b rb p n z : Nat) (W : World) : Prop := ∃ s bk k g rk, Lk n z s bk k g rk ∧ g.ok ∧ P2 w W b rb p s bk k g rk W ∧ Zk k
theorem Pz.up {w W : World} {b rb p n z z' : Nat} (h : Pz w b rb p n z W) (hz : z ≤ z') : Pz w b rb p n z' W := by
  obtain ⟨s, bk, k, g, rk, ⟨l1, l2, l3, l4, l5, l6⟩, ho, h, hk⟩ := h
  exact ⟨s, bk, k, g, rk, ⟨l1, l2, l3, l4, by omega, l6⟩, ho, h, hk⟩
def opv (x : Oc) : Value := .agg #[.int .i64 x.kd, .int .i64 x.a, .int .i64 x.c, .string x.p]
section
variable {w W : World} {b rb p n z : Nat}
theorem P2.again {W0 X : World} {s : ByteArray} {bk : Int} {k : Sk} {g : Gp} {rk : Rk} (h : P2 w W0 b rb p s bk k g rk X) : P2 w X b rb p s bk k g rk X := ⟨h.se, h.rf, h.rb0, h.p0, .refl X⟩
theorem Pq.bel (h : Pq w b rb p n z W) : Below w.heap.size w W := by obtain ⟨s, bk, k, g, rk, _, _, h⟩ := h; exact h.se.bel
theorem Pq.up {z' : Nat} (h : Pq w b rb p n z W) (hz : z ≤ z') : Pq w b rb p n z' W := by
  obtain ⟨s, bk, k, g, rk, ⟨l1, l2, l3, l4, l5, l6⟩, ho, h⟩ := h
  exact ⟨s, bk, k, g, rk, ⟨l1, l2, l3, l4, by omega, l6⟩, ho, h⟩
theorem works_pq (h : Pq w b rb p n z W) (hE : Ev w) (hn : n ≤ 16777216) (x : Oc) (hx : x.fit) (hp : x.p.size ≤ 1048576) :
    Calls Tryz.prog 22 #[.pointer (some ⟨b, 0, none⟩), .pointer (some ⟨rb, 0, none⟩), opv x] W fun e W' => e = .returned (.bool true) ∧ Pq w b rb p (n + 1) (z + x.p.size) W' := by
  obtain ⟨s, bk, k, g, rk, hL, ho, h⟩ := h
  obtain ⟨kd, a, c, put⟩ := x
  obtain ⟨x1, x2, x3⟩ := hx
  dsimp only at x1 x2 x3 hp
  obtain ⟨W0, hW0⟩ : ∃ W0, W.alloc (.cells #[.int .i64 kd, .int .i64 a, .int .i64 c, .string put] 55) = W0 := ⟨_, rfl⟩
  have hB : Below W.heap.size W W0 := by rw [← hW0]; exact (Below.refl _ W).alloc (Nat.le_refl _) _
  have hbx : W0.heap[W.heap.size]? = some (.cells #[.int .i64 kd, .int .i64 a, .int .i64 c, .string put] 55 (0, 0)) := by rw [← hW0]; exact World.alloc_heap_new W _
  have h0 : P2 w W0 b rb p s bk k g rk W0 := (h.low hB).again
  have ob : ∀ {X : World} {s : ByteArray} {bk : Int} {k : Sk} {g : Gp} {rk : Rk}, P2 w W0 b rb p s bk k g rk X → Obx X W.heap.size kd a c put := fun hX =>
    (box4 (hX.fq.keep _ _ _ _ hbx (by decide) (by decide) (by decide) (by decide) (by decide) (by decide))).1
  have dr : ∀ X, P2 w W0 b rb p s bk k g rk X → P2 w W0 b rb p s bk k g rk X.drew := fun X hX => hX.drew
  unfold opv
  dsimp only
  by_cases k1 : kd = 1
  · subst k1
    obtain ⟨s', bk', k', g', rk', r, q1, q2, q3, -⟩ := sep_ins (W0 := W0) (b := b) (rb := rb) (p := p) hL ho hn hE a put x2 hp
    exact (works_1 hW0 h0 dr (fun X hX => hX.elim ob (·.elim ob ob)) q3.pg q3.rg).mono fun e W' ⟨e1, e2⟩ => ⟨e1, s', bk', k', g', rk', q1, q2, e2.again⟩
  · by_cases k2 : kd = 2
    · subst k2
      obtain ⟨s', bk', k', g', rk', o, r, q1, q2, q3, -⟩ := sep_del (W0 := W0) (b := b) (rb := rb) (p := p) hL ho hn hE a c x2 x3.2
      exact (works_2 hW0 h0 dr (fun X hX => hX.elim ob (·.elim ob ob)) q3.pg q3.rg).mono fun e W' ⟨e1, e2⟩ => ⟨e1, Pq.up (z := z) ⟨s', bk', k', g', rk', q1, q2, e2.again⟩ (by omega)⟩
    · by_cases k3 : kd = 3
      · subst k3
        obtain ⟨s', bk', k', g', rk', o, r, q1, q2, q3, -⟩ := sep_rep (W0 := W0) (b := b) (rb := rb) (p := p) hL ho hn hE a c put x2 x3.2 hp
        exact (works_3 hW0 h0 dr (fun X hX => hX.elim ob (·.elim ob ob)) q3.pg q3.rg).mono fun e W' ⟨e1, e2⟩ => ⟨e1, s', bk', k', g', rk', q1, q2, e2.again⟩
      · by_cases k4 : kd = 4
        · subst k4
          obtain ⟨s', bk', k', g', rk', r, q1, q2, q3, -⟩ := sep_reset (W0 := W0) (b := b) (rb := rb) (p := p) hL ho hn hE put hp
          exact (works_4 hW0 h0 dr (fun X hX => hX.elim ob (·.elim ob ob)) q3.pg q3.rg).mono fun e W' ⟨e1, e2⟩ => ⟨e1, s', bk', k', g', rk', q1, q2, e2.again⟩
        · by_cases k5 : kd = 5
          · subst k5
            obtain ⟨bk', k', rk', r, q1, q2, q3, -⟩ := sep_sw (W0 := W0) (b := b) (rb := rb) (p := p) hL ho hn hE a
            exact (works_5 hW0 h0 dr (fun X hX => hX.elim ob (·.elim ob ob)) q3.pg q3.rg).mono fun e W' ⟨e1, e2⟩ => ⟨e1, Pq.up (z := z) ⟨s, bk', k', g, rk', q1, q2, e2.again⟩ (by omega)⟩
          · refine (works_0 (R0 := P2 w W0 b rb p s bk k g rk) k1 k2 k3 k4 k5 hW0 h0 (ob h0)).mono fun e W' ⟨e1, e2⟩ => ⟨e1, Pq.up (z := z) ⟨s, bk, k, g, rk, ?_, ho, e2.again⟩ (by omega)⟩
            obtain ⟨l1, l2, l3, l4, l5, l6⟩ := hL
            exact ⟨l1, l2, l3, l4.up, l5, l6⟩
theorem looks_pq (h : Pq w b rb p n z W) : Calls Tryz.prog 24 #[.pointer (some ⟨b, 0, none⟩), .pointer (some ⟨rb, 0, none⟩)] W fun e W' => e = .returned (.bool true) ∧ Pq w b rb p n z W' := by
  obtain ⟨s, bk, k, g, rk, hL, ho, h⟩ := h
  exact (looks_p2 hL h).mono fun e W' ⟨q1, q2⟩ => ⟨q1, s, bk, k, g, rk, hL, ho, q2.again⟩
theorem next_ex (s : ByteArray) (i : Int) : ∃ m, IsNext s i m := by
  by_cases c1 : i < 0
  · exact ⟨0, next_low c1⟩
  · by_cases c2 : (s.size : Int) ≤ i
    · exact ⟨_, next_high c2⟩
    · have := nxC_is (s := s) (i := i.toNat) (by omega)
      rw [show ((i.toNat : Nat) : Int) = i by omega] at this
      exact ⟨_, this⟩
theorem prev_ex (s : ByteArray) (i : Int) : ∃ m, IsPrev s i m := by
  by_cases c1 : i ≤ 0
  · exact ⟨0, prev_low c1⟩
  · have := pvC_is s i.toNat
    rw [show ((i.toNat : Nat) : Int) = i by omega] at this
    exact ⟨_, this⟩
theorem snap_ex (s : ByteArray) (i : Int) : ∃ m, IsSnap s i m := by
  cases c : cbZ s i with
  | true =>
    have h0 : 0 ≤ i := by
      by_cases h : 0 ≤ i
      · exact h
      · rw [cb_out (.inl (by omega))] at c; cases c
    exact ⟨i.toNat, by have := IsSnap.self (s := s) (m := i.toNat) (by rw [show ((i.toNat : Nat) : Int) = i by omega]; exact c); rwa [show ((i.toNat : Nat) : Int) = i by omega] at this⟩
  | false => obtain ⟨m, hm⟩ := next_ex s i; exact ⟨m, hm.snap c⟩
theorem asks_pq (h : Pq w b rb p n z W) (hE : Ev w) (hz : z ≤ 1048576) (x : Oc) (hx : x.fit) :
    Calls Tryz.prog 23 #[.pointer (some ⟨b, 0, none⟩), .pointer (some ⟨rb, 0, none⟩), opv x] W fun e W' => e = .returned (.bool true) ∧ Pq w b rb p n z W' := by
  obtain ⟨s, bk, k, g, rk, hL, ho, h⟩ := h
  obtain ⟨kd, a, c, put⟩ := x
  obtain ⟨x1, x2, x3⟩ := hx
  dsimp only at x1 x2 x3
  obtain ⟨mn, hmn⟩ := next_ex s a
  obtain ⟨mp, hmp⟩ := prev_ex s a
  obtain ⟨ms, hms⟩ := snap_ex s a
  have hg : g.s = s := hL.1
  have hgz : g.s.size ≤ 2097152 := by rw [hg]; have := hL.2.2.2.2.1; omega
  have hp : ∀ X, Below W.heap.size W X → P2 w W b rb p s bk k g rk X := fun X hX => h.low hX
  have pc : ∀ X, Below W.heap.size W X → Pcs X (.pointer (some ⟨b, 0, none⟩)) s s.size ∧ Ev X := fun X hX => by
    obtain ⟨y, K, hs⟩ := (hp X hX).se
    have := pcs_of hs.st.spt hs.st.hold
    rw [hs.text] at this
    exact ⟨this, hE.below hs.bel⟩
  have A : As W (.pointer (some ⟨b, 0, none⟩)) (.pointer (some ⟨rb, 0, none⟩)) a c (gSlice s a c).1 (gSlice s a c).2 (gMea s a c).1 (gMea s a c).2 (cbZ s a) mn mp ms := by
    refine ⟨?_, ?_, ?_, ?_, ?_, ?_, ?_, ?_, ?_, ?_, ?_, ?_⟩ <;> intro X hX
    · obtain ⟨y, K, hs⟩ := (hp X hX).se
      have := sslice_any hs.st.spt hs.st.hold a c
      rw [hs.text] at this
      exact this
    · have := rslice9_any (hp X hX).rf a c
      rw [hg] at this
      exact this
    · obtain ⟨y, K, hs⟩ := (hp X hX).se
      have := smeas_any hs.st.spt hs.st.hold (hE.below hs.bel) a c
      rw [hs.text] at this
      exact this
    · have := rmeas9_any (hp X hX).rf a c
      rw [hg] at this
      exact this
    · exact bound_of (pc X hX).1 (pc X hX).2 a x2.2
    · have := rbound9_any (hp X hX).rf hgz a
      rw [hg] at this
      exact this
    · exact (next_of (pc X hX).1 (pc X hX).2 a).mono fun e W' ⟨m, q1, q2, q3⟩ => ⟨by rw [q1, q2.uniq hmn], q3⟩
    · have := rnext9_any (hp X hX).rf hgz a
      rw [hg] at this
      exact this.mono fun e W' ⟨m, q1, q2, q3⟩ => ⟨by rw [q1, q2.uniq hmn], q3⟩
    · exact (prev_of (pc X hX).1 (pc X hX).2 a).mono fun e W' ⟨m, q1, q2, q3⟩ => ⟨by rw [q1, q2.uniq hmp], q3⟩
    · have := rprev9_any (hp X hX).rf hgz a
      rw [hg] at this
      exact this.mono fun e W' ⟨m, q1, q2, q3⟩ => ⟨by rw [q1, q2.uniq hmp], q3⟩
    · exact (snap_of (pc X hX).1 (pc X hX).2 a x2.2).mono fun e W' ⟨m, q1, q2, q3⟩ => ⟨by rw [q1, q2.uniq hms], q3⟩
    · have := rsnap9_any (hp X hX).rf hgz a
      rw [hg] at this
      exact this.mono fun e W' ⟨m, q1, q2, q3⟩ => ⟨by rw [q1, q2.uniq hms], q3⟩
  exact (asks_of A kd put).mono fun e W' ⟨q1, q2⟩ => ⟨q1, s, bk, k, g, rk, hL, ho, (hp W' q2).again⟩
theorem works_pz (h : Pz w b rb p n z W) (hE : Ev w) (hn : n ≤ 16777216) (x : Oc) (hx : x.fit) (hp : x.p.size ≤ 1048576) :
    Calls Tryz.prog 22 #[.pointer (some ⟨b, 0, none⟩), .pointer (some ⟨rb, 0, none⟩), opv x] W fun e W' => e = .returned (.bool true) ∧ Pz w b rb p (n + 1) (z + x.p.size) W' ∧ Fq W W' := by
  obtain ⟨s, bk, k, g, rk, hL, ho, h, hz⟩ := h
  obtain ⟨kd, a, c, put⟩ := x
  obtain ⟨x1, x2, x3⟩ := hx
  dsimp only at x1 x2 x3 hp
  obtain ⟨W0, hW0⟩ : ∃ W0, W.alloc (.cells #[.int .i64 kd, .int .i64 a, .int .i64 c, .string put] 55) = W0 := ⟨_, rfl⟩
  have hB : Below W.heap.size W W0 := by rw [← hW0]; exact (Below.refl _ W).alloc (Nat.le_refl _) _
  have hbx : W0.heap[W.heap.size]? = some (.cells #[.int .i64 kd, .int .i64 a, .int .i64 c, .string put] 55 (0, 0)) := by rw [← hW0]; exact World.alloc_heap_new W _
  have h0 : P2 w W0 b rb p s bk k g rk W0 := (h.low hB).again
  have ob : ∀ {X : World} {s : ByteArray} {bk : Int} {k : Sk} {g : Gp} {rk : Rk}, P2 w W0 b rb p s bk k g rk X → Obx X W.heap.size kd a c put := fun hX =>
    (box4 (hX.fq.keep _ _ _ _ hbx (by decide) (by decide) (by decide) (by decide) (by decide) (by decide))).1
  have dr : ∀ X, P2 w W0 b rb p s bk k g rk X → P2 w W0 b rb p s bk k g rk X.drew := fun X hX => hX.drew
  unfold opv
  dsimp only
  by_cases k1 : kd = 1
  · subst k1
    obtain ⟨s', bk', k', g', rk', r, q1, q2, q3, q4⟩ := sep_ins (W0 := W0) (b := b) (rb := rb) (p := p) hL ho hn hE a put x2 hp
    exact (works_1 hW0 h0 dr (fun X hX => hX.elim ob (·.elim ob ob)) q3.pg q3.rg).mono fun e W' ⟨e1, e2⟩ => ⟨e1, ⟨s', bk', k', g', rk', q1, q2, e2.again, hz.kc q4⟩, (Fq.below hB).trans e2.fq⟩
  · by_cases k2 : kd = 2
    · subst k2
      obtain ⟨s', bk', k', g', rk', o, r, q1, q2, q3, q4⟩ := sep_del (W0 := W0) (b := b) (rb := rb) (p := p) hL ho hn hE a c x2 x3.2
      exact (works_2 hW0 h0 dr (fun X hX => hX.elim ob (·.elim ob ob)) q3.pg q3.rg).mono fun e W' ⟨e1, e2⟩ => ⟨e1, Pz.up (z := z) ⟨s', bk', k', g', rk', q1, q2, e2.again, hz.kc q4⟩ (by omega), (Fq.below hB).trans e2.fq⟩
    · by_cases k3 : kd = 3
      · subst k3
        obtain ⟨s', bk', k', g', rk', o, r, q1, q2, q3, q4⟩ := sep_rep (W0 := W0) (b := b) (rb := rb) (p := p) hL ho hn hE a c put x2 x3.2 hp
        exact (works_3 hW0 h0 dr (fun X hX => hX.elim ob (·.elim ob ob)) q3.pg q3.rg).mono fun e W' ⟨e1, e2⟩ => ⟨e1, ⟨s', bk', k', g', rk', q1, q2, e2.again, hz.kc q4⟩, (Fq.below hB).trans e2.fq⟩
      · by_cases k4 : kd = 4
        · subst k4
          obtain ⟨s', bk', k', g', rk', r, q1, q2, q3, q4⟩ := sep_reset (W0 := W0) (b := b) (rb := rb) (p := p) hL ho hn hE put hp
          exact (works_4 hW0 h0 dr (fun X hX => hX.elim ob (·.elim ob ob)) q3.pg q3.rg).mono fun e W' ⟨e1, e2⟩ => ⟨e1, ⟨s', bk', k', g', rk', q1, q2, e2.again, hz.kc q4⟩, (Fq.below hB).trans e2.fq⟩
        · by_cases k5 : kd = 5
          · subst k5
            obtain ⟨bk', k', rk', r, q1, q2, q3, q4⟩ := sep_sw (W0 := W0) (b := b) (rb := rb) (p := p) hL ho hn hE a
            exact (works_5 hW0 h0 dr (fun X hX => hX.elim ob (·.elim ob ob)) q3.pg q3.rg).mono fun e W' ⟨e1, e2⟩ => ⟨e1, Pz.up (z := z) ⟨s, bk', k', g, rk', q1, q2, e2.again, hz.kc q4⟩ (by omega), (Fq.below hB).trans e2.fq⟩
          · refine (works_0 (R0 := P2 w W0 b rb p s bk k g rk) k1 k2 k3 k4 k5 hW0 h0 (ob h0)).mono fun e W' ⟨e1, e2⟩ => ⟨e1, Pz.up (z := z) ⟨s, bk, k, g, rk, ?_, ho, e2.again, hz⟩ (by omega), (Fq.below hB).trans e2.fq⟩
            obtain ⟨l1, l2, l3, l4, l5, l6⟩ := hL
            exact ⟨l1, l2, l3, l4.up, l5, l6⟩
theorem looks_pz (h : Pz w b rb p n z W) : Calls Tryz.prog 24 #[.pointer (some ⟨b, 0, none⟩), .pointer (some ⟨rb, 0, none⟩)] W fun e W' => e = .returned (.bool true) ∧ Pz w b rb p n z W' ∧ Fq W W' := by
  obtain ⟨s, bk, k, g, rk, hL, ho, h, hz⟩ := h
  exact (looks_p2 hL h).mono fun e W' ⟨q1, q2⟩ => ⟨q1, ⟨s, bk, k, g, rk, hL, ho, q2.again, hz⟩, q2.fq⟩
theorem Pz.low {W' : World} (h : Pz w b rb p n z W) (hb : Below W.heap.size W W') : Pz w b rb p n z W' := by
  obtain ⟨s, bk, k, g, rk, hL, ho, h, hz⟩ := h
  exact ⟨s, bk, k, g, rk, hL, ho, (h.low hb).again, hz⟩
theorem Pz.bel (h : Pz w b rb p n z W) : Below w.heap.size w W := by obtain ⟨s, bk, k, g, rk, _, _, h, _⟩ := h; exact h.se.bel
theorem asks_pz (h : Pz w b rb p n z W) (hE : Ev w) (hz : z ≤ 1048576) (x : Oc) (hx : x.fit) :
    Calls Tryz.prog 23 #[.pointer (some ⟨b, 0, none⟩), .pointer (some ⟨rb, 0, none⟩), opv x] W fun e W' => e = .returned (.bool true) ∧ Pz w b rb p n z W' ∧ Fq W W' := by
  obtain ⟨s, bk, k, g, rk, hL, ho, h, hzk⟩ := h
  obtain ⟨kd, a, c, put⟩ := x
  obtain ⟨x1, x2, x3⟩ := hx
  dsimp only at x1 x2 x3
  obtain ⟨mn, hmn⟩ := next_ex s a
  obtain ⟨mp, hmp⟩ := prev_ex s a
  obtain ⟨ms, hms⟩ := snap_ex s a
  have hg : g.s = s := hL.1
  have hgz : g.s.size ≤ 2097152 := by rw [hg]; have := hL.2.2.2.2.1; omega
  have hp : ∀ X, Below W.heap.size W X → P2 w W b rb p s bk k g rk X := fun X hX => h.low hX
  have pc : ∀ X, Below W.heap.size W X → Pcs X (.pointer (some ⟨b, 0, none⟩)) s s.size ∧ Ev X := fun X hX => by
    obtain ⟨y, K, hs⟩ := (hp X hX).se
    have := pcs_of hs.st.spt hs.st.hold
    rw [hs.text] at this
    exact ⟨this, hE.below hs.bel⟩
  have A : As W (.pointer (some ⟨b, 0, none⟩)) (.pointer (some ⟨rb, 0, none⟩)) a c (gSlice s a c).1 (gSlice s a c).2 (gMea s a c).1 (gMea s a c).2 (cbZ s a) mn mp ms := by
    refine ⟨?_, ?_, ?_, ?_, ?_, ?_, ?_, ?_, ?_, ?_, ?_, ?_⟩ <;> intro X hX
    · obtain ⟨y, K, hs⟩ := (hp X hX).se
      have := sslice_any hs.st.spt hs.st.hold a c
      rw [hs.text] at this
      exact this
    · have := rslice9_any (hp X hX).rf a c
      rw [hg] at this
      exact this
    · obtain ⟨y, K, hs⟩ := (hp X hX).se
      have := smeas_any hs.st.spt hs.st.hold (hE.below hs.bel) a c
      rw [hs.text] at this
      exact this
    · have := rmeas9_any (hp X hX).rf a c
      rw [hg] at this
      exact this
    · exact bound_of (pc X hX).1 (pc X hX).2 a x2.2
    · have := rbound9_any (hp X hX).rf hgz a
      rw [hg] at this
      exact this
    · exact (next_of (pc X hX).1 (pc X hX).2 a).mono fun e W' ⟨m, q1, q2, q3⟩ => ⟨by rw [q1, q2.uniq hmn], q3⟩
    · have := rnext9_any (hp X hX).rf hgz a
      rw [hg] at this
      exact this.mono fun e W' ⟨m, q1, q2, q3⟩ => ⟨by rw [q1, q2.uniq hmn], q3⟩
    · exact (prev_of (pc X hX).1 (pc X hX).2 a).mono fun e W' ⟨m, q1, q2, q3⟩ => ⟨by rw [q1, q2.uniq hmp], q3⟩
    · have := rprev9_any (hp X hX).rf hgz a
      rw [hg] at this
      exact this.mono fun e W' ⟨m, q1, q2, q3⟩ => ⟨by rw [q1, q2.uniq hmp], q3⟩
    · exact (snap_of (pc X hX).1 (pc X hX).2 a x2.2).mono fun e W' ⟨m, q1, q2, q3⟩ => ⟨by rw [q1, q2.uniq hms], q3⟩
    · have := rsnap9_any (hp X hX).rf hgz a
      rw [hg] at this
      exact this.mono fun e W' ⟨m, q1, q2, q3⟩ => ⟨by rw [q1, q2.uniq hms], q3⟩
  exact (asks_of A kd put).mono fun e W' ⟨q1, q2⟩ => ⟨q1, ⟨s, bk, k, g, rk, hL, ho, (hp W' q2).again, hzk⟩, Fq.below q2⟩
end
theorem obk_at {l : List Oc} {i : Nat} {x : Oc} (h : l[i]? = some x) : obk (l.drop i) = x.p.size + 1 + obk (l.drop (i + 1)) := by
  obtain ⟨hi, e⟩ := List.getElem?_eq_some_iff.1 h
  rw [List.drop_eq_getElem_cons hi, e]
  rfl
theorem obk_len (l : List Oc) : l.length ≤ obk l := by
  induction l with
  | nil => simp
  | cons x l ih => simp only [List.length_cons, obk]; omega
end Go.Proofs.YtffipfmnpffdaaaGreatDoor.Sto
namespace Go.Proofs.YtffipfmnpffdaaaGreatDoor.Sto
open Go.RowKit Go.Shelf Bod Wid
open Gap (Gp lim)

/-- the document's numbers of a new store are the store's own -/
theorem rnw_of (kd lo hi : Int) (l z : Nat) : rnwK kd lo hi z = rkOf (nwB kd lo hi l z) (nwK kd lo hi l) := by
  unfold rnwK rkOf nwB misK
  have e1 : kdK (nwK kd lo hi l) = if kd = 1 ∨ kd = 2 then kd else 3 := rfl
  have e2 : loK (nwK kd lo hi l) = min (max lo 0) 1073741824 := rfl
  have e3 : hiK (nwK kd lo hi l) = max hi (min (max lo 0) 1073741824 + 1) := rfl
  have e4 : (Tx.or none).bk = 1 := rfl
  rw [e1, e2, e3, e4, if_pos rfl]
  generalize max hi (min (max lo 0) 1073741824 + 1) = H
  by_cases c1 : kd = 1
  · subst c1; simp [nwK]
  · by_cases c2 : kd = 2
    · subst c2; simp [nwK]
    · have c3 : ¬ (kd = 1 ∨ kd = 2) := by omega
      rw [if_neg c3]
      by_cases c4 : H ≤ (z : Int)
      · simp [c1, c2, c4, nwK]
      · simp [c2, c4, nwK]
end Go.Proofs.YtffipfmnpffdaaaGreatDoor.Sto
