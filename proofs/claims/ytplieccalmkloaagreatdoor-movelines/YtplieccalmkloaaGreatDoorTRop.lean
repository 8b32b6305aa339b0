/-
  A text kept by a rope: package store's roped: Len, Slice, Measure and Replace. Conditions: the two tables of unicode/utf8 lie as their text lays them; the text and what is put hold at most 1099511627776 bytes.
-/
import Derived.Test.YtplieccalmkloaaGreatDoorTNum
import Derived.Test.YtplieccalmkloaaGreatDoorPkRR
namespace Go.Proofs.YtplieccalmkloaaGreatDoor.Sto
open Go.RowKit Go.Shelf Bod Wid

/-- at b lies a roped: its rope's value, the rope's tree, the limit -/
structure Rq (W : World) (b : Nat) (v : Value) (t : Tr) (l : Int) : Prop where
  box : W.heap[b]? = some (.cells #[v, .int .i64 l] 152 (0, 0))
  rp : Rp W t v
theorem Rq.below {W W' : World} {b : Nat} {v : Value} {t : Tr} {l : Int} (h : Rq W b v t l) (hb : Below W.heap.size W W') : Rq W' b v t l :=
  ⟨(hb.block _ (Array.getElem?_eq_some_iff.1 h.box).1).trans h.box, h.rp.below hb⟩
theorem Rq.lt {W : World} {b : Nat} {v : Value} {t : Tr} {l : Int} (h : Rq W b v t l) : b < W.heap.size := (Array.getElem?_eq_some_iff.1 h.box).1
theorem qcells {W : World} {b : Nat} {v x : Value} (h : W.heap[b]? = some (.cells #[v, x] 152 (0, 0))) : W.cell? ⟨b, 0, none⟩ = some v ∧ W.cell? ⟨b, 1, none⟩ = some x ∧ W.frozen? ⟨b, 0, none⟩ = false ∧ b < W.heap.size := by
  refine ⟨?_, ?_, ?_, (Array.getElem?_eq_some_iff.1 h).1⟩ <;> first | (unfold World.cell?; rw [h]; rfl) | (unfold World.frozen?; rw [h]; rfl)
set_option maxRecDepth 100000 in
theorem qlen_any {w : World} {b : Nat} {v : Value} {t : Tr} {l : Int} (h : Rq w b v t l) : Calls Tryz.prog 197 #[.pointer (some ⟨b, 0, none⟩)] w fun e W' => e = .returned (.int .i64 t.text.size) ∧ Below w.heap.size w W' := by
  obtain ⟨c0, _, _, hlt⟩ := qcells h.box
  have C1 : Hid (Calls Tryz.prog 201 #[v] w fun e W' => e = .returned (.int .i64 t.text.size) ∧ Below w.heap.size w W') := rlen_any h.rp
  generalize t.text.size = n at C1 ⊢
  clear h
  go_enter Tryz.func197, Tryz.ntmps197
  go_wp2_with (go_at_call 201; refine C1.out.mono ?_; clear C1; rintro e w1 ⟨rfl, hb⟩; have HB : Hid (Below w.heap.size w w1) := hb; clear hb)
  go_ret
  exact ⟨rfl, HB.out⟩
set_option maxRecDepth 100000 in
theorem qslice_any {w : World} {b : Nat} {v : Value} {t : Tr} {l : Int} (h : Rq w b v t l) (hs : t.text.size ≤ B40) (f g : Int) : Calls Tryz.prog 200 #[.pointer (some ⟨b, 0, none⟩), .int .i64 f, .int .i64 g] w fun e W' => e = .returned (.tuple #[.string (slR t.text f g).1, .int .i64 (slR t.text f g).2]) ∧ Below w.heap.size w W' := by
  obtain ⟨c0, _, _, hlt⟩ := qcells h.box
  have C1 : Hid (Calls Tryz.prog 204 #[v, .int .i64 f, .int .i64 g] w fun e W' => e = .returned (.tuple #[.string (slR t.text f g).1, .int .i64 (slR t.text f g).2]) ∧ Below w.heap.size w W') := rslice_any h.rp hs f g
  generalize slR t.text f g = n at C1 ⊢
  clear h
  go_enter Tryz.func200, Tryz.ntmps200
  go_wp2_with (go_at_call 204; refine C1.out.mono ?_; clear C1; rintro e w1 ⟨rfl, hb⟩; have HB : Hid (Below w.heap.size w w1) := hb; clear hb)
  exact bodyPost_ret (v := .tuple #[.string n.1, .int .i64 n.2]) (by simp [results, Tryz.results200, go_sem]) rfl ⟨rfl, HB.out⟩
set_option maxRecDepth 100000 in
set_option maxHeartbeats 1000000 in
theorem qmeas_any {w : World} {b : Nat} {v : Value} {t : Tr} {l : Int} (h : Rq w b v t l) (hs : t.text.size ≤ B40) (f g : Int) (hE : Ev w) : Calls Tryz.prog 198 #[.pointer (some ⟨b, 0, none⟩), .int .i64 f, .int .i64 g] w fun e W' => e = .returned (.tuple #[sv (msR t.text f g).1, .int .i64 (msR t.text f g).2]) ∧ Below w.heap.size w W' := by
  obtain ⟨W0, hW0⟩ : ∃ W0, w.alloc (.cells #[.int .i64 0, .int .i64 0, .int .i64 0, .int .i64 0, .int .i64 0, .string ⟨#[]⟩, .string ⟨#[]⟩] 125) = W0 := ⟨_, rfl⟩
  have b0 : Bx7 w W0 := by rw [← hW0]; exact ⟨World.alloc_heap_new w _, (Below.refl _ w).alloc (Nat.le_refl _) _⟩
  obtain ⟨c0, _, _, hlt⟩ := qcells (h.below b0.2).box
  have C1 : Hid (Calls Tryz.prog 202 #[v, .int .i64 f, .int .i64 g] W0 fun e W' => e = .returned (.tuple #[sv (msR t.text f g).1, .int .i64 (msR t.text f g).2]) ∧ Hid (Bx7 w W')) := (rmeas_any (h.below b0.2).rp hs f g (hE.below b0.2)).mono fun e W' ⟨h1, h2⟩ => ⟨h1, b0.below h2⟩
  obtain ⟨M, hM⟩ : ∃ M, (msR t.text f g).1 = M := ⟨_, rfl⟩
  obtain ⟨E, hE2⟩ : ∃ E, (msR t.text f g).2 = E := ⟨_, rfl⟩
  rw [hM, hE2] at C1 ⊢
  clear h b0 hM hE2 hE
  go_enter Tryz.func198, Tryz.ntmps198
  go_wp2_with (go_at_call 202; refine C1.out.mono ?_; clear C1 hW0; rintro e w1 ⟨rfl, h1⟩; obtain ⟨⟨z0, z1, z2, z3, z4, z5, z6⟩, f0, f1, f2, f3, f4, f5, f6⟩ := box7 h1.out.1; have hl : w.heap.size < w1.heap.size := (Array.getElem?_eq_some_iff.1 h1.out.1).1)
  exact bodyPost_ret (v := .tuple #[sv M, .int .i64 E]) (by simp [results, Tryz.results198, go_sem, z0, z1, z2, z3, z4, z5, z6]) rfl ⟨rfl, set7_below h1.out.2 _ _ _ _ _ _ _⟩
/-- Replace that is refused: nothing is put, nothing turns -/
def qErr (n : Nat) (l : Int) (a c : Int) (p : Nat) : Int := if a < 0 ∨ c < 0 ∨ (n : Int) - a < c then 1 else if l - (n - c) < (p : Int) then 2 else 0
set_option maxRecDepth 100000 in
set_option maxHeartbeats 1000000 in
theorem qrep_no {w : World} {b : Nat} {v : Value} {t : Tr} {l : Int} (h : Rq w b v t l) (hs : t.text.size ≤ B40) (hl : 0 ≤ l ∧ l ≤ 1073741824) (a c : Int) (put : ByteArray) (hp : put.size ≤ 9223372036854775807) (ha : a ≤ 9223372036854775807) (hc : c ≤ 9223372036854775807) (hq : qErr t.text.size l a c put.size ≠ 0) :
    Calls Tryz.prog 199 #[.pointer (some ⟨b, 0, none⟩), .int .i64 a, .int .i64 c, .string put] w fun e W' => e = .returned (.tuple #[.string ⟨#[]⟩, .int .i64 (qErr t.text.size l a c put.size)]) ∧ Below w.heap.size w W' := by
  have C1 : Hid (Calls Tryz.prog 197 #[.pointer (some ⟨b, 0, none⟩)] w fun e W' => e = .returned (.int .i64 t.text.size) ∧ W'.cell? ⟨b, 1, none⟩ = some (.int .i64 l) ∧ b < W'.heap.size ∧ Below w.heap.size w W') := (qlen_any h).mono fun e W' ⟨h1, h2⟩ => ⟨h1, (qcells (h.below h2).box).2.1, (h.below h2).lt, h2⟩
  unfold B40 at hs
  generalize t.text.size = n at C1 hq hs ⊢
  clear h
  unfold qErr at hq ⊢
  by_cases c1 : a < 0
  · rw [if_pos (.inl c1)]
    clear hq
    go_enter Tryz.func199, Tryz.ntmps199
    go_wp2_with (go_at_call 197; refine C1.out.mono ?_; clear C1; rintro e w1 ⟨rfl, y1, hlt, hb⟩; have HB : Hid (Below w.heap.size w w1) := hb; clear hb)
    exact bodyPost_ret (v := .tuple #[.string ⟨#[]⟩, .int .i64 1]) (by simp [results, Tryz.results199, go_sem]) rfl ⟨rfl, HB.out⟩
  · by_cases c2 : c < 0
    · rw [if_pos (.inr (.inl c2))]
      clear hq
      go_enter Tryz.func199, Tryz.ntmps199
      go_wp2_with (go_at_call 197; refine C1.out.mono ?_; clear C1; rintro e w1 ⟨rfl, y1, hlt, hb⟩; have HB : Hid (Below w.heap.size w w1) := hb; clear hb)
      exact bodyPost_ret (v := .tuple #[.string ⟨#[]⟩, .int .i64 1]) (by simp [results, Tryz.results199, go_sem]) rfl ⟨rfl, HB.out⟩
    · by_cases c3 : (n : Int) - a < c
      · rw [if_pos (.inr (.inr c3))]
        clear hq
        go_enter Tryz.func199, Tryz.ntmps199
        go_wp2_with (go_at_call 197; refine C1.out.mono ?_; clear C1; rintro e w1 ⟨rfl, y1, hlt, hb⟩; have HB : Hid (Below w.heap.size w w1) := hb; clear hb)
        exact bodyPost_ret (v := .tuple #[.string ⟨#[]⟩, .int .i64 1]) (by simp [results, Tryz.results199, go_sem]) rfl ⟨rfl, HB.out⟩
      · have c4 : ¬ (a < 0 ∨ c < 0 ∨ (n : Int) - a < c) := by omega
        rw [if_neg c4] at hq ⊢
        by_cases c5 : l - ((n : Int) - c) < (put.size : Int)
        · rw [if_pos c5]
          clear hq c4
          go_enter Tryz.func199, Tryz.ntmps199
          go_wp2_with (go_at_call 197; refine C1.out.mono ?_; clear C1; rintro e w1 ⟨rfl, y1, hlt, hb⟩; have HB : Hid (Below w.heap.size w w1) := hb; clear hb)
          exact bodyPost_ret (v := .tuple #[.string ⟨#[]⟩, .int .i64 2]) (by simp [results, Tryz.results199, go_sem]) rfl ⟨rfl, HB.out⟩
        · rw [if_neg c5] at hq
          exact absurd rfl hq
/-- a tree stays while a block that is none of a rope's is turned -/
theorem at_turn {W W' : World} {b : Nat} {cur : Array Value} {T : TypeId} {fz : Nat × Nat} (hb : W.heap[b]? = some (.cells cur T fz)) (h1 : T ≠ 191) (h2 : T ≠ 204) (hg : W.grownBy W' (some b)) : ∀ {t : Tr} {x : Value}, At W t x → At W' t x
  | .leaf _, _, ⟨c, e1, e2⟩ => ⟨c, e1, (hg.block c (Array.getElem?_eq_some_iff.1 e2).1 fun e => by
      cases e; rw [hb] at e2; injection e2 with e2; injection e2 with _ ht _; exact h1 ht).trans e2⟩
  | .knot _ _, _, ⟨c, x, y, e1, e2, e3, e4⟩ => ⟨c, x, y, e1, (hg.block c (Array.getElem?_eq_some_iff.1 e2).1 fun e => by
      cases e; rw [hb] at e2; injection e2 with e2; injection e2 with _ ht _; exact h2 ht).trans e2, at_turn hb h1 h2 hg e3, at_turn hb h1 h2 hg e4⟩
theorem rp_turn {W W' : World} {b : Nat} {cur : Array Value} {T : TypeId} {fz : Nat × Nat} {t : Tr} {v : Value} (h : Rp W t v) (hb : W.heap[b]? = some (.cells cur T fz)) (h1 : T ≠ 191) (h2 : T ≠ 204) (h3 : T ≠ 171) (hg : W.grownBy W' (some b)) : Rp W' t v := by
  rcases h with h | ⟨c, x, e1, e2, e3⟩
  · exact .inl h
  · refine .inr ⟨c, x, e1, (hg.block c (Array.getElem?_eq_some_iff.1 e2).1 fun e => ?_).trans e2, e3.imp id (at_turn hb h1 h2 hg)⟩
    cases e; rw [hb] at e2; injection e2 with e2; injection e2 with _ ht _; exact h3 ht
theorem grown_of {w W W' : World} {b : Nat} (h : Below w.heap.size w W) (hg : W.grownBy W' (some b)) : w.grownBy W' (some b) :=
  ⟨hg.os.trans h.os, hg.tape.trans h.tape, hg.output.trans h.output, Nat.le_trans h.size hg.size, fun k hk hn => (hg.block k (Nat.lt_of_lt_of_le hk h.size) hn).trans (h.block k hk)⟩
set_option maxRecDepth 100000 in
set_option maxHeartbeats 1000000 in
theorem qrep_ok {w : World} {b : Nat} {v : Value} {t : Tr} {l : Int} (h : Rq w b v t l) (hG : Good t) (hl : 0 ≤ l ∧ l ≤ 1073741824) (ht : t.text.size ≤ 1073741824) (i c : Nat) (put : ByteArray) (hc : i + c ≤ t.text.size) (hp : (put.size : Int) ≤ l - ((t.text.size : Int) - c)) (hE : Ev w) :
    Calls Tryz.prog 199 #[.pointer (some ⟨b, 0, none⟩), .int .i64 i, .int .i64 c, .string put] w fun e W' => ∃ v', e = .returned (.tuple #[.string (t.text.extract i (i + c)), .int .i64 0]) ∧ Rq W' b v' (rep t i (i + c) put) l ∧ w.grownBy W' (some b) := by
  obtain ⟨n, hn⟩ : ∃ n, t.text.size = n := ⟨_, rfl⟩
  have C1 : Hid (Calls Tryz.prog 197 #[.pointer (some ⟨b, 0, none⟩)] w fun e W' => e = .returned (.int .i64 n) ∧ (W'.cell? ⟨b, 0, none⟩ = some v ∧ W'.cell? ⟨b, 1, none⟩ = some (.int .i64 l)) ∧ b < W'.heap.size ∧ Hid (Below w.heap.size w W' ∧ Rq W' b v t l)) := (qlen_any h).mono fun e W' ⟨h1, h2⟩ => ⟨by rw [h1, hn], ⟨(qcells (h.below h2).box).1, (qcells (h.below h2).box).2.1⟩, (h.below h2).lt, h2, h.below h2⟩
  obtain ⟨X, hX⟩ : ∃ X, t.text.extract i (i + c) = X := ⟨_, rfl⟩
  have C2 : Hid (∀ W, Hid (Below w.heap.size w W ∧ Rq W b v t l) → Calls Tryz.prog 203 #[v, .int .i64 i, .int .i64 c, .string put] W fun e W' => ∃ b', e = .returned (.tuple #[.pointer (some ⟨b', 0, none⟩), .string X, .int .i64 0]) ∧ W'.cell? ⟨b, 0, none⟩ = some v ∧ W'.frozen? ⟨b, 0, none⟩ = false ∧ b < W'.heap.size ∧ Hid (Rp W' (rep t i (i + c) put) (.pointer (some ⟨b', 0, none⟩)) ∧ Below w.heap.size w W' ∧ W'.heap[b]? = some (.cells #[v, .int .i64 l] 152 (0, 0)))) := fun W hW =>
    (rrep_ok hW.out.2.rp hG i c put (by unfold B40; omega) hc (hE.below hW.out.1)).mono fun e W' ⟨b', h1, h2, h3⟩ => by
      have hq := hW.out.2.below h3
      obtain ⟨q0, _, q2, q3⟩ := qcells hq.box
      exact ⟨b', by rw [h1, hX], q0, q2, q3, h2, Below.on hW.out.1 h3, hq.box⟩
  rw [hX]
  rw [hn] at hp ht hc
  generalize rep t i (i + c) put = T at C2 ⊢
  clear h hG hE hX hn
  have c1 : ¬ ((i : Int) < 0) := by omega
  have c2 : ¬ ((c : Int) < 0) := by omega
  have c3 : ¬ ((n : Int) - i < c) := by omega
  have c4 : ¬ (l - ((n : Int) - c) < (put.size : Int)) := by omega
  go_enter Tryz.func199, Tryz.ntmps199
  go_wp2_with (first
    | (go_at_call 197; refine C1.out.mono ?_; clear C1; rintro e w1 ⟨rfl, ⟨y0, y1⟩, hlt, HB⟩)
    | (go_at_call 203; refine (C2.out _ HB).mono ?_; clear C2; rintro e w2 ⟨b', rfl, z0, f0, hlt2, HC⟩))
  refine bodyPost_ret (v := .tuple #[.string X, .int .i64 0]) (by simp [results, Tryz.results199, go_sem]) rfl ⟨.pointer (some ⟨b', 0, none⟩), rfl, ?_, ?_⟩
  · have hg := gcell w2 b 0 (.pointer (some ⟨b', 0, none⟩))
    refine ⟨?_, rp_turn HC.out.1 HC.out.2.2 (by decide) (by decide) (by decide) hg⟩
    exact set1 (i := 0) (.pointer (some ⟨b', 0, none⟩)) HC.out.2.2
  · exact grown_of HC.out.2.1 (gcell w2 b 0 _)
end Go.Proofs.YtplieccalmkloaaGreatDoor.Sto
