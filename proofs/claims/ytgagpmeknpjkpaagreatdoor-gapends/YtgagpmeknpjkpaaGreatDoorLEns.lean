/-
  The law GapEnds returns true: a buffer that is nil or zero is the empty one with the limit 0, and stays so. Conditions: the two tables of unicode/utf8 lie as their text lays them; the variable that strings.Index asks holds a number.
-/
import Derived.Test.YtgagpmeknpjkpaaGreatDoorPkT
import Derived.Test.YtgagpmeknpjkpaaGreatDoorGClone
namespace Go.Proofs.YtgagpmeknpjkpaaGreatDoor.gapEnds
open Go.RowKit Bod

theorem eBA_of {s : ByteArray} (h : s.size = 0) : s = eBA := by
  apply ByteArray.ext
  exact Array.eq_empty_of_size_eq_zero h
theorem gRep_g0 (a c : Int) (put : ByteArray) : (gRep g0 a c put).1 = g0 := by
  have e0 : g0.s.size = 0 := rfl
  have l0 : g0.l = 0 := rfl
  unfold gRep
  split
  · rfl
  · rename_i h
    split
    · rfl
    · rename_i h2
      unfold gOut at h
      rw [e0] at h
      rw [e0, l0] at h2
      have ha : a = 0 := by omega
      have hc : c = 0 := by omega
      have hp := eBA_of (s := put) (by omega)
      subst ha hc hp
      rfl
theorem gMove_g0 (a : Int) : (gMove g0 a).1 = g0 := by
  have e0 : g0.s.size = 0 := rfl
  unfold gMove
  split
  · rfl
  · rename_i h
    rw [e0] at h
    have ha : a = 0 := by omega
    subst ha
    rfl
theorem gReset_g0 (s : ByteArray) : (gReset g0 s).1 = g0 := by
  have l0 : g0.l = 0 := rfl
  unfold gReset
  split
  · rename_i h
    rw [l0] at h
    have hp := eBA_of (s := s) (by omega)
    subst hp
    rfl
  · rfl
theorem gWork_g0 (x : Opr) : gWork g0 x = g0 := by
  unfold gWork
  repeat' split
  all_goals first | exact gRep_g0 _ _ _ | exact gMove_g0 _ | exact gReset_g0 _ | rfl

/-- the zero buffer at bz and the document's at d are empty, with the limit 0; the blocks kb and kb + 1 are ob and ro; below n0 the world is as w -/
structure Q (n0 : Nat) (w : World) (bz d kb : Nat) (ob ro : Option Obj) (W : World) : Prop where
  ex : ∃ r, PP W (.pointer (some ⟨bz, 0, none⟩)) (some (bz, r)) d g0 g0 0 ∧ ∀ k, r = some k → n0 ≤ k ∧ k ≠ kb ∧ k ≠ kb + 1
  bel : Below n0 w W
  b1 : W.heap[kb]? = ob
  b2 : W.heap[kb + 1]? = ro
/-- how the blocks lie -/
def Ly (n0 : Nat) (w : World) (bz d kb : Nat) : Prop := n0 ≤ w.heap.size ∧ n0 ≤ bz ∧ n0 ≤ d ∧ bz ≠ kb ∧ bz ≠ kb + 1 ∧ d ≠ kb ∧ d ≠ kb + 1
theorem Q.low {n0 : Nat} {w W W' : World} {bz d kb : Nat} {ob ro : Obj} (h : Q n0 w bz d kb (some ob) (some ro) W) (hl : Ly n0 w bz d kb) (hb : Below W.heap.size W W') : Q n0 w bz d kb (some ob) (some ro) W' := by
  obtain ⟨⟨r, p, k⟩, b, b1, b2⟩ := h
  have hs := b.size
  have l1 := (Array.getElem?_eq_some_iff.1 b1).1
  have l2 := (Array.getElem?_eq_some_iff.1 b2).1
  exact ⟨⟨r, p.low hb, k⟩, b.trans (hb.mono (Nat.le_trans hl.1 hs)), (hb.block _ l1).trans b1, (hb.block _ l2).trans b2⟩
theorem Q.pp {n0 : Nat} {w W : World} {bz d kb : Nat} {ob ro : Option Obj} (h : Q n0 w bz d kb ob ro W) {v : Value} (hv : v = .pointer none ∨ v = .pointer (some ⟨bz, 0, none⟩)) : ∃ o, PP W v o d g0 g0 0 := by
  obtain ⟨⟨r, p, k⟩, b, b1, b2⟩ := h
  rcases hv with rfl | rfl
  · exact ⟨none, ⟨rfl, rfl, rfl⟩, p.rb, trivial⟩
  · exact ⟨_, p⟩
theorem Q.works {n0 : Nat} {w W : World} {bz d kb : Nat} {ob ro : Obj} (h : Q n0 w bz d kb (some ob) (some ro) W) (hl : Ly n0 w bz d kb) {v : Value} (hv : v = .pointer none ∨ v = .pointer (some ⟨bz, 0, none⟩)) (x : Opr) (hx : x.fit) :
    Calls Tryz.prog 13 #[v, .pointer (some ⟨d, 0, none⟩), ov x] W fun e W' => e = .returned (.bool true) ∧ Q n0 w bz d kb (some ob) (some ro) W' := by
  obtain ⟨⟨r, p, k⟩, b, b1, b2⟩ := h
  obtain ⟨h1, h2, h3, h4, h5, h6, h7⟩ := hl
  have hs := b.size
  have l1 := (Array.getElem?_eq_some_iff.1 b1).1
  have l2 := (Array.getElem?_eq_some_iff.1 b2).1
  have low : ∀ W', PCh (some (bz, r)) d W W' → Below n0 w W' ∧ W'.heap[kb]? = some ob ∧ W'.heap[kb + 1]? = some ro := fun W' hc =>
    ⟨pch_below b h1 h2 h3 (fun j hj => (k j hj).1) hc, (hc.2.2.2.2 kb l1 (Ne.symm h6) ⟨Ne.symm h4, fun e => (k _ e).2.1 rfl⟩).trans b1, (hc.2.2.2.2 (kb + 1) l2 (Ne.symm h7) ⟨Ne.symm h5, fun e => (k _ e).2.2 rfl⟩).trans b2⟩
  rcases hv with rfl | rfl
  · have p0 : PP W (.pointer none) none d g0 g0 0 := ⟨⟨rfl, rfl, rfl⟩, p.rb, trivial⟩
    refine (works_pp p0 x hx).mono ?_
    rintro e W' ⟨q1, o', n', q2, q3, q4⟩
    rw [gWork_g0] at q2
    have hc : PCh (some (bz, r)) d W W' := ⟨q3.1, q3.2.1, q3.2.2.1, q3.2.2.2.1, fun j hj hd _ => q3.2.2.2.2 j hj hd trivial⟩
    obtain ⟨c1, c2, c3⟩ := low W' hc
    refine ⟨q1, ⟨r, ⟨⟨rfl, ?_⟩, q2.rb, p.ap⟩, k⟩, c1, c2, c3⟩
    have hch : Ch d none W W' := ⟨q3.1, q3.2.1, q3.2.2.1, q3.2.2.2.1, fun j hj hd _ => q3.2.2.2.2 j hj hd trivial⟩
    exact p.is.2.kept hch (Ne.symm p.ap.1) (fun e => by cases e) (fun j hj => ⟨fun e => p.ap.2 (by rw [hj, e]), fun e => by cases e⟩)
  · refine (works_pp p x hx).mono ?_
    rintro e W' ⟨q1, o', n', q2, q3, r', rfl, hw⟩
    rw [gWork_g0] at q2
    have hn : n' = 0 := Nat.le_zero.1 q2.is.2.lm
    subst hn
    obtain ⟨c1, c2, c3⟩ := low W' q3
    refine ⟨q1, ⟨r', q2, fun j hj => ?_⟩, c1, c2, c3⟩
    rcases hw with rfl | ⟨i, rfl, hi⟩
    · exact k j hj
    · cases hj
      omega

/-- the same without the two blocks -/
structure Z (n0 : Nat) (w : World) (bz d : Nat) (W : World) : Prop where
  ex : ∃ r, PP W (.pointer (some ⟨bz, 0, none⟩)) (some (bz, r)) d g0 g0 0 ∧ ∀ k, r = some k → n0 ≤ k
  bel : Below n0 w W
theorem Q.z {n0 : Nat} {w W : World} {bz d kb : Nat} {ob ro : Option Obj} (h : Q n0 w bz d kb ob ro W) : Z n0 w bz d W := by
  obtain ⟨⟨r, p, k⟩, b, b1, b2⟩ := h
  exact ⟨⟨r, p, fun j hj => (k j hj).1⟩, b⟩
theorem Z.q {n0 : Nat} {w W W' : World} {bz d : Nat} (h : Z n0 w bz d W) (hn : n0 ≤ w.heap.size) (hb : Below W.heap.size W W') : Q n0 w bz d W.heap.size (W'.heap[W.heap.size]?) (W'.heap[W.heap.size + 1]?) W' := by
  obtain ⟨⟨r, p, k⟩, b⟩ := h
  have hs := b.size
  refine ⟨⟨r, p.low hb, fun j hj => ?_⟩, b.trans (hb.mono (Nat.le_trans hn hs)), rfl, rfl⟩
  have := (p.is.2.row hj).2
  exact ⟨k j hj, by omega, by omega⟩
theorem Z.ly {n0 : Nat} {w W : World} {bz d : Nat} (h : Z n0 w bz d W) (hn : n0 ≤ w.heap.size) (h1 : n0 ≤ bz) (h2 : n0 ≤ d) : Ly n0 w bz d W.heap.size := by
  obtain ⟨⟨r, p, k⟩, b⟩ := h
  have := p.is.2.lt
  have := p.lt
  exact ⟨hn, h1, h2, by omega, by omega, by omega, by omega⟩
theorem z_start {n0 : Nat} {w w1 : World} (hn : n0 ≤ w.heap.size) (hb : Below n0 w w1) : Z n0 w w1.heap.size (w1.heap.size + 1) ((w1.alloc (.cells #[.slice none 0 0, .int .i64 0, .int .i64 0, .int .i64 0] 41)).alloc (.cells #[.string ⟨#[]⟩, .int .i64 0, .int .i64 0] 43)) := by
  obtain ⟨U, hU⟩ : ∃ U, w1.alloc (.cells #[.slice none 0 0, .int .i64 0, .int .i64 0, .int .i64 0] 41) = U := ⟨_, rfl⟩
  have hs := hb.size
  have b1 : Below w1.heap.size w1 U := by rw [← hU]; exact (Below.refl _ w1).alloc (Nat.le_refl _) _
  have x1 : U.heap[w1.heap.size]? = some (.cells #[.slice none 0 0, .int .i64 0, .int .i64 0, .int .i64 0] 41 (0, 0)) := by rw [← hU]; exact World.alloc_heap_new w1 _
  have e1 : U.heap.size = w1.heap.size + 1 := by rw [← hU]; exact World.size_alloc ..
  rw [hU, ← e1]
  have b2 : Below U.heap.size U (U.alloc (.cells #[.string ⟨#[]⟩, .int .i64 0, .int .i64 0] 43)) := (Below.refl _ U).alloc (Nat.le_refl _) _
  have x2 : (U.alloc (.cells #[.string ⟨#[]⟩, .int .i64 0, .int .i64 0] 43)).heap[U.heap.size]? = some (.cells #[.string ⟨#[]⟩, .int .i64 0, .int .i64 0] 43 (0, 0)) := World.alloc_heap_new U _
  have pb : PB U w1.heap.size none g0 0 := ⟨⟨[], 0, ⟨x1, fun k hk => (by cases hk), fun _ => rfl⟩, ⟨Nat.le_refl _, Nat.le_refl _, rfl⟩, rfl⟩, by decide, Nat.le_refl _, g0_ok⟩
  exact ⟨⟨none, ⟨⟨rfl, pb.below b2⟩, x2, ⟨by omega, fun e => by cases e⟩⟩, fun k hk => by cases hk⟩, (hb.trans (b1.mono (by omega))).trans (b2.mono (by omega))⟩

theorem q_in {n0 : Nat} {w wr : World} {bz : Nat} (x : Opr) (hn : n0 ≤ w.heap.size) (h : Z n0 w bz (bz + 1) wr) : Q n0 w bz (bz + 1) wr.heap.size (some (.cells #[.int .i64 x.k, .int .i64 x.a, .int .i64 x.b, .string x.s] 45 (0, 0))) (some (.cells #[.pointer none, .pointer (some ⟨bz, 0, none⟩)] 26 (0, 0))) ((wr.alloc (.cells #[.int .i64 x.k, .int .i64 x.a, .int .i64 x.b, .string x.s] 45)).alloc (.cells #[.pointer none, .pointer (some ⟨bz, 0, none⟩)] 26)) := by
  obtain ⟨U, hU⟩ : ∃ U, wr.alloc (.cells #[.int .i64 x.k, .int .i64 x.a, .int .i64 x.b, .string x.s] 45) = U := ⟨_, rfl⟩
  have b1 : Below wr.heap.size wr U := by rw [← hU]; exact (Below.refl _ wr).alloc (Nat.le_refl _) _
  have x1 : U.heap[wr.heap.size]? = some (.cells #[.int .i64 x.k, .int .i64 x.a, .int .i64 x.b, .string x.s] 45 (0, 0)) := by rw [← hU]; exact World.alloc_heap_new wr _
  have e1 : U.heap.size = wr.heap.size + 1 := by rw [← hU]; exact World.size_alloc ..
  rw [hU]
  have b2 : Below U.heap.size U (U.alloc (.cells #[.pointer none, .pointer (some ⟨bz, 0, none⟩)] 26)) := (Below.refl _ U).alloc (Nat.le_refl _) _
  have x2 : (U.alloc (.cells #[.pointer none, .pointer (some ⟨bz, 0, none⟩)] 26)).heap[U.heap.size]? = some (.cells #[.pointer none, .pointer (some ⟨bz, 0, none⟩)] 26 (0, 0)) := World.alloc_heap_new U _
  have := h.q hn (b1.trans (b2.mono (by omega)))
  rw [b2.block _ (by omega), x1, ← e1, x2] at this
  exact this
theorem q_cells {n0 : Nat} {w W : World} {bz d kb : Nat} {x : Opr} (h : Q n0 w bz d kb (some (.cells #[.int .i64 x.k, .int .i64 x.a, .int .i64 x.b, .string x.s] 45 (0, 0))) (some (.cells #[.pointer none, .pointer (some ⟨bz, 0, none⟩)] 26 (0, 0))) W) : (W.cell? ⟨kb, 0, none⟩ = some (.int .i64 x.k) ∧ W.cell? ⟨kb, 1, none⟩ = some (.int .i64 x.a) ∧ W.cell? ⟨kb, 2, none⟩ = some (.int .i64 x.b) ∧ W.cell? ⟨kb, 3, none⟩ = some (.string x.s)) ∧ W.cell? ⟨kb + 1, 0, none⟩ = some (.pointer none) ∧ W.cell? ⟨kb + 1, 1, none⟩ = some (.pointer (some ⟨bz, 0, none⟩)) := by
  have h1 := h.b1
  have h2 := h.b2
  exact ⟨⟨by simp [World.cell?, h1], by simp [World.cell?, h1], by simp [World.cell?, h1], by simp [World.cell?, h1]⟩, by simp [World.cell?, h2], by simp [World.cell?, h2]⟩
/-- what the two buffers are asked in a round -/
structure Cs (n0 : Nat) (w wr : World) (bz : Nat) (x : Opr) (v : Value) : Prop where
  wk : ∀ W, Q n0 w bz (bz + 1) wr.heap.size (some (.cells #[.int .i64 x.k, .int .i64 x.a, .int .i64 x.b, .string x.s] 45 (0, 0))) (some (.cells #[.pointer none, .pointer (some ⟨bz, 0, none⟩)] 26 (0, 0))) W → Calls Tryz.prog 13 #[v, .pointer (some ⟨bz + 1, 0, none⟩), ov x] W fun e W' => e = .returned (.bool true) ∧ Q n0 w bz (bz + 1) wr.heap.size (some (.cells #[.int .i64 x.k, .int .i64 x.a, .int .i64 x.b, .string x.s] 45 (0, 0))) (some (.cells #[.pointer none, .pointer (some ⟨bz, 0, none⟩)] 26 (0, 0))) W'
  ak : ∀ W, Q n0 w bz (bz + 1) wr.heap.size (some (.cells #[.int .i64 x.k, .int .i64 x.a, .int .i64 x.b, .string x.s] 45 (0, 0))) (some (.cells #[.pointer none, .pointer (some ⟨bz, 0, none⟩)] 26 (0, 0))) W → Calls Tryz.prog 14 #[v, .pointer (some ⟨bz + 1, 0, none⟩), ov x] W fun e W' => e = .returned (.bool true) ∧ Q n0 w bz (bz + 1) wr.heap.size (some (.cells #[.int .i64 x.k, .int .i64 x.a, .int .i64 x.b, .string x.s] 45 (0, 0))) (some (.cells #[.pointer none, .pointer (some ⟨bz, 0, none⟩)] 26 (0, 0))) W'
  ln : ∀ W, Q n0 w bz (bz + 1) wr.heap.size (some (.cells #[.int .i64 x.k, .int .i64 x.a, .int .i64 x.b, .string x.s] 45 (0, 0))) (some (.cells #[.pointer none, .pointer (some ⟨bz, 0, none⟩)] 26 (0, 0))) W → Calls Tryz.prog 15 #[v] W fun e W' => e = .returned (.int .i64 0) ∧ Q n0 w bz (bz + 1) wr.heap.size (some (.cells #[.int .i64 x.k, .int .i64 x.a, .int .i64 x.b, .string x.s] 45 (0, 0))) (some (.cells #[.pointer none, .pointer (some ⟨bz, 0, none⟩)] 26 (0, 0))) W'
  cp : ∀ W, Q n0 w bz (bz + 1) wr.heap.size (some (.cells #[.int .i64 x.k, .int .i64 x.a, .int .i64 x.b, .string x.s] 45 (0, 0))) (some (.cells #[.pointer none, .pointer (some ⟨bz, 0, none⟩)] 26 (0, 0))) W → Calls Tryz.prog 16 #[v] W fun e W' => e = .returned (.int .i64 0) ∧ Q n0 w bz (bz + 1) wr.heap.size (some (.cells #[.int .i64 x.k, .int .i64 x.a, .int .i64 x.b, .string x.s] 45 (0, 0))) (some (.cells #[.pointer none, .pointer (some ⟨bz, 0, none⟩)] 26 (0, 0))) W'
  pl : ∀ W, Q n0 w bz (bz + 1) wr.heap.size (some (.cells #[.int .i64 x.k, .int .i64 x.a, .int .i64 x.b, .string x.s] 45 (0, 0))) (some (.cells #[.pointer none, .pointer (some ⟨bz, 0, none⟩)] 26 (0, 0))) W → Calls Tryz.prog 17 #[v] W fun e W' => e = .returned (.int .i64 0) ∧ Q n0 w bz (bz + 1) wr.heap.size (some (.cells #[.int .i64 x.k, .int .i64 x.a, .int .i64 x.b, .string x.s] 45 (0, 0))) (some (.cells #[.pointer none, .pointer (some ⟨bz, 0, none⟩)] 26 (0, 0))) W'
  lm : ∀ W, Q n0 w bz (bz + 1) wr.heap.size (some (.cells #[.int .i64 x.k, .int .i64 x.a, .int .i64 x.b, .string x.s] 45 (0, 0))) (some (.cells #[.pointer none, .pointer (some ⟨bz, 0, none⟩)] 26 (0, 0))) W → Calls Tryz.prog 18 #[v] W fun e W' => e = .returned (.int .i64 0) ∧ Q n0 w bz (bz + 1) wr.heap.size (some (.cells #[.int .i64 x.k, .int .i64 x.a, .int .i64 x.b, .string x.s] 45 (0, 0))) (some (.cells #[.pointer none, .pointer (some ⟨bz, 0, none⟩)] 26 (0, 0))) W'
  tx : ∀ W, Q n0 w bz (bz + 1) wr.heap.size (some (.cells #[.int .i64 x.k, .int .i64 x.a, .int .i64 x.b, .string x.s] 45 (0, 0))) (some (.cells #[.pointer none, .pointer (some ⟨bz, 0, none⟩)] 26 (0, 0))) W → Calls Tryz.prog 19 #[v] W fun e W' => e = .returned (.string ⟨#[]⟩) ∧ Q n0 w bz (bz + 1) wr.heap.size (some (.cells #[.int .i64 x.k, .int .i64 x.a, .int .i64 x.b, .string x.s] 45 (0, 0))) (some (.cells #[.pointer none, .pointer (some ⟨bz, 0, none⟩)] 26 (0, 0))) W'
theorem cs_of {n0 : Nat} {w wr : World} {bz : Nat} {x : Opr} {v : Value} (hv : v = .pointer none ∨ v = .pointer (some ⟨bz, 0, none⟩)) (hl : Ly n0 w bz (bz + 1) wr.heap.size) (hx : x.fit) (hE : ∀ W, Below n0 w W → Env W) : Cs n0 w wr bz x v := by
  refine ⟨fun W h => h.works hl hv x hx, fun W h => ?_, fun W h => ?_, fun W h => ?_, fun W h => ?_, fun W h => ?_, fun W h => ?_⟩
  all_goals obtain ⟨o, p⟩ := h.pp hv
  · exact (asks_pp p (hE _ h.bel) x hx).mono fun e W' ⟨q1, q2⟩ => ⟨q1, h.low hl q2⟩
  · exact (len_is p.is).mono fun e W' ⟨q1, q2⟩ => ⟨q1, h.low hl q2⟩
  · exact (cap_is p.is).mono fun e W' ⟨q1, q2⟩ => ⟨q1, h.low hl q2⟩
  · exact (place_is p.is).mono fun e W' ⟨q1, q2⟩ => ⟨q1, h.low hl q2⟩
  · exact (limit_is p.is).mono fun e W' ⟨q1, q2⟩ => ⟨q1, h.low hl q2⟩
  · exact (text_is p.is).mono fun e W' ⟨q1, q2⟩ => ⟨q1, h.low hl q2⟩
theorem ends_len {w : World} {b : Nat} {r : Option Nat} (h : PB w b r g0 0) : Calls Tryz.prog 15 #[.pointer (some ⟨b, 0, none⟩)] w fun e W' => e = .returned (.int .i64 0) ∧ PB W' b r g0 0 ∧ Below w.heap.size w W' :=
  (len_is (o := some (b, r)) ⟨rfl, h⟩).mono fun _ _ ⟨q1, q2⟩ => ⟨q1, h.below q2, q2⟩
theorem ends_ins {n0 : Nat} {w W : World} {b : Nat} {r : Option Nat} (h : PB W b r g0 0) (hn : n0 ≤ w.heap.size) (hb : Below n0 w W) (h1 : n0 ≤ b) (h2 : ∀ k, r = some k → n0 ≤ k) : Calls Tryz.prog 20 #[.pointer (some ⟨b, 0, none⟩), .int .i64 0, .string ⟨#[120]⟩] W fun e W' => e = .returned (.int .i64 2) ∧ Below n0 w W' := by
  have he : (gRep g0 0 0 ⟨#[120]⟩).2.2 = 2 := by rfl
  have := ins_is (o := some (b, r)) (n := 0) (g := g0) (v := .pointer (some ⟨b, 0, none⟩)) ⟨rfl, h⟩ 0 (by omega) ⟨#[120]⟩
  rw [he] at this
  refine this.mono ?_
  rintro e W' ⟨q1, _, _, _, i2, _, _⟩
  exact ⟨q1, pch_below hb hn h1 h1 h2 (PCh.prog (d := b) i2)⟩

set_option maxRecDepth 100000 in
set_option maxHeartbeats 4000000 in
theorem walk (l : List Opr) (N : Nat) (a1 : Option Addr) (c1 : Nat) (hN : l.length = N) (hNb : N ≤ 140737488351232) (hl : ∀ x ∈ l, x.fit) (w : World)
    (hr : l ≠ [] → ∃ g o, a1 = some ⟨g, o, none⟩ ∧ g < w.heap.size ∧ ∀ k x, l[k]? = some x → w.cell? ⟨g, o + k * 4, none⟩ = some (.int .i64 x.k) ∧ w.cell? ⟨g, o + k * 4 + 1, none⟩ = some (.int .i64 x.a) ∧ w.cell? ⟨g, o + k * 4 + 2, none⟩ = some (.int .i64 x.b) ∧ w.cell? ⟨g, o + k * 4 + 3, none⟩ = some (.string x.s)) (hE : Env w) :
    Calls Tryz.prog 5 #[.slice a1 N c1] w fun e w' => e = .returned (.bool true) ∧ Below w.heap.size w w' := by
  obtain ⟨n0, hn0⟩ : ∃ n0, w.heap.size = n0 := ⟨_, rfl⟩
  have CF : Hid (Calls Tryz.prog 6 #[] w fun e w' => e = .returned (.bool true) ∧ Below n0 w w') := by
    have := fixed_any w hE.tab
    rw [hn0] at this
    exact this
  have HE : Hid (∀ W, Below n0 w W → Env W) := fun W hW => hE.low (by rw [hn0]; exact hW)
  have HN : Hid (l.length = N ∧ ∀ x ∈ l, x.fit) := ⟨hN, hl⟩
  have HS : Hid (∀ k x, l[k]? = some x → ∃ gs os, a1 = some ⟨gs, os, none⟩ ∧ ∀ W, Below n0 w W → W.cell? ⟨gs, os + k * 4, none⟩ = some (.int .i64 x.k) ∧ W.cell? ⟨gs, os + k * 4 + 1, none⟩ = some (.int .i64 x.a) ∧ W.cell? ⟨gs, os + k * 4 + 2, none⟩ = some (.int .i64 x.b) ∧ W.cell? ⟨gs, os + k * 4 + 3, none⟩ = some (.string x.s)) := scr_of (Below.refl _ w) (by omega) hr
  clear hr hN hl hE
  go_enter Tryz.func5, Tryz.ntmps5
  go_wp2_with (go_at_call 6; refine CF.out.mono ?_; clear CF; rintro e w1 ⟨rfl, hb1⟩; have HB1 : Hid (Below n0 w w1) := hb1; clear hb1)
  obtain ⟨bz, hbz⟩ : ∃ bz, w1.heap.size = bz := ⟨_, rfl⟩
  have HL : Hid (n0 ≤ w.heap.size ∧ n0 ≤ bz ∧ n0 ≤ bz + 1) := ⟨by omega, by have := HB1.out.size; omega, by have := HB1.out.size; omega⟩
  have HZ0 : Hid (Z n0 w bz (bz + 1) ((w1.alloc (.cells #[.slice none 0 0, .int .i64 0, .int .i64 0, .int .i64 0] 41)).alloc (.cells #[.string ⟨#[]⟩, .int .i64 0, .int .i64 0] 43))) := by
    have := z_start HL.out.1 HB1.out
    rw [hbz] at this
    exact this
  rw [hbz]
  go_loopw [6] (fun t wr => ∃ k : Nat, k ≤ N ∧ t = .int .i64 k ∧ Z n0 w bz (bz + 1) wr) (fun t _ => N - (intOf t).toNat)
  case atStart => exact ⟨0, Nat.zero_le _, rfl, HZ0.out⟩
  case round =>
    obtain ⟨k, hk, rfl, hZ⟩ := hrel
    obtain ⟨wo, hwo⟩ : ∃ wo, wo = wr := ⟨_, rfl⟩
    subst hwo
    have HZ : Hid (Z n0 w bz (bz + 1) wo) := hZ
    clear HZ0 hZ
    by_cases hlt : k < N
    · obtain ⟨x, hxk⟩ : ∃ x, l[k]? = some x := ⟨l[k]'(by rw [HN.out.1]; exact hlt), List.getElem?_eq_getElem _⟩
      have HX : Hid x.fit := HN.out.2 x (List.mem_of_getElem? hxk)
      obtain ⟨gs, os, rfl, hcx⟩ := HS.out k x hxk
      obtain ⟨y0, y1, y2, y3⟩ := hcx _ HZ.out.bel
      clear hcx hxk
      have HY : Hid (Ly n0 w bz (bz + 1) wo.heap.size) := HZ.out.ly HL.out.1 HL.out.2.1 HL.out.2.2
      have HQ0 : Hid (Q n0 w bz (bz + 1) wo.heap.size (some (.cells #[.int .i64 x.k, .int .i64 x.a, .int .i64 x.b, .string x.s] 45 (0, 0))) (some (.cells #[.pointer none, .pointer (some ⟨bz, 0, none⟩)] 26 (0, 0))) ((wo.alloc (.cells #[.int .i64 x.k, .int .i64 x.a, .int .i64 x.b, .string x.s] 45)).alloc (.cells #[.pointer none, .pointer (some ⟨bz, 0, none⟩)] 26))) := q_in x HL.out.1 HZ.out
      go_wp2_with fail
      clear y0 y1 y2 y3
      go_loopw [31] (fun t w' => ∃ j : Nat, j ≤ 2 ∧ t = .int .i64 j ∧ Q n0 w bz (bz + 1) wo.heap.size (some (.cells #[.int .i64 x.k, .int .i64 x.a, .int .i64 x.b, .string x.s] 45 (0, 0))) (some (.cells #[.pointer none, .pointer (some ⟨bz, 0, none⟩)] 26 (0, 0))) w') (fun t _ => 2 - (intOf t).toNat)
      case atStart => exact ⟨0, by omega, rfl, HQ0.out⟩
      case round =>
        obtain ⟨j, hj, rfl, hQ⟩ := hrel
        have HQ : Hid (Q n0 w bz (bz + 1) wo.heap.size (some (.cells #[.int .i64 x.k, .int .i64 x.a, .int .i64 x.b, .string x.s] 45 (0, 0))) (some (.cells #[.pointer none, .pointer (some ⟨bz, 0, none⟩)] 26 (0, 0))) wr) := hQ
        clear HQ0 hQ
        obtain rfl | rfl | rfl : j = 0 ∨ j = 1 ∨ j = 2 := by omega
        · have HC : Hid (Cs n0 w wo bz x (.pointer none)) := cs_of (.inl rfl) HY.out HX.out HE.out
          obtain ⟨⟨y0, y1, y2, y3⟩, y4, y5⟩ := q_cells HQ.out
          go_wp2_with (first
            | (go_at_call 13; refine (HC.out.wk _ HQ.out).mono ?_; clear HQ y0 y1 y2 y3 y4 y5; rintro e v1 ⟨rfl, q⟩; have HQ1 : Hid (Q n0 w bz (bz + 1) wo.heap.size (some (.cells #[.int .i64 x.k, .int .i64 x.a, .int .i64 x.b, .string x.s] 45 (0, 0))) (some (.cells #[.pointer none, .pointer (some ⟨bz, 0, none⟩)] 26 (0, 0))) v1) := q; obtain ⟨⟨y0, y1, y2, y3⟩, -, -⟩ := q_cells q; clear q)
            | (go_at_call 14; refine (HC.out.ak _ HQ1.out).mono ?_; clear HQ1 y0 y1 y2 y3; rintro e v2 ⟨rfl, q⟩; have HQ2 : Hid (Q n0 w bz (bz + 1) wo.heap.size (some (.cells #[.int .i64 x.k, .int .i64 x.a, .int .i64 x.b, .string x.s] 45 (0, 0))) (some (.cells #[.pointer none, .pointer (some ⟨bz, 0, none⟩)] 26 (0, 0))) v2) := q; clear q)
            | (go_at_call 15; refine (HC.out.ln _ HQ2.out).mono ?_; clear HQ2; rintro e v3 ⟨rfl, q⟩; have HQ3 : Hid (Q n0 w bz (bz + 1) wo.heap.size (some (.cells #[.int .i64 x.k, .int .i64 x.a, .int .i64 x.b, .string x.s] 45 (0, 0))) (some (.cells #[.pointer none, .pointer (some ⟨bz, 0, none⟩)] 26 (0, 0))) v3) := q; clear q)
            | (go_at_call 16; refine (HC.out.cp _ HQ3.out).mono ?_; clear HQ3; rintro e v4 ⟨rfl, q⟩; have HQ4 : Hid (Q n0 w bz (bz + 1) wo.heap.size (some (.cells #[.int .i64 x.k, .int .i64 x.a, .int .i64 x.b, .string x.s] 45 (0, 0))) (some (.cells #[.pointer none, .pointer (some ⟨bz, 0, none⟩)] 26 (0, 0))) v4) := q; clear q)
            | (go_at_call 17; refine (HC.out.pl _ HQ4.out).mono ?_; clear HQ4; rintro e v5 ⟨rfl, q⟩; have HQ5 : Hid (Q n0 w bz (bz + 1) wo.heap.size (some (.cells #[.int .i64 x.k, .int .i64 x.a, .int .i64 x.b, .string x.s] 45 (0, 0))) (some (.cells #[.pointer none, .pointer (some ⟨bz, 0, none⟩)] 26 (0, 0))) v5) := q; clear q)
            | (go_at_call 18; refine (HC.out.lm _ HQ5.out).mono ?_; clear HQ5; rintro e v6 ⟨rfl, q⟩; have HQ6 : Hid (Q n0 w bz (bz + 1) wo.heap.size (some (.cells #[.int .i64 x.k, .int .i64 x.a, .int .i64 x.b, .string x.s] 45 (0, 0))) (some (.cells #[.pointer none, .pointer (some ⟨bz, 0, none⟩)] 26 (0, 0))) v6) := q; clear q)
            | (go_at_call 19; refine (HC.out.tx _ HQ6.out).mono ?_; clear HQ6; rintro e v7 ⟨rfl, q⟩; have HQ7 : Hid (Q n0 w bz (bz + 1) wo.heap.size (some (.cells #[.int .i64 x.k, .int .i64 x.a, .int .i64 x.b, .string x.s] 45 (0, 0))) (some (.cells #[.pointer none, .pointer (some ⟨bz, 0, none⟩)] 26 (0, 0))) v7) := q; clear q))
          exact ⟨⟨1, by omega, by go_num, HQ7.out⟩, by simp [intOf]⟩
        · have HC : Hid (Cs n0 w wo bz x (.pointer (some ⟨bz, 0, none⟩))) := cs_of (.inr rfl) HY.out HX.out HE.out
          obtain ⟨⟨y0, y1, y2, y3⟩, y4, y5⟩ := q_cells HQ.out
          go_wp2_with (first
            | (go_at_call 13; refine (HC.out.wk _ HQ.out).mono ?_; clear HQ y0 y1 y2 y3 y4 y5; rintro e v1 ⟨rfl, q⟩; have HQ1 : Hid (Q n0 w bz (bz + 1) wo.heap.size (some (.cells #[.int .i64 x.k, .int .i64 x.a, .int .i64 x.b, .string x.s] 45 (0, 0))) (some (.cells #[.pointer none, .pointer (some ⟨bz, 0, none⟩)] 26 (0, 0))) v1) := q; obtain ⟨⟨y0, y1, y2, y3⟩, -, -⟩ := q_cells q; clear q)
            | (go_at_call 14; refine (HC.out.ak _ HQ1.out).mono ?_; clear HQ1 y0 y1 y2 y3; rintro e v2 ⟨rfl, q⟩; have HQ2 : Hid (Q n0 w bz (bz + 1) wo.heap.size (some (.cells #[.int .i64 x.k, .int .i64 x.a, .int .i64 x.b, .string x.s] 45 (0, 0))) (some (.cells #[.pointer none, .pointer (some ⟨bz, 0, none⟩)] 26 (0, 0))) v2) := q; clear q)
            | (go_at_call 15; refine (HC.out.ln _ HQ2.out).mono ?_; clear HQ2; rintro e v3 ⟨rfl, q⟩; have HQ3 : Hid (Q n0 w bz (bz + 1) wo.heap.size (some (.cells #[.int .i64 x.k, .int .i64 x.a, .int .i64 x.b, .string x.s] 45 (0, 0))) (some (.cells #[.pointer none, .pointer (some ⟨bz, 0, none⟩)] 26 (0, 0))) v3) := q; clear q)
            | (go_at_call 16; refine (HC.out.cp _ HQ3.out).mono ?_; clear HQ3; rintro e v4 ⟨rfl, q⟩; have HQ4 : Hid (Q n0 w bz (bz + 1) wo.heap.size (some (.cells #[.int .i64 x.k, .int .i64 x.a, .int .i64 x.b, .string x.s] 45 (0, 0))) (some (.cells #[.pointer none, .pointer (some ⟨bz, 0, none⟩)] 26 (0, 0))) v4) := q; clear q)
            | (go_at_call 17; refine (HC.out.pl _ HQ4.out).mono ?_; clear HQ4; rintro e v5 ⟨rfl, q⟩; have HQ5 : Hid (Q n0 w bz (bz + 1) wo.heap.size (some (.cells #[.int .i64 x.k, .int .i64 x.a, .int .i64 x.b, .string x.s] 45 (0, 0))) (some (.cells #[.pointer none, .pointer (some ⟨bz, 0, none⟩)] 26 (0, 0))) v5) := q; clear q)
            | (go_at_call 18; refine (HC.out.lm _ HQ5.out).mono ?_; clear HQ5; rintro e v6 ⟨rfl, q⟩; have HQ6 : Hid (Q n0 w bz (bz + 1) wo.heap.size (some (.cells #[.int .i64 x.k, .int .i64 x.a, .int .i64 x.b, .string x.s] 45 (0, 0))) (some (.cells #[.pointer none, .pointer (some ⟨bz, 0, none⟩)] 26 (0, 0))) v6) := q; clear q)
            | (go_at_call 19; refine (HC.out.tx _ HQ6.out).mono ?_; clear HQ6; rintro e v7 ⟨rfl, q⟩; have HQ7 : Hid (Q n0 w bz (bz + 1) wo.heap.size (some (.cells #[.int .i64 x.k, .int .i64 x.a, .int .i64 x.b, .string x.s] 45 (0, 0))) (some (.cells #[.pointer none, .pointer (some ⟨bz, 0, none⟩)] 26 (0, 0))) v7) := q; clear q))
          exact ⟨⟨2, by omega, by go_num, HQ7.out⟩, by simp [intOf]⟩
        · obtain ⟨⟨r, hp, -⟩, -, -, -⟩ := HQ.out
          obtain ⟨⟨z0, z1, -⟩, -, -, -⟩ := hp.rb.cells
          have z0' : wr.cell? ⟨bz + 1, 0, none⟩ = some (.string ⟨#[]⟩) := z0
          have z1' : wr.cell? ⟨bz + 1, 1, none⟩ = some (.int .i64 0) := z1
          clear z0 z1 hp
          go_wp2_with fail
          exact ⟨⟨k + 1, by omega, by go_num, HQ.out.z⟩, by simp [intOf]; omega⟩
    · obtain ⟨⟨r, hp, hk⟩, hb⟩ := HZ.out
      have HP : Hid (PB wo bz r g0 0) := hp.is.2
      clear hp hk hb
      go_wp2_with (first
        | (go_at_call 11; refine (clone_pb HP.out).mono ?_; clear HP; rintro e w2 ⟨rfl, p2, b2⟩; have HP2 : Hid (PB w2 (wo.heap.size + 1) (some wo.heap.size) g0 0 ∧ Below n0 w w2) := ⟨p2, HZ.out.bel.trans (b2.mono (Nat.le_trans HL.out.1 HZ.out.bel.size))⟩; clear p2 b2)
        | (go_at_call 11; refine (clone_none w2).mono ?_; rintro e w3 ⟨rfl, rfl⟩)
        | (go_at_call 15; refine (ends_len HP2.out.1).mono ?_; rintro e w4 ⟨rfl, p4, b4⟩; have HP4 : Hid (PB w4 (wo.heap.size + 1) (some wo.heap.size) g0 0 ∧ Below n0 w w4) := ⟨p4, HP2.out.2.trans (b4.mono (Nat.le_trans HL.out.1 HP2.out.2.size))⟩; clear p4 b4)
        | (go_at_call 20; refine (ends_ins HP4.out.1 HL.out.1 HP4.out.2 (by have := HZ.out.bel.size; have := HL.out.1; omega) (fun k hk => by cases hk; exact Nat.le_trans HL.out.1 HZ.out.bel.size)).mono ?_; rintro e w5 ⟨rfl, b5⟩))
      go_ret
      exact ⟨rfl, by rw [hn0]; exact b5⟩

theorem walk_of (a1 : Option Addr) (len1 cap1 : Nat) (w : World) (hT : Lib.Utf8Tabs 1 2 w) (hlo0 : 1 < w.heap.size) (hlo1 : 2 < w.heap.size) (hM : ∃ m, w.cell? ⟨0, 0, none⟩ = some (.int .i64 m))
    (l : List Opr) (y1 : RdO w (.slice a1 len1 cap1) l) (u1 : l.length ≤ 140737488351232 ∧ ∀ x ∈ l, x.fit) :
    Calls Tryz.prog 5 #[.slice a1 len1 cap1] w fun e w' => e = .returned (.bool true) ∧ Below w.heap.size w w' := by
  obtain ⟨a, cap, e, hr⟩ := y1
  cases e
  exact walk l l.length a1 cap1 rfl u1.1 u1.2 w hr ⟨hT, hlo0, hlo1, hM⟩
end Go.Proofs.YtgagpmeknpjkpaaGreatDoor.gapEnds
