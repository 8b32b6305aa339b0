/-
  What package gap's Move, Replace, Insert, Delete, Reset and New do to a buffer, or to none. No conditions beyond.
-/
import Derived.Test.YtgagpmeknpjkpaaGreatDoorGLook
namespace Go.Proofs.YtgagpmeknpjkpaaGreatDoor
open Go.RowKit Bod

theorem PB.drewN {W : World} {b : Nat} {r : Option Nat} {g : Gp} {n : Nat} (h : PB W b r g n) (k : Nat) : PB (W.drewN k) b r g n := ⟨h.ex.imp fun _ h => h.imp fun _ h => ⟨h.1.drewN k, h.2⟩, h.cap, h.lm, h.ok⟩
theorem eBA_size : eBA.size = 0 := rfl
theorem size0 {s : ByteArray} (h : s.size = 0) : s = eBA := by
  apply ByteArray.ext
  exact Array.eq_empty_of_size_eq_zero h
/-- the text that a replacement leaves, as a list -/
theorem rep_list (s put : ByteArray) (x y : Nat) : (s.extract 0 x ++ put ++ s.extract (x + y) s.size).data.toList = s.data.toList.take x ++ put.data.toList ++ s.data.toList.drop (x + y) := by
  rw [ext_list, ext_list]
  simp only [ByteArray.data_append, Array.toList_append, Nat.sub_zero, List.drop_zero]
  rw [show (s.data.toList.drop (x + y)).take (s.size - (x + y)) = s.data.toList.drop (x + y) from List.take_of_length_le (by rw [List.length_drop, sz_list]; exact Nat.le_refl _)]
theorem Chs.step {o : Option (Nat × Option Nat)} {w w1 w2 : World} (h : Below w.heap.size w w1) (k : Chs o w1 w2) : Chs o w w2 := by
  cases o with
  | none => exact h.trans (Below.mono k h.size)
  | some x => exact (Ch.below h).trans (Nw.refl _ _) k
theorem Nws.step {o o2 : Option (Nat × Option Nat)} {w w1 : World} (h : Below w.heap.size w w1) (k : Nws w1 o o2) : Nws w o o2 := by
  cases o with
  | none => exact k
  | some x =>
    obtain ⟨r2, e, k⟩ := k
    exact ⟨r2, e, (Nw.refl w _).trans h.size k⟩
def gPut (g : Gp) (x y : Nat) (put : ByteArray) : Gp := ⟨g.s.extract 0 x ++ put ++ g.s.extract (x + y) g.s.size, x + put.size, g.l⟩
theorem gPut_size {g : Gp} {x y : Nat} (h : x + y ≤ g.s.size) (put : ByteArray) : (gPut g x y put).s.size = g.s.size - y + put.size := by
  unfold gPut
  dsimp only
  rw [ByteArray.size_append, ByteArray.size_append, size_ext (by omega), size_ext (Nat.le_refl _)]
  omega
theorem exch_pb {w : World} {b : Nat} {r : Option Nat} {g : Gp} {n : Nat} (h : PB w b r g n) {x y : Nat} (hx : x + y ≤ g.s.size) (put : ByteArray) (hn : g.s.size - y + put.size ≤ g.l) :
    Calls Tryz.prog 48 #[.pointer (some ⟨b, 0, none⟩), .int .i64 x, .int .i64 y, .string put] w fun z w' => z = .returned (.tuple #[]) ∧ ∃ r' n', PB w' b r' (gPut g x y put) n' ∧ Ch b r w w' ∧ Nw w r r' := by
  obtain ⟨A, e, hP, hg, hA⟩ := h.ex
  have hl := sz_list g.s
  refine (exch_any put w hP hg (q := x) (c := y) (by omega) (by rw [hl]; exact hn) h.ok.2.2 (by rw [hA]; exact h.small)).mono ?_
  rintro z w' ⟨e1, r', A', e', q1, q2, q3, q4, q5, q6⟩
  refine ⟨e1, r', A'.length, ⟨⟨A', e', q1, ?_, rfl⟩, ?_, q4 (by rw [hA]; exact h.lm), ?_⟩, q5, q6⟩
  · show Gap A' (x + put.size) e' (gPut g x y put).s.data.toList
    unfold gPut
    dsimp only
    rw [rep_list]
    exact q2
  · rw [gPut_size hx]
    rw [hl] at q3
    exact q3
  · refine ⟨?_, ?_, h.ok.2.2⟩
    · rw [gPut_size hx]
      show x + put.size ≤ _
      omega
    · rw [gPut_size hx]
      exact hn
theorem gPut_g0 {g : Gp} {x y : Nat} (hx : x + y ≤ g.s.size) (put : ByteArray) (hn : g.s.size - y + put.size ≤ g.l) (h : g = g0) : gPut g x y put = g0 := by
  subst h
  have h0 : g0.s.size = 0 := rfl
  have h1 : g0.l = 0 := rfl
  have hs := gPut_size hx put
  have e1 : (gPut g0 x y put).s = eBA := size0 (by omega)
  have e2 : (gPut g0 x y put).p = 0 := by show x + put.size = 0; omega
  show Gp.mk (gPut g0 x y put).s (gPut g0 x y put).p 0 = g0
  rw [e1, e2]
  rfl

set_option maxRecDepth 100000 in
set_option maxHeartbeats 1000000 in
theorem move_is {w : World} {v : Value} {o : Option (Nat × Option Nat)} {g : Gp} {n : Nat} (h : Is w v o g n) (a : Int) :
    Calls Tryz.prog 31 #[v, .int .i64 a] w fun x w' => x = .returned (.int .i64 (gMove g a).2) ∧ ∃ o2, Is w' v o2 (gMove g a).1 n ∧ Chs o w w' ∧ Nws w o o2 := by
  have CL : Hid (Calls Tryz.prog 15 #[v] w fun x w' => x = .returned (.int .i64 g.s.size) ∧ Below w.heap.size w w') := len_is h
  have CO : Hid (∀ w1, Below w.heap.size w w1 → Calls Tryz.prog 42 #[v] w1 fun x w2 => ∃ b r, x = .returned (.pointer (some ⟨b, 0, none⟩)) ∧ Od w1 v o g n b r w2) := fun w1 hb => ore_is (h.below hb)
  have HI : Hid (∀ w1, Below w.heap.size w w1 → Is w1 v o g n) := fun w1 hb => h.below hb
  have CS : Hid (∀ w1 b r (q : Nat), PB w1 b r g n → q ≤ g.s.size → Calls Tryz.prog 49 #[.pointer (some ⟨b, 0, none⟩), .int .i64 q] w1 fun z w' => z = .returned (.tuple #[]) ∧ PB w' b r { g with p := q } n ∧ Ch b r w1 w') := fun w1 b r q hp hq => by
    obtain ⟨A, e, hP, hg, hA⟩ := hp.ex
    refine (shift_any w1 hP hg (q := q) (by rw [sz_list]; exact hq) (by rw [hA]; exact hp.small)).mono ?_
    rintro z w' ⟨e1, A', e', q1, q2, q3, q4⟩
    exact ⟨e1, ⟨⟨A', e', q1, q2, by omega⟩, hp.cap, hp.lm, ⟨hq, hp.ok.2⟩⟩, q4⟩
  unfold gMove
  by_cases h1 : a < 0
  · rw [if_pos (.inl h1)]
    clear h
    go_enter Tryz.func31, Tryz.ntmps31
    go_wp2
    go_ret
    exact ⟨rfl, o, HI.out _ (Below.refl _ _), Chs.below (Below.refl _ _), Nws.refl _ _⟩
  · by_cases h2 : (g.s.size : Int) < a
    · rw [if_pos (.inr h2)]
      clear h
      go_enter Tryz.func31, Tryz.ntmps31
      go_wp2_with (go_at_call 15; refine CL.out.mono ?_; clear CL; rintro x w2 ⟨rfl, hb2⟩)
      go_ret
      exact ⟨rfl, o, HI.out _ hb2, Chs.below hb2, Nws.refl _ _⟩
    · rw [if_neg (by omega)]
      obtain ⟨q, rfl⟩ := Int.eq_ofNat_of_zero_le (show 0 ≤ a by omega)
      have HQ : Hid (q ≤ g.s.size) := show q ≤ _ by omega
      have HZ : Hid (g = g0 → ({ g with p := q } : Gp) = g0) := fun e => by
        subst e
        have : q = 0 := by have : q ≤ g0.s.size := HQ.out; exact Nat.le_zero.1 this
        rw [this]
        rfl
      clear h
      go_enter Tryz.func31, Tryz.ntmps31
      go_wp2_with (first | (go_at_call 15; refine CL.out.mono ?_; clear CL; rintro x w2 ⟨rfl, hb2⟩) | (go_at_call 42; refine (CO.out _ hb2).mono ?_; clear CO; rintro x w3 ⟨b, r, rfl, hO⟩; have HO : Hid (Od w2 v o g n b r w3) := hO; clear hO) | (go_at_call 49; refine (CS.out _ _ _ _ HO.out.pb HQ.out).mono ?_; clear CS; rintro x w4 ⟨rfl, hp4, hc4⟩))
      go_ret
      obtain ⟨o2, i1, i2, i3⟩ := HO.out.fin w4 r _ n hc4 (Nw.refl _ _) hp4 HZ.out
      exact ⟨rfl, o2, i1, i2.step hb2, i3.step hb2⟩

/-- what a call that works leaves -/
def Wk (w : World) (v : Value) (o : Option (Nat × Option Nat)) (n : Nat) (g' : Gp) (err : Int) (w' : World) : Prop := ∃ o2 n2, Is w' v o2 g' n2 ∧ Chs o w w' ∧ Nws w o o2 ∧ (err ≠ 0 → n2 = n)
set_option maxRecDepth 100000 in
set_option maxHeartbeats 2000000 in
theorem rep_is {w : World} {v : Value} {o : Option (Nat × Option Nat)} {g : Gp} {n : Nat} (h : Is w v o g n) (a c : Int) (ha : -9223372036854775808 ≤ a ∧ a ≤ 9223372036854775807) (put : ByteArray) :
    Calls Tryz.prog 22 #[v, .int .i64 a, .int .i64 c, .string put] w fun x w' => x = .returned (.tuple #[.string (gRep g a c put).2.1, .int .i64 (gRep g a c put).2.2]) ∧ Wk w v o n (gRep g a c put).1 (gRep g a c put).2.2 w' := by
  obtain ⟨o1, o2, o3⟩ := h.ok
  have CO := ore_is h
  have HX : Hid (∀ w1 b r, Od w v o g n b r w1 → ∀ k, Wk w v o n g 1 (w1.drewN k) ∧ Wk w v o n g 2 (w1.drewN k)) := fun w1 b r hO k => by
    obtain ⟨o2, i1, i2, i3⟩ := hO.fin (w1.drewN k) r g n (Ch.drewN _ _ _ _) (Nw.refl _ _) (hO.pb.drewN k) id
    exact ⟨⟨o2, n, i1, i2, i3, fun _ => rfl⟩, ⟨o2, n, i1, i2, i3, fun _ => rfl⟩⟩
  have CL : Hid (∀ w1 b r, PB w1 b r g n → Calls Tryz.prog 15 #[.pointer (some ⟨b, 0, none⟩)] w1 fun x w' => x = .returned (.int .i64 g.s.size) ∧ ∃ k, w' = w1.drewN k) := fun w1 b r hp => len_pb hp
  unfold gRep
  clear h
  by_cases h1 : a < 0
  · rw [if_pos (.inl h1)]
    go_enter Tryz.func22, Tryz.ntmps22
    go_wp2_with (go_at_call 42; refine CO.mono ?_; clear CO; rintro x w1 ⟨b, r, rfl, hO⟩; have HO : Hid (Od w v o g n b r w1) := hO; clear hO)
    exact bodyPost_ret (v := .tuple #[.string eBA, .int .i64 1]) (by simp [results, Tryz.results22, go_sem, eBA]) rfl ⟨rfl, (HX.out _ _ _ HO.out 0).1⟩
  · by_cases h2 : c < 0
    · rw [if_pos (.inr (.inl h2))]
      go_enter Tryz.func22, Tryz.ntmps22
      go_wp2_with (go_at_call 42; refine CO.mono ?_; clear CO; rintro x w1 ⟨b, r, rfl, hO⟩; have HO : Hid (Od w v o g n b r w1) := hO; clear hO)
      exact bodyPost_ret (v := .tuple #[.string eBA, .int .i64 1]) (by simp [results, Tryz.results22, go_sem, eBA]) rfl ⟨rfl, (HX.out _ _ _ HO.out 0).1⟩
    · obtain ⟨x, rfl⟩ := Int.eq_ofNat_of_zero_le (show 0 ≤ a by omega)
      obtain ⟨y, rfl⟩ := Int.eq_ofNat_of_zero_le (show 0 ≤ c by omega)
      have k1 : IntKind.i64.wrap ((g.s.size : Int) - x) = (g.s.size : Int) - x := by rw [IntKind.wrap_i64]; omega
      by_cases h3 : (g.s.size : Int) - x < y
      · rw [if_pos (show gOut g x y from .inr (.inr (.inr h3)))]
        go_enter Tryz.func22, Tryz.ntmps22
        go_wp2_with (first | (go_at_call 42; refine CO.mono ?_; clear CO; rintro x w1 ⟨b, r, rfl, hO⟩; have HO : Hid (Od w v o g n b r w1) := hO; clear hO) | (go_at_call 15; refine (CL.out _ _ _ HO.out.pb).mono ?_; clear CL; rintro x w2 ⟨rfl, k2, rfl⟩))
        exact bodyPost_ret (v := .tuple #[.string eBA, .int .i64 1]) (by simp [results, Tryz.results22, go_sem, eBA]) rfl ⟨rfl, (HX.out _ _ _ HO.out _).1⟩
      · have hxy : x + y ≤ g.s.size := by omega
        rw [if_neg (by unfold gOut; omega)]
        have CF : Hid (∀ w1 b r, PB w1 b r g n → Calls Tryz.prog 47 #[.pointer (some ⟨b, 0, none⟩), .int .i64 y, .string put] w1 fun x w' => x = .returned (.bool (decide (g.s.size - y + put.size ≤ g.l))) ∧ ∃ k, w' = w1.drewN k) := fun w1 b r hp => fits_pb hp y (by omega) put
        by_cases h4 : (g.l : Int) < (g.s.size : Int) - y + put.size
        · rw [if_pos h4]
          rw [show decide (g.s.size - y + put.size ≤ g.l) = false from decide_eq_false (by omega)] at CF
          go_enter Tryz.func22, Tryz.ntmps22
          go_wp2_with (first | (go_at_call 42; refine CO.mono ?_; clear CO; rintro x w1 ⟨b, r, rfl, hO⟩; have HO : Hid (Od w v o g n b r w1) := hO; clear hO) | (go_at_call 15; refine (CL.out _ _ _ HO.out.pb).mono ?_; clear CL; rintro x w2 ⟨rfl, k2, rfl⟩) | (go_at_call 47; refine (CF.out _ _ _ (HO.out.pb.drewN k2)).mono ?_; clear CF; rintro x w3 ⟨rfl, k3, rfl⟩))
          refine bodyPost_ret (v := .tuple #[.string eBA, .int .i64 2]) (by simp [results, Tryz.results22, go_sem, eBA]) rfl ⟨rfl, ?_⟩
          exact (HX.out _ _ _ HO.out _).2
        · rw [if_neg h4]
          rw [show decide (g.s.size - y + put.size ≤ g.l) = true from decide_eq_true (by omega)] at CF
          have hfit : g.s.size - y + put.size ≤ g.l := by omega
          have k4 : IntKind.i64.wrap ((x : Int) + y) = (x + y : Nat) := by rw [IntKind.wrap_i64]; omega
          have CP : Hid (∀ w1 b r, PB w1 b r g n → Calls Tryz.prog 43 #[.pointer (some ⟨b, 0, none⟩), .int .i64 x, .int .i64 (x + y : Nat)] w1 fun z w' => z = .returned (.string (g.s.extract x (x + y))) ∧ Below w1.heap.size w1 w') := fun w1 b r hp => piece_pb hp (by omega) hxy
          have CE : Hid (∀ w1 b r, PB w1 b r g n → Calls Tryz.prog 48 #[.pointer (some ⟨b, 0, none⟩), .int .i64 x, .int .i64 y, .string put] w1 fun z w' => z = .returned (.tuple #[]) ∧ ∃ r' n', PB w' b r' (gPut g x y put) n' ∧ Ch b r w1 w' ∧ Nw w1 r r') := fun w1 b r hp => exch_pb hp hxy put hfit
          have HZ : Hid (g = g0 → gPut g x y put = g0) := gPut_g0 hxy put hfit
          obtain ⟨out, hout⟩ : ∃ out, g.s.extract x (x + y) = out := ⟨_, rfl⟩
          rw [hout] at CP
          simp only [Int.toNat_natCast]
          rw [hout]
          obtain ⟨g', hg'⟩ : ∃ g', gPut g x y put = g' := ⟨_, rfl⟩
          have hg2 : (⟨g.s.extract 0 x ++ put ++ g.s.extract (x + y) g.s.size, x + put.size, g.l⟩ : Gp) = g' := hg'
          rw [hg2]
          rw [hg'] at CE HZ
          clear hg2 hg' hout hfit hxy h4 o1 o2 o3
          go_enter Tryz.func22, Tryz.ntmps22
          go_wp2_with (first | (go_at_call 42; refine CO.mono ?_; clear CO; rintro x w1 ⟨b, r, rfl, hO⟩; have HO : Hid (Od w v o g n b r w1) := hO; clear hO) | (go_at_call 15; refine (CL.out _ _ _ HO.out.pb).mono ?_; clear CL; rintro x w2 ⟨rfl, k2, rfl⟩) | (go_at_call 47; refine (CF.out _ _ _ (HO.out.pb.drewN k2)).mono ?_; clear CF; rintro x w3 ⟨rfl, k3, rfl⟩) | (go_at_call 43; refine (CP.out _ _ _ (HO.out.pb.drewN _)).mono ?_; clear CP; rintro x w4 ⟨rfl, hb4⟩) | (go_at_call 48; refine (CE.out _ _ _ ((HO.out.pb.drewN _).below hb4)).mono ?_; clear CE; rintro x w5 ⟨rfl, r5, n5, p5, c5, q5⟩))
          refine bodyPost_ret (v := .tuple #[.string out, .int .i64 0]) (by simp [results, Tryz.results22, go_sem]) rfl ⟨rfl, ?_⟩
          obtain ⟨o2, i1, i2, i3⟩ := HO.out.fin w5 r5 _ n5 (((Ch.drewN _ _ _ _).trans (Nw.refl _ _) (Ch.below hb4)).trans (Nw.refl _ _) c5) ((Nw.refl _ _).trans hb4.size q5) p5 HZ.out
          exact ⟨o2, n5, i1, i2, i3, fun h0 => absurd rfl h0⟩
end Go.Proofs.YtgagpmeknpjkpaaGreatDoor
