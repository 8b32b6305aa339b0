/-
  What package gap's calls answer: the looks and the works. Conditions: those of each theorem.
-/
import Derived.Test.YtcjmfoadimpffaaGreatDoorGPkC
namespace Go.Proofs.YtcjmfoadimpffaaGreatDoor.Gap
open Go.RowKit Bod

theorem piece_pb {w : World} {b : Nat} {r : Option Nat} {g : Gp} {n : Nat} (h : PB w b r g n) {x y : Nat} (hx : x ≤ y) (hy : y ≤ g.s.size) :
    Calls Tryz.prog 97 #[.pointer (some ⟨b, 0, none⟩), .int .i64 x, .int .i64 y] w fun z w' => z = .returned (.string (g.s.extract x y)) ∧ Below w.heap.size w w' := by
  obtain ⟨A, e, hP, hg, hA⟩ := h.ex
  have := piece_any w hP hg hx (by rw [sz_list]; exact hy) (by rw [hA]; exact h.small)
  rw [ext_list]
  exact this
theorem ext_all (s : ByteArray) : s.extract 0 s.size = s := by
  rw [ext_list]
  apply ByteArray.ext
  apply Array.toList_inj.1
  rw [Nat.sub_zero, List.drop_zero, List.take_of_length_le (by rw [sz_list]; exact Nat.le_refl _)]

set_option maxRecDepth 100000 in
set_option maxHeartbeats 1000000 in
theorem text_is {w : World} {v : Value} {o : Option (Nat × Option Nat)} {g : Gp} {n : Nat} (h : Is w v o g n) :
    Calls Tryz.prog 58 #[v] w fun x w' => x = .returned (.string g.s) ∧ Below w.heap.size w w' := by
  have CO := ore_is h
  have CL : Hid (∀ w1, Below w.heap.size w w1 → Calls Tryz.prog 98 #[v] w1 fun x w' => x = .returned (.int .i64 g.s.size) ∧ Below w1.heap.size w1 w') := fun w1 hb => len_is (h.below hb)
  have CP : Hid (∀ w1 b r, PB w1 b r g n → Calls Tryz.prog 97 #[.pointer (some ⟨b, 0, none⟩), .int .i64 0, .int .i64 g.s.size] w1 fun z w' => z = .returned (.string g.s) ∧ Below w1.heap.size w1 w') := fun w1 b r hp => by
    have := piece_pb hp (x := 0) (y := g.s.size) (Nat.zero_le _) (Nat.le_refl _)
    rw [ext_all] at this
    exact this
  clear h
  go_enter Tryz.func58, Tryz.ntmps58
  go_wp2_with (first | (go_at_call 96; refine CO.mono ?_; clear CO; rintro x w1 ⟨b, r, rfl, hO⟩; have HO : Hid (Od w v o g n b r w1) := hO; clear hO) | (go_at_call 98; refine (CL.out _ HO.out.bel).mono ?_; clear CL; rintro x w2 ⟨rfl, hb2⟩) | (go_at_call 97; refine (CP.out _ _ _ (HO.out.pb.below hb2)).mono ?_; clear CP; rintro x w3 ⟨rfl, hb3⟩))
  go_ret
  exact ⟨rfl, (HO.out.bel.trans (hb2.mono HO.out.bel.size)).trans (hb3.mono (Nat.le_trans HO.out.bel.size hb2.size))⟩

set_option maxRecDepth 100000 in
set_option maxHeartbeats 1000000 in
theorem slice_is {w : World} {v : Value} {o : Option (Nat × Option Nat)} {g : Gp} {n : Nat} (h : Is w v o g n) (f t : Int) :
    Calls Tryz.prog 211 #[v, .int .i64 f, .int .i64 t] w fun x w' => x = .returned (.tuple #[.string (gSlice g.s f t).1, .int .i64 (gSlice g.s f t).2]) ∧ Below w.heap.size w w' := by
  have CL : Hid (Calls Tryz.prog 98 #[v] w fun x w' => x = .returned (.int .i64 g.s.size) ∧ Below w.heap.size w w') := len_is h
  have CO : Hid (∀ w1, Below w.heap.size w w1 → Calls Tryz.prog 96 #[v] w1 fun x w2 => ∃ b r, x = .returned (.pointer (some ⟨b, 0, none⟩)) ∧ Od w1 v o g n b r w2) := fun w1 hb => ore_is (h.below hb)
  have CP : Hid (∀ w1 b r (x y : Nat), PB w1 b r g n → x ≤ y → y ≤ g.s.size → Calls Tryz.prog 97 #[.pointer (some ⟨b, 0, none⟩), .int .i64 x, .int .i64 y] w1 fun z w' => z = .returned (.string (g.s.extract x y)) ∧ Below w1.heap.size w1 w') := fun w1 b r x y hp h1 h2 => piece_pb hp h1 h2
  unfold gSlice gRng
  clear h
  by_cases h1 : f < 0
  · rw [decide_eq_true (.inl h1), if_pos rfl]
    go_enter Tryz.func211, Tryz.ntmps211
    go_wp2
    exact bodyPost_ret (v := .tuple #[.string eBA, .int .i64 1]) (by simp [results, Tryz.results211, go_sem, eBA]) rfl ⟨rfl, Below.refl _ _⟩
  · by_cases h2 : t < f
    · rw [decide_eq_true (.inr (.inl h2)), if_pos rfl]
      go_enter Tryz.func211, Tryz.ntmps211
      go_wp2
      exact bodyPost_ret (v := .tuple #[.string eBA, .int .i64 1]) (by simp [results, Tryz.results211, go_sem, eBA]) rfl ⟨rfl, Below.refl _ _⟩
    · by_cases h3 : (g.s.size : Int) < t
      · rw [decide_eq_true (.inr (.inr h3)), if_pos rfl]
        go_enter Tryz.func211, Tryz.ntmps211
        go_wp2_with (go_at_call 98; refine CL.out.mono ?_; clear CL; rintro x w2 ⟨rfl, hb2⟩)
        exact bodyPost_ret (v := .tuple #[.string eBA, .int .i64 1]) (by simp [results, Tryz.results211, go_sem, eBA]) rfl ⟨rfl, hb2⟩
      · rw [decide_eq_false (by omega), if_neg (by simp)]
        obtain ⟨x, rfl⟩ := Int.eq_ofNat_of_zero_le (show 0 ≤ f by omega)
        obtain ⟨y, rfl⟩ := Int.eq_ofNat_of_zero_le (show 0 ≤ t by omega)
        have HI : Hid (x ≤ y ∧ y ≤ g.s.size) := ⟨by omega, by omega⟩
        go_enter Tryz.func211, Tryz.ntmps211
        go_wp2_with (first | (go_at_call 98; refine CL.out.mono ?_; clear CL; rintro x w2 ⟨rfl, hb2⟩) | (go_at_call 96; refine (CO.out _ hb2).mono ?_; clear CO; rintro x w3 ⟨b, r, rfl, hO⟩; have HO : Hid (Od w2 v o g n b r w3) := hO; clear hO) | (go_at_call 97; refine (CP.out _ _ _ _ _ HO.out.pb HI.out.1 HI.out.2).mono ?_; clear CP; rintro x w4 ⟨rfl, hb4⟩))
        exact bodyPost_ret (v := .tuple #[.string (g.s.extract x y), .int .i64 0]) (by simp [results, Tryz.results211, go_sem]) rfl ⟨rfl, (hb2.trans (HO.out.bel.mono hb2.size)).trans (hb4.mono (Nat.le_trans hb2.size HO.out.bel.size))⟩

end Go.Proofs.YtcjmfoadimpffaaGreatDoor.Gap
namespace Go.Proofs.YtcjmfoadimpffaaGreatDoor.Gap
open Go.RowKit Bod

theorem PB.drewN {W : World} {b : Nat} {r : Option Nat} {g : Gp} {n : Nat} (h : PB W b r g n) (k : Nat) : PB (W.drewN k) b r g n := ⟨h.ex.imp fun _ h => h.imp fun _ h => ⟨h.1.drewN k, h.2⟩, h.cap, h.lm, h.ok⟩
theorem eBA_size : eBA.size = 0 := rfl
theorem size0 {s : ByteArray} (h : s.size = 0) : s = eBA := by
  apply ByteArray.ext
  exact Array.eq_empty_of_size_eq_zero h
/-- the text that a replacement leaves, as a list -/
theorem rep_list (s put : ByteArray) (x y : Nat) : (s.extract 0 x ++ put ++ s.extract (x + y) s.size).data.toList = s.data.toList.take x ++ put.data.toList ++ s.data.toList.drop (x + y) := by
  rw [ext_list, ext_list]
  simp only [ByteArray.data_append, Array.toList_append, Nat.sub_zero, List.drop_zero]
  rw [show (s.data.toList.drop (x + y)).take (s.size - (x + y)) = s.data.toList.drop (x + y) from List.take_of_length_le (by rw [List.length_drop, sz_list]; exact Nat.le_refl _)]
theorem Chs.step {o : Option (Nat × Option Nat)} {w w1 w2 : World} (h : Below w.heap.size w w1) (k : Chs o w1 w2) : Chs o w w2 := by
  cases o with
  | none => exact h.trans (Below.mono k h.size)
  | some x => exact (Ch.below h).trans (Nw.refl _ _) k
theorem Nws.step {o o2 : Option (Nat × Option Nat)} {w w1 : World} (h : Below w.heap.size w w1) (k : Nws w1 o o2) : Nws w o o2 := by
  cases o with
  | none => exact k
  | some x =>
    obtain ⟨r2, e, k⟩ := k
    exact ⟨r2, e, (Nw.refl w _).trans h.size k⟩
def gPut (g : Gp) (x y : Nat) (put : ByteArray) : Gp := ⟨g.s.extract 0 x ++ put ++ g.s.extract (x + y) g.s.size, x + put.size, g.l⟩
theorem gPut_size {g : Gp} {x y : Nat} (h : x + y ≤ g.s.size) (put : ByteArray) : (gPut g x y put).s.size = g.s.size - y + put.size := by
  unfold gPut
  dsimp only
  rw [ByteArray.size_append, ByteArray.size_append, size_ext (by omega), size_ext (Nat.le_refl _)]
  omega
theorem exch_pb {w : World} {b : Nat} {r : Option Nat} {g : Gp} {n : Nat} (h : PB w b r g n) {x y : Nat} (hx : x + y ≤ g.s.size) (put : ByteArray) (hn : g.s.size - y + put.size ≤ g.l) :
    Calls Tryz.prog 131 #[.pointer (some ⟨b, 0, none⟩), .int .i64 x, .int .i64 y, .string put] w fun z w' => z = .returned (.tuple #[]) ∧ ∃ r' n', PB w' b r' (gPut g x y put) n' ∧ Ch b r w w' ∧ Nw w r r' := by
  obtain ⟨A, e, hP, hg, hA⟩ := h.ex
  have hl := sz_list g.s
  refine (exch_any put w hP hg (q := x) (c := y) (by omega) (by rw [hl]; exact hn) h.ok.2.2 (by rw [hA]; exact h.small)).mono ?_
  rintro z w' ⟨e1, r', A', e', q1, q2, q3, q4, q5, q6⟩
  refine ⟨e1, r', A'.length, ⟨⟨A', e', q1, ?_, rfl⟩, ?_, q4 (by rw [hA]; exact h.lm), ?_⟩, q5, q6⟩
  · show Gap A' (x + put.size) e' (gPut g x y put).s.data.toList
    unfold gPut
    dsimp only
    rw [rep_list]
    exact q2
  · rw [gPut_size hx]
    rw [hl] at q3
    exact q3
  · refine ⟨?_, ?_, h.ok.2.2⟩
    · rw [gPut_size hx]
      show x + put.size ≤ _
      omega
    · rw [gPut_size hx]
      exact hn
theorem gPut_g0 {g : Gp} {x y : Nat} (hx : x + y ≤ g.s.size) (put : ByteArray) (hn : g.s.size - y + put.size ≤ g.l) (h : g = g0) : gPut g x y put = g0 := by
  subst h
  have h0 : g0.s.size = 0 := rfl
  have h1 : g0.l = 0 := rfl
  have hs := gPut_size hx put
  have e1 : (gPut g0 x y put).s = eBA := size0 (by omega)
  have e2 : (gPut g0 x y put).p = 0 := by show x + put.size = 0; omega
  show Gp.mk (gPut g0 x y put).s (gPut g0 x y put).p 0 = g0
  rw [e1, e2]
  rfl


/-- what a call that works leaves -/
def Wk (w : World) (v : Value) (o : Option (Nat × Option Nat)) (n : Nat) (g' : Gp) (err : Int) (w' : World) : Prop := ∃ o2 n2, Is w' v o2 g' n2 ∧ Chs o w w' ∧ Nws w o o2 ∧ (err ≠ 0 → n2 = n)
set_option maxRecDepth 100000 in
set_option maxHeartbeats 2000000 in
theorem rep_is {w : World} {v : Value} {o : Option (Nat × Option Nat)} {g : Gp} {n : Nat} (h : Is w v o g n) (a c : Int) (ha : -9223372036854775808 ≤ a ∧ a ≤ 9223372036854775807) (put : ByteArray) :
    Calls Tryz.prog 210 #[v, .int .i64 a, .int .i64 c, .string put] w fun x w' => x = .returned (.tuple #[.string (gRep g a c put).2.1, .int .i64 (gRep g a c put).2.2]) ∧ Wk w v o n (gRep g a c put).1 (gRep g a c put).2.2 w' := by
  obtain ⟨o1, o2, o3⟩ := h.ok
  have CO := ore_is h
  have HX : Hid (∀ w1 b r, Od w v o g n b r w1 → ∀ k, Wk w v o n g 1 (w1.drewN k) ∧ Wk w v o n g 2 (w1.drewN k)) := fun w1 b r hO k => by
    obtain ⟨o2, i1, i2, i3⟩ := hO.fin (w1.drewN k) r g n (Ch.drewN _ _ _ _) (Nw.refl _ _) (hO.pb.drewN k) id
    exact ⟨⟨o2, n, i1, i2, i3, fun _ => rfl⟩, ⟨o2, n, i1, i2, i3, fun _ => rfl⟩⟩
  have CL : Hid (∀ w1 b r, PB w1 b r g n → Calls Tryz.prog 98 #[.pointer (some ⟨b, 0, none⟩)] w1 fun x w' => x = .returned (.int .i64 g.s.size) ∧ ∃ k, w' = w1.drewN k) := fun w1 b r hp => len_pb hp
  unfold gRep
  clear h
  by_cases h1 : a < 0
  · rw [if_pos (.inl h1)]
    go_enter Tryz.func210, Tryz.ntmps210
    go_wp2_with (go_at_call 96; refine CO.mono ?_; clear CO; rintro x w1 ⟨b, r, rfl, hO⟩; have HO : Hid (Od w v o g n b r w1) := hO; clear hO)
    exact bodyPost_ret (v := .tuple #[.string eBA, .int .i64 1]) (by simp [results, Tryz.results210, go_sem, eBA]) rfl ⟨rfl, (HX.out _ _ _ HO.out 0).1⟩
  · by_cases h2 : c < 0
    · rw [if_pos (.inr (.inl h2))]
      go_enter Tryz.func210, Tryz.ntmps210
      go_wp2_with (go_at_call 96; refine CO.mono ?_; clear CO; rintro x w1 ⟨b, r, rfl, hO⟩; have HO : Hid (Od w v o g n b r w1) := hO; clear hO)
      exact bodyPost_ret (v := .tuple #[.string eBA, .int .i64 1]) (by simp [results, Tryz.results210, go_sem, eBA]) rfl ⟨rfl, (HX.out _ _ _ HO.out 0).1⟩
    · obtain ⟨x, rfl⟩ := Int.eq_ofNat_of_zero_le (show 0 ≤ a by omega)
      obtain ⟨y, rfl⟩ := Int.eq_ofNat_of_zero_le (show 0 ≤ c by omega)
      have k1 : IntKind.i64.wrap ((g.s.size : Int) - x) = (g.s.size : Int) - x := by rw [IntKind.wrap_i64]; omega
      by_cases h3 : (g.s.size : Int) - x < y
      · rw [if_pos (show gOut g x y from .inr (.inr (.inr h3)))]
        go_enter Tryz.func210, Tryz.ntmps210
        go_wp2_with (first | (go_at_call 96; refine CO.mono ?_; clear CO; rintro x w1 ⟨b, r, rfl, hO⟩; have HO : Hid (Od w v o g n b r w1) := hO; clear hO) | (go_at_call 98; refine (CL.out _ _ _ HO.out.pb).mono ?_; clear CL; rintro x w2 ⟨rfl, k2, rfl⟩))
        exact bodyPost_ret (v := .tuple #[.string eBA, .int .i64 1]) (by simp [results, Tryz.results210, go_sem, eBA]) rfl ⟨rfl, (HX.out _ _ _ HO.out _).1⟩
      · have hxy : x + y ≤ g.s.size := by omega
        rw [if_neg (by unfold gOut; omega)]
        have CF : Hid (∀ w1 b r, PB w1 b r g n → Calls Tryz.prog 130 #[.pointer (some ⟨b, 0, none⟩), .int .i64 y, .string put] w1 fun x w' => x = .returned (.bool (decide (g.s.size - y + put.size ≤ g.l))) ∧ ∃ k, w' = w1.drewN k) := fun w1 b r hp => fits_pb hp y (by omega) put
        by_cases h4 : (g.l : Int) < (g.s.size : Int) - y + put.size
        · rw [if_pos h4]
          rw [show decide (g.s.size - y + put.size ≤ g.l) = false from decide_eq_false (by omega)] at CF
          go_enter Tryz.func210, Tryz.ntmps210
          go_wp2_with (first | (go_at_call 96; refine CO.mono ?_; clear CO; rintro x w1 ⟨b, r, rfl, hO⟩; have HO : Hid (Od w v o g n b r w1) := hO; clear hO) | (go_at_call 98; refine (CL.out _ _ _ HO.out.pb).mono ?_; clear CL; rintro x w2 ⟨rfl, k2, rfl⟩) | (go_at_call 130; refine (CF.out _ _ _ (HO.out.pb.drewN k2)).mono ?_; clear CF; rintro x w3 ⟨rfl, k3, rfl⟩))
          refine bodyPost_ret (v := .tuple #[.string eBA, .int .i64 2]) (by simp [results, Tryz.results210, go_sem, eBA]) rfl ⟨rfl, ?_⟩
          exact (HX.out _ _ _ HO.out _).2
        · rw [if_neg h4]
          rw [show decide (g.s.size - y + put.size ≤ g.l) = true from decide_eq_true (by omega)] at CF
          have hfit : g.s.size - y + put.size ≤ g.l := by omega
          have k4 : IntKind.i64.wrap ((x : Int) + y) = (x + y : Nat) := by rw [IntKind.wrap_i64]; omega
          have CP : Hid (∀ w1 b r, PB w1 b r g n → Calls Tryz.prog 97 #[.pointer (some ⟨b, 0, none⟩), .int .i64 x, .int .i64 (x + y : Nat)] w1 fun z w' => z = .returned (.string (g.s.extract x (x + y))) ∧ Below w1.heap.size w1 w') := fun w1 b r hp => piece_pb hp (by omega) hxy
          have CE : Hid (∀ w1 b r, PB w1 b r g n → Calls Tryz.prog 131 #[.pointer (some ⟨b, 0, none⟩), .int .i64 x, .int .i64 y, .string put] w1 fun z w' => z = .returned (.tuple #[]) ∧ ∃ r' n', PB w' b r' (gPut g x y put) n' ∧ Ch b r w1 w' ∧ Nw w1 r r') := fun w1 b r hp => exch_pb hp hxy put hfit
          have HZ : Hid (g = g0 → gPut g x y put = g0) := gPut_g0 hxy put hfit
          obtain ⟨out, hout⟩ : ∃ out, g.s.extract x (x + y) = out := ⟨_, rfl⟩
          rw [hout] at CP
          simp only [Int.toNat_natCast]
          rw [hout]
          obtain ⟨g', hg'⟩ : ∃ g', gPut g x y put = g' := ⟨_, rfl⟩
          have hg2 : (⟨g.s.extract 0 x ++ put ++ g.s.extract (x + y) g.s.size, x + put.size, g.l⟩ : Gp) = g' := hg'
          rw [hg2]
          rw [hg'] at CE HZ
          clear hg2 hg' hout hfit hxy h4 o1 o2 o3
          go_enter Tryz.func210, Tryz.ntmps210
          go_wp2_with (first | (go_at_call 96; refine CO.mono ?_; clear CO; rintro x w1 ⟨b, r, rfl, hO⟩; have HO : Hid (Od w v o g n b r w1) := hO; clear hO) | (go_at_call 98; refine (CL.out _ _ _ HO.out.pb).mono ?_; clear CL; rintro x w2 ⟨rfl, k2, rfl⟩) | (go_at_call 130; refine (CF.out _ _ _ (HO.out.pb.drewN k2)).mono ?_; clear CF; rintro x w3 ⟨rfl, k3, rfl⟩) | (go_at_call 97; refine (CP.out _ _ _ (HO.out.pb.drewN _)).mono ?_; clear CP; rintro x w4 ⟨rfl, hb4⟩) | (go_at_call 131; refine (CE.out _ _ _ ((HO.out.pb.drewN _).below hb4)).mono ?_; clear CE; rintro x w5 ⟨rfl, r5, n5, p5, c5, q5⟩))
          refine bodyPost_ret (v := .tuple #[.string out, .int .i64 0]) (by simp [results, Tryz.results210, go_sem]) rfl ⟨rfl, ?_⟩
          obtain ⟨o2, i1, i2, i3⟩ := HO.out.fin w5 r5 _ n5 (((Ch.drewN _ _ _ _).trans (Nw.refl _ _) (Ch.below hb4)).trans (Nw.refl _ _) c5) ((Nw.refl _ _).trans hb4.size q5) p5 HZ.out
          exact ⟨o2, n5, i1, i2, i3, fun h0 => absurd rfl h0⟩
end Go.Proofs.YtcjmfoadimpffaaGreatDoor.Gap
namespace Go.Proofs.YtcjmfoadimpffaaGreatDoor.Gap
open Go.RowKit Bod



theorem gPut_all {g : Gp} (s : ByteArray) : gPut g 0 g.s.size s = ⟨s, s.size, g.l⟩ := by
  unfold gPut
  have e1 : g.s.extract 0 0 = eBA := size0 (by simp)
  have e2 : g.s.extract (0 + g.s.size) g.s.size = eBA := size0 (by simp)
  have e3 : eBA ++ s ++ eBA = s := by
    apply ByteArray.ext
    simp [eBA, ByteArray.data_append]
  rw [e1, e2, e3, Nat.zero_add]

set_option maxRecDepth 100000 in
set_option maxHeartbeats 1000000 in
theorem reset_is {w : World} {v : Value} {o : Option (Nat × Option Nat)} {g : Gp} {n : Nat} (h : Is w v o g n) (s : ByteArray) :
    Calls Tryz.prog 95 #[v, .string s] w fun x w' => x = .returned (.int .i64 (gReset g s).2) ∧ Wk w v o n (gReset g s).1 (gReset g s).2 w' := by
  have CO := ore_is h
  have HX : Hid (∀ w1 b r, Od w v o g n b r w1 → ∀ k, Wk w v o n g 2 (w1.drewN k)) := fun w1 b r hO k => by
    obtain ⟨o2, i1, i2, i3⟩ := hO.fin (w1.drewN k) r g n (Ch.drewN _ _ _ _) (Nw.refl _ _) (hO.pb.drewN k) id
    exact ⟨o2, n, i1, i2, i3, fun _ => rfl⟩
  have CL : Hid (∀ w1 b r, PB w1 b r g n → Calls Tryz.prog 98 #[.pointer (some ⟨b, 0, none⟩)] w1 fun x w' => x = .returned (.int .i64 g.s.size) ∧ ∃ k, w' = w1.drewN k) := fun w1 b r hp => len_pb hp
  have CF : Hid (∀ w1 b r, PB w1 b r g n → Calls Tryz.prog 130 #[.pointer (some ⟨b, 0, none⟩), .int .i64 g.s.size, .string s] w1 fun x w' => x = .returned (.bool (decide (g.s.size - g.s.size + s.size ≤ g.l))) ∧ ∃ k, w' = w1.drewN k) := fun w1 b r hp => fits_pb hp g.s.size (Nat.le_refl _) s
  rw [Nat.sub_self, Nat.zero_add] at CF
  unfold gReset
  clear h
  by_cases h1 : s.size ≤ g.l
  · rw [if_pos h1]
    rw [decide_eq_true h1] at CF
    have CE : Hid (∀ w1 b r, PB w1 b r g n → Calls Tryz.prog 131 #[.pointer (some ⟨b, 0, none⟩), .int .i64 0, .int .i64 g.s.size, .string s] w1 fun z w' => z = .returned (.tuple #[]) ∧ ∃ r' n', PB w' b r' ⟨s, s.size, g.l⟩ n' ∧ Ch b r w1 w' ∧ Nw w1 r r') := fun w1 b r hp => by
      have := exch_pb hp (x := 0) (y := g.s.size) (by omega) s (by omega)
      rw [gPut_all] at this
      exact this
    have HZ : Hid (g = g0 → (⟨s, s.size, g.l⟩ : Gp) = g0) := fun e => by
      have := gPut_g0 (g := g) (x := 0) (y := g.s.size) (by omega) s (by omega) e
      rw [gPut_all] at this
      exact this
    go_enter Tryz.func95, Tryz.ntmps95
    go_wp2_with (first | (go_at_call 96; refine CO.mono ?_; clear CO; rintro x w1 ⟨b, r, rfl, hO⟩; have HO : Hid (Od w v o g n b r w1) := hO; clear hO) | (go_at_call 130; refine (CF.out _ _ _ (HO.out.pb.drewN k2)).mono ?_; clear CF; rintro x w3 ⟨rfl, k3, rfl⟩) | (go_at_call 131; refine (CE.out _ _ _ (HO.out.pb.drewN _)).mono ?_; clear CE; rintro x w5 ⟨rfl, r5, n5, p5, c5, q5⟩) | (go_at_call 98; refine (CL.out _ _ _ HO.out.pb).mono ?_; rintro x w2 ⟨rfl, k2, rfl⟩) | (go_at_call 98; refine (CL.out _ _ _ (HO.out.pb.drewN _)).mono ?_; rintro x w2 ⟨rfl, k4, rfl⟩))
    go_ret
    obtain ⟨o2, i1, i2, i3⟩ := HO.out.fin w5 r5 _ n5 ((Ch.drewN _ _ _ _).trans (Nw.refl _ _) c5) ((Nw.refl _ _).trans (Nat.le_refl _) q5) p5 HZ.out
    exact ⟨rfl, o2, n5, i1, i2, i3, fun h0 => absurd rfl h0⟩
  · rw [if_neg h1]
    rw [decide_eq_false h1] at CF
    go_enter Tryz.func95, Tryz.ntmps95
    go_wp2_with (first | (go_at_call 96; refine CO.mono ?_; clear CO; rintro x w1 ⟨b, r, rfl, hO⟩; have HO : Hid (Od w v o g n b r w1) := hO; clear hO) | (go_at_call 130; refine (CF.out _ _ _ (HO.out.pb.drewN k2)).mono ?_; clear CF; rintro x w3 ⟨rfl, k3, rfl⟩) | (go_at_call 98; refine (CL.out _ _ _ HO.out.pb).mono ?_; rintro x w2 ⟨rfl, k2, rfl⟩))
    go_ret
    exact ⟨rfl, HX.out _ _ _ HO.out _⟩

/-- what New leaves where it answers a buffer -/
def Nb (w : World) (g : Gp) (w' : World) : Prop := ∃ r n, PB w' w.heap.size r g n ∧ Below w.heap.size w w' ∧ ∀ k, r = some k → w.heap.size < k
set_option maxRecDepth 100000 in
set_option maxHeartbeats 1000000 in
theorem new_any (s : ByteArray) (m : Int) (w : World) :
    Calls Tryz.prog 57 #[.string s, .int .i64 m] w fun e w' => match gNew s m with
      | none => e = .returned (.tuple #[.pointer none, .int .i64 2]) ∧ Below w.heap.size w w'
      | some g => e = .returned (.tuple #[.pointer (some ⟨w.heap.size, 0, none⟩), .int .i64 0]) ∧ Nb w g w' := by
  have e0 := lim_eq m
  obtain ⟨l, hl⟩ : ∃ l, lim m = l := ⟨_, rfl⟩
  rw [hl] at e0
  have hl' := lim_le m
  rw [hl] at hl'
  obtain ⟨W0, hW0⟩ : ∃ W0, w.alloc (.cells #[.slice none 0 0, .int .i64 0, .int .i64 0, .int .i64 l] 154) = W0 := ⟨_, rfl⟩
  have hnew : W0.heap[w.heap.size]? = some (.cells #[.slice none 0 0, .int .i64 0, .int .i64 0, .int .i64 l] 154 (0, 0)) := by rw [← hW0]; exact World.alloc_heap_new w _
  have hB : Below w.heap.size w W0 := by rw [← hW0]; exact (Below.refl _ w).alloc (Nat.le_refl _) _
  have hsz : w.heap.size < W0.heap.size := (Array.getElem?_eq_some_iff.1 hnew).1
  have hP : PB W0 w.heap.size none ⟨eBA, 0, l⟩ 0 := ⟨⟨[], 0, ⟨hnew, fun k hk => (by cases hk), fun _ => rfl⟩, ⟨Nat.le_refl _, Nat.le_refl _, rfl⟩, rfl⟩, by omega, Nat.zero_le _, ⟨Nat.le_refl _, Nat.zero_le _, hl'⟩⟩
  have CR := reset_is (w := W0) (v := .pointer (some ⟨w.heap.size, 0, none⟩)) (o := some (w.heap.size, none)) ⟨rfl, hP⟩ s
  have HB2 : Hid (∀ w2, Ch w.heap.size none W0 w2 → Below w.heap.size w w2) := fun w2 q => ⟨q.1.trans hB.os, q.2.1.trans hB.tape, q.2.2.1.trans hB.output, Nat.le_trans hB.size q.2.2.2.1, fun k hk => by
    rw [q.2.2.2.2 k (by omega) (by omega) (fun e => by cases e)]
    exact hB.block k hk⟩
  have HS : Hid (w.heap.size < W0.heap.size) := hsz
  unfold gNew
  rw [hl]
  unfold gReset at CR
  dsimp only at CR
  clear hnew hB hP hl hl' hsz
  have hm : min (max m 0) 1073741824 = l := e0.symm
  clear e0
  by_cases h1 : s.size ≤ l
  · rw [if_pos h1] at CR ⊢
    go_enter Tryz.func57, Tryz.ntmps57
    go_wp2_with (go_at_call 95; refine CR.mono ?_; clear CR; rintro x w1 ⟨rfl, hk⟩)
    refine bodyPost_ret (v := .tuple #[.pointer (some ⟨w.heap.size, 0, none⟩), .int .i64 0]) (by simp [results, Tryz.results57, go_sem]) rfl ⟨rfl, ?_⟩
    obtain ⟨o2, n2, i1, i2, ⟨r2, rfl, i3⟩, _⟩ := hk
    refine ⟨r2, n2, i1.2, HB2.out _ i2, fun k hk => ?_⟩
    rcases i3 with rfl | ⟨j, rfl, hj⟩
    · cases hk
    · cases hk; have := HS.out; omega
  · rw [if_neg h1] at CR ⊢
    go_enter Tryz.func57, Tryz.ntmps57
    go_wp2_with (go_at_call 95; refine CR.mono ?_; clear CR; rintro x w1 ⟨rfl, hk⟩)
    refine bodyPost_ret (v := .tuple #[.pointer none, .int .i64 2]) (by simp [results, Tryz.results57, go_sem]) rfl ⟨rfl, ?_⟩
    obtain ⟨o2, n2, i1, i2, _⟩ := hk
    exact HB2.out _ i2
end Go.Proofs.YtcjmfoadimpffaaGreatDoor.Gap