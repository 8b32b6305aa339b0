/-
  The law MetricEnds returns true: of any summaries, Join and Whole end and do not panic. Conditions: the two tables of unicode/utf8 lie as their text lays them.
-/
import Derived.Test.YtdfemihjnempfabDoorMLaw
import Derived.Test.YtdfemihjnempfabDoorUSums
import Derived.Deep.RegionHeld3
namespace Go.Proofs.YtdfemihjnempfabDoor.metricEnds
open Go.RowKit Bod Wid

/-- one summary lies there -/
structure B1 (w : World) (b : Nat) (x : Sum) (W : World) : Prop where
  x : W.heap[b]? = some (.cells (scs x) 24 (0, 0))
  bel : Below w.heap.size w W
theorem B1.below {w : World} {b : Nat} {x : Sum} {W W' : World} (h : B1 w b x W) (hb : Below W.heap.size W W') : B1 w b x W' :=
  ⟨(hb.block _ (Array.getElem?_eq_some_iff.1 h.x).1).trans h.x, h.bel.trans (hb.mono h.bel.size)⟩
theorem B1.alloc {w : World} {b : Nat} {x : Sum} {W : World} (h : B1 w b x W) (o : Obj) : B1 w b x (W.alloc o) := h.below ((Below.refl _ W).alloc (Nat.le_refl _) o)
theorem B1.drew {w : World} {b : Nat} {x : Sum} {W : World} (h : B1 w b x W) : B1 w b x W.drew := ⟨h.x, ⟨h.bel.os, h.bel.tape, h.bel.output, h.bel.size, h.bel.block⟩⟩
theorem B1.cells {w : World} {b : Nat} {x : Sum} {W : World} (h : B1 w b x W) : W.cell? ⟨b, 0, none⟩ = some (.int .i64 x.by') ∧ W.cell? ⟨b, 1, none⟩ = some (.int .i64 x.un) ∧ W.cell? ⟨b, 2, none⟩ = some (.int .i64 x.cl) ∧ W.cell? ⟨b, 3, none⟩ = some (.int .i64 x.ce) ∧ W.cell? ⟨b, 4, none⟩ = some (.int .i64 x.nl) ∧ W.cell? ⟨b, 5, none⟩ = some (.string x.hd) ∧ W.cell? ⟨b, 6, none⟩ = some (.string x.tl) := (box7 h.x).1
/-- the cells of three summaries read as them -/
theorem rdm3 {W : World} {g : Nat} {x y z : Sum} (h : W.heap[g]? = some (.cells #[.int .i64 x.by', .int .i64 x.un, .int .i64 x.cl, .int .i64 x.ce, .int .i64 x.nl, .string x.hd, .string x.tl, .int .i64 y.by', .int .i64 y.un, .int .i64 y.cl, .int .i64 y.ce, .int .i64 y.nl, .string y.hd, .string y.tl, .int .i64 z.by', .int .i64 z.un, .int .i64 z.cl, .int .i64 z.ce, .int .i64 z.nl, .string z.hd, .string z.tl] 24 (0, 0))) : RdM W (.slice (some ⟨g, 0, none⟩) 3 3) [x, y, z] := by
  refine ⟨_, 3, rfl, fun _ => ⟨g, 0, rfl, (Array.getElem?_eq_some_iff.1 h).1, fun k u hk => ?_⟩⟩
  have hk3 := (List.getElem?_eq_some_iff.1 hk).1
  simp only [List.length_cons, List.length_nil] at hk3
  rcases k with _ | _ | _ | k
  · simp at hk; subst hk; simp [World.cell?, h]
  · simp at hk; subst hk; simp [World.cell?, h]
  · simp at hk; subst hk; simp [World.cell?, h]
  · omega

set_option maxRecDepth 100000 in
set_option maxHeartbeats 4000000 in
theorem walk (l : List Sum) (v : Value) (s : ByteArray) (hs : s.size ≤ 140737488351232) (hl : ∀ x ∈ l, Ends 140737488351232 x) (hn : l.length ≤ 4398046511000) (w : World) (hv : RdM w v l) (hT : Lib.Utf8Tabs 1 2 w) (hlo0 : 1 < w.heap.size) (hlo1 : 2 < w.heap.size) :
    Calls Tryd.prog 4 #[v, .string s] w fun e w' => e = .returned (.bool true) ∧ Below w.heap.size w w' := by
  have cC := counts_any w hT hlo0 hlo1
  have hE : ∀ x ∈ l, Ends 281474976710656 x := fun x hx => ⟨by have := (hl x hx).1; omega, by have := (hl x hx).2; omega⟩
  have TT : ∀ W, Below w.heap.size w W → Lib.Utf8Tabs 1 2 W ∧ 1 < W.heap.size ∧ 2 < W.heap.size := fun W hb => ⟨tabs_below hT hb, Nat.lt_of_lt_of_le hlo0 hb.size, Nat.lt_of_lt_of_le hlo1 hb.size⟩
  obtain ⟨m, hm⟩ : ∃ m, smr s = m := ⟨_, rfl⟩
  have mE : Ends 281474976710656 m := by
    rw [← hm]
    have h1 := hd_size s
    have h2 := tl_size s
    exact ⟨by show (hd s).size ≤ _; omega, by show (tl s).size ≤ _; omega⟩
  have CM : Hid (∀ W, Below w.heap.size w W → Calls Tryd.prog 6 #[.string s] W fun e W' => e = .returned (sv m) ∧ Below W.heap.size W W') := fun W hb => by
    obtain ⟨t1, t2, t3⟩ := TT W hb
    rw [← hm]
    exact measure_any s (by omega) W t1 t2 t3
  have CJ : Hid (∀ W, Below w.heap.size w W → Calls Tryd.prog 7 #[v] W fun e W' => ∃ z, e = .returned (sv z) ∧ Below w.heap.size w W') := fun W hb => by
    obtain ⟨t1, t2, t3⟩ := TT W hb
    obtain ⟨a, cap, rfl, hr⟩ := hv
    refine (mjoin_all l _ W ⟨a, cap, rfl, fun hne => ?_⟩ hE (by omega) t1 t2 t3).mono fun e W' ⟨z, _, h2, h3⟩ => ⟨z, h2, hb.trans (h3.mono hb.size)⟩
    obtain ⟨g, o, ha, hg, hc⟩ := hr hne
    have kp : ∀ {i : Nat} {u : Value}, w.cell? ⟨g, i, none⟩ = some u → W.cell? ⟨g, i, none⟩ = some u := fun h => (hb.cell (p := ⟨g, _, none⟩) hg).trans h
    exact ⟨g, o, ha, Nat.lt_of_lt_of_le hg hb.size, fun k x hk => by
      obtain ⟨c0, c1, c2, c3, c4, c5, c6⟩ := hc k x hk
      exact ⟨kp c0, kp c1, kp c2, kp c3, kp c4, kp c5, kp c6⟩⟩
  have C3 : Hid (∀ x ∈ l, ∀ W (g : Nat), W.heap[g]? = some (.cells #[.int .i64 x.by', .int .i64 x.un, .int .i64 x.cl, .int .i64 x.ce, .int .i64 x.nl, .string x.hd, .string x.tl, .int .i64 m.by', .int .i64 m.un, .int .i64 m.cl, .int .i64 m.ce, .int .i64 m.nl, .string m.hd, .string m.tl, .int .i64 x.by', .int .i64 x.un, .int .i64 x.cl, .int .i64 x.ce, .int .i64 x.nl, .string x.hd, .string x.tl] 24 (0, 0)) → Below w.heap.size w W →
      Calls Tryd.prog 7 #[.slice (some ⟨g, 0, none⟩) 3 3] W fun e W' => ∃ z, e = .returned (sv z) ∧ Below W.heap.size W W') := fun x hx W g hg hb => by
    obtain ⟨t1, t2, t3⟩ := TT W hb
    refine (mjoin_all [x, m, x] _ W (rdm3 hg) (fun u hu => ?_) (by simp) t1 t2 t3).mono fun e W' ⟨z, _, h2, h3⟩ => ⟨z, h2, h3⟩
    simp at hu
    rcases hu with rfl | rfl | rfl
    · exact hE _ hx
    · exact mE
    · exact hE _ hx
  have CW : Hid (∀ x ∈ l, ∀ W, Calls Tryd.prog 8 #[sv x] W fun e W' => (∃ t b, e = .returned (.tuple #[.string t, .bool b])) ∧ Below W.heap.size W W') := fun x hx W => (mwhole_all x (hE x hx).1 W).mono fun e W' ⟨h1, h2⟩ => ⟨⟨_, _, h1⟩, h2⟩
  obtain ⟨a, cap, rfl, hr⟩ := hv
  obtain ⟨n, hnn⟩ : ∃ n, l.length = n := ⟨_, rfl⟩
  rw [hnn] at hn ⊢
  rw [hnn] at CJ
  have HN : Hid (l.length = n) := hnn
  have HR : Hid _ := hr
  clear hr hnn hl hT hlo0 hlo1 TT hE mE hm
  go_enter Tryd.func4, Tryd.ntmps4
  go_wp2_with (first | (go_at_call 5; refine cC.mono ?_; clear cC; rintro e w1 ⟨rfl, hb1⟩; have HB : Hid (Below w.heap.size w w1) := hb1; clear hb1) | (go_at_call 7; refine (CJ.out _ HB.out).mono ?_; clear HB CJ; rintro e w2 ⟨z, rfl, hb2⟩; have HB : Hid (Below w.heap.size w w2) := hb2; clear hb2))
  go_loopw [13] (fun t wr => ∃ k : Nat, t = .int .i64 k ∧ k ≤ n ∧ Hid (Below w.heap.size w wr)) (fun t _ => n - (intOf t).toNat)
  case atStart => exact ⟨0, rfl, Nat.zero_le _, HB⟩
  case round =>
    obtain ⟨k, rfl, hk, HK⟩ := hrel
    clear HB
    by_cases hlt : k < n
    · obtain ⟨x, hsk⟩ : ∃ x, l[k]? = some x := ⟨l[k]'(by rw [HN.out]; exact hlt), List.getElem?_eq_getElem _⟩
      obtain ⟨g, o, hg, hgl, hcell⟩ := (Hid.out HR) (fun e => by rw [e] at hsk; simp at hsk)
      subst hg
      obtain ⟨c0, c1, c2, c3, c4, c5, c6⟩ := hcell k x hsk
      have hx : x ∈ l := List.mem_of_getElem? hsk
      have cl : ∀ {i : Nat} {u : Value}, w.cell? ⟨g, i, none⟩ = some u → wr.cell? ⟨g, i, none⟩ = some u := fun h => (HK.out.cell (p := ⟨g, _, none⟩) hgl).trans h
      have d0 := cl c0; have d1 := cl c1; have d2 := cl c2; have d3 := cl c3; have d4 := cl c4; have d5 := cl c5; have d6 := cl c6
      obtain ⟨W1, hW1⟩ : ∃ W1, wr.alloc (.cells #[.int .i64 x.by', .int .i64 x.un, .int .i64 x.cl, .int .i64 x.ce, .int .i64 x.nl, .string x.hd, .string x.tl] 24) = W1 := ⟨_, rfl⟩
      have HX : Hid (B1 w wr.heap.size x W1) := by
        show B1 _ _ _ _
        rw [← hW1]
        exact ⟨World.alloc_heap_new wr _, HK.out.alloc HK.out.size _⟩
      have CX : Hid (∀ W, Calls Tryd.prog 8 #[sv x] W fun e W' => (∃ t b, e = .returned (.tuple #[.string t, .bool b])) ∧ Below W.heap.size W W') := CW.out x hx
      have CY : Hid _ := C3.out x hx
      obtain ⟨x0, x1, x2, x3, x4, x5, x6⟩ := HX.out.cells
      clear hcell c0 c1 c2 c3 c4 c5 c6 cl hgl hsk
      go_wp2_with (go_at_call 8; refine (CX.out _).mono ?_; rintro e w3 ⟨⟨t, b, rfl⟩, hb3⟩; have HX3 : Hid (B1 w wr.heap.size x w3) := HX.out.below hb3; clear hb3 HX x0 x1 x2 x3 x4 x5 x6; have HX := HX3; clear HX3)
      clear hW1 d0 d1 d2 d3 d4 d5 d6 CX
      go_region_held3 (fun w' => w'.cell? ⟨wr.heap.size, 0, none⟩ = some (.int .i64 x.by') ∧ w'.cell? ⟨wr.heap.size, 1, none⟩ = some (.int .i64 x.un) ∧ w'.cell? ⟨wr.heap.size, 2, none⟩ = some (.int .i64 x.cl) ∧ w'.cell? ⟨wr.heap.size, 3, none⟩ = some (.int .i64 x.ce) ∧ w'.cell? ⟨wr.heap.size, 4, none⟩ = some (.int .i64 x.nl) ∧ w'.cell? ⟨wr.heap.size, 5, none⟩ = some (.string x.hd) ∧ w'.cell? ⟨wr.heap.size, 6, none⟩ = some (.string x.tl)) (first | exact HX.out.cells | exact HX.out.drew.cells | exact (HX.out.alloc _).cells) (first | (go_at_call 6; refine (CM.out _ HX.out.drew.bel).mono ?_; rintro e w4 ⟨rfl, hb4⟩; have HX4 : Hid (B1 w wr.heap.size x w4) := HX.out.drew.below hb4; clear hb4 HX; have HX := HX4; clear HX4) | (go_at_call 7; refine (CY.out _ _ (World.alloc_heap_new _ _) (HX.out.alloc _).bel).mono ?_; rintro e w5 ⟨z', rfl, hb5⟩; have HX5 : Hid (B1 w wr.heap.size x w5) := (HX.out.alloc _).below hb5; clear hb5 HX; have HX := HX5; clear HX5))
      all_goals go_wp2
      all_goals exact ⟨⟨k + 1, by go_num, by omega, HX.out.bel⟩, by simp [intOf]; omega⟩
    · have hd' : decide (k < n) = false := decide_eq_false hlt
      go_wp2
      go_ret
      exact ⟨rfl, HK.out⟩

theorem walk_of (a : Option Addr) (len cap : Nat) (s : ByteArray) (w : World) (hT : Lib.Utf8Tabs 1 2 w) (hlo0 : 1 < w.heap.size) (hlo1 : 2 < w.heap.size) (l : List Sum) (y : RdM w (.slice a len cap) l) (u : l.length ≤ 4398046511000 ∧ ∀ x ∈ l, Ends 140737488351232 x) (z : s.size ≤ 140737488351232) :
    Calls Tryd.prog 4 #[.slice a len cap, .string s] w fun e w' => e = .returned (.bool true) ∧ Below w.heap.size w w' := walk l _ s z u.2 u.1 w y hT hlo0 hlo1
end Go.Proofs.YtdfemihjnempfabDoor.metricEnds
