/-
  Package change's Apply, and the document's own. Conditions: those of each theorem.
-/
import Derived.Test.YtiejollfeggeoaaDoorFJoin
import Derived.Test.YtiejollfeggeoaaDoorFSwp
namespace Go.Proofs.YtiejollfeggeoaaDoor
open Go.RowKit Go.Shelf Bod Wid

/-- a text with an edit done -/
def doneP (s : ByteArray) (a c : Nat) (p : ByteArray) : ByteArray := s.extract 0 a ++ p ++ s.extract (a + c) s.size
/-- can an edit be done? -/
def fitP (s : ByteArray) (a c : Int) : Bool := decide (0 ≤ a ∧ 0 ≤ c ∧ a ≤ s.size ∧ c ≤ s.size - a)
def appP (s : ByteArray) (a c : Int) (p : ByteArray) : ByteArray × Int := if fitP s a c then (doneP s a.toNat c.toNat p, 0) else (⟨#[]⟩, 1)
def apv (r : ByteArray × Int) : Value := .tuple #[.string r.1, .int .i64 r.2]
/-- a call with an edit in its box -/
structure Be (w : World) (a c : Nat) (p : ByteArray) (W : World) : Prop where
  bel : Below w.heap.size w W
  bx : W.heap[w.heap.size]? = some (.cells #[.int .i64 a, .int .i64 c, .string p] 28 (0, 0))
theorem Be.below {w W X : World} {a c : Nat} {p : ByteArray} (h : Be w a c p W) (hb : Below W.heap.size W X) : Be w a c p X := ⟨below_on h.bel hb, (hb.block _ (Array.getElem?_eq_some_iff.1 h.bx).1).trans h.bx⟩
theorem Be.get {w W : World} {a c : Nat} {p : ByteArray} (h : Be w a c p W) : W.cell? ⟨w.heap.size, 0, none⟩ = some (.int .i64 a) ∧ W.cell? ⟨w.heap.size, 1, none⟩ = some (.int .i64 c) ∧ W.cell? ⟨w.heap.size, 2, none⟩ = some (.string p) := by simp [World.cell?, h.bx]
theorem done_cat {s : ByteArray} {a c : Nat} {p : ByteArray} : (⟨(cat' [s.extract 0 a, p, s.extract (a + c) s.size] 3).toArray⟩ : ByteArray) = doneP s a c p := by
  apply ByteArray.ext
  apply Array.ext'
  simp [cat', doneP, List.flatMap_cons]
set_option maxRecDepth 100000 in
set_option maxHeartbeats 2000000 in
theorem Apply_any (s : ByteArray) (hs : s.size ≤ 1099511627776) (a c : Int) (ha : -9223372036854775808 ≤ a ∧ a ≤ 9223372036854775807) (hc : -9223372036854775808 ≤ c ∧ c ≤ 9223372036854775807) (p : ByteArray) (hp : p.size ≤ 1099511627776) (w : World) :
    Calls Tryd.prog 8 #[.string s, .agg #[.int .i64 a, .int .i64 c, .string p]] w fun e W' => e = .returned (apv (appP s a c p)) ∧ Below w.heap.size w W' := by
  unfold appP fitP
  have HB0 : Hid (Below w.heap.size w (w.alloc (.cells #[.int .i64 a, .int .i64 c, .string p] 28))) := (Below.refl _ w).alloc (Nat.le_refl _) _
  by_cases h1 : a < 0
  · rw [if_neg (by simp; omega)]
    go_enter Tryd.func8, Tryd.ntmps8
    go_wp2
    exact bodyPost_ret (v := .tuple #[.string ⟨#[]⟩, .int .i64 1]) (by simp [results, Tryd.results8, go_sem]) rfl ⟨rfl, HB0.out⟩
  obtain ⟨a, rfl⟩ := Int.eq_ofNat_of_zero_le (show 0 ≤ a by omega)
  by_cases h2 : c < 0
  · rw [if_neg (by simp; omega)]
    go_enter Tryd.func8, Tryd.ntmps8
    go_wp2
    exact bodyPost_ret (v := .tuple #[.string ⟨#[]⟩, .int .i64 1]) (by simp [results, Tryd.results8, go_sem]) rfl ⟨rfl, HB0.out⟩
  obtain ⟨c, rfl⟩ := Int.eq_ofNat_of_zero_le (show 0 ≤ c by omega)
  have hw : IntKind.i64.wrap ((s.size : Int) - a) = (s.size : Int) - a := by rw [IntKind.wrap_i64]; omega
  by_cases h3 : (s.size : Int) - a < c
  · rw [if_neg (by simp; omega)]
    go_enter Tryd.func8, Tryd.ntmps8
    go_wp2
    exact bodyPost_ret (v := .tuple #[.string ⟨#[]⟩, .int .i64 1]) (by simp [results, Tryd.results8, go_sem]) rfl ⟨rfl, HB0.out⟩
  · rw [if_pos (by simp; omega), Int.toNat_natCast, Int.toNat_natCast]
    have hac : a + c ≤ s.size := by omega
    have b1 : (a : Int) + c ≤ s.size := by omega
    have l1 := size_extract s 0 a (by omega)
    have l2 := size_extract s (a + c) s.size (Nat.le_refl _)
    obtain ⟨x, hx⟩ : ∃ x, s.extract 0 a = x := ⟨_, rfl⟩
    obtain ⟨z, hz⟩ : ∃ z, s.extract (a + c) s.size = z := ⟨_, rfl⟩
    have CJ : Hid (∀ W g, Be w a c p W ∧ W.heap[g]? = some (.cells #[.string x, .string p, .string z] 9 (0, 0)) → Calls Tryd.prog 18 #[.slice (some ⟨g, 0, none⟩) 3 3, .string ⟨#[]⟩] W fun e W' => e = .returned (.string (doneP s a c p)) ∧ Hid (Be w a c p W')) := fun W g hW => by
      have := join_any [x, p, z] rfl (by show szs [x, p, z] 3 ≤ _; rw [← hx, ← hz]; simp [szs]; omega) g W (Array.getElem?_eq_some_iff.1 hW.2).1 (fun k y hk => by
        unfold World.cell?
        simp only [hW.2]
        match k, hk with
        | 0, hk => simp at hk; subst hk; simp
        | 1, hk => simp at hk; subst hk; simp
        | 2, hk => simp at hk; subst hk; simp)
      rw [← hx, ← hz, done_cat] at this
      exact this.mono fun e W' ⟨k1, k2⟩ => ⟨k1, hW.1.below k2⟩
    obtain ⟨d, hd⟩ : ∃ d, doneP s a c p = d := ⟨_, rfl⟩
    rw [hd] at CJ ⊢
    clear hd
    go_enter Tryd.func8, Tryd.ntmps8
    go_wp2
    have HE : Hid (Be w a c p (w.alloc (.cells #[.int .i64 (a : Int), .int .i64 (c : Int), .string p] 28))) := ⟨HB0.out, World.alloc_heap_new _ _⟩
    generalize w.alloc (.cells #[.int .i64 (a : Int), .int .i64 (c : Int), .string p] 28) = W0 at HE ⊢
    obtain ⟨c0, c1, c2⟩ := HE.out.get
    have HD : Hid (Be w a c p W0.drew) := HE.out.below ⟨rfl, rfl, rfl, Nat.le_refl _, fun _ _ => rfl⟩
    have s1 : IntKind.i64.wrap ((a : Int) + c) = (a : Int) + c := by rw [IntKind.wrap_i64]; omega
    have s2 : ((a : Int) + c).toNat = a + c := by omega
    have s3 : (0 : Int) ≤ (a : Int) + c := by omega
    have s4 : (0 : Int) ≤ a ∧ (a : Int) ≤ s.size := by omega
    have HN : Hid (∀ W (q r u : ByteArray), Be w a c p W → Be w a c p (W.alloc (.cells #[.string q, .string r, .string u] 9)) ∧ (W.alloc (.cells #[.string q, .string r, .string u] 9)).heap[W.heap.size]? = some (.cells #[.string q, .string r, .string u] 9 (0, 0))) := fun W q r u h => ⟨h.below ((Below.refl _ W).alloc (Nat.le_refl _) _), World.alloc_heap_new _ _⟩
    clear HB0 HE
    go_region_held3 (fun W => W.cell? ⟨w.heap.size, 0, none⟩ = some (.int .i64 a) ∧ W.cell? ⟨w.heap.size, 1, none⟩ = some (.int .i64 c) ∧ W.cell? ⟨w.heap.size, 2, none⟩ = some (.string p)) (go_keep)
      (first
        | (go_at_call 18; refine (CJ.out _ _ (HN.out _ _ _ _ HD.out)).mono ?_; clear CJ HD; rintro e w1 ⟨rfl, HD⟩; clear c0 c1 c2; obtain ⟨c0, c1, c2⟩ := HD.out.get))
    go_wp2
    exact bodyPost_ret (v := .tuple #[.string d, .int .i64 0]) (by simp [results, Tryd.results8, go_sem]) rfl ⟨rfl, HD.out.bel⟩
set_option maxRecDepth 100000 in
set_option maxHeartbeats 2000000 in
theorem rApply_any (hM : Tryd.prog.follows .mixedOrders = true) (s : ByteArray) (hs : s.size ≤ 1099511627776) (a c : Int) (ha : -9223372036854775808 ≤ a ∧ a ≤ 9223372036854775807) (hc : -9223372036854775808 ≤ c ∧ c ≤ 9223372036854775807) (p : ByteArray) (hp : p.size ≤ 1099511627776) (w : World) :
    Calls Tryd.prog 9 #[.string s, .agg #[.int .i64 a, .int .i64 c, .string p]] w fun e W' => e = .returned (apv (appP s a c p)) ∧ Below w.heap.size w W' := by
  unfold appP fitP
  have HB0 : Hid (Below w.heap.size w (w.alloc (.cells #[.int .i64 a, .int .i64 c, .string p] 28))) := (Below.refl _ w).alloc (Nat.le_refl _) _
  have HM : Hid (Tryd.prog.follows .mixedOrders = true) := hM
  by_cases h1 : a < 0
  · rw [if_neg (by simp; omega)]
    go_enter Tryd.func9, Tryd.ntmps9
    go_wp2
    exact bodyPost_ret (v := .tuple #[.string ⟨#[]⟩, .int .i64 1]) (by simp [results, Tryd.results9, go_sem]) rfl ⟨rfl, HB0.out⟩
  obtain ⟨a, rfl⟩ := Int.eq_ofNat_of_zero_le (show 0 ≤ a by omega)
  by_cases h2 : c < 0
  · rw [if_neg (by simp; omega)]
    go_enter Tryd.func9, Tryd.ntmps9
    go_wp2
    exact bodyPost_ret (v := .tuple #[.string ⟨#[]⟩, .int .i64 1]) (by simp [results, Tryd.results9, go_sem]) rfl ⟨rfl, HB0.out⟩
  obtain ⟨c, rfl⟩ := Int.eq_ofNat_of_zero_le (show 0 ≤ c by omega)
  have hw : IntKind.i64.wrap ((s.size : Int) - a) = (s.size : Int) - a := by rw [IntKind.wrap_i64]; omega
  by_cases h4 : (s.size : Int) < a
  · rw [if_neg (by simp; omega)]
    go_enter Tryd.func9, Tryd.ntmps9
    go_wp2
    exact bodyPost_ret (v := .tuple #[.string ⟨#[]⟩, .int .i64 1]) (by simp [results, Tryd.results9, go_sem]) rfl ⟨rfl, HB0.out⟩
  by_cases h3 : (s.size : Int) - a < c
  · rw [if_neg (by simp; omega)]
    go_enter Tryd.func9, Tryd.ntmps9
    go_wp2
    exact bodyPost_ret (v := .tuple #[.string ⟨#[]⟩, .int .i64 1]) (by simp [results, Tryd.results9, go_sem]) rfl ⟨rfl, HB0.out⟩
  · rw [if_pos (by simp; omega), Int.toNat_natCast, Int.toNat_natCast]
    have hac : a + c ≤ s.size := by omega
    have b1 : (a : Int) + c ≤ s.size := by omega
    have l1 := size_extract s 0 a (by omega)
    have l2 := size_extract s (a + c) s.size (Nat.le_refl _)
    have l3 : (s.extract 0 a ++ p).size = a + p.size := by rw [size_app]; omega
    have l4 : (s.extract 0 a ++ p ++ s.extract (a + c) s.size).size = a + p.size + (s.size - (a + c)) := by rw [size_app]; omega
    unfold doneP
    go_enter Tryd.func9, Tryd.ntmps9
    go_wp2
    have HE : Hid (Be w a c p (w.alloc (.cells #[.int .i64 (a : Int), .int .i64 (c : Int), .string p] 28))) := ⟨HB0.out, World.alloc_heap_new _ _⟩
    generalize w.alloc (.cells #[.int .i64 (a : Int), .int .i64 (c : Int), .string p] 28) = W0 at HE ⊢
    obtain ⟨c0, c1, c2⟩ := HE.out.get
    have d0 := cell_rgw c0
    have d1 := cell_rgw c1
    have d2 := cell_rgw c2
    have s1 : IntKind.i64.wrap ((a : Int) + c) = (a : Int) + c := by rw [IntKind.wrap_i64]; omega
    have s2 : ((a : Int) + c).toNat = a + c := by omega
    have s3 : (0 : Int) ≤ (a : Int) + c := by omega
    have s4 : (0 : Int) ≤ a ∧ (a : Int) ≤ s.size := by omega
    clear c0 c1 c2 HB0
    refine wp_region_quiet_below HM.out (by kernel_rfl) ?_
    repeat (go_big_quiet_step (fail))
    refine wpQuiet_nil ?_
    intro _ hw'
    obtain ⟨⟨dq, osq⟩, hw''⟩ := hw'
    subst hw''
    have HX : Hid (Below w.heap.size w (Go.Sort.grow (redrawn W0 dq) osq)) := below_on HE.out.bel (below_regrown W0 dq osq)
    go_wp2
    exact bodyPost_ret (v := .tuple #[.string (s.extract 0 a ++ p ++ s.extract (a + c) s.size), .int .i64 0]) (by simp [results, Tryd.results9, go_sem]) rfl ⟨rfl, HX.out⟩
end Go.Proofs.YtiejollfeggeoaaDoor
