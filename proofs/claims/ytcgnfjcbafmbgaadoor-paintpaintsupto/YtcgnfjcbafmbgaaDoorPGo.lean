/-
  Package paint, walked: counted, Goto; a builder's write, begin. Conditions: the table of powers of ten lies as its text lays it.
-/
import Derived.Lib.ItoaLen
import Derived.Lib.LaidTab
import Derived.Test.YtcgnfjcbafmbgaaDoorShelf
import Derived.Test.YtcgnfjcbafmbgaaDoorPFit
namespace Go.Proofs.YtcgnfjcbafmbgaaDoor
open Go.RowKit Go.Shelf Bod Wid
/-- the tables that the road reads -/
def Pw (W : World) : Prop := Lib.Utf8Tabs 1 2 W ∧ 1 < W.heap.size ∧ 2 < W.heap.size ∧ Lib.TabIs Tryd.prog W "internal/strconv.uint64pow10" .u64 Lib.pow10Tab
theorem tab_below {P : Program} {W W' : World} {nm : String} {k : IntKind} {zs : List Int} (h : Lib.TabIs P W nm k zs) (hb : Below W.heap.size W W') : Lib.TabIs P W' nm k zs := by
  unfold Lib.TabIs World.var? at h ⊢
  cases hg : P.globalNamed nm with
  | none => rw [hg] at h; cases h
  | some g =>
    rw [hg] at h
    simp only [Option.bind_some] at h ⊢
    cases ho : W.heap[g]? with
    | none => rw [ho] at h; cases h
    | some o =>
      rw [hb.block g (Array.getElem?_eq_some_iff.1 ho).1]
      exact h
theorem Pw.below {W W' : World} (h : Pw W) (hb : Below W.heap.size W W') : Pw W' := ⟨tabs_below h.1 hb, Nat.lt_of_lt_of_le h.2.1 hb.size, Nat.lt_of_lt_of_le h.2.2.1 hb.size, tab_below h.2.2.2 hb⟩
theorem bel_grow (w : World) (k : Nat) (os : Array Obj) : Below w.heap.size w (Go.Sort.grow (w.drewN k) os) := ⟨rfl, rfl, rfl, by simp [Go.Sort.grow, World.drewN], fun j hj => Array.getElem?_append_left hj⟩
theorem cntL_len (n : Int) : (cntL n).length ≤ 21 := by
  have := cntN_in n
  exact Lib.itoa_length_le (cntN n) (by omega) (by omega)
theorem gotoL_len (r c : Int) : (gotoL r c).length ≤ 46 := by
  have h1 := cntL_len r
  have h2 := cntL_len c
  simp only [gotoL, List.length_append, List.length_cons, List.length_nil]
  omega
set_option maxRecDepth 100000 in
set_option maxHeartbeats 1000000 in
theorem cnt_any (n : Int) (w : World) (hw : Pw w) : Calls Tryd.prog 27 #[.int .i64 n] w fun e w' => e = .returned (.string ⟨(cntL n).toArray⟩) ∧ Below w.heap.size w w' := by
  have hb := cntN_in n
  have CI := Tryd.strconv_Itoa (cntN n) (by omega) (by omega) w hw.2.2.2
  have hc : cntN n = min (max n 0) 1073741824 + 1 := rfl
  have hl : cntL n = Lib.itoa (cntN n) := rfl
  rw [hl]
  generalize cntN n = q at CI hc hb ⊢
  have hwr : wrap64 (min (max n 0) 1073741824 + 1) = q := by unfold wrap64; omega
  have hwr2 : IntKind.i64.wrap (min (max n 0) 1073741824 + 1) = q := by rw [IntKind.wrap_i64]; omega
  clear hl hc
  go_enter Tryd.func27, Tryd.ntmps27
  go_wp2_with (go_at_call 39; refine CI.mono ?_; rintro e w1 ⟨rfl, kk, os, rfl⟩)
  go_ret
  exact ⟨rfl, bel_grow w kk os⟩
/-- two texts of bytes, one behind the other -/
theorem ba_app (a b : List UInt8) : (⟨a.toArray⟩ : ByteArray) ++ ⟨b.toArray⟩ = ⟨(a ++ b).toArray⟩ := by
  apply ByteArray.ext
  rw [ByteArray.data_append]
  simp
theorem cell_rgP {W : World} {p : Addr} {v : Value} (h : W.cell? p = some v) : ∀ d os, (Go.Sort.grow (redrawn W d) os).cell? p = some v := fun d os => ((below_regrown W d os).cell (p := p) (World.block_lt_of_cell? W p h)).trans h
theorem call_rgP {f : Nat} {args : Array Value} {v : Value} {W : World} (h : ∀ w, Below W.heap.size W w → Calls Tryd.prog f args w fun e w' => e = .returned v ∧ Below w.heap.size w w') :
    ∀ d os, Calls Tryd.prog f args (Go.Sort.grow (redrawn W d) os) fun e w'' => e = .returned v ∧ ∃ p : Regrown, w'' = Go.Sort.grow (redrawn W p.d) p.os := fun d os => Calls.regrown_of (h _ (below_regrown W d os))
def plv (r c : Int) : Value := .agg #[.int .i64 r, .int .i64 c]
set_option maxRecDepth 100000 in
set_option maxHeartbeats 1000000 in
theorem goto_any (r c : Int) (w : World) (hw : Pw w) : Calls Tryd.prog 12 #[plv r c] w fun e w' => e = .returned (.string ⟨(gotoL r c).toArray⟩) ∧ Below w.heap.size w w' := by
  have HM : Hid (Tryd.prog.follows .mixedOrders = true) := by show _ = _; kernel_rfl
  have H0 : Hid (Below w.heap.size w (w.alloc (.cells #[.int .i64 r, .int .i64 c] 24)) ∧ (w.alloc (.cells #[.int .i64 r, .int .i64 c] 24)).heap[w.heap.size]? = some (.cells #[.int .i64 r, .int .i64 c] 24 (0, 0))) := ⟨(Below.refl _ w).alloc (Nat.le_refl _) _, World.alloc_heap_new _ _⟩
  have C1 : Hid (∀ X, Below w.heap.size w X → Calls Tryd.prog 27 #[.int .i64 r] X fun e w' => e = .returned (.string ⟨(cntL r).toArray⟩) ∧ Below X.heap.size X w') := fun X hX => cnt_any r X (hw.below hX)
  have C2 : Hid (∀ X, Below w.heap.size w X → Calls Tryd.prog 27 #[.int .i64 c] X fun e w' => e = .returned (.string ⟨(cntL c).toArray⟩) ∧ Below X.heap.size X w') := fun X hX => cnt_any c X (hw.below hX)
  have hgo : (⟨(gotoL r c).toArray⟩ : ByteArray) = ⟨#[27, 91]⟩ ++ ⟨(cntL r).toArray⟩ ++ ⟨#[59]⟩ ++ ⟨(cntL c).toArray⟩ ++ ⟨#[72]⟩ := by
    rw [show (⟨#[27, 91]⟩ : ByteArray) = ⟨[27, 91].toArray⟩ from rfl, show (⟨#[59]⟩ : ByteArray) = ⟨[59].toArray⟩ from rfl, show (⟨#[72]⟩ : ByteArray) = ⟨[72].toArray⟩ from rfl, ba_app, ba_app, ba_app, ba_app]
    rfl
  rw [hgo]
  unfold plv
  have l1 := cntL_len r
  have l2 := cntL_len c
  clear hw hgo
  obtain ⟨lr, hlr⟩ : ∃ lr, cntL r = lr := ⟨_, rfl⟩
  obtain ⟨lc, hlc⟩ : ∃ lc, cntL c = lc := ⟨_, rfl⟩
  rw [hlr] at l1 C1 ⊢
  rw [hlc] at l2 C2 ⊢
  clear hlr hlc
  go_enter Tryd.func12, Tryd.ntmps12
  go_wp2
  have k1 := call_rgP (W := w.alloc (.cells #[.int .i64 r, .int .i64 c] 24)) fun X hX => C1.out X (H0.out.1.trans (hX.mono H0.out.1.size))
  have k2 := call_rgP (W := w.alloc (.cells #[.int .i64 r, .int .i64 c] 24)) fun X hX => C2.out X (H0.out.1.trans (hX.mono H0.out.1.size))
  obtain ⟨x0, x1⟩ := box2f H0.out.2
  have r0 := cell_rgP x0
  have r1 := cell_rgP x1
  have h1 : ¬ 9223372036854775807 < 2 + lr.length := by omega
  have h2 : ¬ 9223372036854775807 < 2 + lr.length + 1 := by omega
  have h3 : ¬ 9223372036854775807 < 2 + lr.length + 1 + lc.length := by omega
  have h4 : ¬ 9223372036854775807 < 2 + lr.length + 1 + lc.length + 1 := by omega
  have HF0 : Hid (∀ dq osq, Below w.heap.size w (Go.Sort.grow (redrawn (w.alloc (.cells #[.int .i64 r, .int .i64 c] 24)) dq) osq)) := fun dq osq => H0.out.1.trans ((below_regrown _ dq osq).mono H0.out.1.size)
  clear x0 x1 C1 C2
  generalize w.alloc (.cells #[.int .i64 r, .int .i64 c] 24) = w0 at k1 k2 r0 r1 HF0 H0 ⊢
  clear H0
  refine wp_region_quiet_below HM.out (by kernel_rfl) ?_
  iterate 2 (go_big_quiet_step (fail))
  go_big_quiet_step (exact k1 _ _)
  iterate 4 (go_big_quiet_step (fail))
  go_big_quiet_step (exact k2 _ _)
  repeat (go_big_quiet_step (fail))
  refine wpQuiet_nil ?_
  intro _ hw'
  obtain ⟨⟨dq, osq⟩, hw''⟩ := hw'
  subst hw''
  have HF := HF0.out dq osq
  dsimp only
  generalize Go.Sort.grow (redrawn w0 dq) osq = wz at HF ⊢
  go_wp2
  go_ret
  exact ⟨rfl, HF⟩
end Go.Proofs.YtcgnfjcbafmbgaaDoor
