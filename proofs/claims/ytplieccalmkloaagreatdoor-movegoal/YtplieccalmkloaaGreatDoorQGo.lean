/-
  Package move's functions of the table, Go, Span, Column and Place: what QMathB tells. Conditions: those of each theorem.
-/
import Derived.Test.YtplieccalmkloaaGreatDoorQMathB
import Derived.Test.YtplieccalmkloaaGreatDoorQSt
import Derived.Test.YtplieccalmkloaaGreatDoorQMot
namespace Go.Proofs.YtplieccalmkloaaGreatDoor.Sto
open Go.RowKit Go.Shelf Bod Wid

section
variable {w : World} {v : Value} {s : ByteArray}
theorem Sv.ptr (h : Sv w v s) : ∃ p, v = .pointer p := by
  obtain ⟨x, k, K, h1, -, -⟩ := h.ex
  rcases h1 with ⟨h1, -, -⟩ | ⟨b, h1, -⟩
  · exact ⟨_, h1⟩
  · exact ⟨_, h1⟩
set_option maxRecDepth 100000 in
set_option maxHeartbeats 1000000 in
theorem heldLine_any (h : Sv w v s) (l : Int) : Calls Tryz.prog 28 #[v, .int .i64 l] w fun e W' => e = .returned (.int .i64 (hl s l)) ∧ Below w.heap.size w W' := by
  have hs := h.le
  have hcl : cn s 0 s.size ≤ 1073741824 := by have := cn_le (s := s) (a := 0) (c := s.size) (Nat.le_refl _); omega
  have C : Hid (Calls Tryz.prog 33 #[.iface 23 v] w fun e W' => e = .returned (.int .i64 ((cn s 0 s.size : Int) + 1)) ∧ Hid (Below w.heap.size w W')) := ask_count h.tl
  unfold hl
  generalize cn s 0 s.size = z at C hcl ⊢
  have hz : (z : Int) ≤ 1073741824 := by omega
  clear h hs hcl
  go_enter Tryz.func28, Tryz.ntmps28
  go_wp2_with (go_at_call 33; refine C.out.mono ?_; clear C; rintro e w1 ⟨rfl, HB⟩)
  go_ret
  exact ⟨ret_int (by omega), HB.out⟩
set_option maxRecDepth 100000 in
set_option maxHeartbeats 1000000 in
theorem lineOf_any (h : Sv w v s) (a : Nat) (ha : cbZ s a = true) : Calls Tryz.prog 114 #[v, .int .i64 a] w fun e W' => e = .returned (.agg #[.int .i64 ((lspF s (cn s 0 a)).getD (0, 0)).1, .int .i64 ((lspF s (cn s 0 a)).getD (0, 0)).2]) ∧ Below w.heap.size w W' := by
  have hs := h.le
  have hal := cb_le ha
  obtain ⟨x, y, hP⟩ := pl_ex ha
  rw [lspF_eq hP.sp]
  have hcl : cn s 0 a ≤ 1073741824 := by have := cn_le (s := s) (a := 0) (c := a) hal; omega
  obtain ⟨W0, hW0⟩ : ∃ W0, w.alloc (.cells #[.int .i64 0, .int .i64 0] 50) = W0 := ⟨_, rfl⟩
  have HR : Hid (Rb w 0 0 W0) := by show Rb _ _ _ _; rw [← hW0]; exact ⟨(Below.refl _ w).alloc (Nat.le_refl _) _, World.alloc_heap_new _ _⟩
  have C1 : Hid (Calls Tryz.prog 32 #[.iface 23 v, .int .i64 a] W0 fun e W' => e = .returned (.tuple #[.int .i64 (cn s 0 a : Nat), .int .i64 0]) ∧ Hid (Rb w 0 0 W')) := (ask_of (h.below HR.out.bel).tl a).mono fun e W' ⟨q1, q2⟩ => ⟨by rw [q1]; unfold ofv; rw [if_pos ⟨by omega, by omega⟩, if_pos ⟨by omega, by omega⟩]; rfl, HR.out.below q2⟩
  have C2 : Hid (∀ W, Hid (Rb w 0 0 W) → Calls Tryz.prog 31 #[.iface 23 v, .int .i64 (cn s 0 a : Nat)] W fun e W' => e = .returned (.tuple #[.agg #[.int .i64 x, .int .i64 y], .int .i64 0]) ∧ Hid (Rb w 0 0 W')) := fun W hW => (ask_span (h.below hW.out.bel).tl _ (by omega) hP.sp).mono fun e W' ⟨q1, q2⟩ => ⟨q1, hW.out.below q2⟩
  generalize cn s 0 a = z at C1 C2 hcl ⊢
  have hz : (z : Int) ≤ 1073741824 := by omega
  clear h hs hcl hP ha HR
  go_enter Tryz.func114, Tryz.ntmps114
  go_upto_region 3 with (first
    | (go_at_call 32; refine C1.out.mono ?_; clear C1 hW0; rintro e w1 ⟨rfl, HR⟩)
    | (go_at_call 31; refine (C2.out _ HR).mono ?_; clear C2 HR; rintro e w2 ⟨rfl, HR⟩))
  have HA : Hid (Rb w 0 0 (w2.alloc (.cells #[.int .i64 x, .int .i64 y] 50))) := HR.out.below ((Below.refl _ w2).alloc (Nat.le_refl _) _)
  have HX : Hid ((w2.alloc (.cells #[.int .i64 x, .int .i64 y] 50)).heap[w2.heap.size]? = some (.cells #[.int .i64 x, .int .i64 y] 50 (0, 0))) := World.alloc_heap_new _ _
  generalize w2.alloc (.cells #[.int .i64 x, .int .i64 y] 50) = W1 at HA HX ⊢
  have x0 : W1.cell? ⟨w2.heap.size, 0, none⟩ = some (.int .i64 x) := by have := HX.out; simp [World.cell?, this]
  have x1 : W1.cell? ⟨w2.heap.size, 1, none⟩ = some (.int .i64 y) := by have := HX.out; simp [World.cell?, this]
  obtain ⟨y0, y1, y2, y3, y4⟩ := HA.out.get
  clear HX HR
  go_wp2
  have hS := HA.out.set x y
  obtain ⟨z0, z1, -, -, -⟩ := hS.get
  exact bodyPost_ret (v := .agg #[.int .i64 x, .int .i64 y]) (by simp [results, Tryz.results114, go_sem, z0, z1]) rfl ⟨rfl, hS.bel⟩
set_option maxRecDepth 100000 in
set_option maxHeartbeats 1000000 in
theorem linesAway_any (hM : Tryz.prog.follows .mixedOrders = true) (h : Sv w v s) (a : Nat) (ha : cbZ s a = true) (want d : Int) (hw : want ≤ 9223372036854775807) (hd : -1000 ≤ d ∧ d ≤ 1000) : Calls Tryz.prog 115 #[v, .int .i64 a, .int .i64 want, .int .i64 d] w fun e W' => e = .returned (.tuple #[.int .i64 (away s a want d).1, .bool (away s a want d).2]) ∧ Below w.heap.size w W' := by
  have hs := h.le
  have hal := cb_le ha
  have hcl : cn s 0 a ≤ 1073741824 := by have := cn_le (s := s) (a := 0) (c := a) hal; omega
  have hcz : cn s 0 s.size ≤ 1073741824 := by have := cn_le (s := s) (a := 0) (c := s.size) (Nat.le_refl _); omega
  have hin := hl_in s ((cn s 0 a : Int) + d)
  have C1 : Hid (Calls Tryz.prog 32 #[.iface 23 v, .int .i64 a] w fun e W' => e = .returned (.tuple #[.int .i64 (cn s 0 a : Nat), .int .i64 0]) ∧ Hid (Below w.heap.size w W')) := (ask_of h.tl a).mono fun e W' ⟨q1, q2⟩ => ⟨by rw [q1]; unfold ofv; rw [if_pos ⟨by omega, by omega⟩, if_pos ⟨by omega, by omega⟩]; rfl, q2⟩
  have C2 : Hid (∀ W, Hid (Below w.heap.size w W) → Calls Tryz.prog 28 #[v, .int .i64 ((cn s 0 a : Int) + d)] W fun e W' => e = .returned (.int .i64 (hl s ((cn s 0 a : Int) + d))) ∧ Hid (Below w.heap.size w W')) := fun W hW => (heldLine_any (h.below hW.out) _).mono fun e W' ⟨q1, q2⟩ => ⟨q1, Below.on hW.out q2⟩
  have C3 : Hid (∀ W, Hid (Below w.heap.size w W) → Calls Tryz.prog 27 #[.iface 23 v, .int .i64 (hl s ((cn s 0 a : Int) + d)), .int .i64 want] W fun e W' => e = .returned (.tuple #[.int .i64 (plcF s (hl s ((cn s 0 a : Int) + d)) want : Nat), .int .i64 0]) ∧ Hid (Below w.heap.size w W')) := fun W hW => (ask_at hM (h.below hW.out).tl (h.ev.below hW.out) _ want (by omega) hw (plc_isA hin)).mono fun e W' ⟨q1, q2⟩ => ⟨q1, Below.on hW.out q2⟩
  unfold away
  simp only
  generalize plcF s (hl s ((cn s 0 a : Int) + d)) want = m at C3 ⊢
  generalize hl s ((cn s 0 a : Int) + d) = j at C2 C3 hin ⊢
  generalize cn s 0 a = z at C1 C2 hcl ⊢
  have hz : (z : Int) ≤ 1073741824 := by omega
  have hj : j ≤ 1073741824 := by omega
  clear h hs hcl ha hcz hM hin
  go_enter Tryz.func115, Tryz.ntmps115
  go_wp2_with (first
    | (go_at_call 32; refine C1.out.mono ?_; clear C1; rintro e w1 ⟨rfl, HB⟩)
    | (go_at_call 28; refine (C2.out _ HB).mono ?_; clear C2 HB; rintro e w2 ⟨rfl, HB⟩)
    | (go_at_call 27; refine (C3.out _ HB).mono ?_; clear C3 HB; rintro e w3 ⟨rfl, HB⟩))
  go_ret2
  exact ⟨rfl, HB.out⟩
set_option maxRecDepth 100000 in
set_option maxHeartbeats 1000000 in
theorem Column_any (hM : Tryz.prog.follows .mixedOrders = true) (h : Sv w v s) (i : Int) (hi : i ≤ 9223372036854775807) : Calls Tryz.prog 9 #[v, .int .i64 i] w fun e W' => e = .returned (.int .i64 (colF s (snp s i))) ∧ Below w.heap.size w W' := by
  have hc := (snp_is s i).cb
  have C1 : Hid (∀ W, Hid (Below w.heap.size w W) → Calls Tryz.prog 22 #[v, .int .i64 i] W fun e W' => e = .returned (.int .i64 (snp s i : Nat)) ∧ Hid (Below w.heap.size w W')) := fun W hW => ((h.below hW.out).snap i hi).mono fun e W' ⟨q1, q2⟩ => ⟨q1, Below.on hW.out q2⟩
  have C2 : Hid (∀ W, Hid (Below w.heap.size w W) → Calls Tryz.prog 24 #[.iface 23 v, .int .i64 (snp s i : Nat)] W fun e W' => e = .returned (.tuple #[.int .i64 (colF s (snp s i)), .int .i64 0]) ∧ Hid (Below w.heap.size w W')) := fun W hW => (ask_col hM (h.below hW.out).tl (h.ev.below hW.out) _ (col_isCo hc)).mono fun e W' ⟨q1, q2⟩ => ⟨q1, Below.on hW.out q2⟩
  generalize colF s (snp s i) = z at C2 ⊢
  generalize snp s i = p at C1 C2 hc
  have HB0 : Hid (Below w.heap.size w w) := Below.refl _ _
  clear h hc hM
  go_enter Tryz.func9, Tryz.ntmps9
  go_wp2_with (first
    | (go_at_call 22; refine (C1.out _ HB0).mono ?_; clear C1 HB0; rintro e w2 ⟨rfl, HB⟩)
    | (go_at_call 24; refine (C2.out _ HB).mono ?_; clear C2 HB; rintro e w3 ⟨rfl, HB⟩))
  go_ret
  exact ⟨rfl, HB.out⟩
set_option maxRecDepth 100000 in
set_option maxHeartbeats 1000000 in
theorem Place_any (hM : Tryz.prog.follows .mixedOrders = true) (h : Sv w v s) (l c : Int) (hc : c ≤ 9223372036854775807) : Calls Tryz.prog 11 #[v, .int .i64 l, .int .i64 c] w fun e W' => e = .returned (.int .i64 (plcF s (hl s l) c : Nat)) ∧ Below w.heap.size w W' := by
  have hs := h.le
  have hcz : cn s 0 s.size ≤ 1073741824 := by have := cn_le (s := s) (a := 0) (c := s.size) (Nat.le_refl _); omega
  have hin := hl_in s l
  have C1 : Hid (∀ W, Hid (Below w.heap.size w W) → Calls Tryz.prog 28 #[v, .int .i64 l] W fun e W' => e = .returned (.int .i64 (hl s l)) ∧ Hid (Below w.heap.size w W')) := fun W hW => (heldLine_any (h.below hW.out) l).mono fun e W' ⟨q1, q2⟩ => ⟨q1, Below.on hW.out q2⟩
  have C2 : Hid (∀ W, Hid (Below w.heap.size w W) → Calls Tryz.prog 27 #[.iface 23 v, .int .i64 (hl s l), .int .i64 c] W fun e W' => e = .returned (.tuple #[.int .i64 (plcF s (hl s l) c : Nat), .int .i64 0]) ∧ Hid (Below w.heap.size w W')) := fun W hW => (ask_at hM (h.below hW.out).tl (h.ev.below hW.out) _ c (by omega) hc (plc_isA hin)).mono fun e W' ⟨q1, q2⟩ => ⟨q1, Below.on hW.out q2⟩
  generalize plcF s (hl s l) c = z at C2 ⊢
  generalize hl s l = p at C1 C2 hin
  have HB0 : Hid (Below w.heap.size w w) := Below.refl _ _
  clear h hs hcz hM hin
  go_enter Tryz.func11, Tryz.ntmps11
  go_wp2_with (first
    | (go_at_call 28; refine (C1.out _ HB0).mono ?_; clear C1 HB0; rintro e w2 ⟨rfl, HB⟩)
    | (go_at_call 27; refine (C2.out _ HB).mono ?_; clear C2 HB; rintro e w3 ⟨rfl, HB⟩))
  go_ret
  exact ⟨rfl, HB.out⟩
set_option maxRecDepth 100000 in
set_option maxHeartbeats 1000000 in
theorem columnWanted_any (hM : Tryz.prog.follows .mixedOrders = true) (h : Sv w v s) (p : Nat) (hp : cbZ s p = true) (g : Int) : Calls Tryz.prog 23 #[v, .int .i64 p, .int .i64 g] w fun e W' => e = .returned (.int .i64 (if g = -1 then colF s p else g)) ∧ Below w.heap.size w W' := by
  have hal := cb_le hp
  have hs := h.le
  have C : Hid (Calls Tryz.prog 9 #[v, .int .i64 p] w fun e W' => e = .returned (.int .i64 (colF s p)) ∧ Hid (Below w.heap.size w W')) := by
    have := Column_any hM h p (by omega)
    rw [snp_self hp] at this
    exact this
  generalize colF s p = z at C ⊢
  clear h hM hp hal hs
  by_cases hg : g = -1
  · subst hg
    rw [if_pos rfl]
    go_enter Tryz.func23, Tryz.ntmps23
    go_wp2_with (go_at_call 9; refine C.out.mono ?_; clear C; rintro e w1 ⟨rfl, HB⟩)
    go_ret
    exact ⟨rfl, HB.out⟩
  · rw [if_neg hg]
    have e1 : (g == -1) = false := by simp [hg]
    have e2 : decide (g = -1) = false := by simp [hg]
    clear C
    go_enter Tryz.func23, Tryz.ntmps23
    go_wp2
    go_ret
    exact ⟨rfl, Below.refl _ _⟩
set_option maxRecDepth 100000 in
set_option maxHeartbeats 1000000 in
theorem left_any (h : Sv w v s) (a : Nat) (ha : cbZ s a = true) (want : Int) (c : Nat) (hc : c ≤ 1000) : Calls Tryz.prog 78 #[v, .int .i64 a, .int .i64 want, .int .i64 c] w fun e W' => e = .returned (.tuple #[.int .i64 (itr (pvC s) 0 c a : Nat), .bool (!decide ((a : Int) = (0 : Nat)))]) ∧ Below w.heap.size w W' := by
  have hmf : ∀ (fn : Fn) (first cap : Array Value) (w : World), (Instr.makeFunc fn first cap).run Tryz.prog w = .ok (.func fn first cap) w := fun _ _ _ _ => rfl
  have hs := h.le
  have C : Hid (Calls Tryz.prog 108 #[.int .i64 a, .int .i64 0, .int .i64 c, .func (.func 109) #[v] #[]] w fun e W' => e = .returned (.tuple #[.int .i64 (itr (pvC s) 0 c a : Nat), .bool (!decide ((a : Int) = (0 : Nat)))]) ∧ Hid (Below w.heap.size w W')) :=
    stepped_any 109 #[v] #[] (enters_of Tryz.func109 (by kernel_rfl) rfl) (pvC s) (fun b => cbZ s (b : Nat) = true) 0 (by omega) (fun b hb => ⟨by have := cb_le hb; have := h.le; omega, fun _ => (pvC_is s b).cb⟩) (fun W b hW hb => by
      have := (h.below hW).prev b
      exact this) a c ha hc
  generalize itr (pvC s) 0 c a = R at C ⊢
  generalize (!decide ((a : Int) = (0 : Nat))) = B at C ⊢
  clear h ha hs
  go_enter Tryz.func78, Tryz.ntmps78
  go_wp2_with (go_at_call 108; refine C.out.mono ?_; clear C; rintro e w1 ⟨rfl, HB⟩)
  go_ret2
  exact ⟨rfl, HB.out⟩
set_option maxRecDepth 100000 in
set_option maxHeartbeats 1000000 in
theorem right_any (h : Sv w v s) (a : Nat) (ha : cbZ s a = true) (want : Int) (c : Nat) (hc : c ≤ 1000) : Calls Tryz.prog 79 #[v, .int .i64 a, .int .i64 want, .int .i64 c] w fun e W' => e = .returned (.tuple #[.int .i64 (itr (nxt s) s.size c a : Nat), .bool (!decide ((a : Int) = (s.size : Nat)))]) ∧ Below w.heap.size w W' := by
  have hmf : ∀ (fn : Fn) (first cap : Array Value) (w : World), (Instr.makeFunc fn first cap).run Tryz.prog w = .ok (.func fn first cap) w := fun _ _ _ _ => rfl
  have hs := h.le
  have C0 : Hid (∀ W, Hid (Below w.heap.size w W) → Calls Tryz.prog 69 #[v] W fun e W' => e = .returned (.int .i64 s.size) ∧ Hid (Below w.heap.size w W')) := fun W hW => (h.below hW.out).len.mono fun e W' ⟨q1, q2⟩ => ⟨q1, Below.on hW.out q2⟩
  have C : Hid (∀ W, Hid (Below w.heap.size w W) → Calls Tryz.prog 108 #[.int .i64 a, .int .i64 s.size, .int .i64 c, .func (.func 45) #[v] #[]] W fun e W' => e = .returned (.tuple #[.int .i64 (itr (nxt s) s.size c a : Nat), .bool (!decide ((a : Int) = (s.size : Nat)))]) ∧ Hid (Below w.heap.size w W')) := fun W hW =>
    (stepped_any 45 #[v] #[] (enters_of Tryz.func45 (by kernel_rfl) rfl) (nxt s) (fun b => cbZ s (b : Nat) = true) s.size (by omega) (fun b hb => ⟨by have := cb_le hb; have := h.le; omega, fun _ => (nxt_is s b).cb⟩) (fun X b hX hb => by
      have := (h.below (Below.on hW.out hX)).next b
      exact this) a c ha hc).mono fun e W' ⟨q1, q2⟩ => ⟨q1, Below.on hW.out q2⟩
  generalize itr (nxt s) s.size c a = R at C ⊢
  generalize (!decide ((a : Int) = (s.size : Nat))) = B at C ⊢
  generalize s.size = n at C0 C hs ⊢
  have HB0 : Hid (Below w.heap.size w w) := Below.refl _ _
  clear h ha
  go_enter Tryz.func79, Tryz.ntmps79
  go_wp2_with (first
    | (go_at_call 69; refine (C0.out _ HB0).mono ?_; clear C0 HB0; rintro e w0 ⟨rfl, HB⟩)
    | (go_at_call 108; refine (C.out _ HB).mono ?_; clear C HB; rintro e w1 ⟨rfl, HB⟩))
  go_ret2
  exact ⟨rfl, HB.out⟩
set_option maxRecDepth 100000 in
set_option maxHeartbeats 1000000 in
theorem wl1_any (h : Sv w v s) (bx b : Nat) (hb : cbZ s b = true) (hx : w.cell? ⟨bx, 0, none⟩ = some v) : Calls Tryz.prog 110 #[.int .i64 b, .pointer (some ⟨bx, 0, none⟩)] w fun e W' => e = .returned (.int .i64 (behindW (words s) b : Nat)) ∧ Below w.heap.size w W' := by
  have C : Hid (Calls Tryz.prog 111 #[v, .int .i64 b] w fun e W' => e = .returned (.int .i64 (behindW (words s) b : Nat)) ∧ Hid (Below w.heap.size w W')) := mbehind_any h b hb
  generalize behindW (words s) b = R at C ⊢
  clear h hb
  go_enter Tryz.func110, Tryz.ntmps110
  go_wp2_with (go_at_call 111; refine C.out.mono ?_; clear C; rintro e w1 ⟨rfl, HB⟩)
  go_ret
  exact ⟨rfl, HB.out⟩
set_option maxRecDepth 100000 in
set_option maxHeartbeats 1000000 in
theorem wr1_any (h : Sv w v s) (bx b : Nat) (hb : cbZ s b = true) (hx : w.cell? ⟨bx, 0, none⟩ = some v) : Calls Tryz.prog 112 #[.int .i64 b, .pointer (some ⟨bx, 0, none⟩)] w fun e W' => e = .returned (.int .i64 (aheadW (words s) s.size b : Nat)) ∧ Below w.heap.size w W' := by
  have C : Hid (Calls Tryz.prog 113 #[v, .int .i64 b] w fun e W' => e = .returned (.int .i64 (aheadW (words s) s.size b : Nat)) ∧ Hid (Below w.heap.size w W')) := mahead_any h b hb
  generalize aheadW (words s) s.size b = R at C ⊢
  clear h hb
  go_enter Tryz.func112, Tryz.ntmps112
  go_wp2_with (go_at_call 113; refine C.out.mono ?_; clear C; rintro e w1 ⟨rfl, HB⟩)
  go_ret
  exact ⟨rfl, HB.out⟩
set_option maxRecDepth 100000 in
set_option maxHeartbeats 1000000 in
theorem wordLeft_any (h : Sv w v s) (a : Nat) (ha : cbZ s a = true) (want : Int) (c : Nat) (hc : c ≤ 1000) : Calls Tryz.prog 80 #[v, .int .i64 a, .int .i64 want, .int .i64 c] w fun e W' => e = .returned (.tuple #[.int .i64 (itr (behindW (words s)) 0 c a : Nat), .bool (!decide ((a : Int) = (0 : Nat)))]) ∧ Below w.heap.size w W' := by
  have hmf : ∀ (fn : Fn) (first cap : Array Value) (w : World), (Instr.makeFunc fn first cap).run Tryz.prog w = .ok (.func fn first cap) w := fun _ _ _ _ => rfl
  obtain ⟨pv, rfl⟩ := h.ptr
  have hs := h.le
  obtain ⟨W0, hW0⟩ : ∃ W0, w.alloc (.cells #[.pointer pv] 23) = W0 := ⟨_, rfl⟩
  have hb0 : Below w.heap.size w W0 ∧ W0.heap[w.heap.size]? = some (.cells #[.pointer pv] 23 (0, 0)) := by rw [← hW0]; exact ⟨(Below.refl _ w).alloc (Nat.le_refl _) _, World.alloc_heap_new w _⟩
  have hcx : ∀ W, Below W0.heap.size W0 W → W.cell? ⟨w.heap.size, 0, none⟩ = some (.pointer pv) := fun W hW => by
    have := (hW.block _ (Array.getElem?_eq_some_iff.1 hb0.2).1).trans hb0.2
    simp [World.cell?, this]
  have HB0 : Hid (Below w.heap.size w W0) := hb0.1
  have hc0 := hcx W0 (Below.refl _ _)
  have C : Hid (Calls Tryz.prog 108 #[.int .i64 a, .int .i64 0, .int .i64 c, .func (.func 110) #[] #[.pointer (some ⟨w.heap.size, 0, none⟩)]] W0 fun e W' => e = .returned (.tuple #[.int .i64 (itr (behindW (words s)) 0 c a : Nat), .bool (!decide ((a : Int) = (0 : Nat)))]) ∧ Hid (Below w.heap.size w W')) :=
    (stepped_any 110 #[] #[.pointer (some ⟨w.heap.size, 0, none⟩)] (enters_of Tryz.func110 (by kernel_rfl) rfl) (behindW (words s)) (fun b => cbZ s (b : Nat) = true) 0 (by omega) (fun b hb => ⟨by have := cb_le hb; omega, fun _ => (behind_ok s b).1⟩) (fun X b hX hb => wl1_any (h.below (Below.on hb0.1 hX)) w.heap.size b hb (hcx X hX)) a c ha hc).mono fun e W' ⟨q1, q2⟩ => ⟨q1, Below.on hb0.1 q2⟩
  generalize itr (behindW (words s)) 0 c a = R at C ⊢
  generalize (!decide ((a : Int) = (0 : Nat))) = B at C ⊢
  clear h ha hs hb0 hcx HB0
  go_enter Tryz.func80, Tryz.ntmps80
  go_wp2_with (go_at_call 108; refine C.out.mono ?_; clear C hW0 hc0; rintro e w1 ⟨rfl, HB⟩)
  go_ret2
  exact ⟨rfl, HB.out⟩
set_option maxRecDepth 100000 in
set_option maxHeartbeats 1000000 in
theorem wordRight_any (h : Sv w v s) (a : Nat) (ha : cbZ s a = true) (want : Int) (c : Nat) (hc : c ≤ 1000) : Calls Tryz.prog 81 #[v, .int .i64 a, .int .i64 want, .int .i64 c] w fun e W' => e = .returned (.tuple #[.int .i64 (itr (aheadW (words s) s.size) s.size c a : Nat), .bool (!decide ((a : Int) = (s.size : Nat)))]) ∧ Below w.heap.size w W' := by
  have hmf : ∀ (fn : Fn) (first cap : Array Value) (w : World), (Instr.makeFunc fn first cap).run Tryz.prog w = .ok (.func fn first cap) w := fun _ _ _ _ => rfl
  obtain ⟨pv, rfl⟩ := h.ptr
  have hs := h.le
  obtain ⟨W0, hW0⟩ : ∃ W0, w.alloc (.cells #[.pointer pv] 23) = W0 := ⟨_, rfl⟩
  have hb0 : Below w.heap.size w W0 ∧ W0.heap[w.heap.size]? = some (.cells #[.pointer pv] 23 (0, 0)) := by rw [← hW0]; exact ⟨(Below.refl _ w).alloc (Nat.le_refl _) _, World.alloc_heap_new w _⟩
  have hcx : ∀ W, Below W0.heap.size W0 W → W.cell? ⟨w.heap.size, 0, none⟩ = some (.pointer pv) := fun W hW => by
    have := (hW.block _ (Array.getElem?_eq_some_iff.1 hb0.2).1).trans hb0.2
    simp [World.cell?, this]
  have HB0 : Hid (Below w.heap.size w W0) := hb0.1
  have hc0 := hcx W0 (Below.refl _ _)
  have C0 : Hid (Calls Tryz.prog 69 #[.pointer pv] W0 fun e W' => e = .returned (.int .i64 s.size) ∧ Hid (Below W0.heap.size W0 W')) := (h.below hb0.1).len
  have C : Hid (∀ W, Hid (Below W0.heap.size W0 W) → Calls Tryz.prog 108 #[.int .i64 a, .int .i64 s.size, .int .i64 c, .func (.func 112) #[] #[.pointer (some ⟨w.heap.size, 0, none⟩)]] W fun e W' => e = .returned (.tuple #[.int .i64 (itr (aheadW (words s) s.size) s.size c a : Nat), .bool (!decide ((a : Int) = (s.size : Nat)))]) ∧ Hid (Below w.heap.size w W')) := fun W hW =>
    (stepped_any 112 #[] #[.pointer (some ⟨w.heap.size, 0, none⟩)] (enters_of Tryz.func112 (by kernel_rfl) rfl) (aheadW (words s) s.size) (fun b => cbZ s (b : Nat) = true) s.size (by omega) (fun b hb => ⟨by have := cb_le hb; omega, fun _ => (ahead_ok s b).1⟩) (fun X b hX hb => wr1_any (h.below (Below.on hb0.1 (Below.on hW.out hX))) w.heap.size b hb (hcx X (Below.on hW.out hX))) a c ha hc).mono fun e W' ⟨q1, q2⟩ => ⟨q1, Below.on hb0.1 (Below.on hW.out q2)⟩
  generalize itr (aheadW (words s) s.size) s.size c a = R at C ⊢
  generalize (!decide ((a : Int) = (s.size : Nat))) = B at C ⊢
  generalize s.size = n at C0 C hs ⊢
  clear h ha hb0 hcx HB0
  go_enter Tryz.func81, Tryz.ntmps81
  go_wp2_with (first
    | (go_at_call 69; refine C0.out.mono ?_; clear C0 hW0 hc0; rintro e w0 ⟨rfl, HB⟩)
    | (go_at_call 108; refine (C.out _ HB).mono ?_; clear C HB; rintro e w1 ⟨rfl, HB⟩))
  go_ret2
  exact ⟨rfl, HB.out⟩
set_option maxRecDepth 100000 in
set_option maxHeartbeats 1000000 in
theorem lineStart_any (h : Sv w v s) (a : Nat) (ha : cbZ s a = true) (want : Int) (c : Nat) : Calls Tryz.prog 82 #[v, .int .i64 a, .int .i64 want, .int .i64 c] w fun e W' => e = .returned (.tuple #[.int .i64 ((lspF s (cn s 0 a)).getD (0, 0)).1, .bool true]) ∧ Below w.heap.size w W' := by
  have C : Hid (Calls Tryz.prog 114 #[v, .int .i64 a] w fun e W' => e = .returned (.agg #[.int .i64 ((lspF s (cn s 0 a)).getD (0, 0)).1, .int .i64 ((lspF s (cn s 0 a)).getD (0, 0)).2]) ∧ Hid (Below w.heap.size w W')) := lineOf_any h a ha
  generalize ((lspF s (cn s 0 a)).getD (0, 0)).1 = x at C ⊢
  generalize ((lspF s (cn s 0 a)).getD (0, 0)).2 = y at C ⊢
  have hfd : ∀ W, (Instr.field 50 (.agg #[.int .i64 x, .int .i64 y]) 0).run Tryz.prog W = .ok (.int .i64 x) W := fun W => by kernel_rfl
  clear h ha
  go_enter Tryz.func82, Tryz.ntmps82
  go_wp2_with (go_at_call 114; refine C.out.mono ?_; clear C; rintro e w1 ⟨rfl, HB⟩)
  go_ret2
  exact ⟨rfl, HB.out⟩
set_option maxRecDepth 100000 in
set_option maxHeartbeats 1000000 in
theorem lineEnd_any (h : Sv w v s) (a : Nat) (ha : cbZ s a = true) (want : Int) (c : Nat) : Calls Tryz.prog 83 #[v, .int .i64 a, .int .i64 want, .int .i64 c] w fun e W' => e = .returned (.tuple #[.int .i64 ((lspF s (cn s 0 a)).getD (0, 0)).2, .bool true]) ∧ Below w.heap.size w W' := by
  have C : Hid (Calls Tryz.prog 114 #[v, .int .i64 a] w fun e W' => e = .returned (.agg #[.int .i64 ((lspF s (cn s 0 a)).getD (0, 0)).1, .int .i64 ((lspF s (cn s 0 a)).getD (0, 0)).2]) ∧ Hid (Below w.heap.size w W')) := lineOf_any h a ha
  generalize ((lspF s (cn s 0 a)).getD (0, 0)).1 = x at C ⊢
  generalize ((lspF s (cn s 0 a)).getD (0, 0)).2 = y at C ⊢
  have hfd : ∀ W, (Instr.field 50 (.agg #[.int .i64 x, .int .i64 y]) 1).run Tryz.prog W = .ok (.int .i64 y) W := fun W => by kernel_rfl
  clear h ha
  go_enter Tryz.func83, Tryz.ntmps83
  go_wp2_with (go_at_call 114; refine C.out.mono ?_; clear C; rintro e w1 ⟨rfl, HB⟩)
  go_ret2
  exact ⟨rfl, HB.out⟩
set_option maxRecDepth 100000 in
set_option maxHeartbeats 1000000 in
theorem up_any (hM : Tryz.prog.follows .mixedOrders = true) (h : Sv w v s) (a : Nat) (ha : cbZ s a = true) (want : Int) (hw : want ≤ 9223372036854775807) (c : Nat) (hc : c ≤ 1000) : Calls Tryz.prog 84 #[v, .int .i64 a, .int .i64 want, .int .i64 c] w fun e W' => e = .returned (.tuple #[.int .i64 (away s a want (-(c : Int))).1, .bool (away s a want (-(c : Int))).2]) ∧ Below w.heap.size w W' := by
  have C : Hid (Calls Tryz.prog 115 #[v, .int .i64 a, .int .i64 want, .int .i64 (-(c : Int))] w fun e W' => e = .returned (.tuple #[.int .i64 (away s a want (-(c : Int))).1, .bool (away s a want (-(c : Int))).2]) ∧ Hid (Below w.heap.size w W')) := linesAway_any hM h a ha want (-(c : Int)) hw (by omega)
  generalize away s a want (-(c : Int)) = R at C ⊢
  have hc' : (c : Int) ≤ 1000 := by omega
  clear h ha hM
  go_enter Tryz.func84, Tryz.ntmps84
  go_wp2_with (go_at_call 115; refine C.out.mono ?_; clear C; rintro e w1 ⟨rfl, HB⟩)
  go_ret2
  exact ⟨rfl, HB.out⟩
set_option maxRecDepth 100000 in
set_option maxHeartbeats 1000000 in
theorem down_any (hM : Tryz.prog.follows .mixedOrders = true) (h : Sv w v s) (a : Nat) (ha : cbZ s a = true) (want : Int) (hw : want ≤ 9223372036854775807) (c : Nat) (hc : c ≤ 1000) : Calls Tryz.prog 85 #[v, .int .i64 a, .int .i64 want, .int .i64 c] w fun e W' => e = .returned (.tuple #[.int .i64 (away s a want (c : Int)).1, .bool (away s a want (c : Int)).2]) ∧ Below w.heap.size w W' := by
  have C : Hid (Calls Tryz.prog 115 #[v, .int .i64 a, .int .i64 want, .int .i64 (c : Int)] w fun e W' => e = .returned (.tuple #[.int .i64 (away s a want (c : Int)).1, .bool (away s a want (c : Int)).2]) ∧ Hid (Below w.heap.size w W')) := linesAway_any hM h a ha want (c : Int) hw (by omega)
  generalize away s a want (c : Int) = R at C ⊢
  have hc' : (c : Int) ≤ 1000 := by omega
  clear h ha hM
  go_enter Tryz.func85, Tryz.ntmps85
  go_wp2_with (go_at_call 115; refine C.out.mono ?_; clear C; rintro e w1 ⟨rfl, HB⟩)
  go_ret2
  exact ⟨rfl, HB.out⟩
set_option maxRecDepth 100000 in
theorem textStart_any (w : World) (v : Value) (a want : Int) (c : Int) : Calls Tryz.prog 86 #[v, .int .i64 a, .int .i64 want, .int .i64 c] w fun e W' => e = .returned (.tuple #[.int .i64 0, .bool true]) ∧ Below w.heap.size w W' := by
  go_enter Tryz.func86, Tryz.ntmps86
  go_wp2
  go_ret2
  exact ⟨rfl, Below.refl _ _⟩
set_option maxRecDepth 100000 in
theorem textEnd_any (h : Sv w v s) (a want : Int) (c : Int) : Calls Tryz.prog 87 #[v, .int .i64 a, .int .i64 want, .int .i64 c] w fun e W' => e = .returned (.tuple #[.int .i64 s.size, .bool true]) ∧ Below w.heap.size w W' := by
  have C : Hid (Calls Tryz.prog 69 #[v] w fun e W' => e = .returned (.int .i64 s.size) ∧ Hid (Below w.heap.size w W')) := h.len
  generalize s.size = n at C ⊢
  clear h
  go_enter Tryz.func87, Tryz.ntmps87
  go_wp2_with (go_at_call 69; refine C.out.mono ?_; clear C; rintro e w1 ⟨rfl, HB⟩)
  go_ret2
  exact ⟨rfl, HB.out⟩
theorem mot_en {k : Int} {f : Nat} {b : Bool} (hm : (k, f, b) ∈ mot) : ∀ args W, (callFunc f args).run Tryz.prog W = .ok (.enter f args) W := by
  simp only [mot, List.mem_cons, List.not_mem_nil, or_false, Prod.mk.injEq] at hm
  rcases hm with ⟨-, rfl, -⟩ | ⟨-, rfl, -⟩ | ⟨-, rfl, -⟩ | ⟨-, rfl, -⟩ | ⟨-, rfl, -⟩ | ⟨-, rfl, -⟩ | ⟨-, rfl, -⟩ | ⟨-, rfl, -⟩ | ⟨-, rfl, -⟩ | ⟨-, rfl, -⟩
  · exact enters_of Tryz.func78 (by kernel_rfl) rfl
  · exact enters_of Tryz.func79 (by kernel_rfl) rfl
  · exact enters_of Tryz.func80 (by kernel_rfl) rfl
  · exact enters_of Tryz.func81 (by kernel_rfl) rfl
  · exact enters_of Tryz.func82 (by kernel_rfl) rfl
  · exact enters_of Tryz.func83 (by kernel_rfl) rfl
  · exact enters_of Tryz.func84 (by kernel_rfl) rfl
  · exact enters_of Tryz.func85 (by kernel_rfl) rfl
  · exact enters_of Tryz.func86 (by kernel_rfl) rfl
  · exact enters_of Tryz.func87 (by kernel_rfl) rfl
theorem mot_kp {k : Int} {f : Nat} {b : Bool} (hm : (k, f, b) ∈ mot) : b = decide (k = 10 ∨ k = 11) := by
  simp only [mot, List.mem_cons, List.not_mem_nil, or_false, Prod.mk.injEq] at hm
  rcases hm with ⟨rfl, -, rfl⟩ | ⟨rfl, -, rfl⟩ | ⟨rfl, -, rfl⟩ | ⟨rfl, -, rfl⟩ | ⟨rfl, -, rfl⟩ | ⟨rfl, -, rfl⟩ | ⟨rfl, -, rfl⟩ | ⟨rfl, -, rfl⟩ | ⟨rfl, -, rfl⟩ | ⟨rfl, -, rfl⟩ <;> rfl
theorem lead_any (hM : Tryz.prog.follows .mixedOrders = true) (h : Sv w v s) {k : Int} {f : Nat} {b : Bool} (hm : (k, f, b) ∈ mot) (a : Nat) (ha : cbZ s a = true) (want : Int) (hw : want ≤ 9223372036854775807) (c : Nat) (hc : c ≤ 1000) : Calls Tryz.prog f #[v, .int .i64 a, .int .i64 want, .int .i64 c] w fun e W' => e = .returned (.tuple #[.int .i64 (lead s k a want c).1, .bool (lead s k a want c).2]) ∧ Below w.heap.size w W' := by
  simp only [mot, List.mem_cons, List.not_mem_nil, or_false, Prod.mk.injEq] at hm
  rcases hm with ⟨rfl, rfl, -⟩ | ⟨rfl, rfl, -⟩ | ⟨rfl, rfl, -⟩ | ⟨rfl, rfl, -⟩ | ⟨rfl, rfl, -⟩ | ⟨rfl, rfl, -⟩ | ⟨rfl, rfl, -⟩ | ⟨rfl, rfl, -⟩ | ⟨rfl, rfl, -⟩ | ⟨rfl, rfl, -⟩
  · exact left_any h a ha want c hc
  · exact right_any h a ha want c hc
  · exact wordLeft_any h a ha want c hc
  · exact wordRight_any h a ha want c hc
  · exact lineStart_any h a ha want c
  · exact lineEnd_any h a ha want c
  · exact up_any hM h a ha want hw c hc
  · exact down_any hM h a ha want hw c hc
  · exact textStart_any w v a want c
  · exact textEnd_any h a want c
set_option maxRecDepth 100000 in
set_option maxHeartbeats 1000000 in
theorem Go_any (hM : Tryz.prog.follows .mixedOrders = true) (h : Sv w v s) (k i g n : Int) (hi : i ≤ 9223372036854775807) (hg : g ≤ 9223372036854775807) : Calls Tryz.prog 8 #[v, .int .i64 k, .int .i64 i, .int .i64 g, .int .i64 n] w fun e W' => e = .returned (.tuple #[.int .i64 (goP s k i g n).1, .int .i64 (goP s k i g n).2.1, .int .i64 (goP s k i g n).2.2]) ∧ Below w.heap.size w W' := by
  have C := motionOf_any k w
  unfold goP
  rcases mres_cases k with ⟨f, b, h1, hm, h2⟩ | ⟨h1, h2⟩
  · rw [h1] at C
    rw [if_pos h2]
    have hs := h.le
    have hp := (snp_is s i).cb
    have hcn := cnt_eq n
    have hcb := col_bd hp
    have hw : wantF s k (snp s i) (max g (-1)) ≤ 9223372036854775807 := by
      unfold wantF
      split
      · split <;> omega
      · omega
    have hkp := mot_kp hm
    have C0 : Hid (Calls Tryz.prog 21 #[.int .i64 k] w fun e w' => e = .returned (.tuple #[.agg #[.int .i64 k, .func (.func f) #[] #[], .bool b], .bool true]) ∧ Hid (Below w.heap.size w w')) := C
    have C1 : Hid (∀ W, Hid (Below w.heap.size w W) → Calls Tryz.prog 22 #[v, .int .i64 i] W fun e W' => e = .returned (.int .i64 (snp s i : Nat)) ∧ Hid (Below W.heap.size W W')) := fun W hW => (h.below hW.out).snap i hi
    have C2 : Hid (∀ W, Hid (Below w.heap.size w W) → Calls Tryz.prog 23 #[v, .int .i64 (snp s i : Nat), .int .i64 (max g (-1))] W fun e W' => e = .returned (.int .i64 (if max g (-1) = -1 then colF s (snp s i) else max g (-1))) ∧ Hid (Below W.heap.size W W')) := fun W hW => columnWanted_any hM (h.below hW.out) _ hp _
    have C3 : Hid (∀ W, Hid (Below w.heap.size w W) → Calls Tryz.prog f #[v, .int .i64 (snp s i : Nat), .int .i64 (wantF s k (snp s i) (max g (-1))), .int .i64 (cnt n : Nat)] W fun e W' => e = .returned (.tuple #[.int .i64 (lead s k (snp s i) (wantF s k (snp s i) (max g (-1))) (cnt n)).1, .bool (lead s k (snp s i) (wantF s k (snp s i) (max g (-1))) (cnt n)).2]) ∧ Hid (Below W.heap.size W W')) := fun W hW => lead_any hM (h.below hW.out) hm _ hp _ hw _ (by omega)
    have en := mot_en hm
    have hwf : wantF s k (snp s i) (max g (-1)) = if b = true then (if max g (-1) = -1 then colF s (snp s i) else max g (-1)) else -1 := by
      unfold wantF
      rw [hkp]
      by_cases e : k = 10 ∨ k = 11
      · rw [if_pos e, decide_eq_true e, if_pos rfl]
      · rw [if_neg e, decide_eq_false e, if_neg (by simp)]
    generalize lead s k (snp s i) (wantF s k (snp s i) (max g (-1))) (cnt n) = R at C3 ⊢
    generalize wantF s k (snp s i) (max g (-1)) = wv at C3 hwf hw ⊢
    generalize (if max g (-1) = -1 then colF s (snp s i) else max g (-1)) = cv at C2 hwf
    generalize snp s i = p at C1 C2 C3 hp ⊢
    rw [hcn] at C3
    obtain ⟨R1, R2⟩ := R
    obtain ⟨T, hT⟩ : ∃ T, (if ((R1, R2) : Nat × Bool).2 = true then ((((R1, R2) : Nat × Bool).1 : Int), wv, (0 : Int)) else ((p : Int), max g (-1), (8 : Int))) = T := ⟨_, rfl⟩
    rw [hT]
    have HT : Hid ((if R2 = true then ((R1 : Int), wv, (0 : Int)) else ((p : Int), max g (-1), (8 : Int))) = T) := hT
    clear hT
    clear hkp hm h1 h2 C h hs hcb hM hcn
    go_enter Tryz.func8, Tryz.ntmps8
    go_upto_region 4 with (go_at_call 21; refine C0.out.mono ?_; clear C0; rintro e w1 ⟨rfl, HB⟩)
    have HA : Hid (Below w.heap.size w (w1.alloc (.cells #[.int .i64 k, .func (.func f) #[] #[], .bool b] 61))) := HB.out.alloc HB.out.size _
    have HX : Hid (∀ W, Below (w1.alloc (.cells #[.int .i64 k, .func (.func f) #[] #[], .bool b] 61)).heap.size (w1.alloc (.cells #[.int .i64 k, .func (.func f) #[] #[], .bool b] 61)) W → W.cell? ⟨w1.heap.size, 0, none⟩ = some (.int .i64 k) ∧ W.cell? ⟨w1.heap.size, 1, none⟩ = some (.func (.func f) #[] #[]) ∧ W.cell? ⟨w1.heap.size, 2, none⟩ = some (.bool b)) := fun W hW => by
      have e := World.alloc_heap_new w1 (.cells #[.int .i64 k, .func (.func f) #[] #[], .bool b] 61)
      exact cells3 ((hW.block _ (Array.getElem?_eq_some_iff.1 e).1).trans e)
    generalize w1.alloc (.cells #[.int .i64 k, .func (.func f) #[] #[], .bool b] 61) = W1 at HA HX ⊢
    have HS : Hid (Below W1.heap.size W1 W1) := Below.refl _ _
    have D1 : Hid (∀ W, Hid (Below W1.heap.size W1 W) → Calls Tryz.prog 22 #[v, .int .i64 i] W fun e W' => e = .returned (.int .i64 (p : Nat)) ∧ Hid (Below W1.heap.size W1 W')) := fun W hW => (C1.out W (Below.on HA.out hW.out)).mono fun e W' ⟨q1, q2⟩ => ⟨q1, Below.on hW.out q2.out⟩
    have D2 : Hid (∀ W, Hid (Below W1.heap.size W1 W) → Calls Tryz.prog 23 #[v, .int .i64 (p : Nat), .int .i64 (max g (-1))] W fun e W' => e = .returned (.int .i64 cv) ∧ Hid (Below W1.heap.size W1 W')) := fun W hW => (C2.out W (Below.on HA.out hW.out)).mono fun e W' ⟨q1, q2⟩ => ⟨q1, Below.on hW.out q2.out⟩
    have D3 : Hid (∀ W, Hid (Below W1.heap.size W1 W) → Calls Tryz.prog f #[v, .int .i64 (p : Nat), .int .i64 wv, .int .i64 (min (max n 1) 1000)] W fun e W' => e = .returned (.tuple #[.int .i64 R1, .bool R2]) ∧ Hid (Below W1.heap.size W1 W')) := fun W hW => (C3.out W (Below.on HA.out hW.out)).mono fun e W' ⟨q1, q2⟩ => ⟨q1, Below.on hW.out q2.out⟩
    clear C1 C2 C3 hp hw HB
    obtain ⟨x0, x1, x2⟩ := HX.out _ HS.out
    cases b with
    | false =>
      rw [if_neg (by simp)] at hwf
      subst hwf
      clear D2
      cases R2 with
      | true =>
        go_wp2_with (first
          | (go_at_call 22; refine (D1.out _ HS).mono ?_; clear D1 HS x0 x1 x2; rintro e w2 ⟨rfl, HB2⟩; obtain ⟨x0, x1, x2⟩ := HX.out _ HB2.out)
          | (go_at_fn f; refine (D3.out _ HB2).mono ?_; clear D3 HB2 x0 x1 x2; rintro e w3 ⟨rfl, HB3⟩))
        go_ret3
        exact ⟨by rw [← HT.out]; rfl, Below.on HA.out HB3.out⟩
      | false =>
        go_wp2_with (first
          | (go_at_call 22; refine (D1.out _ HS).mono ?_; clear D1 HS x0 x1 x2; rintro e w2 ⟨rfl, HB2⟩; obtain ⟨x0, x1, x2⟩ := HX.out _ HB2.out)
          | (go_at_fn f; refine (D3.out _ HB2).mono ?_; clear D3 HB2 x0 x1 x2; rintro e w3 ⟨rfl, HB3⟩))
        go_ret3
        exact ⟨by rw [← HT.out]; rfl, Below.on HA.out HB3.out⟩
    | true =>
      rw [if_pos rfl] at hwf
      subst hwf
      cases R2 with
      | true =>
        go_wp2_with (first
          | (go_at_call 22; refine (D1.out _ HS).mono ?_; clear D1 HS x0 x1 x2; rintro e w2 ⟨rfl, HB2⟩; obtain ⟨x0, x1, x2⟩ := HX.out _ HB2.out)
          | (go_at_call 23; refine (D2.out _ HB2).mono ?_; clear D2 HB2 x0 x1 x2; rintro e w4 ⟨rfl, HB4⟩; obtain ⟨x0, x1, x2⟩ := HX.out _ HB4.out)
          | (go_at_fn f; refine (D3.out _ HB4).mono ?_; clear D3 HB4 x0 x1 x2; rintro e w3 ⟨rfl, HB3⟩))
        go_ret3
        exact ⟨by rw [← HT.out]; rfl, Below.on HA.out HB3.out⟩
      | false =>
        go_wp2_with (first
          | (go_at_call 22; refine (D1.out _ HS).mono ?_; clear D1 HS x0 x1 x2; rintro e w2 ⟨rfl, HB2⟩; obtain ⟨x0, x1, x2⟩ := HX.out _ HB2.out)
          | (go_at_call 23; refine (D2.out _ HB2).mono ?_; clear D2 HB2 x0 x1 x2; rintro e w4 ⟨rfl, HB4⟩; obtain ⟨x0, x1, x2⟩ := HX.out _ HB4.out)
          | (go_at_fn f; refine (D3.out _ HB4).mono ?_; clear D3 HB4 x0 x1 x2; rintro e w3 ⟨rfl, HB3⟩))
        go_ret3
        exact ⟨by rw [← HT.out]; rfl, Below.on HA.out HB3.out⟩
  · rw [h1] at C
    rw [if_neg h2]
    have C0 : Hid (Calls Tryz.prog 21 #[.int .i64 k] w fun e w' => e = .returned (.tuple #[.agg #[.int .i64 0, .nilFunc, .bool false], .bool false]) ∧ Hid (Below w.heap.size w w')) := C
    clear C h1 h2 h hM
    go_enter Tryz.func8, Tryz.ntmps8
    go_wp2_with (go_at_call 21; refine C0.out.mono ?_; clear C0; rintro e w0 ⟨rfl, HB⟩)
    go_ret3
    exact ⟨rfl, HB.out.alloc HB.out.size _⟩
end
end Go.Proofs.YtplieccalmkloaaGreatDoor.Sto
