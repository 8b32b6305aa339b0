/-
  The walks of the document's own copies of At, at a boundary, and of Capital. Conditions: the text is so short that its lists can be made.
-/
import Derived.Test.YtoijjkbnmicadaaDoorWRefG
import Derived.Lib.QuietBelow
import Derived.BigQuiet
namespace Go.Proofs.YtoijjkbnmicadaaDoor
open Go.RowKit Go.Sort Bod Wid

set_option maxHeartbeats 2000000 in
set_option maxRecDepth 100000 in
theorem rat_at (s : ByteArray) (a : Nat) (ha : B s a) (hal : a < s.size) (hs : s.size ≤ 4398046511000) (w : World) :
    Calls Tryd.prog 53 #[.string s, .int .i64 a] w fun e W' => e = .returned (.tuple #[.agg #[.int .i32 (ch s a), .int .i64 (sz s a)], .bool true]) ∧ Below w.heap.size w W' := by
  obtain ⟨W0, hW0⟩ : ∃ W0, w.alloc (.cells #[.int .i32 0, .int .i64 0] 74) = W0 := ⟨_, rfl⟩
  have hb0 : Below w.heap.size w W0 := by rw [← hW0]; exact (Below.refl _ w).alloc (Nat.le_refl _) _
  have r0 : W0.heap[w.heap.size]? = some (.cells #[.int .i32 0, .int .i64 0] 74 (0, 0)) := by rw [← hW0]; exact World.alloc_heap_new w _
  have hz0 : w.heap.size < W0.heap.size := (Array.getElem?_eq_some_iff.1 r0).1
  obtain ⟨n, hn⟩ : ∃ n, (offs s 0).length = n := ⟨_, rfl⟩
  have HN : Hid ((offs s 0).length = n) := hn
  have hnb : n ≤ s.size := by rw [← hn]; exact offs_len_le s
  have CU : Hid (Calls Tryd.prog 65 #[.string s] W0 fun e W' => ∃ la cap, e = .returned (.slice la n cap) ∧ Hid (∀ (j x : Nat), (offs s 0)[j]? = some x → ∃ g, la = some ⟨g, 0, none⟩ ∧ g < W'.heap.size ∧ W'.cell? ⟨g, j * 2, none⟩ = some (.int .i32 (ch s x)) ∧ W'.cell? ⟨g, j * 2 + 1, none⟩ = some (.int .i64 (sz s x))) ∧ Hid (W'.heap[w.heap.size]? = some (.cells #[.int .i32 0, .int .i64 0] 74 (0, 0)) ∧ Below w.heap.size w W')) := (runits_rd s hs W0 n hn).mono fun e W' ⟨la, cap, h1, h2, h3⟩ => ⟨la, cap, h1, h2, (h3.block _ hz0).trans r0, hb0.trans (h3.mono hb0.size)⟩
  have HA : Hid (B s a) := ha
  clear hb0 r0 hz0 hn ha
  go_enter Tryd.func53, Tryd.ntmps53
  go_wp2_with (go_at_call 65; refine CU.out.mono ?_; clear CU hW0; rintro e w1 ⟨la, cap, rfl, HG, HC⟩)
  go_loopw [7, 8] (fun x t wr => ∃ (pre : List Nat) (i : Nat), x = .int .i64 i ∧ t = .int .i64 pre.length ∧ i ≤ a ∧ B s i ∧ pre ++ offs s i = offs s 0 ∧ w1 = wr) (fun x _ _ => s.size - (intOf x).toNat)
  case atStart => exact ⟨[], 0, rfl, rfl, Nat.zero_le _, B_zero s, rfl, rfl⟩
  case round =>
    obtain ⟨pre, i, rfl, rfl, hia, hBi, hpre, rfl⟩ := hrel
    have hlt : i < s.size := by omega
    have hpos := sz_pos hlt
    have hin := sz_in hlt
    have hpl := congrArg List.length hpre
    rw [List.length_append, HN.out, offs_step hlt, List.length_cons] at hpl
    have hkl : (pre.length : Int) < n := by omega
    have hat : (offs s 0)[pre.length]? = some i := by rw [← hpre, offs_step hlt]; simp
    obtain ⟨g, rfl, hgl, d0, d1⟩ := HG.out _ _ hat
    by_cases e : i = a
    · subst e
      obtain ⟨hr, hb⟩ := HC.out
      have z0 : w1.cell? ⟨w.heap.size, 0, none⟩ = some (.int .i32 0) := by simp [World.cell?, hr]
      have z1 : w1.cell? ⟨w.heap.size, 1, none⟩ = some (.int .i64 0) := by simp [World.cell?, hr]
      have f0 : w1.frozen? ⟨w.heap.size, 0, none⟩ = false := by simp [World.frozen?, hr]
      have f1 : w1.frozen? ⟨w.heap.size, 1, none⟩ = false := by simp [World.frozen?, hr]
      have hl : w.heap.size < w1.heap.size := (Array.getElem?_eq_some_iff.1 hr).1
      have HB : Hid (Below w.heap.size w w1) := hb
      clear hr hb HG hpre hBi hat hpl
      go_wp2
      exact bodyPost_ret (v := .tuple #[.agg #[.int .i32 (ch s i), .int .i64 (sz s i)], .bool true]) (by simp [results, Tryd.results53, go_sem, z0, z1]) rfl ⟨rfl, (HB.out.setCell (p := ⟨w.heap.size, 0, none⟩) (Nat.le_refl _) _).setCell (p := ⟨w.heap.size, 1, none⟩) (Nat.le_refl _) _⟩
    · have hne : ((i : Int) == (a : Int)) = false := beq_eq_false_iff_ne.2 (by omega)
      have HP : Hid (i + sz s i ≤ a ∧ B s (i + sz s i) ∧ pre ++ [i] ++ offs s (i + sz s i) = offs s 0) := ⟨HA.out.2 i (by omega), B_next hBi hlt, by rw [← hpre, offs_step hlt]; simp⟩
      clear HG hpre hBi hat hpl e
      go_wp2
      exact ⟨⟨pre ++ [i], i + sz s i, by first | rfl | simp, by simp, HP.out.1, HP.out.2.1, HP.out.2.2, trivial⟩, by simp [intOf]; omega⟩

theorem capG_take {s : ByteArray} {k i : Nat} {p : Nat × Nat} (hp : (words s)[k]? = some p) (hi : i ≠ p.1) : capG ((words s).take (k + 1)) i = capG ((words s).take k) i := by
  obtain ⟨hk, ek⟩ := List.getElem?_eq_some_iff.1 hp
  funext c
  unfold capG
  rw [List.take_succ_eq_append_getElem hk, ek, List.any_append]
  have : decide (p.1 = i) = false := decide_eq_false (fun e => hi e.symm)
  simp only [List.any_cons, List.any_nil, this, Bool.or_false]
theorem capG_at {s : ByteArray} {k : Nat} {p : Nat × Nat} (hp : (words s)[k]? = some p) : capG ((words s).take (k + 1)) p.1 = upc := by
  obtain ⟨hk, ek⟩ := List.getElem?_eq_some_iff.1 hp
  funext c
  unfold capG
  rw [List.take_succ_eq_append_getElem hk, ek, List.any_append]
  simp
/-- one word's first unit is put -/
theorem cap_put {s : ByteArray} {k : Nat} {p : Nat × Nat} (hp : (words s)[k]? = some p) :
    (fm (capG ((words s).take k)) s).extract 0 p.1 ++ fm (fun _ => upc) (s.extract p.1 (p.1 + sz s p.1)) ++ (fm (capG ((words s).take k)) s).extract (p.1 + sz s p.1) s.size = fm (capG ((words s).take (k + 1))) s := by
  obtain ⟨w1, w2, w3, w4, w5⟩ := word_B (List.mem_of_getElem? hp)
  have hz := sz_in w2
  have hpos := sz_pos w2
  have hg := gd_cap ((words s).take k)
  have hh := gd_cap ((words s).take (k + 1))
  have e1 := fm_at (g := capG ((words s).take k)) w1 w2
  have e2 := fm_at (g := capG ((words s).take (k + 1))) w1 w2
  have l1 : (fs (capG ((words s).take k)) s 0 p.1).length = p.1 := by rw [fs_len hg w1 p.1 0 (by omega) (Nat.zero_le _)]; omega
  have l2 := pc_len hg w2
  have l3 : (fs (capG ((words s).take k)) s (p.1 + sz s p.1) s.size).length = s.size - (p.1 + sz s p.1) := fs_len hg (B_end s) s.size _ (by omega) hz
  have c1 : fs (capG ((words s).take (k + 1))) s 0 p.1 = fs (capG ((words s).take k)) s 0 p.1 := fs_congr (by omega) p.1 0 (by omega) (fun i _ h => capG_take hp (by omega))
  have c2 : fs (capG ((words s).take (k + 1))) s (p.1 + sz s p.1) s.size = fs (capG ((words s).take k)) s (p.1 + sz s p.1) s.size := fs_congr (Nat.le_refl _) s.size _ (by omega) (fun i h _ => capG_take hp (by omega))
  have c3 : pc (capG ((words s).take (k + 1))) s p.1 = pc (fun _ => upc) s p.1 := by unfold pc; rw [capG_at hp]
  apply ByteArray.ext
  apply Array.ext'
  rw [data_app, data_app, Lib.extract_data, Lib.extract_data, fm_sub (B_next w1 w2) (by omega), fs_one w2, e1, e2, c1, c2, c3, List.drop_zero, Nat.sub_zero]
  have t1 : (fs (capG ((words s).take k)) s 0 p.1 ++ pc (capG ((words s).take k)) s p.1 ++ fs (capG ((words s).take k)) s (p.1 + sz s p.1) s.size).take p.1 = fs (capG ((words s).take k)) s 0 p.1 := by
    rw [List.append_assoc, List.take_append_of_le_length (by omega), List.take_of_length_le (by omega)]
  have t2 : (fs (capG ((words s).take k)) s 0 p.1 ++ pc (capG ((words s).take k)) s p.1 ++ fs (capG ((words s).take k)) s (p.1 + sz s p.1) s.size).drop (p.1 + sz s p.1) = fs (capG ((words s).take k)) s (p.1 + sz s p.1) s.size := by
    rw [List.drop_append_of_le_length (by rw [List.length_append]; omega), List.drop_of_length_le (by rw [List.length_append]; omega), List.nil_append]
  have t3 : (fs (capG ((words s).take k)) s (p.1 + sz s p.1) s.size).take (s.size - (p.1 + sz s p.1)) = fs (capG ((words s).take k)) s (p.1 + sz s p.1) s.size := List.take_of_length_le (by omega)
  rw [t1, t2, t3]

set_option maxRecDepth 100000 in
set_option maxHeartbeats 4000000 in
theorem rcapital_any (s : ByteArray) (hs : s.size ≤ 4398046511000) (w : World) :
    Calls Tryd.prog 28 #[.string s] w fun e W' => e = .returned (.string (fm (capG (words s)) s)) ∧ Below w.heap.size w W' := by
  have cL := rlower_any s hs w
  have hwl := words_len s
  have CS : Hid (∀ W, Below w.heap.size w W → Calls Tryd.prog 16 #[.string s] W fun e W' => ∃ v, e = .returned v ∧ Rd2 W' v (words s) ∧ Below w.heap.size w W') := fun W hW => (rspans_any s hs W).mono fun e w' ⟨v, h1, h2, h3⟩ => ⟨v, h1, Rd2.of_row h2, hW.trans (h3.mono hW.size)⟩
  have hM : Tryd.prog.follows .mixedOrders = true := by kernel_rfl
  have HM : Hid (Tryd.prog.follows .mixedOrders = true) := hM
  clear hM
  go_enter Tryd.func28, Tryd.ntmps28
  go_wp2_with (first | (go_at_call 26; refine cL.mono ?_; clear cL; rintro e w0 ⟨rfl, hb0⟩) | (go_at_call 16; refine (CS.out _ hb0).mono ?_; clear CS; rintro e w1 ⟨lv, rfl, hrd1, hb1⟩; obtain ⟨la, lc, rfl, hg0⟩ := hrd1; have HG : Hid (words s ≠ [] → ∃ g, la = some ⟨g, 0, none⟩ ∧ g < w1.heap.size ∧ ∀ k c, (words s)[k]? = some c → w1.cell? ⟨g, k * 2, none⟩ = some (.int .i64 c.1) ∧ w1.cell? ⟨g, k * 2 + 1, none⟩ = some (.int .i64 c.2)) := hg0; clear hg0))
  go_loopw [5, 3] (fun t5 t3 wr => ∃ (k : Nat), t5 = .int .i64 k ∧ t3 = .string (fm (capG ((words s).take k)) s) ∧ k ≤ (words s).length ∧ Below w1.heap.size w1 wr ∧ Below w.heap.size w wr) (fun t5 _ _ => (words s).length - (intOf t5).toNat)
  case atStart => exact ⟨0, rfl, rfl, Nat.zero_le _, Below.refl _ _, hb1⟩
  case round =>
    obtain ⟨k, rfl, rfl, hk, hB1, hB⟩ := hrel
    by_cases hlt : k < (words s).length
    · have hp : (words s)[k]? = some (words s)[k] := List.getElem?_eq_getElem hlt
      generalize (words s)[k] = p at hp
      obtain ⟨e1, e2, e3, e4, e5⟩ := word_B (List.mem_of_getElem? hp)
      have hzi := sz_in e2
      have hkl : (k : Int) < ((words s).length : Int) := by omega
      obtain ⟨g, rfl, hgl, hcells⟩ := HG.out (fun e => by rw [e] at hp; simp at hp)
      obtain ⟨q0, _⟩ := hcells k p hp
      have r0 : wr.cell? ⟨g, k * 2, none⟩ = some (.int .i64 p.1) := (hB1.cell (p := ⟨g, k * 2, none⟩) hgl).trans q0
      have HR : Hid (∀ W, Below wr.heap.size wr W → W.cell? ⟨g, k * 2, none⟩ = some (.int .i64 p.1)) := fun W hW => (hW.cell (p := ⟨g, k * 2, none⟩) (Nat.lt_of_lt_of_le hgl hB1.size)).trans r0
      have cA := rat_at s p.1 e1 e2 hs wr
      have HPUT := cap_put hp
      have HP : Hid ((fm (capG ((words s).take k)) s).extract 0 p.1 ++ fm (fun _ => upc) (s.extract p.1 (p.1 + sz s p.1)) ++ (fm (capG ((words s).take k)) s).extract (p.1 + sz s p.1) s.size = fm (capG ((words s).take (k + 1))) s) := HPUT
      have hxs : (fm (capG ((words s).take k)) s).size = s.size := fm_size (gd_cap _) s
      have hts : (fm (fun _ => upc) (s.extract p.1 (p.1 + sz s p.1))).size ≤ s.size := by rw [fm_size gd_up]; exact sub_size
      have CU : Hid (∀ W, Calls Tryd.prog 24 #[.string (s.extract p.1 (p.1 + sz s p.1))] W fun e w' => e = .returned (.string (fm (fun _ => upc) (s.extract p.1 (p.1 + sz s p.1)))) ∧ Below W.heap.size W w') := fun W => rupper_any _ (by have := sub_size (s := s) (a := p.1) (b := p.1 + sz s p.1); omega) W
      have HB1 : Hid (Below w1.heap.size w1 wr) := hB1
      have HB : Hid (Below w.heap.size w wr) := hB
      have hpq : p.1 + sz s p.1 ≤ s.size := hzi
      generalize fm (fun _ => upc) (s.extract p.1 (p.1 + sz s p.1)) = t at HP hts CU
      generalize hx : fm (capG ((words s).take k)) s = x at HP hxs
      clear hcells HG q0 HPUT hp e1 e3 e4 e5 hB1 hB hx
      go_wp2_with (go_at_call 53; refine cA.mono ?_; clear cA; rintro e w2 ⟨rfl, hb2⟩; have r2 := HR.out w2 hb2; have hgw : g < w2.heap.size := Nat.lt_of_lt_of_le hgl (Nat.le_trans HB1.out.size hb2.size); have HK2 : Hid (Below wr.heap.size wr w2) := hb2; clear hb2)
      have hzc : (w2.alloc (.cells #[.int .i32 (ch s p.1), .int .i64 (sz s p.1)] 74)).cell? ⟨w2.heap.size, 1, none⟩ = some (.int .i64 (sz s p.1)) := by simp
      have q1 := cell_regrown hzc
      have cQ := regrown (W := w2.alloc (.cells #[.int .i32 (ch s p.1), .int .i64 (sz s p.1)] 74)) (f := 24) (args := #[.string (s.extract p.1 (p.1 + sz s p.1))]) (v := .string t) (fun W hW => CU.out W)
      have HBW : Hid (Below wr.heap.size wr (w2.alloc (.cells #[.int .i32 (ch s p.1), .int .i64 (sz s p.1)] 74))) := HK2.out.alloc HK2.out.size _
      have a1 : IntKind.i64.wrap ((p.1 : Int) + (sz s p.1 : Int)) = (p.1 : Int) + (sz s p.1 : Int) := by rw [IntKind.wrap_i64]; omega
      have a2 : ((p.1 : Int) + (sz s p.1 : Int)).toNat = p.1 + sz s p.1 := by omega
      have a3 : (0 : Int) ≤ (p.1 : Int) + (sz s p.1 : Int) := by omega
      have a4 : (p.1 : Int) + (sz s p.1 : Int) ≤ (s.size : Int) := by omega
      have a5 : (p.1 : Int) ≤ (x.size : Int) := by omega
      have a6 : (p.1 : Int) + (sz s p.1 : Int) ≤ (x.size : Int) := by omega
      have a7 : (p.1 : Int) ≤ (p.1 : Int) + (sz s p.1 : Int) := by omega
      clear hzc HR r2 CU
      refine wp_region_quiet_below HM.out (by kernel_rfl) ?_
      repeat (go_big_quiet_step (exact cQ _ _))
      refine wpQuiet_nil ?_
      intro _ hw'
      obtain ⟨⟨dq, osq⟩, hw''⟩ := hw'
      subst hw''
      have HBZ : Hid (Below wr.heap.size wr (grow (redrawn (w2.alloc (.cells #[.int .i32 (ch s p.1), .int .i64 (sz s p.1)] 74)) dq) osq)) := HBW.out.trans ((below_regrown _ dq osq).mono HBW.out.size)
      clear cQ q1 HBW
      go_wp2
      exact ⟨⟨k + 1, by first | rfl | simp, by rw [HP.out], by omega, HB1.out.trans (HBZ.out.mono HB1.out.size), HB.out.trans (HBZ.out.mono HB.out.size)⟩, by simp [intOf]; omega⟩
    · have hkl : ¬ ((k : Int) < ((words s).length : Int)) := by omega
      have HE : Hid ((words s).take k = words s) := List.take_of_length_le (by omega)
      clear HG
      go_wp2
      go_ret
      exact ⟨ret_str (by rw [HE.out]), hB⟩
end Go.Proofs.YtoijjkbnmicadaaDoor
