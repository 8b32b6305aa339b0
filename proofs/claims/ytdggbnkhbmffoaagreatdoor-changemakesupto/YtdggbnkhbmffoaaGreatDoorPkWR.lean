/-
  The document's own package word: Spans, Ahead and Behind. Conditions: those of each theorem.
-/
import Derived.Test.YtdggbnkhbmffoaaGreatDoorPkV
import Derived.Test.YtdggbnkhbmffoaaGreatDoorPkC
import Derived.Test.YtdggbnkhbmffoaaGreatDoorPkY
import Derived.Deep.AppendLies
import Derived.Test.YtdggbnkhbmffoaaGreatDoorPkB
import Derived.Test.YtdggbnkhbmffoaaGreatDoorCRd
import Derived.Test.YtdggbnkhbmffoaaGreatDoorPkYL
import Derived.Deep.RegionHeld3
import Derived.Test.YtdggbnkhbmffoaaGreatDoorKBase
import Derived.Test.YtdggbnkhbmffoaaGreatDoorPkWC
namespace Go.Proofs.YtdggbnkhbmffoaaGreatDoor
open Go.RowKit Bod Wid

theorem but_ne : butR ≠ [] := by decide
theorem wch_word {c : Int} (h : (48 ≤ c ∧ c ≤ 57) ∨ (65 ≤ c ∧ c ≤ 90) ∨ (97 ≤ c ∧ c ≤ 122) ∨ c = 95) : wch c = true := by
  unfold wch
  rw [decide_eq_true h, Bool.true_or]
theorem wch_low {c : Int} (h : ¬ ((48 ≤ c ∧ c ≤ 57) ∨ (65 ≤ c ∧ c ≤ 90) ∨ (97 ≤ c ∧ c ≤ 122) ∨ c = 95)) (h1 : c < 170) : wch c = false := by
  unfold wch
  rw [decide_eq_false h, decide_eq_false (show ¬ 170 ≤ c by omega)]
  rfl
theorem wch_high {c : Int} (h : 170 ≤ c) : wch c = (!inR butR c && decide (cls c = 3 ∨ cls c = 4 ∨ cls c = 0)) := by
  unfold wch
  rw [decide_eq_false (show ¬ ((48 ≤ c ∧ c ≤ 57) ∨ (65 ≤ c ∧ c ≤ 90) ∨ (97 ≤ c ∧ c ≤ 122) ∨ c = 95) by omega), decide_eq_true h]
  simp
set_option maxHeartbeats 4000000 in
set_option maxRecDepth 100000 in
theorem risword_any (c : Int) (w : World) : Calls Tryz.prog 98 #[.int .i32 c] w fun e w' => e = .returned (.bool (wch c)) ∧ Below w.heap.size w w' := by
  by_cases hh : 170 ≤ c
  · rw [wch_high hh]
    have AM : Hid (∀ (W : World) (v : Value), Rg W v butR → Calls Tryz.prog 96 #[v, .int .i32 c] W fun e w' => e = .returned (.bool (inR butR c)) ∧ W = w') := fun W v h => within_list butR c v W (by decide) h
    have AC : Hid (∀ (W : World), Calls Tryz.prog 66 #[.int .i32 c] W fun e w' => e = .returned (.int .i64 (cls c)) ∧ Below W.heap.size W w') := fun W => rclass_any c W
    generalize inR butR c = b at AM
    generalize cls c = k at AC
    have n1 : ¬ c ≤ 57 := by omega
    have n2 : ¬ c ≤ 90 := by omega
    have n3 : ¬ c ≤ 122 := by omega
    have n4 : ¬ c = 95 := by omega
    have n5 : 48 ≤ c := by omega
    have n6 : 65 ≤ c := by omega
    have n7 : 97 ≤ c := by omega
    have n8 : ¬ c < 170 := by omega
    cases b with
    | true =>
      go_enter Tryz.func98, Tryz.ntmps98
      go_wp2_with (first | (go_at_call 97; refine (table_any _ butR (by decide +kernel) but_ne (by decide) (by kernel_rfl) (by kernel_rfl) _).mono ?_; rintro e w1 ⟨v1, rfl, hrow1, hb1⟩) | (go_at_call 96; refine (AM.out _ _ (Rg.of_own hrow1)).mono ?_; rintro e w2 ⟨rfl, rfl⟩))
      all_goals go_ret
      all_goals exact ⟨rfl, hb1⟩
    | false =>
      have key : ∀ B : Bool, (decide (k = 3 ∨ k = 4 ∨ k = 0) = B) → Calls Tryz.prog 98 #[.int .i32 c] w fun e w' => e = .returned (.bool B) ∧ Below w.heap.size w w' := by
        intro B hB
        by_cases k3 : k = 3
        · subst k3
          have hB : true = B := by rw [← hB]; rfl
          subst hB
          go_enter Tryz.func98, Tryz.ntmps98
          go_wp2_with (first | (go_at_call 97; refine (table_any _ butR (by decide +kernel) but_ne (by decide) (by kernel_rfl) (by kernel_rfl) _).mono ?_; rintro e w1 ⟨v1, rfl, hrow1, hb1⟩) | (go_at_call 96; refine (AM.out _ _ (Rg.of_own hrow1)).mono ?_; rintro e w2 ⟨rfl, rfl⟩) | (go_at_call 66; refine (AC.out _).mono ?_; rintro e w3 ⟨rfl, hb3⟩))
          all_goals go_ret
          all_goals exact ⟨rfl, hb1.trans (hb3.mono hb1.size)⟩
        · by_cases k4 : k = 4
          · subst k4
            have hB : true = B := by rw [← hB]; rfl
            subst hB
            go_enter Tryz.func98, Tryz.ntmps98
            go_wp2_with (first | (go_at_call 97; refine (table_any _ butR (by decide +kernel) but_ne (by decide) (by kernel_rfl) (by kernel_rfl) _).mono ?_; rintro e w1 ⟨v1, rfl, hrow1, hb1⟩) | (go_at_call 96; refine (AM.out _ _ (Rg.of_own hrow1)).mono ?_; rintro e w2 ⟨rfl, rfl⟩) | (go_at_call 66; refine (AC.out _).mono ?_; rintro e w3 ⟨rfl, hb3⟩))
            all_goals go_ret
            all_goals exact ⟨rfl, hb1.trans (hb3.mono hb1.size)⟩
          · have e3 : (k == 3) = false := by simpa using k3
            have e4 : (k == 4) = false := by simpa using k4
            have hB2 : (k == 0) = B := by
              rw [← hB]
              by_cases k0 : k = 0
              · rw [decide_eq_true (.inr (.inr k0)), k0]; rfl
              · rw [decide_eq_false (by omega)]; simpa using k0
            go_enter Tryz.func98, Tryz.ntmps98
            go_wp2_with (first | (go_at_call 97; refine (table_any _ butR (by decide +kernel) but_ne (by decide) (by kernel_rfl) (by kernel_rfl) _).mono ?_; rintro e w1 ⟨v1, rfl, hrow1, hb1⟩) | (go_at_call 96; refine (AM.out _ _ (Rg.of_own hrow1)).mono ?_; rintro e w2 ⟨rfl, rfl⟩) | (go_at_call 66; refine (AC.out _).mono ?_; rintro e w3 ⟨rfl, hb3⟩))
            all_goals go_ret
            all_goals exact ⟨by first | rfl | (rw [← hB2]; rfl), hb1.trans (hb3.mono hb1.size)⟩
      have := key _ rfl
      simpa using this
  · have n8 : c < 170 := by omega
    by_cases hw : (48 ≤ c ∧ c ≤ 57) ∨ (65 ≤ c ∧ c ≤ 90) ∨ (97 ≤ c ∧ c ≤ 122) ∨ c = 95
    · rw [wch_word hw]
      rcases hw with ⟨h1, h2⟩ | ⟨h1, h2⟩ | ⟨h1, h2⟩ | h1
      · go_enter Tryz.func98, Tryz.ntmps98
        go_wp2
        go_ret
        exact ⟨rfl, Below.refl _ _⟩
      · have m1 : ¬ c ≤ 57 := by omega
        have m0 : 48 ≤ c := by omega
        go_enter Tryz.func98, Tryz.ntmps98
        go_wp2
        go_ret
        exact ⟨rfl, Below.refl _ _⟩
      · have m1 : ¬ c ≤ 57 := by omega
        have m0 : 48 ≤ c := by omega
        have m2 : ¬ c ≤ 90 := by omega
        have m3 : 65 ≤ c := by omega
        go_enter Tryz.func98, Tryz.ntmps98
        go_wp2
        go_ret
        exact ⟨rfl, Below.refl _ _⟩
      · subst h1
        go_enter Tryz.func98, Tryz.ntmps98
        go_wp2
        go_ret
        exact ⟨rfl, Below.refl _ _⟩
    · rw [wch_low hw n8]
      rcases (show c < 48 ∨ (58 ≤ c ∧ c < 65) ∨ (91 ≤ c ∧ c < 97 ∧ c ≠ 95) ∨ 123 ≤ c by omega) with h | ⟨h, h'⟩ | ⟨h, h', h''⟩ | h
      · have m0 : ¬ 48 ≤ c := by omega
        have m3 : ¬ 65 ≤ c := by omega
        have m5 : ¬ 97 ≤ c := by omega
        have m6 : ¬ c = 95 := by omega
        go_enter Tryz.func98, Tryz.ntmps98
        go_wp2
        go_ret
        exact ⟨rfl, Below.refl _ _⟩
      · have m0 : 48 ≤ c := by omega
        have m1 : ¬ c ≤ 57 := by omega
        have m3 : ¬ 65 ≤ c := by omega
        have m5 : ¬ 97 ≤ c := by omega
        have m6 : ¬ c = 95 := by omega
        go_enter Tryz.func98, Tryz.ntmps98
        go_wp2
        go_ret
        exact ⟨rfl, Below.refl _ _⟩
      · have m0 : 48 ≤ c := by omega
        have m1 : ¬ c ≤ 57 := by omega
        have m3 : 65 ≤ c := by omega
        have m4 : ¬ c ≤ 90 := by omega
        have m5 : ¬ 97 ≤ c := by omega
        have m6 : ¬ c = 95 := by omega
        go_enter Tryz.func98, Tryz.ntmps98
        go_wp2
        go_ret
        exact ⟨rfl, Below.refl _ _⟩
      · have m0 : 48 ≤ c := by omega
        have m1 : ¬ c ≤ 57 := by omega
        have m3 : 65 ≤ c := by omega
        have m4 : ¬ c ≤ 90 := by omega
        have m5 : 97 ≤ c := by omega
        have m7 : ¬ c ≤ 122 := by omega
        have m6 : ¬ c = 95 := by omega
        go_enter Tryz.func98, Tryz.ntmps98
        go_wp2
        go_ret
        exact ⟨rfl, Below.refl _ _⟩
end Go.Proofs.YtdggbnkhbmffoaaGreatDoor
namespace Go.Proofs.YtdggbnkhbmffoaaGreatDoor
open Go.RowKit Bod Wid

set_option maxHeartbeats 2000000 in
set_option maxRecDepth 100000 in
theorem rat0_any (s : ByteArray) (h0 : 0 < s.size) (hs : s.size * 16 ≤ 140737488355328) (w : World) :
    Calls Tryz.prog 70 #[.string s, .int .i64 0] w fun e W' => e = .returned (.tuple #[.agg #[.int .i32 (ch s 0), .int .i64 (sz s 0)], .bool true]) ∧ Below w.heap.size w W' := by
  obtain ⟨W0, hW0⟩ : ∃ W0, w.alloc (.cells #[.int .i32 0, .int .i64 0] 83) = W0 := ⟨_, rfl⟩
  have hb0 : Below w.heap.size w W0 := by rw [← hW0]; exact (Below.refl _ w).alloc (Nat.le_refl _) _
  have r0 : W0.heap[w.heap.size]? = some (.cells #[.int .i32 0, .int .i64 0] 83 (0, 0)) := by rw [← hW0]; exact World.alloc_heap_new w _
  have hz0 : w.heap.size < W0.heap.size := (Array.getElem?_eq_some_iff.1 r0).1
  obtain ⟨n, hn⟩ : ∃ n, (offs s 0).length = n := ⟨_, rfl⟩
  have hn0 : 0 < n := by rw [← hn, offs_step h0]; simp
  have hnb : n ≤ s.size := by rw [← hn]; exact offs_len_le s
  have CU : Hid (Calls Tryz.prog 64 #[.string s] W0 fun e W' => ∃ g cap, e = .returned (.slice (some ⟨g, 0, none⟩) n cap) ∧ Hid ((W'.cell? ⟨g, 0, none⟩ = some (.int .i32 (ch s 0)) ∧ W'.cell? ⟨g, 1, none⟩ = some (.int .i64 (sz s 0))) ∧ W'.heap[w.heap.size]? = some (.cells #[.int .i32 0, .int .i64 0] 83 (0, 0)) ∧ Below w.heap.size w W')) := (runits_any s hs W0).mono fun e W' ⟨v, h1, h2, h3⟩ => by
    have h00 : (offs s 0)[0]? = some 0 := by rw [offs_step h0]; rfl
    obtain ⟨u0, u1⟩ := ucells_get s (offs s 0) 0 0 h00
    rw [hn] at h2
    obtain ⟨g, cap, rfl, _, _⟩ := h2.form hn0
    exact ⟨g, cap, h1, ⟨(h2.cellAt 0 (by omega)).trans u0, (h2.cellAt 1 (by omega)).trans u1⟩, (h3.block _ hz0).trans r0, hb0.trans (h3.mono hb0.size)⟩
  clear hb0 r0 hz0 hn
  go_enter Tryz.func70, Tryz.ntmps70
  go_wp2_with (go_at_call 64; refine CU.out.mono ?_; clear CU hW0; rintro e w1 ⟨g, cap, rfl, HC⟩)
  go_loopw [7, 8] (fun x t wr => x = .int .i64 0 ∧ t = .int .i64 0 ∧ w1 = wr) (fun _ _ _ => 0)
  case atStart => exact ⟨rfl, rfl, rfl⟩
  case round =>
    obtain ⟨rfl, rfl, rfl⟩ := hrel
    obtain ⟨⟨c0, c1⟩, hr, hb⟩ := HC.out
    have z0 : w1.cell? ⟨w.heap.size, 0, none⟩ = some (.int .i32 0) := by simp [World.cell?, hr]
    have z1 : w1.cell? ⟨w.heap.size, 1, none⟩ = some (.int .i64 0) := by simp [World.cell?, hr]
    have f0 : w1.frozen? ⟨w.heap.size, 0, none⟩ = false := by simp [World.frozen?, hr]
    have f1 : w1.frozen? ⟨w.heap.size, 1, none⟩ = false := by simp [World.frozen?, hr]
    have hl : w.heap.size < w1.heap.size := (Array.getElem?_eq_some_iff.1 hr).1
    have HB : Hid (Below w.heap.size w w1) := hb
    clear hr hb
    go_wp2
    exact bodyPost_ret (v := .tuple #[.agg #[.int .i32 (ch s 0), .int .i64 (sz s 0)], .bool true]) (by simp [results, Tryz.results70, go_sem, z0, z1]) rfl ⟨rfl, (HB.out.setCell (p := ⟨w.heap.size, 0, none⟩) (Nat.le_refl _) _).setCell (p := ⟨w.heap.size, 1, none⟩) (Nat.le_refl _) _⟩
set_option maxHeartbeats 2000000 in
set_option maxRecDepth 100000 in
theorem rwordly_any (s : ByteArray) (i j : Nat) (k n : Int) (hi : i < s.size) (h1 : i + sz s i ≤ j) (hj : j ≤ s.size) (hs : s.size * 16 ≤ 140737488355328) (w : World) :
    Calls Tryz.prog 68 #[.string s, .agg #[.int .i64 i, .int .i64 j, .int .i64 k, .int .i64 n]] w fun e W' => e = .returned (.bool (wch (ch s i))) ∧ Below w.heap.size w W' := by
  have hz : 1 ≤ sz s i := (dec_sz (s.size - i) (bt s i) (bt s (i + 1)) (bt s (i + 2)) (bt s (i + 3)) (by omega)).1
  obtain ⟨e1, e2⟩ := ch_first hi h1 hj
  have hsz : (s.extract i j).size = j - i := size_extract s i j hj
  have CA : Hid (∀ W, Calls Tryz.prog 70 #[.string (s.extract i j), .int .i64 0] W fun e W' => e = .returned (.tuple #[.agg #[.int .i32 (ch s i), .int .i64 (sz s i)], .bool true]) ∧ Below W.heap.size W W') := fun W => by
    rw [← e1, ← e2]
    exact rat0_any _ (by omega) (by omega) W
  have CI : Hid (∀ W, Calls Tryz.prog 98 #[.int .i32 (ch s i)] W fun e W' => e = .returned (.bool (wch (ch s i))) ∧ Below W.heap.size W W') := fun W => risword_any _ W
  generalize ch s i = c at CA CI
  generalize sz s i = z at CA
  clear e1 e2 hsz
  have hij : i ≤ j := by omega
  obtain ⟨W0, hW0⟩ : ∃ W0, w.alloc (.cells #[.int .i64 i, .int .i64 j, .int .i64 k, .int .i64 n] 75) = W0 := ⟨_, rfl⟩
  have HB0 : Hid (Below w.heap.size w W0) := by show Below _ _ _; rw [← hW0]; exact (Below.refl _ w).alloc (Nat.le_refl _) _
  have r0 : W0.heap[w.heap.size]? = some (.cells #[.int .i64 i, .int .i64 j, .int .i64 k, .int .i64 n] 75 (0, 0)) := by rw [← hW0]; exact World.alloc_heap_new w _
  have z0 : W0.cell? ⟨w.heap.size, 0, none⟩ = some (.int .i64 i) := by simp [World.cell?, r0]
  have z1 : W0.cell? ⟨w.heap.size, 1, none⟩ = some (.int .i64 j) := by simp [World.cell?, r0]
  clear r0
  go_enter Tryz.func68, Tryz.ntmps68
  go_wp2_with (first | (go_at_call 70; refine (CA.out _).mono ?_; clear CA; rintro e w1 ⟨rfl, hb1⟩; have HB1 : Hid (Below w.heap.size w w1) := HB0.out.trans (hb1.mono HB0.out.size); clear hb1) | (go_at_call 98; refine (CI.out _).mono ?_; clear CI; rintro e w2 ⟨rfl, hb2⟩; have HB2 : Hid (Below w.heap.size w w2) := (HB1.out.alloc HB1.out.size _).trans (hb2.mono (by have := HB1.out.size; simp; omega)); clear hb2))
  go_ret
  exact ⟨rfl, HB2.out⟩
end Go.Proofs.YtdggbnkhbmffoaaGreatDoor
namespace Go.Proofs.YtdggbnkhbmffoaaGreatDoor
open Go.RowKit Bod Wid

theorem cl_first {s : ByteArray} {c : Clu} (h : c ∈ cl s) : c.fr < s.size ∧ c.fr + sz s c.fr ≤ c.to ∧ c.to ≤ s.size := by
  obtain ⟨h1, h2⟩ := cl_span h
  obtain ⟨m, hm, hB⟩ := cb_B (cl_cb s c h).1
  have : c.to = m := by omega
  exact ⟨by omega, by rw [this]; exact hB.2 c.fr (by omega), h2⟩
/-- the cells of spans -/
def spc (l : List (Nat × Nat)) : List Value := l.flatMap fun p => [Value.int .i64 p.1, Value.int .i64 p.2]
theorem spc_snoc (l : List (Nat × Nat)) (p : Nat × Nat) : spc (l ++ [p]) = spc l ++ [.int .i64 p.1, .int .i64 p.2] := by simp [spc]
theorem info_span : (Tryz.prog.info? 53).map (fun i => (i.zero, i.size, i.bytes)) = some (some (.agg #[.int .i64 0, .int .i64 0]), 2, 16) := by kernel_rfl
/-- rows of clusters and of spans lie apart -/
theorem rows_apart {W : World} {b b' n n' : Nat} {v v' : Value} {xs ys : List Value} (h : W.ownsRow b 75 4 v n xs) (h' : W.ownsRow b' 53 2 v' n' ys) : v.ownBlock = none ∨ v.ownBlock ≠ v'.ownBlock := by
  rcases h.2 with ⟨rfl, _⟩ | ⟨g, cap, cur, rfl, _, hg, _⟩
  · exact .inl rfl
  · refine .inr fun e => ?_
    rcases h'.2 with ⟨rfl, _⟩ | ⟨g', cap', cur', rfl, _, hg', _⟩
    · cases e
    · have e : g = g' := Option.some.inj e
      subst e
      rw [hg] at hg'
      have := Option.some.inj hg'
      injection this with _ ht _
      exact absurd ht (by decide)
/-- what lies where while the words are found -/
structure SI (w : World) (lv v : Value) (l : List Clu) (ys : List (Nat × Nat)) (W : World) : Prop where
  cls : W.ownsRow w.heap.size 75 4 lv l.length (ccl l)
  out : W.ownsRow w.heap.size 53 2 v ys.length (spc ys)
  bel : Below w.heap.size w W
theorem SI.below {w : World} {lv v : Value} {l : List Clu} {ys : List (Nat × Nat)} {W W' : World} (h : SI w lv v l ys W) (hb : Below W.heap.size W W') : SI w lv v l ys W' :=
  ⟨h.cls.kept ⟨hb.os, hb.tape, hb.output, hb.size, fun k hk _ => hb.block k hk⟩ (row := none) (by cases lv.ownBlock <;> simp), h.out.kept ⟨hb.os, hb.tape, hb.output, hb.size, fun k hk _ => hb.block k hk⟩ (row := none) (by cases v.ownBlock <;> simp), h.bel.trans (hb.mono h.bel.size)⟩
theorem SI.push {w : World} {lv v v' : Value} {l : List Clu} {ys : List (Nat × Nat)} {p : Nat × Nat} {W W1 W2 : World} (h : SI w lv v l ys W) (hb : Below W.heap.size W W1) (hg : W1.grownBy W2 v.ownBlock) (hrow : W2.ownsRow w.heap.size 53 2 v' (ys.length + 1) (spc ys ++ [.int .i64 p.1, .int .i64 p.2])) : SI w lv v' l (ys ++ [p]) W2 := by
  have h1 := h.below hb
  refine ⟨h1.cls.kept hg (rows_apart h1.cls h1.out), by rw [List.length_append, spc_snoc]; exact hrow, h1.bel.grown hg h1.bel.size (fun j e => (h1.out.lt j e).1)⟩
end Go.Proofs.YtdggbnkhbmffoaaGreatDoor
namespace Go.Proofs.YtdggbnkhbmffoaaGreatDoor
open Go.RowKit Bod Wid

theorem SI.four {w : World} {g N cap : Nat} {v : Value} {l : List Clu} {ys : List (Nat × Nat)} {W : World} (h : SI w (.slice (some ⟨g, 0, none⟩) N cap) v l ys W) {k : Nat} {c : Clu} (hc : l[k]? = some c) : W.cell? ⟨g, k * 4, none⟩ = some (.int .i64 c.fr) ∧ W.cell? ⟨g, k * 4 + 1, none⟩ = some (.int .i64 c.to) ∧ W.cell? ⟨g, k * 4 + 2, none⟩ = some (.int .i64 c.k) ∧ W.cell? ⟨g, k * 4 + 3, none⟩ = some (.int .i64 c.n) := by
  obtain ⟨a', cap', he, hr⟩ := Rd4.of_row h.cls
  injection he with e1 e2 e3
  obtain ⟨g', hg, _, hcell⟩ := hr (fun e => by rw [e] at hc; simp at hc)
  rw [hg] at e1
  have e4 : g = g' := by simpa using e1
  subst e4
  exact hcell k c hc
theorem below_ad (W : World) (o : Obj) : Below W.heap.size W (W.alloc o).drew := ((Below.refl _ W).alloc (Nat.le_refl _) o).trans ⟨rfl, rfl, rfl, Nat.le_refl _, fun _ _ => rfl⟩
theorem SI.rowa {w : World} {lv v : Value} {l : List Clu} {ys : List (Nat × Nat)} {W : World} (h : SI w lv v l ys W) (o : Obj) : (W.alloc o).drew.ownsRow w.heap.size 53 2 v ys.length (spc ys) := (h.below (below_ad W o)).out
set_option maxHeartbeats 4000000 in
set_option maxRecDepth 100000 in
theorem rspans_any (s : ByteArray) (hs : s.size ≤ 4398046511000) (w : World) :
    Calls Tryz.prog 33 #[.string s] w fun e W' => ∃ v, e = .returned v ∧ W'.ownsRow w.heap.size 53 2 v (words s).length (spc (words s)) ∧ Below w.heap.size w W' := by
  obtain ⟨l, hl⟩ : ∃ l, cl s = l := ⟨_, rfl⟩
  obtain ⟨N, hN⟩ : ∃ N, l.length = N := ⟨_, rfl⟩
  obtain ⟨p, hp⟩ : ∃ p : Clu → Bool, (fun c => wch (ch s c.fr)) = p := ⟨_, rfl⟩
  have hNs : N ≤ s.size := by rw [← hN, ← hl]; exact cl_len s
  have hw : words s = wsp p l := by unfold words; rw [hl, hp]
  have CW : Hid (∀ c ∈ l, ∀ W, Calls Tryz.prog 68 #[.string s, .agg #[.int .i64 c.fr, .int .i64 c.to, .int .i64 c.k, .int .i64 c.n]] W fun e W' => e = .returned (.bool (p c)) ∧ Below W.heap.size W W') := fun c hc W => by
    rw [← hl] at hc
    obtain ⟨h1, h2, h3⟩ := cl_first hc
    rw [← hp]
    exact rwordly_any s c.fr c.to c.k c.n h1 h2 h3 (by omega) W
  have CL : Hid (Calls Tryz.prog 31 #[.string s] w fun e W' => ∃ a cap, e = .returned (.slice a N cap) ∧ Hid (SI w (.slice a N cap) (.slice none 0 0) l [] W')) := (rlist_any s (by omega) w).mono fun e W' ⟨v, h1, h2, h3⟩ => by
    rw [hl] at h2
    obtain ⟨a, cap, rfl, _⟩ := Rd4.of_row h2
    rw [hN] at h1 h2
    exact ⟨a, cap, h1, by rw [hN]; exact h2, World.ownsRow_nil _ _ _ _, h3⟩
  obtain ⟨i0, hi, hz0, hz1, hz2⟩ := info_parts info_span
  have HN : Hid (l.length = N) := hN
  rw [hw]
  clear hw hp hl hN
  go_enter Tryz.func33, Tryz.ntmps33
  go_wp2_with (go_at_call 31; refine CL.out.mono ?_; clear CL; rintro e w1 ⟨a, cap, rfl, HS⟩)
  go_loopw [4, 5] (fun v t wr => ∃ (i : Nat) (ys : List (Nat × Nat)), t = .int .i64 i ∧ i ≤ N ∧ ys.length ≤ i ∧ Hid (SI w (.slice a N cap) v l ys wr ∧ ys ++ wfrom p l i = wsp p l)) (fun _ t _ => N - (intOf t).toNat)
  case atStart => exact ⟨0, [], rfl, Nat.zero_le _, Nat.le_refl _, ⟨HS.out, by rw [wfrom_zero]; rfl⟩⟩
  case round =>
    obtain ⟨i, ys, rfl, hiN, hys, HK⟩ := hrel
    clear HS
    by_cases hlt : i < N
    · obtain ⟨c, hc⟩ : ∃ c, l[i]? = some c := ⟨l[i]'(by rw [HN.out]; exact hlt), List.getElem?_eq_getElem _⟩
      have hcm : c ∈ l := List.mem_of_getElem? hc
      obtain ⟨a', cap', he, hr⟩ := Rd4.of_row HK.out.1.cls
      injection he with e1 e2 e3
      obtain ⟨g, hg, hgl, hcell⟩ := hr (fun e => by rw [e] at hc; simp at hc)
      rw [hg] at e1
      subst e1
      clear e2 e3 hg hr
      obtain ⟨z0, z1, z2, z3⟩ := hcell i c hc
      have HCL : Hid _ := hcell
      have CWc : Hid (∀ W, Calls Tryz.prog 68 #[.string s, .agg #[.int .i64 c.fr, .int .i64 c.to, .int .i64 c.k, .int .i64 c.n]] W fun e W' => e = .returned (.bool (p c)) ∧ Below W.heap.size W W') := CW.out c hcm
      have HC : Hid (l[i]? = some c) := hc
      clear hcell hc
      cases hpc : p c with
      | false =>
        rw [hpc] at CWc
        go_wp2_with (go_at_call 68; refine (CWc.out _).mono ?_; rintro e w2 ⟨rfl, hb2⟩; have HB2 : Hid (Below wr.heap.size wr w2) := hb2; clear hb2)
        exact ⟨⟨i + 1, ys, by go_num, by omega, by omega, ⟨HK.out.1.below HB2.out, by rw [← wfrom_not HC.out hpc]; exact HK.out.2⟩⟩, by simp [intOf]; omega⟩
      | true =>
        rw [hpc] at CWc
        have HPC : Hid (p c = true) := hpc
        by_cases hi0 : i = 0
        · subst hi0
          go_wp2_with (go_at_call 68; refine (CWc.out _).mono ?_; rintro e w2 ⟨rfl, hb2⟩; have HB2 : Hid (Below wr.heap.size wr w2) := hb2; clear hb2)
          have HQ : Hid (SI w (.slice (some ⟨g, 0, none⟩) N cap) u4 l ys w2 ∧ ys ++ (c.fr, lastTo p c.to (l.drop (0 + 1))) :: wfrom p l (0 + 1) = wsp p l) := ⟨HK.out.1.below HB2.out, by rw [← wfrom_start HC.out HPC.out (.inl rfl)]; exact HK.out.2⟩
          clear z0 z1 z2 z3 HCL CWc
          go_loopw [6] (fun t wz => ∃ (k : Nat) (c' : Clu), t = .int .i64 k ∧ 0 ≤ k ∧ k < N ∧ Hid (l[k]? = some c' ∧ lastTo p c.to (l.drop (0 + 1)) = lastTo p c'.to (l.drop (k + 1)) ∧ SI w (.slice (some ⟨g, 0, none⟩) N cap) u4 l ys wz)) (fun t _ => N - (intOf t).toNat)
          case atStart => exact ⟨0, c, by simp, Nat.le_refl _, by omega, ⟨HC.out, rfl, HQ.out.1⟩⟩
          case round =>
            obtain ⟨k, c', rfl, hk1, hk2, HL⟩ := hrel
            by_cases hkn : k + 1 < N
            · obtain ⟨e', he'⟩ : ∃ e', l[k + 1]? = some e' := ⟨l[k + 1]'(by rw [HN.out]; exact hkn), List.getElem?_eq_getElem _⟩
              have CWe : Hid (∀ W, Calls Tryz.prog 68 #[.string s, .agg #[.int .i64 e'.fr, .int .i64 e'.to, .int .i64 e'.k, .int .i64 e'.n]] W fun e W' => e = .returned (.bool (p e')) ∧ Below W.heap.size W W') := CW.out e' (List.mem_of_getElem? he')
              obtain ⟨q0, q1, q2, q3⟩ := HL.out.2.2.four he'
              have HE : Hid (l[k + 1]? = some e') := he'
              clear he'
              cases hpe : p e' with
              | true =>
                rw [hpe] at CWe
                go_wp2_with (go_at_call 68; refine (CWe.out _).mono ?_; rintro e w3 ⟨rfl, hb3⟩; have HB3 : Hid (Below wr.heap.size wr w3) := hb3; clear hb3)
                exact ⟨⟨k + 1, e', by go_num, by omega, by omega, ⟨HE.out, HL.out.2.1.trans (lastTo_step HE.out hpe), HL.out.2.2.below HB3.out⟩⟩, by simp [intOf]; omega⟩
              | false =>
                rw [hpe] at CWe
                go_wp2_with (go_at_call 68; refine (CWe.out _).mono ?_; rintro e w3 ⟨rfl, hb3⟩; have HB3 : Hid (Below wr.heap.size wr w3) := hb3; clear hb3)
                have HS3 : Hid (SI w (.slice (some ⟨g, 0, none⟩) N cap) u4 l ys w3) := HL.out.2.2.below HB3.out
                have HE2 : Hid (lastTo p c.to (l.drop (0 + 1)) = c'.to) := HL.out.2.1.trans (lastTo_stop fun c2 h2 => by rw [HE.out] at h2; cases h2; exact hpe)
                have x0 : w3.cell? ⟨g, 0, none⟩ = some (.int .i64 c.fr) := by simpa using (HS3.out.four HC.out).1
                have x1 : w3.cell? ⟨g, k * 4 + 1, none⟩ = some (.int .i64 c'.to) := (HS3.out.four HL.out.1).2.1
                have hne : Hid (u4.ownBlock ≠ some g) := by
                  rcases rows_apart HS3.out.cls HS3.out.out with h | h
                  · cases h
                  · exact fun e => h (by rw [e]; rfl)
                have hgl3 := (HS3.out.cls.lt g rfl).2
                have hzz := HS3.out.bel.size
                clear q0 q1 q2 q3 CWe hpe
                go_region_held3 (fun w' => w'.cell? ⟨g, 0, none⟩ = some (.int .i64 c.fr) ∧ w'.cell? ⟨g, k * 4 + 1, none⟩ = some (.int .i64 c'.to)) (go_keep) (first | (refine step_append_own rfl (.tmp 52) (.tmp 64) 77 rfl w.heap.size 53 i0 _ 2 16 Tryz.underlying77 hi hz0 hz1 hz2 rfl (by decide) u4 _ _ rfl (HS3.out.rowa _) ⟨w3.heap.size, 0, none⟩ 1 1 [.int .i64 (c.fr : Int), .int .i64 (c'.to : Int)] rfl rfl (fun j u h => World.news_of_block (World.alloc_heap_new w3 _) j u h) (by simp [Value.oneCell']) (by unfold maxLen; omega) (by omega) (Nat.le_trans hzz (below_ad w3 _).size) ?_; intro v9 w9 hrow9 hg9; have hbA : Hid (Below w3.heap.size w3 (w3.alloc (Obj.cells #[.int .i64 (c.fr : Int), .int .i64 (c'.to : Int)] 53)).drew) := below_ad w3 _; have d0 : w9.cell? ⟨g, 0, none⟩ = some (.int .i64 c.fr) := (grown_cell hg9 (Nat.lt_of_lt_of_le hgl3 hbA.out.size) hne.out).trans ((hbA.out.cell (p := ⟨g, 0, none⟩) hgl3).trans x0); have d1 : w9.cell? ⟨g, k * 4 + 1, none⟩ = some (.int .i64 c'.to) := (grown_cell hg9 (Nat.lt_of_lt_of_le hgl3 hbA.out.size) hne.out).trans ((hbA.out.cell (p := ⟨g, k * 4 + 1, none⟩) hgl3).trans x1)))
                go_wp2
                exact ⟨⟨0 + 1, ys ++ [(c.fr, c'.to)], by go_num, by omega, (by rw [List.length_append]; exact Nat.succ_le_succ hys), ⟨HS3.out.push hbA.out hg9 hrow9, by have h := HQ.out.2; rw [HE2.out] at h; rw [List.append_assoc]; exact h⟩⟩, by simp [intOf]; omega⟩
            · have hd2 : decide (((k : Int) + 1) < N) = false := decide_eq_false (by omega)
              go_wp2
              have HS3 : Hid (SI w (.slice (some ⟨g, 0, none⟩) N cap) u4 l ys wr) := HL.out.2.2
              have HE2 : Hid (lastTo p c.to (l.drop (0 + 1)) = c'.to) := HL.out.2.1.trans (lastTo_stop fun c2 h2 => by rw [List.getElem?_eq_none_iff.2 (by rw [HN.out]; omega)] at h2; cases h2)
              have x0 : wr.cell? ⟨g, 0, none⟩ = some (.int .i64 c.fr) := by simpa using (HS3.out.four HC.out).1
              have x1 : wr.cell? ⟨g, k * 4 + 1, none⟩ = some (.int .i64 c'.to) := (HS3.out.four HL.out.1).2.1
              have hne : Hid (u4.ownBlock ≠ some g) := by
                rcases rows_apart HS3.out.cls HS3.out.out with h | h
                · cases h
                · exact fun e => h (by rw [e]; rfl)
              have hgl3 := (HS3.out.cls.lt g rfl).2
              have hzz := HS3.out.bel.size
              go_region_held3 (fun w' => w'.cell? ⟨g, 0, none⟩ = some (.int .i64 c.fr) ∧ w'.cell? ⟨g, k * 4 + 1, none⟩ = some (.int .i64 c'.to)) (go_keep) (first | (refine step_append_own rfl (.tmp 52) (.tmp 64) 77 rfl w.heap.size 53 i0 _ 2 16 Tryz.underlying77 hi hz0 hz1 hz2 rfl (by decide) u4 _ _ rfl (HS3.out.rowa _) ⟨wr.heap.size, 0, none⟩ 1 1 [.int .i64 (c.fr : Int), .int .i64 (c'.to : Int)] rfl rfl (fun j u h => World.news_of_block (World.alloc_heap_new wr _) j u h) (by simp [Value.oneCell']) (by unfold maxLen; omega) (by omega) (Nat.le_trans hzz (below_ad wr _).size) ?_; intro v9 w9 hrow9 hg9; have hbA : Hid (Below wr.heap.size wr (wr.alloc (Obj.cells #[.int .i64 (c.fr : Int), .int .i64 (c'.to : Int)] 53)).drew) := below_ad wr _; have d0 : w9.cell? ⟨g, 0, none⟩ = some (.int .i64 c.fr) := (grown_cell hg9 (Nat.lt_of_lt_of_le hgl3 hbA.out.size) hne.out).trans ((hbA.out.cell (p := ⟨g, 0, none⟩) hgl3).trans x0); have d1 : w9.cell? ⟨g, k * 4 + 1, none⟩ = some (.int .i64 c'.to) := (grown_cell hg9 (Nat.lt_of_lt_of_le hgl3 hbA.out.size) hne.out).trans ((hbA.out.cell (p := ⟨g, k * 4 + 1, none⟩) hgl3).trans x1)))
              go_wp2
              exact ⟨⟨0 + 1, ys ++ [(c.fr, c'.to)], by go_num, by omega, (by rw [List.length_append]; exact Nat.succ_le_succ hys), ⟨HS3.out.push hbA.out hg9 hrow9, by have h := HQ.out.2; rw [HE2.out] at h; rw [List.append_assoc]; exact h⟩⟩, by simp [intOf]; omega⟩
        · obtain ⟨m, hm⟩ : ∃ m, i = m + 1 := ⟨i - 1, by omega⟩
          obtain ⟨d, hd⟩ : ∃ d, l[m]? = some d := ⟨l[m]'(by rw [HN.out]; omega), List.getElem?_eq_getElem _⟩
          have HD : Hid (l[m]? = some d) := hd
          have CWd : Hid (∀ W, Calls Tryz.prog 68 #[.string s, .agg #[.int .i64 d.fr, .int .i64 d.to, .int .i64 d.k, .int .i64 d.n]] W fun e W' => e = .returned (.bool (p d)) ∧ Below W.heap.size W W') := CW.out d (List.mem_of_getElem? hd)
          have g0 : decide (0 < i) = true := decide_eq_true (by omega)
          have hwm : IntKind.i64.wrap ((i : Int) - 1) = (m : Int) := by rw [IntKind.wrap_i64]; omega
          have hmN : (m : Int) < N := by omega
          have HNM : Hid (i = m + 1) := hm
          clear hd hm hi0
          cases hpd : p d with
          | true =>
            rw [hpd] at CWd
            go_wp2_with (first | (go_at_call 68; refine (CWc.out _).mono ?_; clear CWc; rintro e w2 ⟨rfl, hb2⟩; have HB2 : Hid (Below wr.heap.size wr w2) := hb2; obtain ⟨y0, y1, y2, y3⟩ := (HK.out.1.below hb2).four HD.out; clear hb2) | (go_at_call 68; refine (CWd.out _).mono ?_; clear CWd; rintro e w4 ⟨rfl, hb4⟩; have HB4 : Hid (Below w2.heap.size w2 w4) := hb4; clear hb4))
            exact ⟨⟨i + 1, ys, by go_num, by omega, by omega, ⟨(HK.out.1.below HB2.out).below HB4.out, by have h := HK.out.2; have h1 := HC.out; have hm := HNM.out; subst hm; rw [wfrom_in h1 HPC.out HD.out hpd] at h; exact h⟩⟩, by simp [intOf]; omega⟩
          | false =>
            rw [hpd] at CWd
            go_wp2_with (first | (go_at_call 68; refine (CWc.out _).mono ?_; clear CWc; rintro e w2 ⟨rfl, hb2⟩; have HB2 : Hid (Below wr.heap.size wr w2) := hb2; obtain ⟨y0, y1, y2, y3⟩ := (HK.out.1.below hb2).four HD.out; clear hb2) | (go_at_call 68; refine (CWd.out _).mono ?_; clear CWd; rintro e w4 ⟨rfl, hb4⟩; have HB4 : Hid (Below w2.heap.size w2 w4) := hb4; clear hb4))
            have HQ : Hid (SI w (.slice (some ⟨g, 0, none⟩) N cap) u4 l ys w4 ∧ ys ++ (c.fr, lastTo p c.to (l.drop (i + 1))) :: wfrom p l (i + 1) = wsp p l) := ⟨(HK.out.1.below HB2.out).below HB4.out, by have h := HK.out.2; rw [wfrom_start HC.out HPC.out (.inr ⟨d, by rw [HNM.out]; exact HD.out, hpd⟩)] at h; exact h⟩
            clear z0 z1 z2 z3 y0 y1 y2 y3 HCL
            go_loopw [6] (fun t wz => ∃ (k : Nat) (c' : Clu), t = .int .i64 k ∧ i ≤ k ∧ k < N ∧ Hid (l[k]? = some c' ∧ lastTo p c.to (l.drop (i + 1)) = lastTo p c'.to (l.drop (k + 1)) ∧ SI w (.slice (some ⟨g, 0, none⟩) N cap) u4 l ys wz)) (fun t _ => N - (intOf t).toNat)
            case atStart => exact ⟨i, c, by first | rfl | simp, Nat.le_refl _, by omega, ⟨HC.out, rfl, HQ.out.1⟩⟩
            case round =>
              obtain ⟨k, c', rfl, hk1, hk2, HL⟩ := hrel
              by_cases hkn : k + 1 < N
              · obtain ⟨e', he'⟩ : ∃ e', l[k + 1]? = some e' := ⟨l[k + 1]'(by rw [HN.out]; exact hkn), List.getElem?_eq_getElem _⟩
                have CWe : Hid (∀ W, Calls Tryz.prog 68 #[.string s, .agg #[.int .i64 e'.fr, .int .i64 e'.to, .int .i64 e'.k, .int .i64 e'.n]] W fun e W' => e = .returned (.bool (p e')) ∧ Below W.heap.size W W') := CW.out e' (List.mem_of_getElem? he')
                obtain ⟨q0, q1, q2, q3⟩ := HL.out.2.2.four he'
                have HE : Hid (l[k + 1]? = some e') := he'
                clear he'
                cases hpe : p e' with
                | true =>
                  rw [hpe] at CWe
                  go_wp2_with (go_at_call 68; refine (CWe.out _).mono ?_; rintro e w3 ⟨rfl, hb3⟩; have HB3 : Hid (Below wr.heap.size wr w3) := hb3; clear hb3)
                  exact ⟨⟨k + 1, e', by go_num, by omega, by omega, ⟨HE.out, HL.out.2.1.trans (lastTo_step HE.out hpe), HL.out.2.2.below HB3.out⟩⟩, by simp [intOf]; omega⟩
                | false =>
                  rw [hpe] at CWe
                  go_wp2_with (go_at_call 68; refine (CWe.out _).mono ?_; rintro e w3 ⟨rfl, hb3⟩; have HB3 : Hid (Below wr.heap.size wr w3) := hb3; clear hb3)
                  have HS3 : Hid (SI w (.slice (some ⟨g, 0, none⟩) N cap) u4 l ys w3) := HL.out.2.2.below HB3.out
                  have HE2 : Hid (lastTo p c.to (l.drop (i + 1)) = c'.to) := HL.out.2.1.trans (lastTo_stop fun c2 h2 => by rw [HE.out] at h2; cases h2; exact hpe)
                  have x0 : w3.cell? ⟨g, i * 4, none⟩ = some (.int .i64 c.fr) := (HS3.out.four HC.out).1
                  have x1 : w3.cell? ⟨g, k * 4 + 1, none⟩ = some (.int .i64 c'.to) := (HS3.out.four HL.out.1).2.1
                  have hne : Hid (u4.ownBlock ≠ some g) := by
                    rcases rows_apart HS3.out.cls HS3.out.out with h | h
                    · cases h
                    · exact fun e => h (by rw [e]; rfl)
                  have hgl3 := (HS3.out.cls.lt g rfl).2
                  have hzz := HS3.out.bel.size
                  clear q0 q1 q2 q3 CWe hpe
                  go_region_held3 (fun w' => w'.cell? ⟨g, i * 4, none⟩ = some (.int .i64 c.fr) ∧ w'.cell? ⟨g, k * 4 + 1, none⟩ = some (.int .i64 c'.to)) (go_keep) (first | (refine step_append_own rfl (.tmp 52) (.tmp 64) 77 rfl w.heap.size 53 i0 _ 2 16 Tryz.underlying77 hi hz0 hz1 hz2 rfl (by decide) u4 _ _ rfl (HS3.out.rowa _) ⟨w3.heap.size, 0, none⟩ 1 1 [.int .i64 (c.fr : Int), .int .i64 (c'.to : Int)] rfl rfl (fun j u h => World.news_of_block (World.alloc_heap_new w3 _) j u h) (by simp [Value.oneCell']) (by unfold maxLen; omega) (by omega) (Nat.le_trans hzz (below_ad w3 _).size) ?_; intro v9 w9 hrow9 hg9; have hbA : Hid (Below w3.heap.size w3 (w3.alloc (Obj.cells #[.int .i64 (c.fr : Int), .int .i64 (c'.to : Int)] 53)).drew) := below_ad w3 _; have d0 : w9.cell? ⟨g, i * 4, none⟩ = some (.int .i64 c.fr) := (grown_cell hg9 (Nat.lt_of_lt_of_le hgl3 hbA.out.size) hne.out).trans ((hbA.out.cell (p := ⟨g, i * 4, none⟩) hgl3).trans x0); have d1 : w9.cell? ⟨g, k * 4 + 1, none⟩ = some (.int .i64 c'.to) := (grown_cell hg9 (Nat.lt_of_lt_of_le hgl3 hbA.out.size) hne.out).trans ((hbA.out.cell (p := ⟨g, k * 4 + 1, none⟩) hgl3).trans x1)))
                  go_wp2
                  exact ⟨⟨i + 1, ys ++ [(c.fr, c'.to)], by go_num, by omega, (by rw [List.length_append]; exact Nat.succ_le_succ hys), ⟨HS3.out.push hbA.out hg9 hrow9, by have h := HQ.out.2; rw [HE2.out] at h; rw [List.append_assoc]; exact h⟩⟩, by simp [intOf]; omega⟩
              · have hd2 : decide (((k : Int) + 1) < N) = false := decide_eq_false (by omega)
                go_wp2
                have HS3 : Hid (SI w (.slice (some ⟨g, 0, none⟩) N cap) u4 l ys wr) := HL.out.2.2
                have HE2 : Hid (lastTo p c.to (l.drop (i + 1)) = c'.to) := HL.out.2.1.trans (lastTo_stop fun c2 h2 => by rw [List.getElem?_eq_none_iff.2 (by rw [HN.out]; omega)] at h2; cases h2)
                have x0 : wr.cell? ⟨g, i * 4, none⟩ = some (.int .i64 c.fr) := (HS3.out.four HC.out).1
                have x1 : wr.cell? ⟨g, k * 4 + 1, none⟩ = some (.int .i64 c'.to) := (HS3.out.four HL.out.1).2.1
                have hne : Hid (u4.ownBlock ≠ some g) := by
                  rcases rows_apart HS3.out.cls HS3.out.out with h | h
                  · cases h
                  · exact fun e => h (by rw [e]; rfl)
                have hgl3 := (HS3.out.cls.lt g rfl).2
                have hzz := HS3.out.bel.size
                go_region_held3 (fun w' => w'.cell? ⟨g, i * 4, none⟩ = some (.int .i64 c.fr) ∧ w'.cell? ⟨g, k * 4 + 1, none⟩ = some (.int .i64 c'.to)) (go_keep) (first | (refine step_append_own rfl (.tmp 52) (.tmp 64) 77 rfl w.heap.size 53 i0 _ 2 16 Tryz.underlying77 hi hz0 hz1 hz2 rfl (by decide) u4 _ _ rfl (HS3.out.rowa _) ⟨wr.heap.size, 0, none⟩ 1 1 [.int .i64 (c.fr : Int), .int .i64 (c'.to : Int)] rfl rfl (fun j u h => World.news_of_block (World.alloc_heap_new wr _) j u h) (by simp [Value.oneCell']) (by unfold maxLen; omega) (by omega) (Nat.le_trans hzz (below_ad wr _).size) ?_; intro v9 w9 hrow9 hg9; have hbA : Hid (Below wr.heap.size wr (wr.alloc (Obj.cells #[.int .i64 (c.fr : Int), .int .i64 (c'.to : Int)] 53)).drew) := below_ad wr _; have d0 : w9.cell? ⟨g, i * 4, none⟩ = some (.int .i64 c.fr) := (grown_cell hg9 (Nat.lt_of_lt_of_le hgl3 hbA.out.size) hne.out).trans ((hbA.out.cell (p := ⟨g, i * 4, none⟩) hgl3).trans x0); have d1 : w9.cell? ⟨g, k * 4 + 1, none⟩ = some (.int .i64 c'.to) := (grown_cell hg9 (Nat.lt_of_lt_of_le hgl3 hbA.out.size) hne.out).trans ((hbA.out.cell (p := ⟨g, k * 4 + 1, none⟩) hgl3).trans x1)))
                go_wp2
                exact ⟨⟨i + 1, ys ++ [(c.fr, c'.to)], by go_num, by omega, (by rw [List.length_append]; exact Nat.succ_le_succ hys), ⟨HS3.out.push hbA.out hg9 hrow9, by have h := HQ.out.2; rw [HE2.out] at h; rw [List.append_assoc]; exact h⟩⟩, by simp [intOf]; omega⟩
    · have HF : Hid (SI w (.slice a N cap) u4 l (wsp p l) wr) := by
        obtain ⟨h1, h2⟩ := HK.out
        rw [wfrom_end p l (by rw [HN.out]; omega), List.append_nil] at h2
        rw [← h2]; exact h1
      have hd' : decide (i < N) = false := decide_eq_false hlt
      clear HK
      go_wp2
      go_ret
      exact ⟨_, rfl, HF.out.out, HF.out.bel⟩
end Go.Proofs.YtdggbnkhbmffoaaGreatDoor
namespace Go.Proofs.YtdggbnkhbmffoaaGreatDoor
open Go.RowKit Bod Wid

theorem spc_len : ∀ l : List (Nat × Nat), (spc l).length = l.length * 2
  | [] => rfl
  | p :: l => by
    have e : spc (p :: l) = [.int .i64 (p.1 : Int), .int .i64 (p.2 : Int)] ++ spc l := by simp [spc]
    rw [e, List.length_append, spc_len l]; simp; omega
theorem spc_get : ∀ (l : List (Nat × Nat)) (k : Nat) (p : Nat × Nat), l[k]? = some p → (spc l)[k * 2]? = some (.int .i64 p.1) ∧ (spc l)[k * 2 + 1]? = some (.int .i64 p.2)
  | [], _, _, h => by simp at h
  | d :: l, 0, c, h => by
    have : d = c := by simpa using h
    subst this
    simp [spc]
  | d :: l, k + 1, c, h => by
    have := spc_get l k c (by simpa using h)
    have e : spc (d :: l) = [.int .i64 (d.1 : Int), .int .i64 (d.2 : Int)] ++ spc l := by simp [spc]
    rw [e, show (k + 1) * 2 = k * 2 + 2 by omega]
    simpa using this
theorem words_len (s : ByteArray) : (words s).length ≤ s.size := by
  have h1 := wsp_len (fun c => wch (ch s c.fr)) (cl s)
  have h2 := (pre_bd (List.prefix_refl (cl s))).1
  exact Nat.le_trans h1 h2
/-- a slice value that reads as a list of words -/
def Rd2 (W : World) (v : Value) (l : List (Nat × Nat)) : Prop :=
  ∃ a cap, v = .slice a l.length cap ∧ (l ≠ [] → ∃ g, a = some ⟨g, 0, none⟩ ∧ g < W.heap.size ∧ ∀ k c, l[k]? = some c → W.cell? ⟨g, k * 2, none⟩ = some (.int .i64 c.1) ∧ W.cell? ⟨g, k * 2 + 1, none⟩ = some (.int .i64 c.2))
theorem Rd2.of_row {W : World} {base : Nat} {v : Value} {l : List (Nat × Nat)} (h : W.ownsRow base 53 2 v l.length (spc l)) : Rd2 W v l := by
  rcases h.2 with ⟨h0, h1⟩ | ⟨g, cap, cur, hv, _⟩
  · have : l = [] := List.length_eq_zero_iff.1 h1
    subst this
    exact ⟨_, _, h0, fun h => absurd rfl h⟩
  · subst hv
    refine ⟨_, _, rfl, fun _ => ⟨g, rfl, (h.lt g rfl).2, fun k c hk => ?_⟩⟩
    have hkl : k < l.length := (List.getElem?_eq_some_iff.1 hk).1
    have hl := spc_len l
    obtain ⟨e0, e1⟩ := spc_get l k c hk
    exact ⟨(h.cellAt (k * 2) (by omega)).trans e0, (h.cellAt (k * 2 + 1) (by omega)).trans e1⟩
theorem Rd2.below {W W' : World} {v : Value} {l : List (Nat × Nat)} (h : Rd2 W v l) (hb : Below W.heap.size W W') : Rd2 W' v l := by
  obtain ⟨a, cap, rfl, g⟩ := h
  refine ⟨a, cap, rfl, fun h0 => ?_⟩
  obtain ⟨b, rfl, hlt, k⟩ := g h0
  refine ⟨b, rfl, Nat.lt_of_lt_of_le hlt hb.size, fun j c hj => ?_⟩
  obtain ⟨e0, e1⟩ := k j c hj
  exact ⟨(hb.cell (p := ⟨b, j * 2, none⟩) hlt).trans e0, (hb.cell (p := ⟨b, j * 2 + 1, none⟩) hlt).trans e1⟩
end Go.Proofs.YtdggbnkhbmffoaaGreatDoor
namespace Go.Proofs.YtdggbnkhbmffoaaGreatDoor
open Go.RowKit Bod Wid

set_option maxRecDepth 100000 in
set_option maxHeartbeats 1000000 in
theorem rheld_any (s : ByteArray) (i : Int) (w : World) : Calls Tryz.prog 93 #[.string s, .int .i64 i] w fun e w' => e = .returned (.int .i64 (heldN s i)) ∧ w = w' := by
  rw [held_eq]
  go_enter Tryz.func93, Tryz.ntmps93
  go_wp2
  go_ret
  exact ⟨rfl, rfl⟩
set_option maxRecDepth 100000 in
set_option maxHeartbeats 1000000 in
theorem rahead_any (s : ByteArray) (i : Int) (hs : s.size ≤ 4398046511000) (w : World) :
    Calls Tryz.prog 61 #[.string s, .int .i64 i] w fun e w' => e = .returned (.int .i64 (aheadW (words s) s.size (heldN s i))) ∧ Below w.heap.size w w' := by
  have cH := rheld_any s i w
  have hle := held_le s i
  have cS : Calls Tryz.prog 33 #[.string s] w fun e w' => ∃ v, e = .returned v ∧ Rd2 w' v (words s) ∧ Below w.heap.size w w' := (rspans_any s hs w).mono fun e w' ⟨v, h1, h2, h3⟩ => ⟨v, h1, Rd2.of_row h2, h3⟩
  generalize heldN s i = a at cH hle ⊢
  have hwl := words_len s
  go_enter Tryz.func61, Tryz.ntmps61
  go_wp2_with (first | (go_at_call 93; refine cH.mono ?_; clear cH; rintro e w0 ⟨rfl, rfl⟩) | (go_at_call 33; refine cS.mono ?_; clear cS; rintro e w1 ⟨lv, rfl, hrd1, hb1⟩; obtain ⟨la, lc, rfl, hg0⟩ := hrd1; have HG : Hid (words s ≠ [] → ∃ g, la = some ⟨g, 0, none⟩ ∧ g < w1.heap.size ∧ ∀ k c, (words s)[k]? = some c → w1.cell? ⟨g, k * 2, none⟩ = some (.int .i64 c.1) ∧ w1.cell? ⟨g, k * 2 + 1, none⟩ = some (.int .i64 c.2)) := hg0; clear hg0))
  go_loopw [6] (fun t wr => ∃ k : Nat, t = .int .i64 k ∧ k ≤ (words s).length ∧ (∀ j q, j < k → (words s)[j]? = some q → q.2 ≤ a) ∧ wr = w1) (fun t _ => (words s).length - (intOf t).toNat)
  case atStart => exact ⟨0, rfl, Nat.zero_le _, fun j q h => by omega, rfl⟩
  case round =>
    obtain ⟨k, rfl, hk, hno, rfl⟩ := hrel
    by_cases hlt : k < (words s).length
    · have hp : (words s)[k]? = some (words s)[k] := List.getElem?_eq_getElem hlt
      generalize (words s)[k] = p at hp
      obtain ⟨g, rfl, hgl, hcells⟩ := HG.out (fun e => by rw [e] at hp; simp at hp)
      obtain ⟨q0, q1⟩ := hcells k p hp
      have hkl : (k : Int) < ((words s).length : Int) := by omega
      by_cases ha : a < p.2
      · have HV : Hid (aheadW (words s) s.size a = p.2) := ahead_next hp ha hno
        have ha' : (a : Int) < p.2 := by omega
        clear hcells HG hno hp
        go_wp2
        go_ret
        exact ⟨ret_int (by rw [HV.out]), hb1⟩
      · have ha' : ¬ ((a : Int) < p.2) := by omega
        have HN : Hid (∀ j q, j < k + 1 → (words s)[j]? = some q → q.2 ≤ a) := fun j q hj hq => by
          by_cases e : j = k
          · subst e; rw [hp] at hq; cases hq; omega
          · exact hno j q (by omega) hq
        clear hcells HG hno hp
        go_wp2
        exact ⟨⟨k + 1, by first | rfl | simp, by omega, HN.out, trivial⟩, by simp [intOf]; omega⟩
    · have hkl : ¬ ((k : Int) < ((words s).length : Int)) := by omega
      have HV : Hid (aheadW (words s) s.size a = s.size) := ahead_none fun q hq => by
        obtain ⟨j, hj⟩ := List.mem_iff_getElem?.1 hq
        exact hno j q (by have := (List.getElem?_eq_some_iff.1 hj).1; omega) hj
      clear HG hno
      go_wp2
      go_ret
      exact ⟨ret_int (by rw [HV.out]), hb1⟩
set_option maxRecDepth 100000 in
set_option maxHeartbeats 1000000 in
theorem rbehind_any (s : ByteArray) (i : Int) (hs : s.size ≤ 4398046511000) (w : World) :
    Calls Tryz.prog 59 #[.string s, .int .i64 i] w fun e w' => e = .returned (.int .i64 (behindW (words s) (heldN s i))) ∧ Below w.heap.size w w' := by
  have cH := rheld_any s i w
  have hle := held_le s i
  have cS : Calls Tryz.prog 33 #[.string s] w fun e w' => ∃ v, e = .returned v ∧ Rd2 w' v (words s) ∧ Below w.heap.size w w' := (rspans_any s hs w).mono fun e w' ⟨v, h1, h2, h3⟩ => ⟨v, h1, Rd2.of_row h2, h3⟩
  generalize heldN s i = a at cH hle ⊢
  have hwl := words_len s
  obtain ⟨n, hn⟩ : ∃ n, (words s).length = n := ⟨_, rfl⟩
  have HN : Hid ((words s).length = n) := hn
  rw [hn] at hwl
  clear hn
  have HR : Hid (∀ v W, Rd2 W v (words s) → ∃ la lc, v = .slice la n lc ∧ (words s ≠ [] → ∃ g, la = some ⟨g, 0, none⟩ ∧ g < W.heap.size ∧ ∀ k c, (words s)[k]? = some c → W.cell? ⟨g, k * 2, none⟩ = some (.int .i64 c.1) ∧ W.cell? ⟨g, k * 2 + 1, none⟩ = some (.int .i64 c.2))) := fun v W h => by
    obtain ⟨la, lc, h1, h2⟩ := h
    rw [HN.out] at h1
    exact ⟨la, lc, h1, h2⟩
  cases n with
  | zero =>
    have HV : Hid (behindW (words s) a = 0) := behind_none fun q hq => by
      have : words s = [] := List.length_eq_zero_iff.1 HN.out
      rw [this] at hq; cases hq
    go_enter Tryz.func59, Tryz.ntmps59
    go_wp2_with (first | (go_at_call 93; refine cH.mono ?_; clear cH; rintro e w0 ⟨rfl, rfl⟩) | (go_at_call 33; refine cS.mono ?_; clear cS; rintro e w1 ⟨lv, rfl, hrd1, hb1⟩; obtain ⟨la, lc, rfl, _⟩ := HR.out _ _ hrd1; clear hrd1))
    go_loopw [6] (fun t wr => t = .int .i64 (-1) ∧ wr = w1) (fun _ _ => 0)
    case atStart => exact ⟨rfl, rfl⟩
    case round =>
      obtain ⟨rfl, rfl⟩ := hrel
      go_wp2
      go_ret
      exact ⟨ret_int (by rw [HV.out]; rfl), hb1⟩
  | succ n =>
    go_enter Tryz.func59, Tryz.ntmps59
    go_wp2_with (first | (go_at_call 93; refine cH.mono ?_; clear cH; rintro e w0 ⟨rfl, rfl⟩) | (go_at_call 33; refine cS.mono ?_; clear cS; rintro e w1 ⟨lv, rfl, hrd1, hb1⟩; obtain ⟨la, lc, rfl, hg0⟩ := HR.out _ _ hrd1; have HG : Hid (words s ≠ [] → ∃ g, la = some ⟨g, 0, none⟩ ∧ g < w1.heap.size ∧ ∀ k c, (words s)[k]? = some c → w1.cell? ⟨g, k * 2, none⟩ = some (.int .i64 c.1) ∧ w1.cell? ⟨g, k * 2 + 1, none⟩ = some (.int .i64 c.2)) := hg0; clear hg0 hrd1 HR))
    go_loopw [6] (fun t wr => ((t = .int .i64 (-1) ∧ ∀ q ∈ words s, a ≤ q.1) ∨ ∃ k : Nat, t = .int .i64 k ∧ k < n + 1 ∧ (∀ j q, k < j → (words s)[j]? = some q → a ≤ q.1)) ∧ wr = w1) (fun t _ => (intOf t + 1).toNat)
    case atStart => exact ⟨.inr ⟨n, by first | rfl | simp, by omega, fun j q hj hq => by have := (List.getElem?_eq_some_iff.1 hq).1; rw [HN.out] at this; omega⟩, rfl⟩
    case round =>
      obtain ⟨(⟨rfl, hno⟩ | ⟨k, rfl, hk, hno⟩), rfl⟩ := hrel
      · have HV : Hid (behindW (words s) a = 0) := behind_none hno
        clear hno HG
        go_wp2
        go_ret
        exact ⟨ret_int (by rw [HV.out]; rfl), hb1⟩
      · have hp : (words s)[k]? = some ((words s)[k]'(by rw [HN.out]; exact hk)) := List.getElem?_eq_getElem _
        generalize (words s)[k]'(by rw [HN.out]; exact hk) = p at hp
        obtain ⟨g, rfl, hgl, hcells⟩ := HG.out (fun e => by rw [e] at hp; simp at hp)
        obtain ⟨q0, q1⟩ := hcells k p hp
        by_cases ha : p.1 < a
        · have HV : Hid (behindW (words s) a = p.1) := behind_prev hp ha hno
          have ha' : (p.1 : Int) < a := by omega
          clear hcells HG hno hp
          go_wp2
          go_ret
          exact ⟨ret_int (by rw [HV.out]), hb1⟩
        · have ha' : ¬ ((p.1 : Int) < a) := by omega
          have HX : Hid (∀ j q, k ≤ j → (words s)[j]? = some q → a ≤ q.1) := fun j q hj hq => by
            by_cases e : j = k
            · subst e; rw [hp] at hq; cases hq; omega
            · exact hno j q (by omega) hq
          clear hcells HG hno hp
          cases k with
          | zero =>
            go_wp2
            exact ⟨⟨.inl ⟨by first | rfl | simp, fun q hq => by obtain ⟨j, hj⟩ := List.mem_iff_getElem?.1 hq; exact HX.out j q (Nat.zero_le _) hj⟩, trivial⟩, by simp [intOf]⟩
          | succ k =>
            go_wp2
            exact ⟨⟨.inr ⟨k, by first | rfl | simp, by omega, fun j q hj hq => HX.out j q (by omega) hq⟩, trivial⟩, by simp [intOf]; omega⟩
end Go.Proofs.YtdggbnkhbmffoaaGreatDoor
