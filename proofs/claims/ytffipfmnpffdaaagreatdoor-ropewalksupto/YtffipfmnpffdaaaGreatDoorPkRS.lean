/-
  What the law sees of a tree. Conditions: those of each theorem.
-/
import Derived.Test.YtffipfmnpffdaaaGreatDoorRLaw
namespace Go.Proofs.YtffipfmnpffdaaaGreatDoor
open Go.RowKit Go.Shelf Bod Wid

theorem infoStr : (Tryz.prog.info? 9).map (fun i => (i.zero, i.size, i.bytes)) = some (some (.string ⟨#[]⟩), 1, 16) := by kernel_rfl
abbrev strs (l : List ByteArray) : List Value := l.map .string
/-- what seen leaves -/
def SeenP (w : World) (t : Tr) (e : Ending) (W' : World) : Prop := ∃ g cap, e = .returned (.tuple #[.slice (some ⟨g, 0, none⟩) t.lv.length cap, .int .i64 t.h, .bool true]) ∧ W'.ownsRow w.heap.size 9 1 (.slice (some ⟨g, 0, none⟩) t.lv.length cap) t.lv.length (strs t.lv) ∧ Below w.heap.size w W'
theorem one_row (W : World) (base : Nat) (s : ByteArray) (hb : base ≤ W.heap.size) : (W.alloc (.cells #[.string s] 9)).ownsRow base 9 1 (.slice (some ⟨W.heap.size, 0, none⟩) 1 1) 1 [.string s] :=
  ⟨rfl, .inr ⟨W.heap.size, 1, #[.string s], rfl, hb, World.alloc_heap_new W _, Nat.le_refl _, by unfold maxLen; omega, rfl, rfl⟩⟩
theorem nil_eq (W : World) : (binOp .eql 99 .nilIface .nilIface).run Tryz.prog W = .ok (.bool true) W := by kernel_rfl
set_option maxRecDepth 100000 in
set_option maxHeartbeats 1000000 in
theorem seen_leaf {w : World} {s : ByteArray} {v : Value} (h : At w (.leaf s) v) (hs : s.size ≤ B40) (hE : Ev w) : Calls Tryz.prog 62 #[v, .string s] w (SeenP w (.leaf s)) := by
  unfold B40 at hs
  obtain ⟨T, a, fS, fP, fT, p, rfl, ⟨m1, m2⟩, ⟨m3, m4⟩, ⟨m5, m6⟩, S1, P1, X1, rfl⟩ := h.nd
  obtain ⟨m, hm⟩ : ∃ m, smr s = m := ⟨_, rfl⟩
  have S2 : Hid (Calls Tryz.prog fS #[.pointer (some a)] w fun e W' => e = .returned (sv m) ∧ Hid (Below w.heap.size w W')) := (S1.out w (Below.refl _ w)).mono fun e W' ⟨k1, k2⟩ => ⟨by rw [k1]; show _ = Ending.returned (sv m); rw [← hm]; rfl, k2⟩
  have C1 : Hid (∀ W, Hid (Below w.heap.size w W) → Calls Tryz.prog 138 #[.string s] W fun e W' => e = .returned (sv m) ∧ Hid (Below w.heap.size w W')) := fun W hW => (measure_any s (by omega) W (hE.below hW).t (hE.below hW).l0 (hE.below hW).l1).mono fun e W' ⟨k1, k2⟩ => ⟨by rw [k1, hm], Below.on hW k2⟩
  have P2 : Hid (∀ W, Hid (Below w.heap.size w W) → Calls Tryz.prog fP #[.pointer (some a)] W fun e W' => e = .returned (.tuple #[.nilIface, .nilIface, .bool false]) ∧ Hid (Below w.heap.size w W')) := fun W hW => (P1.out W hW).mono fun e W' ⟨k1, k2⟩ => ⟨k1, Below.on hW k2⟩
  have q1 := fun W => sv_neq m W
  have q2 := fun W => eq_nil T (.pointer (some a)) W
  have q3 := nil_eq
  have X3 : Hid (∀ W, Below w.heap.size w W → Calls Tryz.prog fT #[.pointer (some a)] W fun e W' => e = .returned (.string s) ∧ Below W.heap.size W W') := fun W hW => X1.out W hW
  have X4 : Hid (∀ W, Below w.heap.size w W → Calls Tryz.prog fT #[.pointer (some a)] W fun e W' => e = .returned (.string s) ∧ Below W.heap.size W W') := fun W hW => X1.out W hW
  clear h S1 P1 X1 hE hm hs
  go_enter Tryz.func62, Tryz.ntmps62
  go_wp2_with (first | (go_at_fn fS; refine S2.out.mono ?_; clear S2; rintro e w1 ⟨rfl, h1⟩) | (go_at_call 138; refine (C1.out _ h1).mono ?_; clear C1 h1; rintro e w2 ⟨rfl, h1⟩) | (go_at_fn fP; refine (P2.out _ h1).mono ?_; clear P2 h1; rintro e w3 ⟨rfl, h1⟩))
  go_region_with (first | (go_at_fn fT; refine (X3.out _ h1.out.drew).mono ?_; clear X3; rintro e w4 ⟨rfl, hb4⟩; have H4 : Hid (Below w.heap.size w w4) := Below.on h1.out.drew hb4; clear hb4) | (go_at_fn fT; refine (X4.out _ (H4.out.alloc H4.out.size _)).mono ?_; clear X4; rintro e w5 ⟨rfl, hb5⟩) | (go_at_fn fT; refine (X4.out _ H4.out).mono ?_; clear X4; rintro e w5 ⟨rfl, hb5⟩))
  all_goals go_wp2
  all_goals first | exact bodyPost_ret (v := .tuple #[.slice (some ⟨w4.heap.size, 0, none⟩) 1 1, .int .i64 0, .bool true]) (by simp [results, Tryz.results62, go_sem]) rfl ⟨_, _, rfl, row_below' (one_row w4 w.heap.size s H4.out.size) hb5, Below.on (H4.out.alloc H4.out.size _) hb5⟩ | exact bodyPost_ret (v := .tuple #[.slice (some ⟨w5.heap.size, 0, none⟩) 1 1, .int .i64 0, .bool true]) (by simp [results, Tryz.results62, go_sem]) rfl ⟨_, _, rfl, one_row w5 w.heap.size s (Nat.le_trans H4.out.size hb5.size), (Below.on H4.out hb5).alloc (Nat.le_trans H4.out.size hb5.size) _⟩
end Go.Proofs.YtffipfmnpffdaaaGreatDoor
namespace Go.Proofs.YtffipfmnpffdaaaGreatDoor
open Go.RowKit Go.Shelf Bod Wid

theorem Pos.len_le {t : Tr} (h : Pos t) : t.lv.length ≤ t.text.size := h.size
set_option maxRecDepth 100000 in
set_option maxHeartbeats 1000000 in
theorem seen_any : ∀ {t : Tr} {w : World} {v : Value}, At w t v → Fine t → t.text.size ≤ B40 → Ev w → Calls Tryz.prog 62 #[v, .string t.text] w (SeenP w t)
  | .leaf s, w, v, h, _, hs, hE => by
    have q : (Tr.leaf s).text = s := rfl
    rw [q] at hs ⊢
    exact seen_leaf h hs hE
  | .knot l r, w, v, h, hf, hs, hE => by
    obtain ⟨pl, pr⟩ := hf.knot
    obtain ⟨i0, hi, hz0, hz1, hz2⟩ := info_parts infoStr
    unfold B40 at hs
    have hs' : (l.text ++ r.text).size ≤ 1099511627776 := hs
    rw [size_app] at hs'
    obtain ⟨T, a, fS, fP, fT, p, rfl, ⟨m1, m2⟩, ⟨m3, m4⟩, ⟨m5, m6⟩, S1, P1, X1, x1, x2, rfl, a1, a2⟩ := h.nd
    obtain ⟨U, d, gS, gP, gT, q, rfl, ⟨m7, m8⟩, -, -, S3, -, -, -⟩ := a1.nd
    obtain ⟨V, c, kS, kP, kT, q', rfl, -, -, -, -, -, -, -⟩ := a2.nd
    obtain ⟨TX, hTX⟩ : ∃ s, (Tr.knot l r).text = s := ⟨_, rfl⟩
    have hT2 : TX = l.text ++ r.text := hTX.symm
    obtain ⟨tl, htl⟩ : ∃ s, l.text = s := ⟨_, rfl⟩
    obtain ⟨tr, htr⟩ : ∃ s, r.text = s := ⟨_, rfl⟩
    obtain ⟨m, hm⟩ : ∃ m, smr TX = m := ⟨_, rfl⟩
    obtain ⟨ml, hml⟩ : ∃ m, smr tl = m := ⟨_, rfl⟩
    obtain ⟨nl, hnl⟩ : ∃ n, tl.size = n := ⟨_, rfl⟩
    have y1 := fby (m := ml) (n := nl) (by rw [← hml, ← hnl]; rfl)
    rw [hTX] at S1 ⊢
    have S2 : Hid (Calls Tryz.prog fS #[.pointer (some a)] w fun e W' => e = .returned (sv m) ∧ Hid (Below w.heap.size w W')) := (S1.out w (Below.refl _ w)).mono fun e W' ⟨k1, k2⟩ => ⟨by rw [k1, hm], k2⟩
    have C1 : Hid (∀ W, Hid (Below w.heap.size w W) → Calls Tryz.prog 138 #[.string TX] W fun e W' => e = .returned (sv m) ∧ Hid (Below w.heap.size w W')) := fun W hW => (measure_any TX (by rw [hT2, size_app]; omega) W (hE.below hW).t (hE.below hW).l0 (hE.below hW).l1).mono fun e W' ⟨k1, k2⟩ => ⟨by rw [k1, hm], Below.on hW k2⟩
    have P2 : Hid (∀ W, Hid (Below w.heap.size w W) → Calls Tryz.prog fP #[.pointer (some a)] W fun e W' => e = .returned (.tuple #[.iface U (.pointer (some d)), .iface V (.pointer (some c)), .bool true]) ∧ Hid (Below w.heap.size w W')) := fun W hW => (P1.out W hW).mono fun e W' ⟨k1, k2⟩ => ⟨k1, Below.on hW k2⟩
    have X2 : Hid (∀ W, Hid (Below w.heap.size w W) → Calls Tryz.prog fT #[.pointer (some a)] W fun e W' => e = .returned (.string ⟨#[]⟩) ∧ Hid (Below w.heap.size w W')) := fun W hW => (X1.out W hW).mono fun e W' ⟨k1, k2⟩ => ⟨k1, Below.on hW k2⟩
    have S4 : Hid (∀ W, Hid (Below w.heap.size w W) → Calls Tryz.prog gS #[.pointer (some d)] W fun e W' => e = .returned (sv ml) ∧ Hid (Below w.heap.size w W')) := fun W hW => (S3.out W hW).mono fun e W' ⟨k1, k2⟩ => ⟨by rw [k1, htl, hml], Below.on hW k2⟩
    have q1 := fun W => sv_neq m W
    have q2 := fun W => eq_nil T (.pointer (some a)) W
    have q3 := fun W => eq_nil U (.pointer (some d)) W
    have q4 := fun W => eq_nil V (.pointer (some c)) W
    have zT : TX.size = nl + tr.size := by rw [hT2, size_app, htl, htr, hnl]
    have x3 : TX.extract 0 nl = tl := by rw [hT2, htl, htr, ← hnl, ext_left (Nat.le_refl _), ext_all]
    have x4 : TX.extract nl TX.size = tr := by rw [hT2, htl, htr, ← hnl, exd_right (Nat.le_refl _), Nat.sub_self, ext_all]
    obtain ⟨na, hna⟩ : ∃ n, l.lv.length = n := ⟨_, rfl⟩
    obtain ⟨nb, hnb⟩ : ∃ n, r.lv.length = n := ⟨_, rfl⟩
    have ga := pl.size
    have gb := pr.size
    have ga0 := lv_pos l
    have gb0 := lv_pos r
    have K1 : Hid (∀ W, Hid (Below w.heap.size w W) → Calls Tryz.prog 62 #[.iface U (.pointer (some d)), .string tl] W fun e W' => ∃ g cap, e = .returned (.tuple #[.slice (some ⟨g, 0, none⟩) na cap, .int .i64 l.h, .bool true]) ∧ Hid (W'.ownsRow w.heap.size 9 1 (.slice (some ⟨g, 0, none⟩) na cap) na (strs l.lv) ∧ Below w.heap.size w W')) := fun W hW => by
      rw [← htl, ← hna]
      exact (seen_any (a1.below hW) (.inr pl) (by unfold B40; omega) (hE.below hW)).mono fun e W' ⟨g, cap, k1, k2, k3⟩ => ⟨g, cap, k1, row_lower k2 hW.out.size, Below.on hW k3⟩
    have K2 : Hid (∀ W g cap, Hid (W.ownsRow w.heap.size 9 1 (.slice (some ⟨g, 0, none⟩) na cap) na (strs l.lv) ∧ Below w.heap.size w W) → Calls Tryz.prog 62 #[.iface V (.pointer (some c)), .string tr] W fun e W' => ∃ g' cap', e = .returned (.tuple #[.slice (some ⟨g', 0, none⟩) nb cap', .int .i64 r.h, .bool true]) ∧ Hid (W'.ownsRow w.heap.size 9 1 (.slice (some ⟨g, 0, none⟩) na cap) na (strs l.lv) ∧ W'.ownsRow w.heap.size 9 1 (.slice (some ⟨g', 0, none⟩) nb cap') nb (strs r.lv) ∧ Below w.heap.size w W')) := fun W g cap ⟨h1, hW⟩ => by
      rw [← htr, ← hnb]
      exact (seen_any (a2.below hW) (.inr pr) (by unfold B40; omega) (hE.below hW)).mono fun e W' ⟨g', cap', k1, k2, k3⟩ => ⟨g', cap', k1, row_below' h1 k3, row_lower k2 hW.size, Below.on hW k3⟩
    obtain ⟨hl', hhl⟩ : ∃ n, l.h = n := ⟨_, rfl⟩
    obtain ⟨hr', hhr⟩ : ∃ n, r.h = n := ⟨_, rfl⟩
    have ha1 := pl.h_le
    have ha2 := pr.h_le
    rw [hhl] at K1
    rw [hhr] at K2
    have HH : Hid ((Tr.knot l r).h = max hl' hr' + 1) := by show max l.h r.h + 1 = _; rw [hhl, hhr]
    have HLV : Hid ((Tr.knot l r).lv.length = na + nb) := by show (l.lv ++ r.lv).length = _; rw [List.length_append, hna, hnb]
    have HST : Hid (strs (Tr.knot l r).lv = strs l.lv ++ strs r.lv) := by show (l.lv ++ r.lv).map _ = _; rw [List.map_append]
    have b1 : hl' ≤ 1099511627776 := by omega
    have b2 : hr' ≤ 1099511627776 := by omega
    have b3 : na ≤ 1099511627776 := by omega
    have b4 : nb ≤ 1099511627776 := by omega
    have b5 : nl ≤ TX.size := by omega
    have b6 : 0 < na := by omega
    have b7 : TX.size ≤ 1099511627776 := by rw [htl] at hs'; rw [htr] at hs'; omega
    have HNB : Hid ((strs r.lv).length = nb * 1) := by show _ = _; rw [List.length_map, hnb, Nat.mul_one]
    generalize strs l.lv = LA at *
    generalize hLB : strs r.lv = LB at *
    have HO : Hid (∀ u ∈ LB, u.oneCell' = true) := by
      show ∀ u ∈ LB, _
      rw [← hLB]
      intro u hu
      obtain ⟨z, _, rfl⟩ := List.mem_map.1 hu
      rfl
    clear h hf hs hE hs' pl pr a1 a2 S1 P1 X1 S3 hTX hT2 htl htr hm hml hnl hna hnb ga gb ga0 gb0 hhl hhr ha1 ha2 hLB zT
    go_enter Tryz.func62, Tryz.ntmps62
    go_wp2_with (first | (go_at_fn fS; refine S2.out.mono ?_; clear S2; rintro e w1 ⟨rfl, h1⟩) | (go_at_call 138; refine (C1.out _ h1).mono ?_; clear C1 h1; rintro e w2 ⟨rfl, h1⟩) | (go_at_fn fP; refine (P2.out _ h1).mono ?_; clear P2 h1; rintro e w3 ⟨rfl, h1⟩) | (go_at_fn fT; refine (X2.out _ h1).mono ?_; clear X2 h1; rintro e w4 ⟨rfl, h1⟩) | (go_at_fn gS; refine (S4.out _ h1).mono ?_; clear S4 h1; rintro e w5 ⟨rfl, h1⟩) | (go_at_call 62; refine (K1.out _ h1).mono ?_; clear K1 h1; rintro e w6 ⟨g6, c6, rfl, h1⟩) | (go_at_call 62; refine (K2.out _ _ _ h1).mono ?_; clear K2 h1; rintro e w7 ⟨g7, c7, rfl, h7⟩) | (at_builtin; refine wpList_append_own _ rfl _ _ 22 rfl w.heap.size 9 i0 _ 1 16 Tryz.underlying22 hi hz0 hz1 hz2 rfl (by decide) _ na LA rfl h7.out.1 ⟨g7, 0, none⟩ nb c7 LB rfl HNB.out (h7.out.2.1.cells rfl) HO.out (by unfold maxLen; omega) (by omega) h7.out.2.2.size ?_; intro v8 w8 hrow8 hg8 _; have H8 : Hid (w8.ownsRow w.heap.size 9 1 v8 (na + nb) (LA ++ LB) ∧ Below w.heap.size w w8) := ⟨hrow8, h7.out.2.2.grown hg8 h7.out.2.2.size (fun j e => (h7.out.1.lt j e).1)⟩; clear hrow8 hg8 h7))
    obtain ⟨n8, hn8⟩ : ∃ n8, na + nb = n8 + 1 := ⟨na + nb - 1, by omega⟩
    have hr8 := H8.out.1
    rw [hn8] at hr8
    obtain ⟨g8, c8, rfl⟩ := ownsRow_succ hr8
    rw [← hn8] at hr8
    refine bodyPost_ret (v := .tuple #[.slice (some ⟨g8, 0, none⟩) (na + nb) c8, .int .i64 ((max hl' hr' + 1 : Nat) : Int), .bool true]) ?_ rfl ⟨g8, c8, by rw [HLV.out, HH.out], by rw [HLV.out, HST.out]; exact hr8, H8.out.2⟩
    simp [results, Tryz.results62, go_sem, hn8]
    omega
end Go.Proofs.YtffipfmnpffdaaaGreatDoor
