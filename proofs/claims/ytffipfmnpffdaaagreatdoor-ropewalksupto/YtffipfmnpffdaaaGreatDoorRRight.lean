/-
  The law's right, asked of a rope that has the shape: true. Conditions: the two tables of unicode/utf8 lie as their text lays them; the text holds at most 1099511627776 bytes.
-/
import Derived.Test.YtffipfmnpffdaaaGreatDoorPkRS
import Derived.Test.YtffipfmnpffdaaaGreatDoorRShp
import Derived.Test.YtffipfmnpffdaaaGreatDoorRIter
namespace Go.Proofs.YtffipfmnpffdaaaGreatDoor
open Go.RowKit Go.Shelf Bod Wid
attribute [local go_sem] Oper.semAt_some

theorem lvo_map : ∀ (t : Tr) (a : Nat), (lvo t a).map (·.2) = t.lv
  | .leaf _, _ => rfl
  | .knot l r, a => by show (lvo l a ++ lvo r _).map _ = l.lv ++ r.lv; rw [List.map_append, lvo_map l, lvo_map r]
theorem lvo_off : ∀ (t : Tr) (a k : Nat) (x : Nat × ByteArray), (lvo t a)[k]? = some x → x.1 = a + (jo (t.lv.take k)).size
  | .leaf s, a, k, x, h => by
    cases k with
    | zero => cases h; rfl
    | succ k => simp [lvo] at h
  | .knot l r, a, k, x, h => by
    have hl : (lvo l a).length = l.lv.length := by rw [← lvo_map l a, List.length_map]
    have h : (lvo l a ++ lvo r (a + l.text.size))[k]? = some x := h
    show x.1 = a + (jo ((l.lv ++ r.lv).take k)).size
    by_cases c : k < l.lv.length
    · rw [List.getElem?_append_left (by omega)] at h
      rw [List.take_append_of_le_length (by omega)]
      exact lvo_off l a k x h
    · rw [List.getElem?_append_right (by omega), hl] at h
      have := lvo_off r _ _ x h
      rw [List.take_append, List.take_of_length_le (by omega), jo_size, ← text_lv]
      omega
theorem lvo_nx {t : Tr} {pre : List (Nat × ByteArray)} {x : Nat × ByteArray} (h : pre ++ [x] <+: lvo t 0) : t.lv[pre.length]? = some x.2 ∧ x.1 = (jo (t.lv.take pre.length)).size ∧ pre.length < t.lv.length := by
  have h1 : (lvo t 0)[pre.length]? = some x := by
    obtain ⟨u, hu⟩ := h
    rw [← hu]
    simp
  have h2 : t.lv[pre.length]? = some x.2 := by rw [← lvo_map t 0, List.getElem?_map, h1]; rfl
  exact ⟨h2, by have := lvo_off t 0 _ x h1; omega, (List.getElem?_eq_some_iff.1 h2).1⟩
theorem lvo_len (t : Tr) : (lvo t 0).length = t.lv.length := by rw [← lvo_map t 0, List.length_map]
theorem box1 {W : World} {b : Nat} {v : Value} {t : TypeId} (h : W.heap[b]? = some (.cells #[v] t (0, 0))) : W.cell? ⟨b, 0, none⟩ = some v ∧ W.frozen? ⟨b, 0, none⟩ = false := by
  simp [World.cell?, World.frozen?, h]
/-- the two numbers' boxes, which the rounds write -/
def MutN (b : Nat) (k : Nat) (o : Obj) : Prop := (k = b ∨ k = b + 1) ∧ ∃ vs fz, o = .cells vs 3 fz
/-- where the law's own boxes lie: the answer's, the leaves', the two numbers' -/
structure RBx (w : World) (t : Tr) (bL g cap bN : Nat) (cur : Array Value) (pre : List (Nat × ByteArray)) (W : World) : Prop where
  r : W.heap[w.heap.size]? = some (.cells #[.bool false] 4 (0, 0))
  l : W.heap[bL]? = some (.cells #[.slice (some ⟨g, 0, none⟩) t.lv.length cap] 22 (0, 0))
  g : W.heap[g]? = some (.cells cur 9 (0, 0))
  n : W.heap[bN]? = some (.cells #[.int .i64 (pre.length : Int)] 3 (0, 0))
  a : W.heap[bN + 1]? = some (.cells #[.int .i64 ((jo (t.lv.take pre.length)).size : Int)] 3 (0, 0))
  bel : Below w.heap.size w W
theorem rb_ab {w : World} {t : Tr} {bL g cap bN B lo hi : Nat} {cur : Array Value} (h1 : w.heap.size < B) (h2 : bL < B) (h3 : g < B) (h4 : bN + 1 < B) : Ab B lo hi (RBx w t bL g cap bN cur) := fun pre X Y row h hg hr =>
  ⟨ab_block (o := fun _ : Unit => _) h1 () X Y row h.r hg hr, ab_block (o := fun _ : Unit => _) h2 () X Y row h.l hg hr, ab_block (o := fun _ : Unit => _) h3 () X Y row h.g hg hr, ab_block (o := fun _ : Unit => _) (show bN < B by omega) () X Y row h.n hg hr, ab_block (o := fun _ : Unit => _) h4 () X Y row h.a hg hr, ab_below (β := Unit) (by omega) (Nat.le_refl _) () X Y row h.bel hg hr⟩
set_option maxRecDepth 100000 in
set_option maxHeartbeats 2000000 in
theorem right_in (d : Nat) (hd : 5 ≤ d) {t : Tr} {v : Value} {w : World} (h : Rp w t v) (hG : Good t) (hs : t.text.size ≤ 1099511627776) (hE : Ev w) :
    CallsIn Fence.wide d Tryz.prog 19 #[v, .string t.text] w fun e W' => e = .returned (.bool true) ∧ Below w.heap.size w W' := by
  have h1 : 1 ≤ d := by omega
  obtain ⟨TX, hTX⟩ : ∃ s, t.text = s := ⟨_, rfl⟩
  obtain ⟨N, hN⟩ : ∃ N, TX.size = N := ⟨_, rfl⟩
  obtain ⟨m, hm⟩ : ∃ m, smr TX = m := ⟨_, rfl⟩
  obtain ⟨n, hn⟩ : ∃ n, t.lv.length = n := ⟨_, rfl⟩
  obtain ⟨hh, hhh⟩ : ∃ k, t.h = k := ⟨_, rfl⟩
  have hTN : TX.size ≤ 1099511627776 := by rw [← hTX]; exact hs
  have hnz : n ≤ 1099511627777 := by
    rw [← hn]
    rcases hG.fine with k | k
    · rw [k]; decide
    · have := k.size; omega
  have hh1 : hh ≤ 1099511627776 := by rw [← hhh]; have := hG.fine.h_le; omega
  have hfb : fib hh ≤ n := by rw [← hhh, ← hn]; exact avl_fib hG.avl
  obtain ⟨W0, hW0⟩ : ∃ W0, w.alloc (.cells #[.bool false] 4) = W0 := ⟨_, rfl⟩
  have hb0 : Below w.heap.size w W0 := by rw [← hW0]; exact (Below.refl _ w).alloc (Nat.le_refl _) _
  have r0 : W0.heap[w.heap.size]? = some (.cells #[.bool false] 4 (0, 0)) := by rw [← hW0]; exact World.alloc_heap_new w _
  have kp : ∀ {X Y : World} {k : Nat} {o : Obj}, Below X.heap.size X Y → X.heap[k]? = some o → Y.heap[k]? = some o := fun hb ho => (hb.block _ (Array.getElem?_eq_some_iff.1 ho).1).trans ho
  have C1 : Hid (Calls Tryz.prog 17 #[v] W0 fun e W' => e = .returned (.string TX) ∧ Hid (Rp W' t v ∧ W'.heap[w.heap.size]? = some (.cells #[.bool false] 4 (0, 0)) ∧ Below w.heap.size w W')) := (rtext_any (h.below hb0) (by unfold B40; omega)).mono fun e W' ⟨k1, k2⟩ => ⟨by rw [k1, hTX], (h.below hb0).below k2, kp k2 r0, Below.on hb0 k2⟩
  have C2 : Hid (∀ W : World, Hid (Rp W t v ∧ W.heap[w.heap.size]? = some (.cells #[.bool false] 4 (0, 0)) ∧ Below w.heap.size w W) → Calls Tryz.prog 18 #[v] W fun e W' => e = .returned (.int .i64 N) ∧ Hid (Rp W' t v ∧ W'.heap[w.heap.size]? = some (.cells #[.bool false] 4 (0, 0)) ∧ Below w.heap.size w W')) := fun W ⟨a1, a2, hW⟩ => (rlen_any a1).mono fun e W' ⟨k1, k2⟩ => ⟨by rw [k1, hTX, hN], a1.below k2, kp k2 a2, Below.on hW k2⟩
  have C3 : Hid (∀ W : World, Hid (Rp W t v ∧ W.heap[w.heap.size]? = some (.cells #[.bool false] 4 (0, 0)) ∧ Below w.heap.size w W) → Calls Tryz.prog 60 #[v] W fun e W' => e = .returned (sv m) ∧ Hid (Rp W' t v ∧ W'.heap[w.heap.size]? = some (.cells #[.bool false] 4 (0, 0)) ∧ Below w.heap.size w W')) := fun W ⟨a1, a2, hW⟩ => (rsum_any a1).mono fun e W' ⟨k1, k2⟩ => ⟨by rw [k1, hTX, hm], a1.below k2, kp k2 a2, Below.on hW k2⟩
  have C4 : Hid (∀ W : World, Hid (Rp W t v ∧ W.heap[w.heap.size]? = some (.cells #[.bool false] 4 (0, 0)) ∧ Below w.heap.size w W) → Calls Tryz.prog 61 #[.string TX] W fun e W' => e = .returned (sv m) ∧ Hid (Rp W' t v ∧ W'.heap[w.heap.size]? = some (.cells #[.bool false] 4 (0, 0)) ∧ Below w.heap.size w W')) := fun W ⟨a1, a2, hW⟩ => (rmeasure_any TX (by omega) W).mono fun e W' ⟨k1, k2⟩ => ⟨by rw [k1, hm], a1.below k2, kp k2 a2, Below.on hW k2⟩
  have C5 : Hid (∀ W : World, Hid (Rp W t v ∧ W.heap[w.heap.size]? = some (.cells #[.bool false] 4 (0, 0)) ∧ Below w.heap.size w W) → Calls Tryz.prog 47 #[v] W fun e W' => ∃ x, e = .returned x ∧ Hid (At W' t x ∧ (Rp W' t v ∧ W'.heap[w.heap.size]? = some (.cells #[.bool false] 4 (0, 0)) ∧ Below w.heap.size w W'))) := fun W ⟨a1, a2, hW⟩ => (rtree_any a1).mono fun e W' ⟨x, k1, k2, k3⟩ => ⟨x, k1, k2, a1.below k3, kp k3 a2, Below.on hW k3⟩
  have C6 : Hid (∀ (W : World) (x : Value), Hid (At W t x ∧ (Rp W t v ∧ W.heap[w.heap.size]? = some (.cells #[.bool false] 4 (0, 0)) ∧ Below w.heap.size w W)) → Calls Tryz.prog 62 #[x, .string TX] W fun e W' => ∃ g cap, e = .returned (.tuple #[.slice (some ⟨g, 0, none⟩) n cap, .int .i64 hh, .bool true]) ∧ Hid (W'.ownsRow w.heap.size 9 1 (.slice (some ⟨g, 0, none⟩) n cap) n (strs t.lv) ∧ (Rp W' t v ∧ W'.heap[w.heap.size]? = some (.cells #[.bool false] 4 (0, 0)) ∧ Below w.heap.size w W'))) := fun W x ⟨a0, a1, a2, hW⟩ => by
    rw [← hTX, ← hn, ← hhh]
    exact (seen_any a0 hG.fine (by unfold B40; omega) (hE.below hW)).mono fun e W' ⟨g, cap, k1, k2, k3⟩ => ⟨g, cap, k1, row_lower k2 hW.size, a1.below k3, kp k3 a2, Below.on hW k3⟩
  have C7 : Hid (∀ (W : World) (bL g cap : Nat) (cur : Array Value), Hid (Rp W t v ∧ W.heap[w.heap.size]? = some (.cells #[.bool false] 4 (0, 0)) ∧ W.heap[bL]? = some (.cells #[.slice (some ⟨g, 0, none⟩) n cap] 22 (0, 0)) ∧ W.heap[g]? = some (.cells cur 9 (0, 0)) ∧ Below w.heap.size w W) → Calls Tryz.prog 16 #[v] W fun e W' => e = .returned (.int .i64 hh) ∧ Hid (Rp W' t v ∧ W'.heap[w.heap.size]? = some (.cells #[.bool false] 4 (0, 0)) ∧ W'.heap[bL]? = some (.cells #[.slice (some ⟨g, 0, none⟩) n cap] 22 (0, 0)) ∧ W'.heap[g]? = some (.cells cur 9 (0, 0)) ∧ Below w.heap.size w W')) := fun W bL g cap cur ⟨a1, a2, a3, a4, hW⟩ => (rheight_any a1).mono fun e W' ⟨k1, k2⟩ => ⟨by rw [k1, hhh], a1.below k2, kp k2 a2, kp k2 a3, kp k2 a4, Below.on hW k2⟩
  have C8 : Hid (∀ (W : World) (bL g cap : Nat) (cur : Array Value), (∀ k x, t.lv[k]? = some x → cur[k]? = some (Value.string x)) → n ≤ cap → Hid (Rp W t v ∧ W.heap[w.heap.size]? = some (.cells #[.bool false] 4 (0, 0)) ∧ W.heap[bL]? = some (.cells #[.slice (some ⟨g, 0, none⟩) n cap] 22 (0, 0)) ∧ W.heap[g]? = some (.cells cur 9 (0, 0)) ∧ Below w.heap.size w W) → Calls Tryz.prog 63 #[.string TX, .slice (some ⟨g, 0, none⟩) n cap, .int .i64 hh] W fun e W' => e = .returned (.bool true) ∧ Hid (Rp W' t v ∧ W'.heap[w.heap.size]? = some (.cells #[.bool false] 4 (0, 0)) ∧ W'.heap[bL]? = some (.cells #[.slice (some ⟨g, 0, none⟩) n cap] 22 (0, 0)) ∧ W'.heap[g]? = some (.cells cur 9 (0, 0)) ∧ Below w.heap.size w W')) := fun W bL g cap cur hcur hcap ⟨a1, a2, a3, a4, hW⟩ => by
    have := shaped_any (s := TX) (ls := t.lv) (g := g) (cap := cap) (h := hh) (w := W) (by omega) (fun k x hk => by unfold World.cell?; rw [a4]; simpa using hcur k x hk) (Array.getElem?_eq_some_iff.1 a4).1 (by omega) (by omega) (by rw [← text_lv, hTX]) (fun k x hk => by rw [← hTX]; exact good_lk hG hk) hh1 (by omega)
    rw [hn] at this
    exact this.mono fun e W' ⟨k1, k2⟩ => ⟨k1, a1.below k2, kp k2 a2, kp k2 a3, kp k2 a4, Below.on hW k2⟩
  have C9 : Hid (∀ (W : World) (bL g cap : Nat) (cur : Array Value), Hid (Rp W t v ∧ W.heap[w.heap.size]? = some (.cells #[.bool false] 4 (0, 0)) ∧ W.heap[bL]? = some (.cells #[.slice (some ⟨g, 0, none⟩) n cap] 22 (0, 0)) ∧ W.heap[g]? = some (.cells cur 9 (0, 0)) ∧ Below w.heap.size w W) → Calls Tryz.prog 13 #[v] W fun e W' => ∃ c x, e = .returned (.func (.func 52) #[] #[.pointer (some ⟨c, 0, none⟩)]) ∧ Hid (W'.heap[c]? = some (.cells #[x] 99 (0, 0)) ∧ At W' t x ∧ (Rp W' t v ∧ W'.heap[w.heap.size]? = some (.cells #[.bool false] 4 (0, 0)) ∧ W'.heap[bL]? = some (.cells #[.slice (some ⟨g, 0, none⟩) n cap] 22 (0, 0)) ∧ W'.heap[g]? = some (.cells cur 9 (0, 0)) ∧ Below w.heap.size w W'))) := fun W bL g cap cur ⟨a1, a2, a3, a4, hW⟩ => (leaves_any a1).mono fun e W' ⟨c, x, k1, k3, k4, k2⟩ => ⟨c, x, k1, k3, k4, a1.below k2, kp k2 a2, kp k2 a3, kp k2 a4, Below.on hW k2⟩
  have HS : Hid (∀ (W : World) (g cap : Nat), Hid (W.ownsRow w.heap.size 9 1 (.slice (some ⟨g, 0, none⟩) n cap) n (strs t.lv) ∧ (Rp W t v ∧ W.heap[w.heap.size]? = some (.cells #[.bool false] 4 (0, 0)) ∧ Below w.heap.size w W)) → ∃ cur : Array Value, (∀ k x, t.lv[k]? = some x → cur[k]? = some (Value.string x)) ∧ n ≤ cap ∧ Hid (Rp (W.alloc (.cells #[.slice (some ⟨g, 0, none⟩) n cap] 22)) t v ∧ (W.alloc (.cells #[.slice (some ⟨g, 0, none⟩) n cap] 22)).heap[w.heap.size]? = some (.cells #[.bool false] 4 (0, 0)) ∧ (W.alloc (.cells #[.slice (some ⟨g, 0, none⟩) n cap] 22)).heap[W.heap.size]? = some (.cells #[.slice (some ⟨g, 0, none⟩) n cap] 22 (0, 0)) ∧ (W.alloc (.cells #[.slice (some ⟨g, 0, none⟩) n cap] 22)).heap[g]? = some (.cells cur 9 (0, 0)) ∧ Below w.heap.size w (W.alloc (.cells #[.slice (some ⟨g, 0, none⟩) n cap] 22)))) := fun W g cap ⟨a0, a1, a2, hW⟩ => by
    have hb := (Below.refl _ W).alloc (Nat.le_refl _) (.cells #[.slice (some ⟨g, 0, none⟩) n cap] 22)
    rcases a0.2 with ⟨h0, _⟩ | ⟨g', cap', cur, hv, _, hgb, hc, _, _, htk⟩
    · cases h0
    · cases hv
      refine ⟨cur, fun k x hk => ?_, hc, a1.below hb, kp hb a2, World.alloc_heap_new W _, kp hb hgb, Below.on hW hb⟩
      have hkn : k < n := by rw [← hn]; exact (List.getElem?_eq_some_iff.1 hk).1
      have e1 : (strs t.lv)[k]? = some (.string x) := by rw [List.getElem?_map, hk]; rfl
      rw [← htk, List.getElem?_take, if_pos (by omega)] at e1
      simpa using e1
  have q1 := fun W => sv_neq m W
  have hfn := fun x y W => func_nil (.func 52) x y W
  have HLV : Hid (t.lv.length = n) := hn
  have HZ : Hid (t.text.size ≤ B40) := by show _ ≤ _; unfold B40; omega
  have HNX : Hid (∀ pre x, pre ++ [x] <+: lvo t 0 → t.lv[pre.length]? = some x.2 ∧ x.1 = (jo (t.lv.take pre.length)).size ∧ pre.length < n ∧ (jo (t.lv.take (pre.length + 1))).size = x.1 + x.2.size ∧ x.1 + x.2.size ≤ 1099511627776) := fun pre x hp => by
    obtain ⟨e1, e2, e3⟩ := lvo_nx hp
    have e4 := jo_take e1
    have e5 := (good_lk hG e1).f2
    exact ⟨e1, e2, by omega, by omega, by omega⟩
  rw [hTX]
  clear h hG hE hb0 r0 kp hm hhh hh1 hfb hn
  refine callsIn_of_wp_marks Tryz.func19 rfl trivial ?_ rfl
  simp only [Tryz.ntmps19, List.size_toArray, List.length_cons, List.length_nil, Nat.reduceAdd, Nat.reduceSub, Array.replicate_succ, Array.replicate_zero, List.push_toArray, List.append_toArray, List.nil_append, List.cons_append]
  gi_wp2_with (first | (refine ⟨trivial, ?_⟩; gi_at_call 17; refine (callsIn_wide.2 C1.out).mono ?_; clear C1 hW0; rintro e w1 ⟨rfl, H⟩) | (refine ⟨trivial, ?_⟩; gi_at_call 18; refine (callsIn_wide.2 (C2.out _ H)).mono ?_; clear C2 H; rintro e w2 ⟨rfl, H⟩) | (refine ⟨trivial, ?_⟩; gi_at_call 60; refine (callsIn_wide.2 (C3.out _ H)).mono ?_; clear C3 H; rintro e w3 ⟨rfl, H⟩) | (refine ⟨trivial, ?_⟩; gi_at_call 61; refine (callsIn_wide.2 (C4.out _ H)).mono ?_; clear C4 H; rintro e w4 ⟨rfl, H⟩) | (refine ⟨trivial, ?_⟩; gi_at_call 47; refine (callsIn_wide.2 (C5.out _ H)).mono ?_; clear C5 H; rintro e w5 ⟨x5, rfl, H⟩) | (refine ⟨trivial, ?_⟩; gi_at_call 62; refine (callsIn_wide.2 (C6.out _ _ H)).mono ?_; clear C6 H; rintro e w6 ⟨g, cap, rfl, H6⟩; obtain ⟨cur, hcur, hcap, H⟩ := HS.out _ _ _ H6; clear H6 HS) | (refine ⟨trivial, ?_⟩; gi_at_call 16; refine (callsIn_wide.2 (C7.out _ _ _ _ _ H)).mono ?_; clear C7 H; rintro e w7 ⟨rfl, H⟩; have c7 : w7.cell? ⟨w6.heap.size, 0, none⟩ = some (.slice (some ⟨g, 0, none⟩) n cap) := (by have := H.out.2.2.1; unfold World.cell?; rw [this]; rfl)) | (refine ⟨trivial, ?_⟩; gi_at_call 63; refine (callsIn_wide.2 (C8.out _ _ _ _ _ hcur hcap H)).mono ?_; clear C8 H c7; rintro e w8 ⟨rfl, H⟩) | (refine ⟨trivial, ?_⟩; gi_at_call 13; refine (callsIn_wide.2 (C9.out _ _ _ _ _ H)).mono ?_; clear C9 H; rintro e w9 ⟨c, x9, rfl, H⟩))
  obtain ⟨W2, hW2⟩ : ∃ W2, (w9.alloc (.cells #[.int .i64 0] 3)).alloc (.cells #[.int .i64 0] 3) = W2 := ⟨_, rfl⟩
  rw [hW2]
  obtain ⟨p0, p1⟩ : W2.heap[w9.heap.size]? = some (.cells #[.int .i64 0] 3 (0, 0)) ∧ W2.heap[w9.heap.size + 1]? = some (.cells #[.int .i64 0] 3 (0, 0)) := by rw [← hW2]; exact push2 w9.heap _ _
  have hB0 : Below w9.heap.size w9 W2 := by rw [← hW2]; exact ((Below.refl _ w9).alloc (Nat.le_refl _) _).alloc (by simp) _
  have HSZ : Hid (W2.heap.size = w9.heap.size + 2) := by show _ = _; rw [← hW2]; simp
  clear hW2
  obtain ⟨k1, k2, _, k4, k5, k6, k7⟩ := H.out
  have lt4 := (Array.getElem?_eq_some_iff.1 k4).1
  have lt5 := (Array.getElem?_eq_some_iff.1 k5).1
  have lt6 := (Array.getElem?_eq_some_iff.1 k6).1
  have kp : ∀ {k : Nat} {o : Obj}, w9.heap[k]? = some o → W2.heap[k]? = some o := fun ho => (hB0.block _ (Array.getElem?_eq_some_iff.1 ho).1).trans ho
  have hI0 : RBx w t w6.heap.size g cap w9.heap.size cur [] W2 := ⟨kp k4, by rw [HLV.out]; exact kp k5, kp k6, p0, p1, Below.on k7 hB0⟩
  have hc2 := kp k1
  have hA2 := k2.below hB0
  clear H k1 k2 k4 k5 k6 kp p0 p1
  refine act_name' fun A hA => ?_
  refine range_own rfl h1 (gf := 52) (lb := #[.pointer (some ⟨c, 0, none⟩)]) (by rw [hA]; rfl) trivial (enters_of Tryz.func52 (by kernel_rfl) rfl)
    (leaf_seq (d - 1) c (W2.heap.size + 2) (MutN w9.heap.size) t x9 W2 hc2 hA2 HZ.out (fun k vs fz h => by obtain ⟨_, _, _, e⟩ := h; cases e) (fun k vs fz h => by obtain ⟨_, _, _, e⟩ := h; cases e))
    KpT.trans (fun W l o o' _ _ hl ho => KpT.putObj W l o o' hl ho) (fun _ => rfl)
    (RBx w t w6.heap.size g cap w9.heap.size cur) (fun _ _ _ => False)
    (rb_ab (by have := HSZ.out; omega) (by have := HSZ.out; omega) (by have := HSZ.out; omega) (by have := HSZ.out; omega)) (fun _ _ _ _ _ hs _ _ => hs) hI0
    (fun x a' _ => a' = { tmps := ((((#[59, 60] : Array Tmp).zip (encL x)).foldl (fun t (p, v) => t.setIfInBounds p v) A.tmps).setIfInBounds 11 (.int .i64 (x.1 : Int))).setIfInBounds 12 (.string x.2), defers := [] })
    (fun _ _ _ _ _ _ hs _ _ => hs) ?assign ?body ?done ?stop
  case assign =>
    intro l pre x W K hi hK
    subst hA
    gi_wp2
    exact hK _ _ (KeepsFrom.refl _ _) (KpT.refl _ _) hi (by simp [encL])
  case body =>
    rintro l pre ⟨off, s⟩ a' W _ _ _ _ hb rfl hnx
    obtain ⟨e1, x2, e3, x4, x5'⟩ := HNX.out pre (off, s) hnx
    have e2 : off = (jo (t.lv.take pre.length)).size := x2
    have e4 : (jo (t.lv.take (pre.length + 1))).size = off + s.size := x4
    have e5 : off + s.size ≤ 1099511627776 := x5'
    clear x2 x4 x5'
    obtain ⟨cN, fN⟩ := box1 hb.n
    obtain ⟨cA, fA⟩ := box1 hb.a
    obtain ⟨cL, _⟩ := box1 hb.l
    rw [← e2] at cA
    rw [HLV.out] at cL
    have cG : W.cell? ⟨g, pre.length, none⟩ = some (.string s) := by unfold World.cell?; rw [hb.g]; simpa using hcur _ _ e1
    have HFIN : Hid (∀ W', W' = ((W.setCell ⟨w9.heap.size, 0, none⟩ (.int .i64 ((pre.length : Int) + 1))).setCell ⟨w9.heap.size + 1, 0, none⟩ (.int .i64 ((off : Int) + s.size))) → KeepsFrom W2.heap.size W W' ∧ KpT (MutN w9.heap.size) W W' ∧ RBx w t w6.heap.size g cap w9.heap.size cur (pre ++ [(off, s)]) W') := fun W' hW' => by
      have g1 := gcell W w9.heap.size 0 (.int .i64 ((pre.length : Int) + 1))
      have s1 := set1 (i := 0) (.int .i64 ((pre.length : Int) + 1)) hb.n
      generalize W.setCell ⟨w9.heap.size, 0, none⟩ (.int .i64 ((pre.length : Int) + 1)) = V at *
      have g2 := gcell V (w9.heap.size + 1) 0 (.int .i64 ((off : Int) + s.size))
      have kV : ∀ {k : Nat} {o : Obj}, W.heap[k]? = some o → k ≠ w9.heap.size → V.heap[k]? = some o := fun ho hne => (g1.block _ (Array.getElem?_eq_some_iff.1 ho).1 (fun e => hne (by cases e; rfl))).trans ho
      have a1 := kV hb.a (by omega)
      have s2 := set1 (i := 0) (.int .i64 ((off : Int) + s.size)) a1
      rw [← hW'] at g2 s2
      have kW : ∀ {k : Nat} {o : Obj}, V.heap[k]? = some o → k ≠ w9.heap.size + 1 → W'.heap[k]? = some o := fun ho hne => (g2.block _ (Array.getElem?_eq_some_iff.1 ho).1 (fun e => hne (by cases e; rfl))).trans ho
      refine ⟨kf_trans (kf_cells g1 hb.n) (kf_cells g2 a1), (KpT.of_grown g1 (fun r o e ho => by cases e; rw [hb.n] at ho; cases ho; exact ⟨.inl rfl, _, _, rfl⟩)).trans (KpT.of_grown g2 (fun r o e ho => by cases e; rw [a1] at ho; cases ho; exact ⟨.inr rfl, _, _, rfl⟩)), ⟨kW (kV hb.r (by omega)) (by omega), kW (kV hb.l (by omega)) (by omega), kW (kV hb.g (by omega)) (by omega), ?_, ?_, ?_⟩⟩
      · have := kW s1 (by omega)
        rw [List.length_append]
        simpa using this
      · rw [List.length_append]
        show W'.heap[w9.heap.size + 1]? = some (Obj.cells #[.int .i64 ((jo (t.lv.take (pre.length + 1))).size : Int)] 3 (0, 0))
        rw [e4]
        simpa using s2
      · exact (hb.bel.grown g1 hb.bel.size (fun j e => by cases e; omega)).grown g2 (Nat.le_trans hb.bel.size g1.size) (fun j e => by cases e; omega)
    have c1 : ¬ (n : Int) ≤ pre.length := by omega
    have c2 : pre.length < n := e3
    have b1 : pre.length ≤ 1099511627777 := by omega
    have b2 : off ≤ 1099511627776 := by omega
    have b3 : s.size ≤ 1099511627776 := by omega
    subst hA
    clear e1 e2 e3 e4 hb HNX hnx
    gi_wp2
    exact HFIN.out _ rfl
  case done =>
    rintro D ys W hD rfl hb hK
    have hDw : w.heap.size < D := by have := HSZ.out; omega
    obtain ⟨cN, _⟩ := box1 hb.n
    obtain ⟨cL, _⟩ := box1 hb.l
    obtain ⟨cR, fR⟩ := box1 hb.r
    rw [lvo_len, HLV.out] at cN
    rw [HLV.out] at cL
    have hK' : (W.setCell ⟨w.heap.size, 0, none⟩ (.bool true)).heap[D]? = some (.deferred (some [])) := ((gcell W w.heap.size 0 (.bool true)).block D (Array.getElem?_eq_some_iff.1 hK).1 (fun e => by cases e; omega)).trans hK
    have s1 := set1 (i := 0) (.bool true) hb.r
    obtain ⟨c9, _⟩ := box1 ((World.putObj_heap_other (w := W.setCell ⟨w.heap.size, 0, none⟩ (.bool true)) (o := .deferred none) (show w.heap.size ≠ D by omega)).trans (show _ = some (Obj.cells #[.bool true] 4 (0, 0)) from s1))
    have hB : Below w.heap.size w (W.setCell ⟨w.heap.size, 0, none⟩ (.bool true)) := hb.bel.setCell (p := ⟨w.heap.size, 0, none⟩) (Nat.le_refl _) _
    subst hA
    gi_wp2
    refine ⟨by simp, .inl ⟨_, _, rfl, run_takeDeferred hK', ?_⟩⟩
    exact ⟨_, (by simp [results, Tryz.results19, go_sem, c9]), rfl, hB.trans (belowK_b (w := w) (Nat.le_refl _) _ D _ _ (by omega) hK' rfl rfl)⟩
  case stop =>
    rintro D c pre W _ _ h _
    exact h.elim
theorem right_any {t : Tr} {v : Value} {w : World} (h : Rp w t v) (hG : Good t) (hs : t.text.size ≤ 1099511627776) (hE : Ev w) :
    Calls Tryz.prog 19 #[v, .string t.text] w fun e W' => e = .returned (.bool true) ∧ Below w.heap.size w W' := callsIn_wide.1 (right_in 5 (by omega) h hG hs hE)
end Go.Proofs.YtffipfmnpffdaaaGreatDoor
