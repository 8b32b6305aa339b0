/-
  Ropes in memory; package rope's laid, Tree, New, together, Concat, Len, Height and Sum. Conditions: the two tables of unicode/utf8 lie as their text lays them; all texts together hold at most 1099511627776 bytes.
-/
import Derived.Test.YtcjmfoadimpffaaGreatDoorRNew
namespace Go.Proofs.YtcjmfoadimpffaaGreatDoor
open Go.RowKit Go.Shelf Bod Wid

set_option maxRecDepth 100000 in
set_option maxHeartbeats 1000000 in
theorem laid_any {w : World} {l r : Tr} {s : ByteArray} {x y : Value} (hl : At w l x) (hr : At w r y) (fl : Fine l) (fr : Fine r) (al : Avl l) (ar : Avl r) (hs : l.text.size + s.size + r.text.size ≤ B40) (hE : Ev w) :
    Calls Tryz.prog 47 #[x, .string s, y] w (Mk w (lay l s r)) := by
  obtain ⟨t1, t2, t3, -, -⟩ := tof_ok s
  obtain ⟨f1, f2, -⟩ := lnk_fine fl t1 al t2
  have f3 := lnk_text fl t1 al t2
  rw [t3] at f3
  have z := congrArg ByteArray.size f3
  rw [size_app] at z
  have K1 : Hid (Calls Tryz.prog 42 #[.string s] w fun e W' => ∃ v, e = .returned v ∧ Hid (At W' (tof s) v ∧ Below w.heap.size w W')) := (treeOf_any s (by omega) w hE).mono fun e W' ⟨v, h1, h2, h3⟩ => ⟨v, h1, h2, h3⟩
  have K2 : Hid (∀ W v, Hid (At W (tof s) v ∧ Below w.heap.size w W) → Calls Tryz.prog 87 #[x, v] W fun e W' => ∃ v, e = .returned v ∧ Hid (At W' (lnk l (tof s)) v ∧ Below w.heap.size w W')) := fun W v ⟨h1, hW⟩ =>
    (link_any (hl.below hW) h1 fl t1 al t2 (by rw [t3]; omega) (hE.below hW)).mono fun e W' ⟨v, h1, h2, h3⟩ => ⟨v, h1, h2, Below.on hW h3⟩
  have K3 : Hid (∀ W v, Hid (At W (lnk l (tof s)) v ∧ Below w.heap.size w W) → Calls Tryz.prog 87 #[v, y] W (Mk w (lay l s r))) := fun W v ⟨h1, hW⟩ =>
    (link_any h1 (hr.below hW) f1 fr f2 ar (by omega) (hE.below hW)).mono fun e W' ⟨v, h1, h2, h3⟩ => ⟨v, h1, h2, Below.on hW h3⟩
  generalize lay l s r = L at K3 ⊢
  clear hl hr fl fr al ar hs hE t1 t2 t3 f1 f2 f3 z
  go_enter Tryz.func47, Tryz.ntmps47
  go_wp2_with (first | (go_at_call 42; refine K1.out.mono ?_; clear K1; rintro e w1 ⟨v1, rfl, h1⟩) | (go_at_call 87; refine (K2.out _ _ h1).mono ?_; clear K2; rintro e w2 ⟨v2, rfl, h2⟩) | (go_at_call 87; refine (K3.out _ _ h2).mono ?_; clear K3; rintro e w3 ⟨v3, rfl, h3⟩))
  go_ret
  exact ⟨_, rfl, h3⟩
/-- v is a rope with the tree t -/
def Rp (w : World) (t : Tr) (v : Value) : Prop :=
  (v = .pointer none ∧ t = .leaf noB) ∨ ∃ b x, v = .pointer (some ⟨b, 0, none⟩) ∧ w.heap[b]? = some (.cells #[x] 92 (0, 0)) ∧ ((x = .nilIface ∧ t = .leaf noB) ∨ At w t x)
theorem Rp.below {w W : World} {t : Tr} {v : Value} (h : Rp w t v) (hb : Below w.heap.size w W) : Rp W t v := by
  rcases h with h | ⟨b, x, h1, h2, h3⟩
  · exact .inl h
  · exact .inr ⟨b, x, h1, (hb.block _ (Array.getElem?_eq_some_iff.1 h2).1).trans h2, h3.imp id (fun h => h.below hb)⟩
theorem eq_nil (T : TypeId) (p : Value) (W : World) : (binOp .eql 89 (.iface T p) .nilIface).run Tryz.prog W = .ok (.bool false) W := by kernel_rfl
set_option maxRecDepth 100000 in
set_option maxHeartbeats 1000000 in
theorem rtree_any {w : World} {t : Tr} {v : Value} (h : Rp w t v) : Calls Tryz.prog 44 #[v] w (Mk w t) := by
  have K1 : Hid (Calls Tryz.prog 84 #[] w (Mk w (.leaf noB))) := eleaf_any w
  rcases h with ⟨rfl, rfl⟩ | ⟨b, x, rfl, h2, ⟨rfl, rfl⟩ | h3⟩
  · go_enter Tryz.func44, Tryz.ntmps44
    go_wp2_with (go_at_call 84; refine K1.out.mono ?_; clear K1; rintro e w1 ⟨v1, rfl, h1⟩)
    go_ret
    exact ⟨_, rfl, h1⟩
  · have c0 : w.cell? ⟨b, 0, none⟩ = some .nilIface := by unfold World.cell?; rw [h2]; rfl
    have hb := (Array.getElem?_eq_some_iff.1 h2).1
    clear h2
    go_enter Tryz.func44, Tryz.ntmps44
    go_wp2_with (go_at_call 84; refine K1.out.mono ?_; clear K1; rintro e w1 ⟨v1, rfl, h1⟩)
    go_ret
    exact ⟨_, rfl, h1⟩
  · have HA : Hid (At w t x) := h3
    obtain ⟨T, a, fS, fP, fT, p, rfl, -, -, -, -, -, -, -⟩ := h3.nd
    have c0 : w.cell? ⟨b, 0, none⟩ = some (.iface T (.pointer (some a))) := by unfold World.cell?; rw [h2]; rfl
    have hb := (Array.getElem?_eq_some_iff.1 h2).1
    have he := fun W => eq_nil T (.pointer (some a)) W
    clear h2 h3 K1
    go_enter Tryz.func44, Tryz.ntmps44
    go_wp2
    go_ret
    exact ⟨_, rfl, HA.out, Below.refl _ w⟩
/-- what a call that makes a rope leaves -/
abbrev MkR (w : World) (t : Tr) (e : Ending) (W' : World) : Prop := ∃ b x, e = .returned (.pointer (some ⟨b, 0, none⟩)) ∧ W'.heap[b]? = some (.cells #[x] 92 (0, 0)) ∧ At W' t x ∧ Below w.heap.size w W'
set_option maxRecDepth 100000 in
set_option maxHeartbeats 1000000 in
theorem rnew_any (s : ByteArray) (hs : s.size ≤ B40) (w : World) (hE : Ev w) : Calls Tryz.prog 10 #[.string s] w (MkR w (tof s)) := by
  have K1 : Hid (Calls Tryz.prog 42 #[.string s] w fun e W' => ∃ T p, e = .returned (.iface T p) ∧ Hid (At W' (tof s) (.iface T p) ∧ Below w.heap.size w W')) := (treeOf_any s hs w hE).mono fun e W' ⟨v, h1, h2, h3⟩ => by
    obtain ⟨T, a, _, _, _, _, rfl, -⟩ := h2.nd
    exact ⟨T, _, h1, h2, h3⟩
  clear hE
  go_enter Tryz.func10, Tryz.ntmps10
  go_wp2_with (go_at_call 42; refine K1.out.mono ?_; clear K1; rintro e w1 ⟨T, p, rfl, h1⟩)
  go_ret
  have hb := (Below.refl _ w1).alloc (Nat.le_refl _) (.cells #[.iface T p] 92)
  exact ⟨_, _, rfl, World.alloc_heap_new w1 _, h1.out.1.below hb, Below.on h1.out.2 hb⟩
set_option maxRecDepth 100000 in
set_option maxHeartbeats 1000000 in
theorem rlen_any {w : World} {t : Tr} {v : Value} (h : Rp w t v) : Calls Tryz.prog 41 #[v] w fun e W' => e = .returned (.int .i64 t.text.size) ∧ Below w.heap.size w W' := by
  obtain ⟨m, hm⟩ : ∃ m, smr t.text = m := ⟨_, rfl⟩
  obtain ⟨n, hn⟩ : ∃ n, t.text.size = n := ⟨_, rfl⟩
  have y1 := fby (m := m) (n := n) (by rw [← hm, ← hn]; rfl)
  have K1 : Hid (Calls Tryz.prog 44 #[v] w fun e W' => ∃ T a fS, e = .returned (.iface T (.pointer (some a))) ∧ (∀ W, (method 356 T (.pointer (some a)) "Sum").run Tryz.prog W = .ok (fS, .pointer (some a)) W) ∧ (∀ args W, (callFunc fS args).run Tryz.prog W = .ok (.enter fS args) W) ∧ Hid (Calls Tryz.prog fS #[.pointer (some a)] W' fun e X => e = .returned (sv m) ∧ Below w.heap.size w X)) := (rtree_any h).mono fun e W' ⟨v, h1, h2, h3⟩ => by
    obtain ⟨T, a, fS, _, _, _, rfl, ⟨m1, m2⟩, -, -, S1, -⟩ := h2.nd
    exact ⟨T, a, fS, h1, m1, m2, (S1.out _ (Below.refl _ _)).mono fun e X ⟨k1, k2⟩ => ⟨by rw [k1, hm], Below.on h3 k2⟩⟩
  rw [hn]
  clear h hm hn
  go_enter Tryz.func41, Tryz.ntmps41
  go_wp2_with (first | (go_at_call 44; refine K1.out.mono ?_; clear K1; rintro e w1 ⟨T, a, fS, rfl, m1, m2, S1⟩) | (go_at_fn fS; refine S1.out.mono ?_; clear S1; rintro e w2 ⟨rfl, hb2⟩))
  go_ret
  exact ⟨rfl, hb2⟩
set_option maxRecDepth 100000 in
set_option maxHeartbeats 1000000 in
theorem rheight_any {w : World} {t : Tr} {v : Value} (h : Rp w t v) : Calls Tryz.prog 16 #[v] w fun e W' => e = .returned (.int .i64 t.h) ∧ Below w.heap.size w W' := by
  have K1 : Hid (Calls Tryz.prog 44 #[v] w fun e W' => ∃ v, e = .returned v ∧ Hid (At W' t v ∧ Below w.heap.size w W')) := (rtree_any h).mono fun e W' ⟨v, h1, h2, h3⟩ => ⟨v, h1, h2, h3⟩
  have K2 : Hid (∀ W v, Hid (At W t v ∧ Below w.heap.size w W) → Calls Tryz.prog 56 #[v] W fun e W' => e = .returned (.int .i64 t.h) ∧ Below w.heap.size w W') := fun W v ⟨h1, hW⟩ => (height_any h1).mono fun e W' ⟨k1, k2⟩ => ⟨k1, k2 ▸ hW⟩
  clear h
  go_enter Tryz.func16, Tryz.ntmps16
  go_wp2_with (first | (go_at_call 44; refine K1.out.mono ?_; clear K1; rintro e w1 ⟨v1, rfl, h1⟩) | (go_at_call 56; refine (K2.out _ _ h1).mono ?_; clear K2; rintro e w2 ⟨rfl, hb2⟩))
  go_ret
  exact ⟨rfl, hb2⟩
theorem bef_sz {t : Tr} {n : Nat} (h : Good t) (hn : n ≤ t.text.size) : (bef t n).1.text.size + (bef t n).2.size = n := by
  have := congrArg ByteArray.size (bef_ok h hn).2.2.1
  rw [size_app, size_extract _ _ _ hn] at this
  omega
theorem aft_sz {t : Tr} {n : Nat} (h : Good t) (hn : n ≤ t.text.size) : (aft t n).1.size + (aft t n).2.text.size = t.text.size - n := by
  have := congrArg ByteArray.size (aft_ok h hn).2.2.1
  rw [size_app, size_extract _ _ _ (Nat.le_refl _)] at this
  omega
/-- a slice of ropes -/
def RdP (W : World) (v : Value) (ts : List Tr) : Prop :=
  ∃ a cap, v = .slice a ts.length cap ∧ ts.length ≤ cap ∧ (ts ≠ [] → ∃ g o, a = some ⟨g, o, none⟩ ∧ g < W.heap.size ∧ ∀ k t, ts[k]? = some t → ∃ x, W.cell? ⟨g, o + k, none⟩ = some x ∧ Rp W t x)
theorem RdP.below {w W : World} {v : Value} {ts : List Tr} (h : RdP w v ts) (hb : Below w.heap.size w W) : RdP W v ts := by
  obtain ⟨a, cap, h1, h2, h3⟩ := h
  refine ⟨a, cap, h1, h2, fun hne => ?_⟩
  obtain ⟨g, o, e, h4, h5⟩ := h3 hne
  refine ⟨g, o, e, Nat.lt_of_lt_of_le h4 hb.size, fun k t hk => ?_⟩
  obtain ⟨x, hx, hA⟩ := h5 k t hk
  exact ⟨x, (hb.cell (p := ⟨g, _, none⟩) h4).trans hx, hA.below hb⟩
theorem RdP.take {w : World} {g o len cap k : Nat} {ts : List Tr} (h : RdP w (.slice (some ⟨g, o, none⟩) len cap) ts) (hk : k ≤ ts.length) : RdP w (.slice (some ⟨g, o, none⟩) k cap) (ts.take k) := by
  obtain ⟨a, cap', h1, h2, h3⟩ := h
  cases h1
  refine ⟨_, cap, by rw [List.length_take, Nat.min_eq_left hk], by rw [List.length_take]; omega, fun hne => ?_⟩
  obtain ⟨g', o', e, h4, h5⟩ := h3 (fun e => hne (by rw [e]; simp))
  cases e
  refine ⟨g, o, rfl, h4, fun j t hj => h5 j t ?_⟩
  rw [List.getElem?_take] at hj
  split at hj
  · exact hj
  · cases hj
theorem RdP.drop {w : World} {g o len cap k : Nat} {ts : List Tr} (h : RdP w (.slice (some ⟨g, o, none⟩) len cap) ts) (hk : k ≤ ts.length) : RdP w (.slice (some ⟨g, o + k, none⟩) (len - k) (cap - k)) (ts.drop k) := by
  obtain ⟨a, cap', h1, h2, h3⟩ := h
  cases h1
  refine ⟨_, cap - k, by rw [List.length_drop], by rw [List.length_drop]; omega, fun hne => ?_⟩
  obtain ⟨g', o', e, h4, h5⟩ := h3 (fun e => hne (by rw [e]; simp))
  cases e
  refine ⟨g, o + k, rfl, h4, fun j t hj => ?_⟩
  rw [List.getElem?_drop] at hj
  obtain ⟨x, hx, hA⟩ := h5 _ _ hj
  exact ⟨x, by rw [Nat.add_assoc]; exact hx, hA⟩
end Go.Proofs.YtcjmfoadimpffaaGreatDoor
