/-
  Package rope's treeOfLeaves, treeOf and laid. Conditions: the two tables of unicode/utf8 lie as their text lays them; the text holds at most 1099511627776 bytes.
-/
import Derived.Test.YtcjmfoadimpffaaGreatDoorRBef
namespace Go.Proofs.YtcjmfoadimpffaaGreatDoor
open Go.RowKit Go.Shelf Bod Wid

theorem row_belowN {base e size n : Nat} {v : Value} {xs : List Value} {W W' : World} (h : W.ownsRow base e size v n xs) (hb : Below W.heap.size W W') : W'.ownsRow base e size v n xs :=
  h.kept (row := none) ⟨hb.os, hb.tape, hb.output, hb.size, fun k hk _ => hb.block k hk⟩ (by cases hv : v.ownBlock with
    | none => exact .inl rfl
    | some _ => exact .inr (by simp))

/-- a slice of trees -/
def RdT (W : World) (v : Value) (ts : List Tr) : Prop :=
  ∃ g o cap, v = .slice (some ⟨g, o, none⟩) ts.length cap ∧ ts.length ≤ cap ∧ g < W.heap.size ∧ ∀ k t, ts[k]? = some t → ∃ x, W.cell? ⟨g, o + k, none⟩ = some x ∧ At W t x
theorem RdT.below {w W : World} {v : Value} {ts : List Tr} (h : RdT w v ts) (hb : Below w.heap.size w W) : RdT W v ts := by
  obtain ⟨g, o, cap, h1, h2, h3, h4⟩ := h
  refine ⟨g, o, cap, h1, h2, Nat.lt_of_lt_of_le h3 hb.size, fun k t hk => ?_⟩
  obtain ⟨x, hx, hA⟩ := h4 k t hk
  exact ⟨x, (hb.cell (p := ⟨g, _, none⟩) h3).trans hx, hA.below hb⟩
theorem RdT.take {w : World} {g o len cap k : Nat} {ts : List Tr} (h : RdT w (.slice (some ⟨g, o, none⟩) len cap) ts) (hk : k ≤ ts.length) : RdT w (.slice (some ⟨g, o, none⟩) k cap) (ts.take k) := by
  obtain ⟨g', o', cap', h1, h2, h3, h4⟩ := h
  cases h1
  refine ⟨g, o, cap, by rw [List.length_take, Nat.min_eq_left hk], by rw [List.length_take]; omega, h3, fun j t hj => h4 j t ?_⟩
  rw [List.getElem?_take] at hj
  split at hj
  · exact hj
  · cases hj
theorem RdT.drop {w : World} {g o len cap k : Nat} {ts : List Tr} (h : RdT w (.slice (some ⟨g, o, none⟩) len cap) ts) (hk : k ≤ ts.length) : RdT w (.slice (some ⟨g, o + k, none⟩) (len - k) (cap - k)) (ts.drop k) := by
  obtain ⟨g', o', cap', h1, h2, h3, h4⟩ := h
  cases h1
  refine ⟨g, o + k, cap - k, by rw [List.length_drop], by rw [List.length_drop]; omega, h3, fun j t hj => ?_⟩
  rw [List.getElem?_drop] at hj
  obtain ⟨x, hx, hA⟩ := h4 _ _ hj
  exact ⟨x, by rw [Nat.add_assoc]; exact hx, hA⟩
set_option maxRecDepth 100000 in
set_option maxHeartbeats 1000000 in
theorem tol_any : ∀ (n : Nat) {ls : List ByteArray} {v : Value} {w : World}, ls.length ≤ n → ls ≠ [] → (ls.length ≤ 1 ∨ ∀ x ∈ ls, 0 < x.size) → RdT w v (ls.map .leaf) → (jo ls).size ≤ B40 → Ev w →
    Calls Tryz.prog 83 #[v] w (Mk w (Go.Proofs.YtcjmfoadimpffaaGreatDoor.tol ls))
  | 0, ls, v, w, hn, hne, _, _, _, _ => absurd (List.length_eq_zero_iff.1 (by omega)) hne
  | n + 1, ls, v, w, hn, hne, hp, hr, hs, hE => by
    have hr0 := hr
    obtain ⟨g, o, cap, rfl, hc, hg, hx⟩ := hr
    have hlp := List.length_pos_iff.2 hne
    rw [List.length_map] at hc hr0 ⊢
    obtain ⟨N, hN⟩ : ∃ N, ls.length = N := ⟨_, rfl⟩
    obtain ⟨half, hh⟩ : ∃ k, N / 2 = k := ⟨_, rfl⟩
    have hq : (N : Int) / 2 = (half : Int) := by omega
    rw [hN] at hc hr0 hlp ⊢
    by_cases c : half = 0
    · obtain ⟨x0, rfl⟩ : ∃ x, ls = [x] := by
        match ls, hN with
        | [x], _ => exact ⟨x, rfl⟩
        | [], hN => simp at hN; omega
        | x :: y :: l, hN => simp at hN; omega
      rw [tol_one]
      obtain ⟨x, hx0, hA⟩ := hx 0 (.leaf x0) rfl
      have hx1 : w.cell? ⟨g, o, none⟩ = some x := hx0
      have HA : Hid (At w (.leaf x0) x) := hA
      subst c
      have hN1 : N = 1 := by simpa using hN.symm
      subst hN1
      have hc' : 1 ≤ cap := hc
      clear hx hx0 hA hr0 hE hs hn hp hne hN
      go_enter Tryz.func83, Tryz.ntmps83
      go_wp2
      go_ret
      exact ⟨_, rfl, HA.out, Below.refl _ w⟩
    · have e1 : Go.Proofs.YtcjmfoadimpffaaGreatDoor.tol ls = .knot (Go.Proofs.YtcjmfoadimpffaaGreatDoor.tol (ls.take half)) (Go.Proofs.YtcjmfoadimpffaaGreatDoor.tol (ls.drop half)) := by
        rw [tol_two (by rw [hN, hh]; exact c), hN, hh]
      have hp' : ∀ x ∈ ls, 0 < x.size := hp.resolve_left (by omega)
      have htk := tol_lv _ (Nat.le_refl (ls.take half).length) (by rw [ne_eq, ← List.length_eq_zero_iff, List.length_take]; omega)
      have hdr := tol_lv _ (Nat.le_refl (ls.drop half).length) (by rw [ne_eq, ← List.length_eq_zero_iff, List.length_drop]; omega)
      have pt : Pos (Go.Proofs.YtcjmfoadimpffaaGreatDoor.tol (ls.take half)) := fun x hx => by rw [htk] at hx; exact hp' x (List.mem_of_mem_take hx)
      have pd : Pos (Go.Proofs.YtcjmfoadimpffaaGreatDoor.tol (ls.drop half)) := fun x hx => by rw [hdr] at hx; exact hp' x (List.mem_of_mem_drop hx)
      have hsz : (jo (ls.take half)).size + (jo (ls.drop half)).size ≤ B40 := by rw [← jo_size, List.take_append_drop]; exact hs
      have K1 : Hid (∀ W, Below w.heap.size w W → Calls Tryz.prog 83 #[.slice (some ⟨g, o, none⟩) half cap] W fun e W' => ∃ v, e = .returned v ∧ Hid (At W' (Go.Proofs.YtcjmfoadimpffaaGreatDoor.tol (ls.take half)) v ∧ Below w.heap.size w W')) := fun W hW => by
        have hq := hr0.take (k := half) (by rw [List.length_map]; omega)
        rw [← List.map_take] at hq
        exact (tol_any n (by rw [List.length_take]; omega) (by rw [ne_eq, ← List.length_eq_zero_iff, List.length_take]; omega) (.inr fun x hx => hp' x (List.mem_of_mem_take hx)) (hq.below hW) (by omega) (hE.below hW)).mono fun e W' ⟨v, h1, h2, h3⟩ => ⟨v, h1, h2, Below.on hW h3⟩
      have K2 : Hid (∀ W u, Hid (At W (Go.Proofs.YtcjmfoadimpffaaGreatDoor.tol (ls.take half)) u ∧ Below w.heap.size w W) → Calls Tryz.prog 83 #[.slice (some ⟨g, o + half, none⟩) (N - half) (cap - half)] W fun e W' => ∃ v, e = .returned v ∧ Hid (At W' (Go.Proofs.YtcjmfoadimpffaaGreatDoor.tol (ls.take half)) u ∧ At W' (Go.Proofs.YtcjmfoadimpffaaGreatDoor.tol (ls.drop half)) v ∧ Below w.heap.size w W')) := fun W u ⟨h1, hW⟩ => by
        have hq := hr0.drop (k := half) (by rw [List.length_map]; omega)
        rw [← List.map_drop] at hq
        exact (tol_any n (by rw [List.length_drop]; omega) (by rw [ne_eq, ← List.length_eq_zero_iff, List.length_drop]; omega) (.inr fun x hx => hp' x (List.mem_of_mem_drop hx)) (hq.below hW) (by omega) (hE.below hW)).mono fun e W' ⟨v, k1, k2, k3⟩ => ⟨v, k1, h1.below k3, k2, Below.on hW k3⟩
      have K3 : Hid (∀ W u v, Hid (At W (Go.Proofs.YtcjmfoadimpffaaGreatDoor.tol (ls.take half)) u ∧ At W (Go.Proofs.YtcjmfoadimpffaaGreatDoor.tol (ls.drop half)) v ∧ Below w.heap.size w W) → Calls Tryz.prog 121 #[u, v] W (Mk w (Go.Proofs.YtcjmfoadimpffaaGreatDoor.tol ls))) := fun W u v ⟨h1, h2, hW⟩ => by
        rw [e1]
        exact (kn hE hW h1 h2 pt pd (by rw [text_lv, text_lv, htk, hdr]; exact hsz)).mono fun e W' ⟨v, k1, k2, k3⟩ => ⟨v, k1, k2, Below.on hW k3⟩
      generalize Go.Proofs.YtcjmfoadimpffaaGreatDoor.tol ls = tT at K3 ⊢
      generalize Go.Proofs.YtcjmfoadimpffaaGreatDoor.tol (ls.take half) = tA at K1 K2 K3
      generalize Go.Proofs.YtcjmfoadimpffaaGreatDoor.tol (ls.drop half) = tB at K2 K3
      have hjl := jo_len ls hp'
      have c0 : ¬ (half : Int) = 0 := by omega
      have bN : N ≤ 1099511627776 := by unfold B40 at hs; omega
      have bh : half ≤ 1099511627776 := by omega
      have c1 : half ≤ cap := by omega
      have c2 : half ≤ N := by omega
      have c3 : half < N := by omega
      clear hx hr0 hE hs hn hp hp' hne e1 htk hdr hsz hN hh hlp hg hjl pt pd
      go_enter Tryz.func83, Tryz.ntmps83
      go_wp2
      go_region_with (first | (go_at_call 83; refine (K1.out _ (Below.refl _ w).drew).mono ?_; clear K1; rintro e w1 ⟨v1, rfl, h1⟩) | (go_at_call 83; refine (K2.out _ _ h1).mono ?_; clear K2; rintro e w2 ⟨v2, rfl, h2⟩) | (go_at_call 121; refine (K3.out _ _ _ h2).mono ?_; clear K3; rintro e w3 ⟨v3, rfl, h3⟩))
      all_goals go_wp2
      all_goals exact bodyPost_ret (v := v3) (by simp [results, Tryz.results83, go_sem]) rfl ⟨v3, rfl, h3⟩
theorem infoTR : (Tryz.prog.info? 89).map (fun i => (i.zero, i.size, i.bytes)) = some (some .nilIface, 1, 16) := by kernel_rfl
/-- leaves in a list -/
def LfA (w : World) (pre : List ByteArray) (xs : List Value) : Prop := xs.length = pre.length ∧ ∀ (k : Nat) s, pre[k]? = some s → ∃ x, xs[k]? = some x ∧ At w (.leaf s) x
theorem LfA.below {w W : World} {pre : List ByteArray} {xs : List Value} (h : LfA w pre xs) (hb : Below w.heap.size w W) : LfA W pre xs :=
  ⟨h.1, fun k s hk => by obtain ⟨x, h1, h2⟩ := h.2 k s hk; exact ⟨x, h1, h2.below hb⟩⟩
theorem row_block {W : World} {base e size n : Nat} {v : Value} {xs : List Value} (h : W.ownsRow base e size v n xs) {g : Nat} (hg : v.ownBlock = some g) : ∃ vs, W.heap[g]? = some (.cells vs e (0, 0)) := by
  rcases h.2 with ⟨h0, _⟩ | ⟨g', cap', cur, hv, _, hgb, _⟩
  · rw [h0] at hg; cases hg
  · rw [hv] at hg; cases hg; exact ⟨_, hgb⟩
theorem leaf_grown {W W' : World} {base size n : Nat} {v x : Value} {xs : List Value} {s : ByteArray} (h : At W (.leaf s) x) (hr : W.ownsRow base 89 size v n xs) (hg : W.grownBy W' v.ownBlock) : At W' (.leaf s) x := by
  obtain ⟨b, h1, h2⟩ := h
  refine ⟨b, h1, (hg.block b (Array.getElem?_eq_some_iff.1 h2).1 fun e => ?_).trans h2⟩
  obtain ⟨vs, hv⟩ := row_block hr e.symm
  rw [hv] at h2
  cases h2
theorem LfA.snoc {W W' : World} {base n : Nat} {v x : Value} {pre : List ByteArray} {xs : List Value} {s : ByteArray} (h : LfA W pre xs) (hx : At W (.leaf s) x) (hr : W.ownsRow base 89 1 v n xs) (hg : W.grownBy W' v.ownBlock) : LfA W' (pre ++ [s]) (xs ++ [x]) := by
  refine ⟨by simp [h.1], fun k u hk => ?_⟩
  by_cases hk' : k < pre.length
  · rw [List.getElem?_append_left hk'] at hk
    obtain ⟨y, h1, h2⟩ := h.2 k u hk
    exact ⟨y, by rw [List.getElem?_append_left (by rw [h.1]; exact hk')]; exact h1, leaf_grown h2 hr hg⟩
  · rw [List.getElem?_append_right (by omega)] at hk
    have hk0 : k - pre.length = 0 := by
      have := (List.getElem?_eq_some_iff.1 hk).1
      simp at this
      omega
    rw [hk0] at hk
    cases hk
    exact ⟨x, by rw [List.getElem?_append_right (by rw [h.1]; omega), h.1, hk0]; rfl, leaf_grown hx hr hg⟩
theorem cuts_len (s : ByteArray) : (cuts s).length ≤ s.size + 1 := by
  by_cases h : 0 < s.size
  · obtain ⟨c1, -, -, c4⟩ := cuts_ok _ (Nat.le_refl s.size)
    have := jo_len _ (c4 h)
    rw [c1] at this
    omega
  · rw [cuts_end (by have := fe_le s; omega)]; simp
theorem lfv_one {w : World} {s : ByteArray} {x : Value} (h : At w (.leaf s) x) : ∀ u ∈ [x], u.oneCell' = true := by
  obtain ⟨b, rfl, _⟩ := h
  intro u hu
  rw [List.mem_singleton.1 hu]
  rfl
theorem one_new (w : World) (a : Value) (t : TypeId) : ∀ j u, [a][j]? = some u → (w.alloc (.cells #[a] t)).cell? ((⟨w.heap.size, 0, none⟩ : Addr).add j) = some u := by
  intro j u hj
  match j, hj with
  | 0, hj => simp at hj; subst hj; simp [Addr.add]
  | j + 1, hj => simp at hj
/-- the leaves so far -/
structure TL (w : World) (s r : ByteArray) (pre : List ByteArray) (v : Value) (W : World) (xs : List Value) : Prop where
  cut : cuts s = pre ++ cuts r
  lf : LfA W pre xs
  row : W.ownsRow w.heap.size 89 1 v pre.length xs
  bel : Below w.heap.size w W
theorem TL.below {w : World} {s r : ByteArray} {pre : List ByteArray} {v : Value} {W W' : World} {xs : List Value} (h : TL w s r pre v W xs) (hb : Below W.heap.size W W') : TL w s r pre v W' xs :=
  ⟨h.cut, h.lf.below hb, row_belowN h.row hb, Below.on h.bel hb⟩
theorem TL.len {w : World} {s r : ByteArray} {pre : List ByteArray} {v : Value} {W : World} {xs : List Value} (h : TL w s r pre v W xs) : pre.length ≤ s.size + 1 := by
  have := cuts_len s
  rw [h.cut] at this
  simp at this
  omega
theorem rdt_of {W : World} {base g n cap : Nat} {pre : List ByteArray} {xs : List Value} (h : LfA W pre xs) (hn : pre.length = n) (hr : W.ownsRow base 89 1 (.slice (some ⟨g, 0, none⟩) n cap) n xs) : RdT W (.slice (some ⟨g, 0, none⟩) n cap) (pre.map .leaf) := by
  have hc : n ≤ cap := by
    rcases hr.2 with ⟨h0, _⟩ | ⟨g', cap', cur, hv, _, _, h1, _⟩
    · cases h0
    · cases hv; exact h1
  refine ⟨g, 0, cap, by rw [List.length_map, hn], by rw [List.length_map, hn]; exact hc, (hr.lt g rfl).2, fun k t hk => ?_⟩
  rw [List.getElem?_map] at hk
  obtain ⟨s, hs, rfl⟩ := Option.map_eq_some_iff.1 hk
  obtain ⟨x, h1, h2⟩ := h.2 k s hs
  have hk : k < n := by have := (List.getElem?_eq_some_iff.1 hs).1; omega
  exact ⟨x, by rw [Nat.zero_add, hr.cellAt k (by omega)]; exact h1, h2⟩
set_option maxRecDepth 100000 in
set_option maxHeartbeats 1000000 in
theorem treeOf_any (s : ByteArray) (hs : s.size ≤ B40) (w : World) (hE : Ev w) : Calls Tryz.prog 42 #[.string s] w (Mk w (tof s)) := by
  unfold B40 at hs
  obtain ⟨i0, hi, hz0, hz1, hz2⟩ := info_parts infoTR
  have CF : Hid (∀ r : ByteArray, r.size ≤ s.size → ∀ W, Below w.heap.size w W → Calls Tryz.prog 81 #[.string r] W fun e W' => e = .returned (.int .i64 (fe r)) ∧ Below W.heap.size W W') := fun r hr W hW => firstEnd_any r (by unfold B40; omega) W (hE.below hW)
  have CL : Hid (∀ r : ByteArray, r.size ≤ s.size → ∀ W, Below w.heap.size w W → Calls Tryz.prog 82 #[.string r] W fun e W' => ∃ b, e = .returned (.iface 184 (.pointer (some ⟨b, 0, none⟩))) ∧ At W' (.leaf r) (lfv b) ∧ Below W.heap.size W W') := fun r hr W hW => (leafOf_any r (by omega) W (hE.below hW)).mono fun e W' ⟨v, h1, ⟨b, h2, h4⟩, h3⟩ => ⟨b, by rw [h1, h2]; rfl, ⟨b, rfl, h4⟩, h3⟩
  have CT : Hid (∀ v W, RdT W v ((cuts s).map .leaf) → Below w.heap.size w W → Calls Tryz.prog 83 #[v] W (Mk w (tof s))) := fun v W h hW => by
    obtain ⟨c1, c2, -, c4⟩ := cuts_ok _ (Nat.le_refl s.size)
    refine (tol_any _ (Nat.le_refl _) c2 ?_ h (by rw [c1]; unfold B40; omega) (hE.below hW)).mono fun e W' ⟨v, h1, h2, h3⟩ => ⟨v, h1, h2, Below.on hW h3⟩
    by_cases h0 : 0 < s.size
    · exact .inr (c4 h0)
    · left; rw [cuts_end (by have := fe_le s; omega)]; simp
  have CF0 : Hid (Calls Tryz.prog 81 #[.string s] w fun e W' => e = .returned (.int .i64 (fe s)) ∧ TL w s s [] (.slice none 0 0) W' []) :=
    (CF.out s (Nat.le_refl _) w (Below.refl _ w)).mono fun e W' ⟨h1, h2⟩ => ⟨h1, rfl, ⟨rfl, fun k u hk => by simp at hk⟩, World.ownsRow_nil _ _ _ _, h2⟩
  clear hE
  go_enter Tryz.func42, Tryz.ntmps42
  go_wp2_with (go_at_call 81; refine CF0.out.mono ?_; clear CF0; rintro e w1 ⟨rfl, ht⟩)
  go_loopw [0, 3, 4] (fun t0 t3 t4 wr => ∃ r : ByteArray, t0 = .string r ∧ t4 = .int .i64 (fe r) ∧ r.size ≤ s.size ∧ Hid (∃ pre xs, TL w s r pre t3 wr xs)) (fun t0 _ _ _ => match t0 with | .string r => r.size | _ => 0)
  case atStart => exact ⟨s, rfl, rfl, Nat.le_refl _, [], [], ht⟩
  case round =>
    clear ht
    obtain ⟨r, rfl, rfl, hr, HT⟩ := hrel
    obtain ⟨pre, xs, ht⟩ := HT.out
    clear HT
    have hln := ht.len
    have HTL : Hid _ := ht
    have hbw := ht.bel.size
    clear ht
    obtain ⟨N, hN⟩ : ∃ N, pre.length = N := ⟨_, rfl⟩
    rw [hN] at hln
    by_cases c : fe r < r.size
    · have hfe : 0 < fe r := by rcases fe_ok r with k | k <;> omega
      obtain ⟨n, hn⟩ : ∃ n, fe r = n := ⟨_, rfl⟩
      rw [hn] at c hfe
      have hcut := cuts_on (s := r) (by omega)
      rw [hn] at hcut ⊢
      obtain ⟨x, hx⟩ : ∃ x, r.extract 0 n = x := ⟨_, rfl⟩
      obtain ⟨r', hr'⟩ : ∃ r', r.extract n r.size = r' := ⟨_, rfl⟩
      have z1 : x.size ≤ s.size := by rw [← hx, size_extract _ _ _ (by omega)]; omega
      have z2 : r'.size < r.size := by rw [← hr', size_extract _ _ _ (Nat.le_refl _)]; omega
      have z3 : r'.size ≤ s.size := by omega
      rw [hx, hr'] at hcut
      have b1 : r.size ≤ 1099511627776 := by omega
      have C1 : Hid (∀ t3, TL w s r pre t3 wr xs → Calls Tryz.prog 82 #[.string x] wr fun e W' => ∃ b, e = .returned (.iface 184 (.pointer (some ⟨b, 0, none⟩))) ∧ Hid (At W' (.leaf x) (lfv b) ∧ TL w s r pre t3 W' xs)) := fun t3 ht => (CL.out x z1 wr ht.bel).mono fun e W' ⟨v, h1, h2, h3⟩ => ⟨v, h1, h2, ht.below h3⟩
      have C2 : Hid (∀ W, Below w.heap.size w W → Calls Tryz.prog 81 #[.string r'] W fun e W' => e = .returned (.int .i64 (fe r')) ∧ Below W.heap.size W W') := fun W h => CF.out r' z3 W h
      have HN : Hid (pre.length = N) := hN
      have HC : Hid (cuts r = x :: cuts r') := hcut
      clear CF CL CT hcut hN
      go_wp2_with (first | (go_at_call 82; refine (C1.out _ HTL.out).mono ?_; clear C1 HTL; rintro e w2 ⟨b2, rfl, H2⟩; have HR : Hid ((w2.alloc (.cells #[(.iface 184 (.pointer (some ⟨b2, 0, none⟩)))] 89)).ownsRow w.heap.size 89 1 _ N xs) := (HN.out ▸ H2.out.2.row.alloc _); have hb2 := H2.out.2.bel.size) | (at_builtin; refine wpList_append_own _ rfl _ _ 136 rfl w.heap.size 89 i0 _ 1 16 Tryz.underlying136 hi hz0 hz1 hz2 rfl (by decide) _ N _ rfl HR.out ⟨w2.heap.size, 0, none⟩ 1 1 [(.iface 184 (.pointer (some ⟨b2, 0, none⟩)))] rfl rfl (one_new _ _ _) (lfv_one H2.out.1) (by unfold maxLen; omega) (by omega) (by simp; omega) ?_; intro v3 w3 hrow3 hg3 _; have HB3 : Hid (Below w.heap.size w w3) := ((H2.out.2.bel.alloc hb2 _).grown hg3 (by simp; omega) (fun j e => (HR.out.lt j e).1)); have HL3 : Hid (LfA w3 (pre ++ [x]) (xs ++ [(.iface 184 (.pointer (some ⟨b2, 0, none⟩)))])) := ((H2.out.2.lf.below ((Below.refl _ w2).alloc (Nat.le_refl _) _)).snoc (H2.out.1.below ((Below.refl _ w2).alloc (Nat.le_refl _) _)) HR.out hg3); have HR3 : Hid (w3.ownsRow w.heap.size 89 1 v3 (N + 1) (xs ++ [(.iface 184 (.pointer (some ⟨b2, 0, none⟩)))])) := hrow3; have HCC : Hid (cuts s = pre ++ cuts r) := H2.out.2.cut; clear hrow3 hg3 HR H2) | (go_at_call 81; refine (C2.out _ HB3.out).mono ?_; clear C2; rintro e w4 ⟨rfl, hb4⟩))
      refine ⟨⟨r', rfl, rfl, z3, pre ++ [x], xs ++ [(.iface 184 (.pointer (some ⟨b2, 0, none⟩)))], ?_, HL3.out.below hb4, ?_, Below.on HB3.out hb4⟩, by simpa using z2⟩
      · rw [HCC.out, HC.out]; simp
      · rw [List.length_append, HN.out]; exact row_belowN HR3.out hb4
    · have hcut := cuts_end c
      have C1 : Hid (∀ t3, TL w s r pre t3 wr xs → Calls Tryz.prog 82 #[.string r] wr fun e W' => ∃ b, e = .returned (.iface 184 (.pointer (some ⟨b, 0, none⟩))) ∧ Hid (At W' (.leaf r) (lfv b) ∧ TL w s r pre t3 W' xs)) := fun t3 ht => (CL.out r hr wr ht.bel).mono fun e W' ⟨v, h1, h2, h3⟩ => ⟨v, h1, h2, ht.below h3⟩
      have HN : Hid (pre.length = N) := hN
      have HC : Hid (cuts r = [r]) := hcut
      clear CF CL hcut hN
      go_wp2_with (first | (go_at_call 82; refine (C1.out _ HTL.out).mono ?_; clear C1 HTL; rintro e w2 ⟨b2, rfl, H2⟩; have HR : Hid ((w2.alloc (.cells #[(.iface 184 (.pointer (some ⟨b2, 0, none⟩)))] 89)).ownsRow w.heap.size 89 1 _ N xs) := (HN.out ▸ H2.out.2.row.alloc _); have hb2 := H2.out.2.bel.size) | (at_builtin; refine wpList_append_own _ rfl _ _ 136 rfl w.heap.size 89 i0 _ 1 16 Tryz.underlying136 hi hz0 hz1 hz2 rfl (by decide) _ N _ rfl HR.out ⟨w2.heap.size, 0, none⟩ 1 1 [(.iface 184 (.pointer (some ⟨b2, 0, none⟩)))] rfl rfl (one_new _ _ _) (lfv_one H2.out.1) (by unfold maxLen; omega) (by omega) (by simp; omega) ?_; intro v3 w3 hrow3 hg3 _; have HB3 : Hid (Below w.heap.size w w3) := ((H2.out.2.bel.alloc hb2 _).grown hg3 (by simp; omega) (fun j e => (HR.out.lt j e).1)); have HL3 : Hid (LfA w3 (pre ++ [r]) (xs ++ [(.iface 184 (.pointer (some ⟨b2, 0, none⟩)))])) := ((H2.out.2.lf.below ((Below.refl _ w2).alloc (Nat.le_refl _) _)).snoc (H2.out.1.below ((Below.refl _ w2).alloc (Nat.le_refl _) _)) HR.out hg3); have HCC : Hid (cuts s = pre ++ [r]) := (by show cuts s = _; rw [H2.out.2.cut, HC.out]); obtain ⟨g3, cap3, rfl⟩ := ownsRow_succ hrow3; have HRD : Hid (RdT w3 (.slice (some ⟨g3, 0, none⟩) (N + 1) cap3) ((cuts s).map .leaf)) := (by show RdT _ _ _; rw [HCC.out]; exact rdt_of HL3.out (by simp [HN.out]) hrow3); clear hrow3 hg3 HR H2) | (go_at_call 83; refine (CT.out _ _ HRD.out HB3.out).mono ?_; clear CT; rintro e w4 ⟨v4, rfl, h4⟩))
      go_ret
      exact ⟨_, rfl, h4⟩
end Go.Proofs.YtcjmfoadimpffaaGreatDoor
