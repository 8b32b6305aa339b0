/-
  The document's own package seek, and cells in plain words. Conditions: those of each theorem.
-/
import Derived.Test.YtbihilfnnonpnaaDoorPkF
import Derived.Test.YtbihilfnnonpnaaDoorYListW
namespace Go.Proofs.YtbihilfnnonpnaaDoor
open Go.RowKit Go.Shelf Bod Wid

/-- an offset as it counts -/
def hld (s : ByteArray) (a : Int) : Nat := (min (max a 0) s.size).toNat
set_option maxRecDepth 100000 in
set_option maxHeartbeats 1000000 in
theorem rheld_any (s : ByteArray) (a : Int) (w : World) : Calls Tryd.prog 32 #[.string s, .int .i64 a] w fun e W' => e = .returned (.int .i64 (hld s a)) ∧ w = W' := by
  obtain ⟨x, hx⟩ : ∃ x, min (max a 0) (s.size : Int) = x := ⟨_, rfl⟩
  have e : ((hld s a : Nat) : Int) = x := by unfold hld; omega
  rw [e]
  clear e
  go_enter Tryd.func32, Tryd.ntmps32
  go_wp2
  go_ret
  exact ⟨rfl, rfl⟩
set_option maxRecDepth 100000 in
set_option maxHeartbeats 1000000 in
/-- how many line feeds lie ahead of an offset -/
theorem rlines_any (s : ByteArray) (hs : s.size ≤ 1099511627776) (a : Int) (w : World) : Calls Tryd.prog 19 #[.string s, .int .i64 a] w fun e W' => e = .returned (.int .i64 (nlt s (hld s a))) ∧ w = W' := by
  have C1 : Hid (Calls Tryd.prog 32 #[.string s, .int .i64 a] w fun e W' => e = .returned (.int .i64 (hld s a)) ∧ w = W') := rheld_any s a w
  obtain ⟨h, hh⟩ : ∃ h, hld s a = h := ⟨_, rfl⟩
  have hle : h ≤ s.size := by rw [← hh]; unfold hld; omega
  rw [hh] at C1 ⊢
  clear hh
  go_enter Tryd.func19, Tryd.ntmps19
  go_wp2_with (go_at_call 32; refine C1.out.mono ?_; clear C1; rintro e w1 ⟨rfl, rfl⟩)
  go_loopw [5, 6] (fun t5 t6 wr => ∃ i : Nat, t5 = .int .i64 (nlt s i : Int) ∧ t6 = .int .i64 (i : Int) ∧ i ≤ h ∧ w = wr) (fun _ t6 _ => h - (intOf t6).toNat)
  case atStart => exact ⟨0, rfl, rfl, Nat.zero_le _, rfl⟩
  case round =>
    obtain ⟨i, rfl, rfl, hi, rfl⟩ := hrel
    by_cases c : i < h
    · have hlt : i < s.size := by omega
      have hst := nlt_step s i hlt
      have e2 : bt s i = (s[i]'hlt).toNat := by unfold bt; rw [Utf8W.get!_of_lt s i hlt]
      have hcb : nlt s i ≤ i := by unfold nlt; exact Nat.le_trans List.countP_le_length (by rw [List.length_take]; omega)
      by_cases h10 : (s[i]'hlt) = 10
      · have e10 : (((s[i]'hlt).toNat : Int) == 10) = true := by rw [h10]; rfl
        rw [if_pos (by rw [e2, h10]; rfl)] at hst
        have HST : Hid (nlt s (i + 1) = nlt s i + 1) := hst
        generalize hy : nlt s i = y at *
        clear hst e2 hy
        go_wp2
        exact ⟨⟨i + 1, by rw [HST.out]; go_num, by go_num, by omega, trivial⟩, by simp [intOf]; omega⟩
      · have hne : (s[i]'hlt).toNat ≠ 10 := fun x => h10 (UInt8.toNat_inj.1 x)
        have e10 : (((s[i]'hlt).toNat : Int) == 10) = false := by simp; omega
        rw [if_neg (by rw [e2]; exact hne)] at hst
        have HST : Hid (nlt s (i + 1) = nlt s i) := hst
        generalize hy : nlt s i = y at *
        clear hst e2 hy
        go_wp2
        exact ⟨⟨i + 1, by rw [HST.out], by go_num, by omega, trivial⟩, by simp [intOf]; omega⟩
    · have hih : i = h := by omega
      subst hih
      go_wp2
      go_ret
      exact ⟨rfl, rfl⟩
/-- the document's list of clusters, as a walk takes it -/
theorem rlist_rd (s : ByteArray) (hs : s.size ≤ 1099511627776) (W : World) : Calls Tryd.prog 33 #[.string s] W fun e W' => ∃ a cap, e = .returned (.slice a (cl s).length cap) ∧ Hid (Rd4 W' (.slice a (cl s).length cap) (cl s) ∧ Below W.heap.size W W') := (rlist_any s (by omega) W).mono fun e W' ⟨v, h1, h2, h3⟩ => by
  have hr := Rd4.of_row h2
  obtain ⟨a, cap, rfl, g⟩ := hr
  exact ⟨a, cap, h1, ⟨a, cap, rfl, g⟩, h3⟩
theorem cnL_take (k : Ck) (to : Int) {l : List Clu} {i : Nat} {c : Clu} (h : l[i]? = some c) : cnL k to (l.take (i + 1)) = cnL k to (l.take i) + sb k to c := by
  rw [List.take_add_one, h, cnL_app]
  simp [cnL]
theorem cnL_bdR (k : Ck) (to : Int) : ∀ {l : List Clu}, (∀ d ∈ l, 0 ≤ d.n ∧ d.n ≤ 2) → 0 ≤ cnL k to l ∧ cnL k to l ≤ 2 * l.length
  | [], _ => by simp [cnL]
  | c :: l, h => by
    have h1 := itm_n k (h c List.mem_cons_self)
    have h2 := cnL_bdR k to (l := l) (fun d hd => h d (List.mem_cons_of_mem _ hd))
    simp only [cnL, sb, List.length_cons]
    split <;> omega
set_option maxRecDepth 100000 in
set_option maxHeartbeats 1000000 in
theorem rclusters_any (s : ByteArray) (hs : s.size ≤ 1099511627776) (a : Int) (w : World) : Calls Tryd.prog 18 #[.string s, .int .i64 a] w fun e W' => e = .returned (.int .i64 (cn .C s (hld s a))) ∧ Below w.heap.size w W' := by
  have C1 : Hid (Calls Tryd.prog 32 #[.string s, .int .i64 a] w fun e W' => e = .returned (.int .i64 (hld s a)) ∧ w = W') := rheld_any s a w
  have C2 : Hid (Calls Tryd.prog 33 #[.string s] w fun e W' => ∃ a cap, e = .returned (.slice a (cl s).length cap) ∧ Hid (Rd4 W' (.slice a (cl s).length cap) (cl s) ∧ Below w.heap.size w W')) := rlist_rd s hs w
  have hN := cl_len s
  have HN2 : Hid (∀ d ∈ cl s, 0 ≤ d.n ∧ d.n ≤ 2) := cl_n s
  unfold cn
  generalize cl s = l at *
  obtain ⟨h, hh⟩ : ∃ h, hld s a = h := ⟨_, rfl⟩
  rw [hh] at C1 ⊢
  obtain ⟨N, hNl⟩ : ∃ N, l.length = N := ⟨_, rfl⟩
  have HL : Hid (l.length = N) := hNl
  rw [hNl] at C2 hN
  clear hh hNl
  go_enter Tryd.func18, Tryd.ntmps18
  go_wp2_with (first | (go_at_call 32; refine C1.out.mono ?_; clear C1; rintro e w1 ⟨rfl, rfl⟩) | (go_at_call 33; refine C2.out.mono ?_; clear C2; rintro e w2 ⟨a2, cap, rfl, H⟩))
  go_loopw [6, 7] (fun t6 t7 wr => ∃ i : Nat, t6 = .int .i64 (cnL .C h (l.take i)) ∧ t7 = .int .i64 (i : Int) ∧ i ≤ N ∧ w2 = wr) (fun _ t7 _ => N - (intOf t7).toNat)
  case atStart => exact ⟨0, rfl, rfl, Nat.zero_le _, rfl⟩
  case round =>
    obtain ⟨i, rfl, rfl, hi, rfl⟩ := hrel
    by_cases c : i < N
    · obtain ⟨x, hx⟩ : ∃ x, l[i]? = some x := ⟨l[i]'(by rw [HL.out]; exact c), List.getElem?_eq_getElem _⟩
      obtain ⟨a', cap', e, g⟩ := H.out.1
      simp at e
      obtain ⟨b, rfl, hlt, hc⟩ := g (fun e => by rw [e] at hx; simp at hx)
      obtain ⟨rfl, -, -⟩ := e
      obtain ⟨c0, -, -, -⟩ := hc i x hx
      have hst := cnL_take .C (h : Int) hx
      have hbd := cnL_bdR .C (h : Int) (l := l.take i) (fun d hd => HN2.out d (List.mem_of_mem_take hd))
      have hll : (l.take i).length ≤ 1099511627776 := by rw [List.length_take]; omega
      by_cases d : (x.fr : Int) < h
      · have e1 : sb .C (h : Int) x = 1 := if_pos d
        rw [e1] at hst
        have HST : Hid (cnL .C h (l.take (i + 1)) = cnL .C h (l.take i) + 1) := hst
        generalize cnL .C (h : Int) (l.take i) = y at *
        clear hst e1 hc g hx
        go_wp2
        exact ⟨⟨i + 1, by rw [HST.out], by go_num, by omega, trivial⟩, by simp [intOf]; omega⟩
      · have e1 : sb .C (h : Int) x = 0 := if_neg d
        rw [e1, Int.add_zero] at hst
        have HST : Hid (cnL .C h (l.take (i + 1)) = cnL .C h (l.take i)) := hst
        generalize cnL .C (h : Int) (l.take i) = y at *
        clear hst e1 hc g hx
        go_wp2
        exact ⟨⟨i + 1, by rw [HST.out], by go_num, by omega, trivial⟩, by simp [intOf]; omega⟩
    · have HT : Hid (l.take i = l) := List.take_of_length_le (by rw [HL.out]; omega)
      go_wp2
      go_ret
      exact ⟨by show Ending.returned (.int .i64 (cnL .C h (l.take i))) = _; rw [HT.out], H.out.2⟩
/-- the cells of the clusters that end at a or ahead of it -/
def ceL (a : Int) : List Clu → Int
  | [] => 0
  | c :: l => (if (c.to : Int) ≤ a then c.n else 0) + ceL a l
theorem ceL_app (a : Int) : ∀ x y : List Clu, ceL a (x ++ y) = ceL a x + ceL a y
  | [], y => by simp [ceL]
  | c :: x, y => by simp only [List.cons_append, ceL]; rw [ceL_app a x y]; omega
theorem ceL_bd (a : Int) : ∀ {l : List Clu}, (∀ d ∈ l, 0 ≤ d.n ∧ d.n ≤ 2) → 0 ≤ ceL a l ∧ ceL a l ≤ 2 * l.length
  | [], _ => by simp [ceL]
  | c :: l, h => by
    have h1 := h c List.mem_cons_self
    have h2 := ceL_bd a (l := l) (fun d hd => h d (List.mem_cons_of_mem _ hd))
    simp only [ceL, List.length_cons]
    split <;> omega
set_option maxRecDepth 100000 in
set_option maxHeartbeats 1000000 in
theorem rcells_any' (s : ByteArray) (hs : s.size ≤ 1099511627776) (a : Int) (w : World) : Calls Tryd.prog 20 #[.string s, .int .i64 a] w fun e W' => e = .returned (.int .i64 (ceL (hld s a) (cl s))) ∧ Below w.heap.size w W' := by
  have C1 : Hid (Calls Tryd.prog 32 #[.string s, .int .i64 a] w fun e W' => e = .returned (.int .i64 (hld s a)) ∧ w = W') := rheld_any s a w
  have C2 : Hid (Calls Tryd.prog 33 #[.string s] w fun e W' => ∃ a cap, e = .returned (.slice a (cl s).length cap) ∧ Hid (Rd4 W' (.slice a (cl s).length cap) (cl s) ∧ Below w.heap.size w W')) := rlist_rd s hs w
  have hN := cl_len s
  have HN2 : Hid (∀ d ∈ cl s, 0 ≤ d.n ∧ d.n ≤ 2) := cl_n s
  generalize cl s = l at *
  obtain ⟨h, hh⟩ : ∃ h, hld s a = h := ⟨_, rfl⟩
  rw [hh] at C1 ⊢
  obtain ⟨N, hNl⟩ : ∃ N, l.length = N := ⟨_, rfl⟩
  have HL : Hid (l.length = N) := hNl
  rw [hNl] at C2 hN
  clear hh hNl
  go_enter Tryd.func20, Tryd.ntmps20
  go_wp2_with (first | (go_at_call 32; refine C1.out.mono ?_; clear C1; rintro e w1 ⟨rfl, rfl⟩) | (go_at_call 33; refine C2.out.mono ?_; clear C2; rintro e w2 ⟨a2, cap, rfl, H⟩))
  go_loopw [6, 7] (fun t6 t7 wr => ∃ i : Nat, t6 = .int .i64 (ceL h (l.take i)) ∧ t7 = .int .i64 (i : Int) ∧ i ≤ N ∧ w2 = wr) (fun _ t7 _ => N - (intOf t7).toNat)
  case atStart => exact ⟨0, rfl, rfl, Nat.zero_le _, rfl⟩
  case round =>
    obtain ⟨i, rfl, rfl, hi, rfl⟩ := hrel
    by_cases c : i < N
    · obtain ⟨x, hx⟩ : ∃ x, l[i]? = some x := ⟨l[i]'(by rw [HL.out]; exact c), List.getElem?_eq_getElem _⟩
      obtain ⟨a', cap', e, g⟩ := H.out.1
      simp at e
      obtain ⟨b, rfl, hlt, hc⟩ := g (fun e => by rw [e] at hx; simp at hx)
      obtain ⟨rfl, -, -⟩ := e
      obtain ⟨-, c1, -, c3⟩ := hc i x hx
      have hst : ceL h (l.take (i + 1)) = ceL h (l.take i) + if (x.to : Int) ≤ h then x.n else 0 := by rw [List.take_add_one, hx, ceL_app]; simp [ceL]
      have hbd := ceL_bd (h : Int) (l := l.take i) (fun d hd => HN2.out d (List.mem_of_mem_take hd))
      have hxn := HN2.out x (List.mem_of_getElem? hx)
      have hll : (l.take i).length ≤ 1099511627776 := by rw [List.length_take]; omega
      by_cases d : (x.to : Int) ≤ h
      · rw [if_pos d] at hst
        have HST : Hid (ceL h (l.take (i + 1)) = ceL h (l.take i) + x.n) := hst
        generalize ceL (h : Int) (l.take i) = y at *
        generalize x.n = xn at *
        clear hst hc g hx
        go_wp2
        exact ⟨⟨i + 1, by rw [HST.out], by go_num, by omega, trivial⟩, by simp [intOf]; omega⟩
      · rw [if_neg d, Int.add_zero] at hst
        have HST : Hid (ceL h (l.take (i + 1)) = ceL h (l.take i)) := hst
        generalize ceL (h : Int) (l.take i) = y at *
        clear hst hc g hx
        go_wp2
        exact ⟨⟨i + 1, by rw [HST.out], by go_num, by omega, trivial⟩, by simp [intOf]; omega⟩
    · have HT : Hid (l.take i = l) := List.take_of_length_le (by rw [HL.out]; omega)
      go_wp2
      go_ret
      exact ⟨by show Ending.returned (.int .i64 (ceL h (l.take i))) = _; rw [HT.out], H.out.2⟩
end Go.Proofs.YtbihilfnnonpnaaDoor
namespace Go.Proofs.YtbihilfnnonpnaaDoor
open Go.RowKit Go.Shelf Bod Wid

/-- where the item begins that a number belongs to, with the error's number -/
def fnd (k : Ck) (s : ByteArray) (n : Int) : Int × Int := if 0 ≤ n ∧ n < tot k s then (pos k s n, 0) else (0, 1)
/-- of a cluster: also of the number of all -/
def fcl (s : ByteArray) (n : Int) : Int × Int := if n = tot .C s then (s.size, 0) else fnd .C s n
/-- of a line -/
def fli (s : ByteArray) (n : Int) : Int × Int := if n = 0 then (0, 0) else if 0 ≤ n - 1 ∧ n - 1 < tot .L s then (pos .L s (n - 1) + 1, 0) else (0, 1)
theorem srch_C (d : Nat) : ∀ (l : List Clu) (n : Nat) (c : Clu), l[n]? = some c → srch .C d n l = c.fr
  | [], n, c, h => by simp at h
  | x :: l, 0, c, h => by cases h; rfl
  | x :: l, n + 1, c, h => by
    have h1 : l[n]? = some c := h
    show (if ((n + 1 : Nat) : Int) < 1 then x.fr else srch .C d (((n + 1 : Nat) : Int) - 1) l) = c.fr
    rw [if_neg (by omega), show ((n + 1 : Nat) : Int) - 1 = (n : Int) by omega]
    exact srch_C d l n c h1
set_option maxRecDepth 100000 in
set_option maxHeartbeats 1000000 in
theorem rcluster_any (s : ByteArray) (hs : s.size ≤ 1099511627776) (n : Int) (w : World) : Calls Tryd.prog 21 #[.string s, .int .i64 n] w fun e W' => e = .returned (.tuple #[.int .i64 (fcl s n).1, .int .i64 (fcl s n).2]) ∧ Below w.heap.size w W' := by
  have C2 : Hid (Calls Tryd.prog 33 #[.string s] w fun e W' => ∃ a cap, e = .returned (.slice a (cl s).length cap) ∧ Hid (Rd4 W' (.slice a (cl s).length cap) (cl s) ∧ Below w.heap.size w W')) := rlist_rd s hs w
  have hN := cl_len s
  have ht : tot .C s = (cl s).length := by rw [← ful_tot, ful_C]
  unfold fcl fnd pos
  rw [ht]
  generalize cl s = l at *
  obtain ⟨N, hNl⟩ : ∃ N, l.length = N := ⟨_, rfl⟩
  have HL : Hid (l.length = N) := hNl
  rw [hNl] at C2 hN ht ⊢
  clear hNl ht
  by_cases c0 : n < 0
  · rw [if_neg (by omega), if_neg (by omega)]
    go_enter Tryd.func21, Tryd.ntmps21
    go_wp2_with (go_at_call 33; refine C2.out.mono ?_; clear C2; rintro e w2 ⟨a2, cap, rfl, H⟩)
    exact bodyPost_ret (v := .tuple #[.int .i64 _, .int .i64 _]) (by simp [results, Tryd.results21, go_sem]) rfl ⟨rfl, H.out.2⟩
  by_cases c1 : (N : Int) < n
  · rw [if_neg (by omega), if_neg (by omega)]
    go_enter Tryd.func21, Tryd.ntmps21
    go_wp2_with (go_at_call 33; refine C2.out.mono ?_; clear C2; rintro e w2 ⟨a2, cap, rfl, H⟩)
    exact bodyPost_ret (v := .tuple #[.int .i64 _, .int .i64 _]) (by simp [results, Tryd.results21, go_sem]) rfl ⟨rfl, H.out.2⟩
  obtain ⟨m, rfl⟩ : ∃ m : Nat, n = m := ⟨n.toNat, by omega⟩
  by_cases c2 : m = N
  · subst c2
    rw [if_pos rfl]
    go_enter Tryd.func21, Tryd.ntmps21
    go_wp2_with (go_at_call 33; refine C2.out.mono ?_; clear C2; rintro e w2 ⟨a2, cap, rfl, H⟩)
    exact bodyPost_ret (v := .tuple #[.int .i64 _, .int .i64 _]) (by simp [results, Tryd.results21, go_sem]) rfl ⟨rfl, H.out.2⟩
  · rw [if_neg (by omega), if_pos (by omega)]
    have c3 : m < N := by omega
    obtain ⟨x, hx⟩ : ∃ x, l[m]? = some x := ⟨l[m]'(by rw [HL.out]; exact c3), List.getElem?_eq_getElem _⟩
    rw [srch_C _ l m x hx]
    have HR : Hid (∀ W a cap, Hid (Rd4 W (.slice a N cap) l ∧ Below w.heap.size w W) → ∃ b, a = some ⟨b, 0, none⟩ ∧ b < W.heap.size ∧ W.cell? ⟨b, m * 4, none⟩ = some (.int .i64 x.fr) ∧ Below w.heap.size w W) := fun W a cap h => by
      obtain ⟨a', cap', e, g⟩ := h.out.1
      simp at e
      obtain ⟨b, rfl, hlt, hc⟩ := g (fun e => by rw [e] at hx; simp at hx)
      obtain ⟨rfl, -, -⟩ := e
      exact ⟨b, rfl, hlt, (hc m x hx).1, h.out.2⟩
    clear hx
    go_enter Tryd.func21, Tryd.ntmps21
    go_wp2_with (go_at_call 33; refine C2.out.mono ?_; clear C2; rintro e w2 ⟨a2, cap, rfl, H⟩; obtain ⟨b, rfl, hb, hcell, hbe⟩ := HR.out _ _ _ H; have HBE : Hid (Below w.heap.size w w2) := hbe; clear hbe H HR)
    exact bodyPost_ret (v := .tuple #[.int .i64 _, .int .i64 _]) (by simp [results, Tryd.results21, go_sem]) rfl ⟨rfl, HBE.out⟩
theorem ful_nonneg (k : Ck) : ∀ {l : List Clu}, (∀ d ∈ l, 0 ≤ d.n ∧ d.n ≤ 2) → 0 ≤ ful k l
  | [], _ => Int.le_refl 0
  | c :: l, h => by
    have h1 := itm_n k (h c List.mem_cons_self)
    have h2 := ful_nonneg k (l := l) (fun d hd => h d (List.mem_cons_of_mem _ hd))
    show 0 ≤ (itm k c).2 + ful k l
    omega
/-- line feeds ahead of a later offset are no fewer -/
theorem nlt_mono (s : ByteArray) {i j : Nat} (h : i ≤ j) : nlt s i ≤ nlt s j := by
  unfold nlt
  have e : s.data.toList.take i = (s.data.toList.take j).take i := by rw [List.take_take, Nat.min_eq_left h]
  rw [e]
  exact List.Sublist.countP_le (List.take_sublist _ _)
/-- the line feed that the number n - 1 belongs to -/
theorem pos_lf (s : ByteArray) {i : Nat} (hi : i < s.size) (h : bt s i = 10) : pos .L s (nlt s i) = i ∧ (nlt s i : Int) < tot .L s := by
  have e1 := nlt_step s i hi
  rw [if_pos h] at e1
  have e2 : nlt s (i + 1) ≤ nls s := by rw [← nlt_all (Nat.le_refl s.size)]; exact nlt_mono s hi
  have e3 : (nlt s i : Int) < tot .L s := by show _ < ((nls s : Nat) : Int); omega
  obtain ⟨p1, p2, p3⟩ := pos_ok .L s (n := (nlt s i : Int)) (by omega) e3
  generalize pos .L s (nlt s i) = p at *
  rw [cn_lf s (by omega)] at p1
  have p2 : (nlt s i : Int) < cn .L s ((p + 1 : Nat) : Int) := p2
  rw [cn_lf s (by omega)] at p2
  refine ⟨?_, e3⟩
  rcases Nat.lt_trichotomy p i with h1 | h1 | h1
  · have := nlt_mono s (show p + 1 ≤ i by omega); omega
  · exact h1
  · have := nlt_mono s (show i + 1 ≤ p by omega); omega
set_option maxRecDepth 100000 in
set_option maxHeartbeats 1000000 in
theorem rline_any (s : ByteArray) (hs : s.size ≤ 1099511627776) (n : Int) (hn : -9223372036854775808 ≤ n ∧ n ≤ 9223372036854775807) (w : World) : Calls Tryd.prog 22 #[.string s, .int .i64 n] w fun e W' => e = .returned (.tuple #[.int .i64 (fli s n).1, .int .i64 (fli s n).2]) ∧ w = W' := by
  by_cases c0 : n = 0
  · subst c0
    go_enter Tryd.func22, Tryd.ntmps22
    go_wp2
    go_ret2
    exact ⟨rfl, rfl⟩
  by_cases c1 : n < 0
  · have e : fli s n = (0, 1) := by unfold fli; rw [if_neg c0, if_neg (by omega)]
    rw [e]
    clear e
    go_enter Tryd.func22, Tryd.ntmps22
    go_wp2
    go_loopw [1, 6] (fun t1 t6 wr => ∃ (i : Nat) (v : Int), t1 = .int .i64 v ∧ t6 = .int .i64 (i : Int) ∧ i ≤ s.size ∧ -9223372036854775808 ≤ v ∧ v ≤ 9223372036854775807 ∧ (v < 0 ∨ 4611686018427387904 + (s.size : Int) - i ≤ v) ∧ w = wr) (fun _ t6 _ => s.size - (intOf t6).toNat)
    case atStart => exact ⟨0, n, rfl, rfl, Nat.zero_le _, hn.1, hn.2, .inl c1, rfl⟩
    case round =>
      clear c0 c1 hn
      obtain ⟨i, v, rfl, rfl, hi, v1, v2, v3, rfl⟩ := hrel
      by_cases c : i < s.size
      · by_cases h10 : (s[i]'c) = 10
        · have e10 : (((s[i]'c).toNat : Int) == 10) = true := by rw [h10]; rfl
          by_cases cm : v = -9223372036854775808
          · subst cm
            have hw : wrap64 (-9223372036854775809) = 9223372036854775807 := by kernel_rfl
            have d1 : (wrap64 (-9223372036854775809) == 0) = false := by rw [hw]; rfl
            have HW : Hid (wrap64 (-9223372036854775809) = 9223372036854775807) := hw
            clear hw
            go_wp2
            exact ⟨⟨i + 1, 9223372036854775807, by rw [HW.out], by go_num, by omega, by omega, by omega, .inr (by omega), trivial⟩, by simp [intOf]; omega⟩
          · have d1 : ¬ v - 1 = 0 := by omega
            go_wp2
            exact ⟨⟨i + 1, v - 1, by go_num, by go_num, by omega, by omega, by omega, by omega, trivial⟩, by simp [intOf]; omega⟩
        · have hne : (s[i]'c).toNat ≠ 10 := fun x => h10 (UInt8.toNat_inj.1 x)
          have e10 : (((s[i]'c).toNat : Int) == 10) = false := by simp; omega
          go_wp2
          exact ⟨⟨i + 1, v, rfl, by go_num, by omega, v1, v2, by omega, trivial⟩, by simp [intOf]; omega⟩
      · have hi' : i = s.size := by omega
        subst hi'
        go_wp2
        go_ret2
        exact ⟨rfl, rfl⟩
  · obtain ⟨m, rfl⟩ : ∃ m : Nat, n = m := ⟨n.toNat, by omega⟩
    have hm : 1 ≤ m := by omega
    have HF : Hid (∀ i, i < s.size → bt s i = 10 → (m : Int) - nlt s i = 1 → fli s m = ((i : Int) + 1, 0)) := fun i hi hb he => by
      obtain ⟨p1, p2⟩ := pos_lf s hi hb
      have e : (m : Int) - 1 = nlt s i := by omega
      unfold fli
      rw [if_neg c0, e, if_pos ⟨by omega, p2⟩, p1]
    have HE : Hid (nlt s s.size < m → fli s m = (0, 1)) := fun h => by
      unfold fli
      rw [if_neg c0, if_neg]
      intro ⟨_, h2⟩
      have h2 : (m : Int) - 1 < ((nls s : Nat) : Int) := h2
      rw [← nlt_all (Nat.le_refl s.size)] at h2
      omega
    have hm2 : (m : Int) ≤ 9223372036854775807 := hn.2
    clear hn c1
    go_enter Tryd.func22, Tryd.ntmps22
    go_wp2
    go_loopw [1, 6] (fun t1 t6 wr => ∃ (i : Nat) (v : Int), t1 = .int .i64 v ∧ t6 = .int .i64 (i : Int) ∧ i ≤ s.size ∧ v = (m : Int) - nlt s i ∧ 1 ≤ v ∧ w = wr) (fun _ t6 _ => s.size - (intOf t6).toNat)
    case atStart => exact ⟨0, m, rfl, rfl, Nat.zero_le _, by rw [nlt_zero]; omega, by omega, rfl⟩
    case round =>
      clear c0
      obtain ⟨i, v, rfl, rfl, hi, v1, v2, rfl⟩ := hrel
      by_cases c : i < s.size
      · have hst := nlt_step s i c
        have e2 : bt s i = (s[i]'c).toNat := by unfold bt; rw [Utf8W.get!_of_lt s i c]
        by_cases h10 : (s[i]'c) = 10
        · have e10 : (((s[i]'c).toNat : Int) == 10) = true := by rw [h10]; rfl
          have hbt : bt s i = 10 := by rw [e2, h10]; rfl
          rw [if_pos hbt] at hst
          by_cases cm : v = 1
          · subst cm
            have E : Hid (fli s m = ((i : Int) + 1, 0)) := HF.out i c hbt (by omega)
            clear v1 hst hbt e2
            go_wp2
            go_ret2
            exact ⟨by rw [E.out]; rfl, rfl⟩
          · have d1 : ¬ v - 1 = 0 := by omega
            have HV : Hid (v - 1 = (m : Int) - nlt s (i + 1)) := by show _ = _; omega
            have v3 : v ≤ 9223372036854775807 := by omega
            clear v1 hst hbt e2
            go_wp2
            exact ⟨⟨i + 1, v - 1, by go_num, by go_num, by omega, HV.out, by omega, trivial⟩, by simp [intOf]; omega⟩
        · have hne : (s[i]'c).toNat ≠ 10 := fun x => h10 (UInt8.toNat_inj.1 x)
          have e10 : (((s[i]'c).toNat : Int) == 10) = false := by simp; omega
          rw [if_neg (by rw [e2]; exact hne)] at hst
          have HV : Hid (v = (m : Int) - nlt s (i + 1)) := by show _ = _; omega
          clear v1 hst e2
          go_wp2
          exact ⟨⟨i + 1, v, rfl, by go_num, by omega, HV.out, v2, trivial⟩, by simp [intOf]; omega⟩
      · have hi' : i = s.size := by omega
        subst hi'
        have E : Hid (fli s m = (0, 1)) := HE.out (by omega)
        clear v1
        go_wp2
        go_ret2
        exact ⟨by rw [E.out]; rfl, rfl⟩
set_option maxRecDepth 100000 in
set_option maxHeartbeats 1000000 in
theorem rcell_any (s : ByteArray) (hs : s.size ≤ 1099511627776) (n : Int) (hn : -9223372036854775808 ≤ n ∧ n ≤ 9223372036854775807) (w : World) : Calls Tryd.prog 23 #[.string s, .int .i64 n] w fun e W' => e = .returned (.tuple #[.int .i64 (fnd .N s n).1, .int .i64 (fnd .N s n).2]) ∧ Below w.heap.size w W' := by
  have C2 : Hid (Calls Tryd.prog 33 #[.string s] w fun e W' => ∃ a cap, e = .returned (.slice a (cl s).length cap) ∧ Hid (Rd4 W' (.slice a (cl s).length cap) (cl s) ∧ Below w.heap.size w W')) := rlist_rd s hs w
  have hN := cl_len s
  have HN2 : Hid (∀ d ∈ cl s, 0 ≤ d.n ∧ d.n ≤ 2) := cl_n s
  unfold fnd pos
  rw [← ful_tot]
  generalize cl s = l at *
  obtain ⟨N, hNl⟩ : ∃ N, l.length = N := ⟨_, rfl⟩
  have HL : Hid (l.length = N) := hNl
  rw [hNl] at C2 hN
  clear hNl
  obtain ⟨FN, hFN⟩ : ∃ f, (if 0 ≤ n ∧ n < ful .N l then (((srch .N s.size n l : Nat) : Int), (0 : Int)) else (0, 1)) = f := ⟨_, rfl⟩
  rw [hFN]
  have HFN : Hid ((if 0 ≤ n ∧ n < ful .N l then (((srch .N s.size n l : Nat) : Int), (0 : Int)) else (0, 1)) = FN) := hFN
  clear hFN
  by_cases c0 : n < 0
  · have E : Hid (FN = (0, 1)) := by show _ = _; rw [← HFN.out]; exact if_neg (by omega)
    go_enter Tryd.func23, Tryd.ntmps23
    go_wp2_with (go_at_call 33; refine C2.out.mono ?_; clear C2; rintro e w2 ⟨a2, cap, rfl, H⟩)
    go_ret2
    exact ⟨by rw [E.out]; rfl, H.out.2⟩
  · go_enter Tryd.func23, Tryd.ntmps23
    go_wp2_with (go_at_call 33; refine C2.out.mono ?_; clear C2; rintro e w2 ⟨a2, cap, rfl, H⟩)
    go_loopw [1, 7] (fun t1 t7 wr => ∃ (i : Nat) (v : Int), t1 = .int .i64 v ∧ t7 = .int .i64 (i : Int) ∧ i ≤ N ∧ 0 ≤ v ∧ v ≤ 9223372036854775807 ∧ Hid (v = n - ful .N (l.take i) ∧ srch .N s.size n l = srch .N s.size v (l.drop i)) ∧ w2 = wr) (fun _ t7 _ => N - (intOf t7).toNat)
    case atStart => exact ⟨0, n, rfl, rfl, Nat.zero_le _, by omega, hn.2, ⟨by simp [ful], rfl⟩, rfl⟩
    case round =>
      obtain ⟨i, v, rfl, rfl, hi, v1, v2, HV, rfl⟩ := hrel
      by_cases c : i < N
      · obtain ⟨x, hx⟩ : ∃ x, l[i]? = some x := ⟨l[i]'(by rw [HL.out]; exact c), List.getElem?_eq_getElem _⟩
        obtain ⟨a', cap', e, g⟩ := H.out.1
        simp at e
        obtain ⟨b, rfl, hlt, hc⟩ := g (fun e => by rw [e] at hx; simp at hx)
        obtain ⟨rfl, -, -⟩ := e
        obtain ⟨q0, -, -, q3⟩ := hc i x hx
        have hxn := HN2.out x (List.mem_of_getElem? hx)
        have hdr : l.drop i = x :: l.drop (i + 1) := by rw [List.drop_eq_getElem_cons (by rw [HL.out]; exact c)]; congr 1; exact (List.getElem?_eq_some_iff.1 hx).2
        have htk : ful .N (l.take (i + 1)) = ful .N (l.take i) + x.n := by rw [List.take_add_one, hx, ful_app]; simp [ful, itm]
        have hfl : ful .N l = ful .N (l.take i) + (x.n + ful .N (l.drop (i + 1))) := by
          have e := ful_app .N (l.take i) (l.drop i)
          rw [List.take_append_drop, hdr] at e
          exact e
        by_cases d : v < x.n
        · have E : Hid (FN = ((x.fr : Int), 0)) := by
            show _ = _
            rw [← HFN.out]
            have h0 := ful_nonneg .N (l := l.drop (i + 1)) (fun d hd => HN2.out d (List.mem_of_mem_drop hd))
            obtain ⟨hv, hs⟩ := HV.out
            have e : srch .N s.size v (x :: l.drop (i + 1)) = x.fr := if_pos (show v < (itm .N x).2 from d)
            rw [if_pos (by omega), hs, hdr, e]
          clear hdr htk hfl hc g hx
          go_wp2
          go_ret2
          exact ⟨by rw [E.out]; rfl, H.out.2⟩
        · have HV2 : Hid (v - x.n = n - ful .N (l.take (i + 1)) ∧ srch .N s.size n l = srch .N s.size (v - x.n) (l.drop (i + 1))) := by
            obtain ⟨hv, hs⟩ := HV.out
            refine ⟨by omega, ?_⟩
            rw [hs, hdr]
            rw [srch]
            exact if_neg d
          generalize x.n = xn at *
          clear hdr htk hfl hc g hx HV
          go_wp2
          exact ⟨⟨i + 1, v - xn, by go_num, by go_num, by omega, by omega, by omega, HV2, trivial⟩, by simp [intOf]; omega⟩
      · have E : Hid (FN = (0, 1)) := by
          show _ = _
          rw [← HFN.out]
          obtain ⟨hv, hs⟩ := HV.out
          rw [List.take_of_length_le (l := l) (i := i) (by rw [HL.out]; omega)] at hv
          exact if_neg (by omega)
        go_wp2
        go_ret2
        exact ⟨by rw [E.out]; rfl, H.out.2⟩
end Go.Proofs.YtbihilfnnonpnaaDoor
namespace Go.Proofs.YtbihilfnnonpnaaDoor
open Bod Wid

theorem cl_to (s : ByteArray) : ∀ c ∈ cl s, cbZ s c.to = true := fun c hc => (cl_cb s c hc).1
theorem ceL_zero (a : Int) : ∀ {l : List Clu}, (∀ c ∈ l, a < (c.to : Int)) → ceL a l = 0
  | [], _ => rfl
  | c :: l, h => by
    have h1 := h c List.mem_cons_self
    simp only [ceL]
    rw [if_neg (by omega), ceL_zero a (fun d hd => h d (List.mem_cons_of_mem _ hd))]
    rfl
theorem ceL_full (a : Int) : ∀ {l : List Clu}, (∀ c ∈ l, (c.to : Int) ≤ a) → ceL a l = ful .N l
  | [], _ => rfl
  | c :: l, h => by
    have h1 := h c List.mem_cons_self
    simp only [ceL, ful, itm]
    rw [if_pos h1, ceL_full a (fun d hd => h d (List.mem_cons_of_mem _ hd))]
/-- at a boundary -/
theorem ce_bd (s : ByteArray) {a : Nat} (ha : a ≤ s.size) (h : cbZ s (a : Int) = true) : ceL a (cl s) = cn .N s a := by
  obtain ⟨x, y, e, x1, _⟩ := split_at ha
  subst e
  rw [← x1] at h ⊢
  rw [cn_cut .N h, cn_end, Int.sub_self, cn_low .N y (Int.le_refl 0), Int.add_zero, cl_cut h, ceL_app, ceL_full _ (fun c hc => by have := cl_span hc; omega), ceL_zero, Int.add_zero]
  intro c hc
  obtain ⟨d, hd, rfl⟩ := List.mem_map.1 hc
  have := cl_span hd
  show ((x.size : Nat) : Int) < ((sh x.size d).to : Int)
  simp only [sh]
  omega
/-- inside a cluster, of a list -/
theorem ce_in (d a : Nat) : ∀ (l : List Clu) (i j : Nat), tiled i l j → i < a → a ≤ j → (∀ c ∈ l, c.to ≠ a) → ceL a l = cnL .N (srch .C d (cnL .C a l - 1) l) l ∧ 1 ≤ cnL .C a l ∧ i ≤ srch .C d (cnL .C a l - 1) l ∧ srch .C d (cnL .C a l - 1) l < j
  | [], i, j, ht, h1, h2, _ => by have : i = j := ht; omega
  | c :: l, i, j, ht, h1, h2, hn => by
    obtain ⟨t1, t2, t3⟩ := ht
    have hl : ∀ x ∈ l, x.fr < x.to ∧ c.to ≤ x.fr := fun x hx => by have := tiled_mem t3 x hx; omega
    have hne := hn c List.mem_cons_self
    have hcj : c.to ≤ j := tiled_le t3
    have e0 : sb .C (a : Int) c = 1 := if_pos (show (c.fr : Int) < a by omega)
    by_cases q : a < c.to
    · have z1 : cnL .C (a : Int) l = 0 := cnL_zero .C _ fun x hx => ⟨(hl x hx).1, by have := (hl x hx).2; omega⟩
      have e1 : cnL .C (a : Int) (c :: l) = 1 := by simp only [cnL]; rw [e0, z1]; rfl
      have e2 : srch .C d (cnL .C (a : Int) (c :: l) - 1) (c :: l) = c.fr := by rw [e1]; rfl
      have z2 : cnL .N (c.fr : Int) l = 0 := cnL_zero .N _ fun x hx => ⟨(hl x hx).1, by have := (hl x hx).2; omega⟩
      have z3 : ceL (a : Int) l = 0 := ceL_zero _ fun x hx => by have := hl x hx; omega
      have e3 : sb .N (c.fr : Int) c = 0 := if_neg (show ¬ (c.fr : Int) < c.fr by omega)
      rw [e2, e1]
      refine ⟨?_, by omega, by omega, by omega⟩
      simp only [ceL, cnL]
      rw [if_neg (by omega), z3, z2, e3]
    · obtain ⟨r1, r2, r3, r4⟩ := ce_in d a l c.to j t3 (by omega) h2 (fun x hx => hn x (List.mem_cons_of_mem _ hx))
      have e1 : cnL .C (a : Int) (c :: l) = 1 + cnL .C (a : Int) l := by simp only [cnL]; rw [e0]
      have e2 : srch .C d (cnL .C (a : Int) (c :: l) - 1) (c :: l) = srch .C d (cnL .C (a : Int) l - 1) l := by
        rw [e1, show 1 + cnL .C (a : Int) l - 1 = cnL .C (a : Int) l by omega]
        exact if_neg (show ¬ cnL .C (a : Int) l < 1 by omega)
      rw [e2, e1]
      generalize srch .C d (cnL .C (a : Int) l - 1) l = b at *
      have e3 : sb .N (b : Int) c = c.n := if_pos (show (c.fr : Int) < b by omega)
      refine ⟨?_, by omega, by omega, r4⟩
      simp only [ceL, cnL]
      rw [if_pos (by omega), e3, r1]
/-- .. of a text -/
theorem ce_no (s : ByteArray) {a : Nat} (ha : a ≤ s.size) (h : cbZ s (a : Int) = false) : ceL a (cl s) = cn .N s (pos .C s (cn .C s a - 1)) ∧ 0 ≤ cn .C s a - 1 ∧ cn .C s a - 1 < tot .C s ∧ pos .C s (cn .C s a - 1) < s.size := by
  have h0 : 0 < a := by
    apply Decidable.byContradiction
    intro hn
    have : a = 0 := by omega
    rw [this, show ((0 : Nat) : Int) = 0 from rfl, cb_zero] at h
    cases h
  obtain ⟨r1, r2, r3, r4⟩ := ce_in s.size a (cl s) 0 s.size (cl_tile s) h0 ha (fun c hc e => by have := cl_to s c hc; rw [e, h] at this; cases this)
  have hm := cn_mono .C s (show (a : Int) ≤ s.size by omega)
  rw [cn_end, ful_tot] at hm
  have r2 : 1 ≤ cn .C s a := r2
  exact ⟨r1, by omega, by omega, r4⟩
end Go.Proofs.YtbihilfnnonpnaaDoor
