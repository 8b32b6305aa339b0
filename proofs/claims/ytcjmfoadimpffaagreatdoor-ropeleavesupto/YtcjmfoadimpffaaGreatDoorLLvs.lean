/-
  The law RopeLeaves returns true for all texts and numbers: the leaves of a rope are its text, each ends at a boundary, none but the only one is short, one that is long can't be cut, and there are as many as the height wants. Its conditions: what is handed in holds at most 1048576 letters; the two tables of unicode/utf8 start as the program's text lays them (the card ties that).
-/
import Derived.Test.YtcjmfoadimpffaaGreatDoorRLvs
import Derived.Test.YtcjmfoadimpffaaGreatDoorUTexts
import Derived.Test.YtcjmfoadimpffaaGreatDoorRLaw
import Derived.Deep.RegionHeld3
namespace Go.Proofs.YtcjmfoadimpffaaGreatDoor.ropeLeaves
open Go.RowKit Go.Shelf Bod Wid
attribute [local go_sem] Oper.semAt_some

abbrev ptr (b : Nat) : Value := .pointer (some ⟨b, 0, none⟩)
theorem row_below7 {base e size n : Nat} {v : Value} {xs : List Value} {W W' : World} (h : W.ownsRow base e size v n xs) (hb : Below W.heap.size W W') : W'.ownsRow base e size v n xs :=
  h.kept (row := none) ⟨hb.os, hb.tape, hb.output, hb.size, fun k hk _ => hb.block k hk⟩ (by cases hv : v.ownBlock with
    | none => exact .inl rfl
    | some _ => exact .inr (by simp))
theorem cell_lt7 {W : World} {p : Addr} {v : Value} (h : W.cell? p = some v) : p.block < W.heap.size := by
  unfold World.cell? at h
  cases ho : W.heap[p.block]? with
  | none => simp [ho] at h
  | some o => exact (Array.getElem?_eq_some_iff.1 ho).1
theorem infoRP : (Tryz.prog.info? 26).map (fun i => (i.zero, i.size, i.bytes)) = some (some (.pointer none), 1, 8) := by kernel_rfl
theorem at_grown {W W' : World} {base size n : Nat} {v : Value} {xs : List Value} (hr : W.ownsRow base 26 size v n xs) (hg : W.grownBy W' v.ownBlock) : ∀ {t : Tr} {x : Value}, At W t x → At W' t x
  | .leaf _, _, ⟨b, h1, h2⟩ => ⟨b, h1, (hg.block b (Array.getElem?_eq_some_iff.1 h2).1 fun e => by
      obtain ⟨vs, hv⟩ := row_block hr e.symm
      rw [hv] at h2; cases h2).trans h2⟩
  | .knot _ _, _, ⟨b, x, y, h1, h2, h3, h4⟩ => ⟨b, x, y, h1, (hg.block b (Array.getElem?_eq_some_iff.1 h2).1 fun e => by
      obtain ⟨vs, hv⟩ := row_block hr e.symm
      rw [hv] at h2; cases h2).trans h2, at_grown hr hg h3, at_grown hr hg h4⟩
theorem rp_grown {W W' : World} {base size n : Nat} {v x : Value} {xs : List Value} {t : Tr} (hr : W.ownsRow base 26 size v n xs) (hg : W.grownBy W' v.ownBlock) (h : Rp W t x) : Rp W' t x := by
  rcases h with h | ⟨b, y, h1, h2, h3⟩
  · exact .inl h
  · refine .inr ⟨b, y, h1, (hg.block b (Array.getElem?_eq_some_iff.1 h2).1 fun e => ?_).trans h2, h3.imp id (at_grown hr hg)⟩
    obtain ⟨vs, hv⟩ := row_block hr e.symm
    rw [hv] at h2; cases h2
/-- the ropes of the texts -/
def Lq (W : World) (ss : List ByteArray) (xs : List Value) : Prop := xs.length = ss.length ∧ ∀ (j : Nat) s, ss[j]? = some s → ∃ b, xs[j]? = some (ptr b) ∧ Rp W (tof s) (ptr b)
theorem Lq.below {W W' : World} {ss : List ByteArray} {xs : List Value} (h : Lq W ss xs) (hb : Below W.heap.size W W') : Lq W' ss xs := ⟨h.1, fun j s hj => by obtain ⟨b, h1, h3⟩ := h.2 j s hj; exact ⟨b, h1, h3.below hb⟩⟩
theorem Lq.snoc {W W' : World} {base n b : Nat} {v : Value} {ss : List ByteArray} {xs : List Value} {s : ByteArray} (h : Lq W ss xs) (hx : Rp W (tof s) (ptr b)) (hr : W.ownsRow base 26 1 v n xs) (hg : W.grownBy W' v.ownBlock) : Lq W' (ss ++ [s]) (xs ++ [ptr b]) := by
  refine ⟨by simp [h.1], fun j u hj => ?_⟩
  by_cases hj' : j < ss.length
  · rw [List.getElem?_append_left hj'] at hj
    obtain ⟨c, h1, h3⟩ := h.2 j u hj
    exact ⟨c, by rw [List.getElem?_append_left (by rw [h.1]; omega)]; exact h1, rp_grown hr hg h3⟩
  · rw [List.getElem?_append_right (by omega)] at hj
    have hj0 : j - ss.length = 0 := by
      have := (List.getElem?_eq_some_iff.1 hj).1
      simp at this
      omega
    rw [hj0] at hj
    cases hj
    exact ⟨b, by rw [List.getElem?_append_right (by rw [h.1]; omega), h.1, hj0]; rfl, rp_grown hr hg hx⟩
theorem ma_jo : ∀ ss : List ByteArray, joT (ss.map tof) = jo ss
  | [] => rfl
  | s :: r => by show (tof s).text ++ joT (r.map tof) = s ++ jo r; rw [tof_text, ma_jo r]
theorem ma_good (ss : List ByteArray) : ∀ t ∈ ss.map tof, Good t := fun t ht => by
  obtain ⟨s, _, rfl⟩ := List.mem_map.1 ht
  exact tof_good s
theorem jo_bd : ∀ ss : List ByteArray, (∀ s ∈ ss, s.size ≤ 1048574) → (jo ss).size ≤ ss.length * 1048574
  | [], _ => Nat.zero_le _
  | s :: r, h => by
    show (s ++ jo r).size ≤ (r.length + 1) * 1048574
    rw [size_app]
    have := jo_bd r (fun x hx => h x (List.mem_cons_of_mem _ hx))
    have := h s List.mem_cons_self
    omega
theorem jo_snoc {ss : List ByteArray} {k : Nat} {s : ByteArray} (h : ss[k]? = some s) : jo (ss.take (k + 1)) = jo (ss.take k) ++ s := by
  rw [List.take_add_one, h, jo_app]
  congr 1
  exact jo_one s
theorem one_new (w : World) (a : Value) (t : TypeId) : ∀ j u, [a][j]? = some u → (w.alloc (.cells #[a] t)).cell? ((⟨w.heap.size, 0, none⟩ : Addr).add j) = some u := by
  intro j u hj
  match j, hj with
  | 0, hj => simp at hj; subst hj; simp [Addr.add]
  | j + 1, hj => simp at hj
/-- the list of ropes as it stands -/
structure NL (w : World) (ss : List ByteArray) (k : Nat) (v : Value) (W : World) (xs : List Value) : Prop where
  lq : Lq W (ss.take k) xs
  row : W.ownsRow w.heap.size 26 1 v k xs
  bel : Below w.heap.size w W
theorem NL.below {w : World} {ss : List ByteArray} {k : Nat} {v : Value} {W W' : World} {xs : List Value} (h : NL w ss k v W xs) (hb : Below W.heap.size W W') : NL w ss k v W' xs := ⟨h.lq.below hb, row_below7 h.row hb, Below.on h.bel hb⟩
theorem NL.rdp {w : World} {ss : List ByteArray} {v : Value} {W : World} {xs : List Value} (h : NL w ss ss.length v W xs) : RdP W v (ss.map tof) := by
  have hq := h.lq
  rw [List.take_length] at hq
  rcases h.row.2 with ⟨h0, h1⟩ | ⟨g, cap, cur, hv, _, hgb, hc, _⟩
  · have hl : ss.map tof = [] := List.length_eq_zero_iff.1 (by rw [List.length_map]; exact h1)
    rw [h0, hl]
    exact ⟨none, 0, rfl, Nat.le_refl _, fun h => absurd rfl h⟩
  · have hrow := h.row
    rw [hv] at hrow ⊢
    refine ⟨_, cap, by rw [List.length_map], by rw [List.length_map]; exact hc, fun _ => ⟨g, 0, rfl, (Array.getElem?_eq_some_iff.1 hgb).1, fun k t hk => ?_⟩⟩
    rw [List.getElem?_map] at hk
    cases hs : ss[k]? with
    | none => rw [hs] at hk; cases hk
    | some s =>
      rw [hs] at hk
      cases hk
      obtain ⟨b, e1, e3⟩ := hq.2 k s hs
      have hj := (List.getElem?_eq_some_iff.1 hs).1
      exact ⟨ptr b, by rw [Nat.zero_add, hrow.cellAt _ (by omega)]; exact e1, e3⟩
theorem fib2 : ∀ n, fib (n + 1) ≤ 2 * fib n
  | 0 => by decide
  | n + 1 => by show fib (n + 1) + fib n ≤ _; have := fib_mono n; omega
theorem fib_le : ∀ {a b : Nat}, a ≤ b → fib a ≤ fib b := fun {a b} h => by
  induction b with
  | zero => obtain rfl : a = 0 := by omega
            exact Nat.le_refl _
  | succ b ih =>
    rcases Nat.eq_or_lt_of_le h with rfl | h
    · exact Nat.le_refl _
    · exact Nat.le_trans (ih (by omega)) (fib_mono b)
/-- between two rounds: nothing else has turned; the two numbers' boxes -/
structure LBx (w9 : World) (t : Tr) (pre : List (Nat × ByteArray)) (W : World) : Prop where
  bel : Below w9.heap.size w9 W
  n : W.heap[w9.heap.size]? = some (.cells #[.int .i64 (pre.length : Int)] 3 (0, 0))
  a : W.heap[w9.heap.size + 1]? = some (.cells #[.int .i64 ((jo (t.lv.take pre.length)).size : Int)] 3 (0, 0))
theorem lb_ab {w9 : World} {t : Tr} {B lo hi : Nat} (h : w9.heap.size + 1 < B) : Ab B lo hi (LBx w9 t) := fun pre X Y row h1 hg hr =>
  ⟨ab_below (β := Unit) (by omega) (Nat.le_refl _) () X Y row h1.bel hg hr, ab_block (o := fun _ : Unit => _) (show w9.heap.size < B by omega) () X Y row h1.n hg hr, ab_block (o := fun _ : Unit => _) h () X Y row h1.a hg hr⟩
theorem wp_calm {P : Program} {s : Code} {K : Act → World → Prop} {Q' : Exit → Act → World → Prop} {a : Act} {w : World} (h : s.wp P (Exit.then K (fun _ _ _ => False)) a w) : s.wp P (Exit.then K Q') a w :=
  wp_mono h (fun e _ _ q => by cases e <;> first | exact q | exact False.elim q)
def put2 : ByteArray := ⟨#[204, 129]⟩
set_option maxRecDepth 100000 in
set_option maxHeartbeats 4000000 in
theorem walk (d : Nat) (hd : 5 ≤ d) (a0 : Option Addr) (len cap : Nat) (a c : Nat) (ss : List ByteArray) (w : World) (hS : Texts w a0 len ss) (hl : len ≤ 1048574) (hz : ∀ s ∈ ss, s.size ≤ 1048574) (ha : a ≤ 65535) (hc : c ≤ 65535) (hE : Ev w) :
    CallsIn Fence.wide d Tryz.prog 3 #[.slice a0 len cap, .int .u16 a, .int .u16 c] w fun e w' => e = .returned (.bool true) ∧ Below w.heap.size w w' := by
  have h1 : 1 ≤ d := by omega
  obtain ⟨i0, hi, hz0, hz1, hz2⟩ := info_parts infoRP
  obtain ⟨hlen, hcell⟩ := hS
  obtain ⟨J, hJ⟩ : ∃ J, jo ss = J := ⟨_, rfl⟩
  obtain ⟨N, hN⟩ : ∃ N, J.size = N := ⟨_, rfl⟩
  have hjo : N ≤ 1099511627774 := by
    have := jo_bd ss hz
    rw [hJ, hN, hlen] at this
    have h2 : len * 1048574 ≤ 1048574 * 1048574 := Nat.mul_le_mul_right _ hl
    omega
  obtain ⟨i, hi'⟩ : ∃ i, a % (N + 1) = i := ⟨_, rfl⟩
  have hiN : i ≤ N := by have := Nat.mod_lt a (show 0 < N + 1 by omega); omega
  obtain ⟨n, hn⟩ : ∃ n, c % (N - i + 1) = n := ⟨_, rfl⟩
  have hnN : i + n ≤ N := by have := Nat.mod_lt c (show 0 < N - i + 1 by omega); omega
  have r1 : (a : Int) % ((N : Int) + 1) = (i : Int) := by
    have := rem_nat a (N + 1) (by omega)
    rw [hi'] at this
    rw [← this]
    rfl
  have r2 : (c : Int) % ((N : Int) - i + 1) = (n : Int) := by
    have := rem_nat c (N - i + 1) (by omega)
    rw [hn] at this
    rw [← this, show ((N - i + 1 : Nat) : Int) = (N : Int) - i + 1 by omega]
  obtain ⟨j, hj⟩ : ∃ j, i + n = j := ⟨_, rfl⟩
  have r3 : (i : Int) + n = (j : Int) := by omega
  obtain ⟨tg, tx⟩ := tog_ok _ (Nat.le_refl (ss.map tof).length) (ma_good ss)
  rw [ma_jo, hJ] at tx
  obtain ⟨TG, hTG⟩ : ∃ TG, tog (ss.map tof) = TG := ⟨_, rfl⟩
  rw [hTG] at tg tx
  obtain ⟨gT, xT⟩ := rep_ok put2 tg (n := i) (m := i + n) (by rw [tx]; omega) (by rw [tx]; omega)
  rw [hj, tx] at xT
  rw [hj] at gT
  obtain ⟨T, hT⟩ : ∃ T, rep TG i j put2 = T := ⟨_, rfl⟩
  rw [hT] at gT xT
  obtain ⟨s1, e1⟩ : ∃ x, J.extract 0 i = x := ⟨_, rfl⟩
  obtain ⟨s3, e3⟩ : ∃ x, J.extract j J.size = x := ⟨_, rfl⟩
  have e3' : J.extract j N = s3 := by rw [← hN]; exact e3
  rw [e1, e3] at xT
  have z1 : s1.size = i := by rw [← e1, size_extract _ _ _ (by omega)]; omega
  have z3 : s3.size = N - j := by rw [← e3, size_extract _ _ _ (Nat.le_refl _), hN]
  obtain ⟨TX, hTX⟩ : ∃ TX, s1 ++ put2 ++ s3 = TX := ⟨_, rfl⟩
  obtain ⟨X1, hX1⟩ : ∃ X1, s1 ++ put2 = X1 := ⟨_, rfl⟩
  have hTX' : X1 ++ s3 = TX := by rw [← hX1]; exact hTX
  obtain ⟨M, hM⟩ : ∃ M, TX.size = M := ⟨_, rfl⟩
  have zX1 : X1.size = i + 2 := by rw [← hX1, size_app, z1]; rfl
  have zT : M = N - n + 2 := by rw [← hM, ← hTX', size_app, zX1, z3]; omega
  rw [hTX] at xT
  obtain ⟨lv, hlv⟩ : ∃ lv, T.lv.length = lv := ⟨_, rfl⟩
  obtain ⟨hh, hhh⟩ : ∃ k, T.h = k := ⟨_, rfl⟩
  have hnz : lv ≤ 1099511627777 := by
    rw [← hlv]
    rcases gT.fine with k | k
    · rw [k]; decide
    · have := k.size; rw [xT] at this; omega
  have hh1 : hh ≤ 1099511627776 := by rw [← hhh]; have := gT.fine.h_le; rw [xT] at this; omega
  have hfb : fib hh ≤ lv := by rw [← hhh, ← hlv]; exact avl_fib gT.avl
  obtain ⟨W0, hW0⟩ : ∃ W0, w.alloc (.cells #[.bool false] 4) = W0 := ⟨_, rfl⟩
  have hb0 : Below w.heap.size w W0 := by rw [← hW0]; exact (Below.refl _ w).alloc (Nat.le_refl _) _
  have r0 : W0.heap[w.heap.size]? = some (.cells #[.bool false] 4 (0, 0)) := by rw [← hW0]; exact World.alloc_heap_new w _
  have HW0 : Hid (Below w.heap.size w W0 ∧ W0.heap[w.heap.size]? = some (.cells #[.bool false] 4 (0, 0)) ∧ w.heap.size < W0.heap.size) := ⟨hb0, r0, (Array.getElem?_eq_some_iff.1 r0).1⟩
  have hE0 : Ev W0 := hE.below hb0
  have HC : Hid (∀ k s, ss[k]? = some s → ∃ g o, a0 = some ⟨g, o, none⟩ ∧ ∀ W, Below W0.heap.size W0 W → W.cell? ⟨g, o + k, none⟩ = some (.string s)) := fun k s hk => by
    have hk' := (List.getElem?_eq_some_iff.1 hk).1
    obtain ⟨b, o, h1, h2, h3⟩ := hcell (by omega)
    refine ⟨b, o, h1, fun W hW => ?_⟩
    have := h3 k (by omega)
    rw [List.getD_eq_getElem?_getD, hk] at this
    have h4 := Below.on hb0 hW
    exact (h4.cell (p := ⟨b, o + k, none⟩) h2).trans (by simpa using this)
  have C0 : Hid (Calls Tryz.prog 9 #[] W0 fun e W' => e = .returned (.bool true) ∧ NL W0 ss 0 (.slice none 0 0) W' []) := (holds_any W0 hE0).mono fun e W' ⟨h1, h2⟩ => ⟨h1, ⟨by rw [List.take_zero]; rfl, fun j s hj => by simp at hj⟩, World.ownsRow_nil _ _ _ _, h2⟩
  have C1 : Hid (∀ (s : ByteArray) (k : Nat) (v : Value) (W : World) xs, s.size ≤ 1048576 → Hid (NL W0 ss k v W xs) → Calls Tryz.prog 10 #[.string s] W fun e W' => ∃ b, e = .returned (ptr b) ∧ Hid (Rp W' (tof s) (ptr b) ∧ NL W0 ss k v W' xs)) := fun s k v W xs hs hn => (rnew_any s (by unfold B40; omega) W (hE0.below hn.out.bel)).mono fun e W' h => by
    obtain ⟨b, h1, h2, h3⟩ := MkR.rp h
    exact ⟨b, h1, h2, hn.out.below h3⟩
  have C3 : Hid (∀ (v : Value) (W : World) xs, Hid (NL W0 ss len v W xs) → Calls Tryz.prog 11 #[v] W fun e W' => ∃ b, e = .returned (ptr b) ∧ Hid (Rp W' TG (ptr b) ∧ Below W0.heap.size W0 W')) := fun v W xs hn => by
    have hn' := hn.out
    rw [← hlen] at hn'
    refine (rconcat_any (by rw [List.length_map, hlen]; unfold B40; omega) hn'.rdp (ma_good ss) (by rw [ma_jo, hJ]; unfold B40; omega) (hE0.below hn'.bel)).mono fun e W' h => ?_
    obtain ⟨b, h1, h2, h3⟩ := MkR.rp h
    exact ⟨b, h1, hTG ▸ h2, Below.on hn.out.bel h3⟩
  have C2 : Hid (∀ W r, Hid (Rp W TG (ptr r) ∧ Below W0.heap.size W0 W) → Calls Tryz.prog 12 #[ptr r, .int .i64 i, .int .i64 n, .string put2] W fun e W' => ∃ b x, e = .returned (.tuple #[ptr b, .string x, .int .i64 0]) ∧ Hid (Rp W' T (ptr b) ∧ Below W0.heap.size W0 W')) := fun W r ⟨h1, hW⟩ =>
    (Go.Proofs.YtcjmfoadimpffaaGreatDoor.rrep_ok h1 tg i n put2 (by rw [tx]; unfold B40; show _ + 2 ≤ _; omega) (by rw [tx]; omega) (hE0.below hW)).mono fun e W' ⟨b, k1, k2, k3⟩ => ⟨b, _, k1, by rw [hj, hT] at k2; exact k2, Below.on hW k3⟩
  have C9 : Hid (∀ (W : World) b, Hid (Rp W T (ptr b) ∧ Below W0.heap.size W0 W) → Calls Tryz.prog 13 #[ptr b] W fun e W' => ∃ c x, e = .returned (.func (.func 49) #[] #[.pointer (some ⟨c, 0, none⟩)]) ∧ Hid (W'.heap[c]? = some (.cells #[x] 89 (0, 0)) ∧ At W' T x ∧ Below W.heap.size W W')) := fun W b ⟨a1, hW⟩ => (leaves_any a1).mono fun e W' ⟨c, x, k1, k3, k4, k2⟩ => ⟨c, x, k1, k3, k4, k2⟩
  have HLN : Hid (ss.length = len ∧ jo ss = J ∧ J.size = N) := ⟨hlen, hJ, hN⟩
  have HZ : Hid (∀ s ∈ ss, s.size ≤ 1048576) := fun s hs => by have := hz s hs; omega
  have HJ : Hid (∀ k, (jo (ss.take k)).size ≤ 1099511627776) := fun k => by
    have := jo_size (ss.take k) (ss.drop k)
    rw [List.take_append_drop, hJ] at this
    omega
  have HGT : Hid (Good T ∧ T.text = TX ∧ T.lv.length = lv ∧ T.h = hh ∧ fib hh ≤ lv) := ⟨gT, xT, hlv, hhh, hfb⟩
  have hfn := fun x y W => func_nil (.func 49) x y W
  have HE0 : Hid (Ev W0) := hE0
  clear hE hcell hz gT xT tg tx hlv hhh hfb hb0 r0 hE0
  refine callsIn_of_wp_marks Tryz.func3 rfl trivial ?_ rfl
  simp only [Tryz.ntmps3, List.size_toArray, List.length_cons, List.length_nil, Nat.reduceAdd, Nat.reduceSub, Array.replicate_succ, Array.replicate_zero, List.push_toArray, List.append_toArray, List.nil_append, List.cons_append]
  refine wpIn_wide.2 ?_
  go_wp2_with (go_at_call 9; refine C0.out.mono ?_; clear C0; rintro e w1 ⟨rfl, hN0⟩)
  go_loopw [7, 8, 28] (fun t7 t8 t28 wr => ∃ k : Nat, t28 = .int .i64 k ∧ k ≤ len ∧ t8 = .string (jo (ss.take k)) ∧ Hid (∃ xs, NL W0 ss k t7 wr xs)) (fun _ _ t28 _ => len - (intOf t28).toNat)
  case atStart => exact ⟨0, rfl, Nat.zero_le _, rfl, [], hN0⟩
  case round =>
    clear hN0
    obtain ⟨k, rfl, hk, rfl, HX⟩ := hrel
    obtain ⟨xs, hn⟩ := HX.out
    clear HX
    have HN : Hid (NL W0 ss k _ wr xs) := hn
    clear hn
    have hbs := HN.out.bel.size
    by_cases c : k < len
    · obtain ⟨s, hs⟩ : ∃ s, ss[k]? = some s := ⟨ss[k]'(by rw [HLN.out.1]; exact c), List.getElem?_eq_getElem _⟩
      obtain ⟨g, o, rfl, hc0⟩ := HC.out k s hs
      have d0 : wr.cell? ⟨g, o + k, none⟩ = some (.string s) := hc0 _ HN.out.bel
      have zs := HZ.out s (List.mem_of_getElem? hs)
      have zj := HJ.out k
      have hsn := jo_snoc hs
      have HSN : Hid (jo (ss.take (k + 1)) = jo (ss.take k) ++ s) := hsn
      have HTK : Hid (ss.take (k + 1) = ss.take k ++ [s]) := by show _ = _; rw [List.take_add_one, hs]; rfl
      generalize jo (ss.take k) = Jk at *
      clear hs hc0 hsn C3 C2 C9
      go_wp2_with (first
        | (go_at_call 10; refine (C1.out _ _ _ _ _ zs HN).mono ?_; clear C1 HN; rintro e w2 ⟨b, rfl, H⟩; have HR : Hid ((w2.alloc (.cells #[ptr b] 26)).ownsRow W0.heap.size 26 1 _ k xs) := H.out.2.row.alloc _; have hb3 := H.out.2.bel.size)
        | (at_builtin; refine wpList_append_own _ rfl _ _ 25 rfl W0.heap.size 26 i0 _ 1 8 Tryz.underlying25 hi hz0 hz1 hz2 rfl (by decide) _ k _ rfl HR.out ⟨w2.heap.size, 0, none⟩ 1 1 [ptr b] rfl rfl (one_new _ _ _) (by simp [Value.oneCell']) (by unfold maxLen; omega) (by omega) (by simp; omega) ?_; intro v4 w4 hrow4 hg4 _; have H4 : Hid (NL W0 ss (k + 1) v4 w4 (xs ++ [ptr b])) := ⟨by rw [HTK.out]; exact (H.out.2.lq.below ((Below.refl _ w2).alloc (Nat.le_refl _) _)).snoc (H.out.1.below ((Below.refl _ w2).alloc (Nat.le_refl _) _)) HR.out hg4, hrow4, (H.out.2.bel.alloc hb3 _).grown hg4 (by simp; omega) (fun j e => (HR.out.lt j e).1)⟩; clear hrow4 hg4 HR H))
      exact ⟨⟨k + 1, by go_num, by omega, by rw [HSN.out], _, H4.out⟩, by simp [intOf]; omega⟩
    · have hkl : k = len := by omega
      subst hkl
      have hjk : jo (ss.take k) = J := by rw [List.take_of_length_le (by rw [HLN.out.1]; exact Nat.le_refl _)]; exact HLN.out.2.1
      rw [hjk]
      clear C1 hi hz0 hz1 hz2 hjk HC HZ HJ hbs c
      unfold put2 at C2 hTX hX1
      go_upto_region 16 with (first
        | (go_at_call 11; refine (C3.out _ _ _ HN).mono ?_; clear C3 HN; rintro e w2 ⟨b, rfl, H⟩)
        | (go_at_call 12; refine (C2.out _ _ H).mono ?_; clear C2 H; rintro e w3 ⟨b, x3, rfl, H⟩))
      have b0 : (0 : Int) ≤ (i : Int) := by omega
      have b1 : (i : Int) ≤ (N : Int) := by omega
      have b2 : (0 : Int) ≤ (j : Int) := by omega
      have b3 : (j : Int) ≤ (N : Int) := by omega
      have b4 : IntKind.i64.wrap ((i : Int) + (n : Int)) = (j : Int) := by rw [r3]; exact IntWalk.i64_in _ (by omega)
      have b5 : IntKind.i64.wrap (j : Int) = (j : Int) := IntWalk.i64_in _ (by omega)
      have b6 : s1.size ≤ 9223372036854775805 := by omega
      have b7 : X1.size + s3.size ≤ 9223372036854775807 := by omega
      have b8 : s1.size + 2 ≤ 9223372036854775807 := by omega
      have b9 : X1.size ≤ 9223372036854775807 := by omega
      have b10 : M ≤ 9223372036854775807 := by omega
      have b11 : TX.size ≤ 9223372036854775807 := by omega
      clear z1 z3 zX1
      go_cut [16] from 24 (fun t16 wx => t16 = ptr w3.heap.size ∧ wx = (w3.alloc (.cells #[.string TX] 9)).drew)
      case first =>
        refine wp_calm ?_
        go_region_held (fun _ => True) (trivial) (fail)
        all_goals (go_wp2; go_meet; case rel => exact ⟨rfl, rfl⟩)
      case rest =>
      obtain ⟨rfl, rfl⟩ := hcut
      clear b0 b1 b2 b3 b4 b5 b6 b7 b8 b9 b10 b11
      obtain ⟨W4, hW4⟩ : ∃ W4, (w3.alloc (.cells #[.string TX] 9)).drew = W4 := ⟨_, rfl⟩
      rw [hW4]
      obtain ⟨tb, htb⟩ : ∃ tb, w3.heap.size = tb := ⟨_, rfl⟩
      have H4 : Hid ((Rp W4 T (ptr b) ∧ Below W0.heap.size W0 W4) ∧ W4.heap[tb]? = some (.cells #[.string TX] 9 (0, 0))) := by
        have hb4 : Below w3.heap.size w3 W4 := by rw [← hW4]; exact ((Below.refl _ w3).alloc (Nat.le_refl _) _).drew
        refine ⟨⟨H.out.1.below hb4, Below.on H.out.2 hb4⟩, ?_⟩
        rw [← hW4, ← htb]
        exact World.alloc_heap_new w3 _
      have H4a : Hid (Rp W4 T (ptr b) ∧ Below W0.heap.size W0 W4) := H4.out.1
      rw [htb]
      clear hW4 htb H e1 e3 e3' hTX hTX' hX1 r1 r2 r3 hi' hn hj HLN
      go_wp2_with (first
        | (go_at_call 13; refine (C9.out _ _ H4a).mono ?_; clear C9; rintro e w9 ⟨c, x9, rfl, H⟩))
      obtain ⟨W2, hW2⟩ : ∃ W2, (w9.alloc (.cells #[.int .i64 0] 3)).alloc (.cells #[.int .i64 0] 3) = W2 := ⟨_, rfl⟩
      rw [hW2]
      obtain ⟨p0, p1⟩ : W2.heap[w9.heap.size]? = some (.cells #[.int .i64 0] 3 (0, 0)) ∧ W2.heap[w9.heap.size + 1]? = some (.cells #[.int .i64 0] 3 (0, 0)) := by rw [← hW2]; exact push2 w9.heap _ _
      have hB0 : Below w9.heap.size w9 W2 := by rw [← hW2]; exact ((Below.refl _ w9).alloc (Nat.le_refl _) _).alloc (by simp) _
      have HSZ : Hid (W2.heap.size = w9.heap.size + 2) := by show _ = _; rw [← hW2]; simp
      obtain ⟨k1, k2, k3⟩ := H.out
      have lt4 := (Array.getElem?_eq_some_iff.1 k1).1
      have hI0 : LBx w9 T [] W2 := ⟨hB0, p0, p1⟩
      have hc2 : W2.heap[c]? = some (.cells #[x9] 89 (0, 0)) := (hB0.block c lt4).trans k1
      have hA2 := k2.below hB0
      have H9 : Hid (Rp w9 T (ptr b) ∧ Below w.heap.size w w9 ∧ w9.heap[w.heap.size]? = some (.cells #[.bool false] 4 (0, 0)) ∧ w9.heap[tb]? = some (.cells #[.string TX] 9 (0, 0)) ∧ Ev w9) := by
        have hbw := Below.on H4.out.1.2 k3
        exact ⟨H4.out.1.1.below k3, Below.on HW0.out.1 hbw, (hbw.block _ HW0.out.2.2).trans HW0.out.2.1, (k3.block tb (Array.getElem?_eq_some_iff.1 H4.out.2).1).trans H4.out.2, HE0.out.below hbw⟩
      have HLT : Hid (tb < w9.heap.size ∧ w.heap.size < w9.heap.size) := ⟨(Array.getElem?_eq_some_iff.1 H9.out.2.2.2.1).1, (Array.getElem?_eq_some_iff.1 H9.out.2.2.1).1⟩
      have HNX : Hid (∀ pre x, pre ++ [x] <+: lvo T 0 → x.1 = (jo (T.lv.take pre.length)).size ∧ pre.length < lv ∧ (jo (T.lv.take (pre.length + 1))).size = x.1 + x.2.size ∧ x.1 + x.2.size ≤ M ∧ TX.extract x.1 (x.1 + x.2.size) = x.2 ∧ cbZ TX ((x.1 + x.2.size : Nat) : Int) = true ∧ (x.2.size < 32 → x.2.size = M) ∧ (64 < x.2.size → ∀ i : Nat, x.1 + 32 ≤ i → i + 32 ≤ x.1 + x.2.size → cbZ TX (i : Int) = false)) := fun pre x hp => by
        obtain ⟨e1, e2, e3⟩ := lvo_nx hp
        have e4 := jo_take e1
        have e5 := good_lk HGT.out.1 e1
        rw [HGT.out.2.1] at e5
        obtain ⟨f1, f2, f3, f4, f5⟩ := e5
        rw [← e2] at f2 f3 f4 f5 e4
        refine ⟨e2, by rw [← HGT.out.2.2.1]; exact e3, e4, by rw [← hM]; exact f2, f3, f4, fun hlt => ?_, f5⟩
        have hl1 : T.lv.length = 1 := by
          rcases Nat.lt_or_ge 1 T.lv.length with h | h
          · have := f1 h; omega
          · omega
        have hp0 : pre.length = 0 := by omega
        have hx : T.lv = [x.2] := by
          match hT1 : T.lv, hl1 with
          | [y], _ => rw [hp0, hT1] at e1; cases e1; rfl
        rw [← hM, ← HGT.out.2.1, text_lv, hx, jo_one]
      clear hW2 H k1 k2 p0 p1
      refine (wpIn_wide (n := d)).1 ?_
      refine act_name' fun A hA => ?_
      have hsz : A.tmps.size = 172 := by rw [hA]; rfl
      refine range_own rfl h1 (gf := 49) (lb := #[.pointer (some ⟨c, 0, none⟩)]) (by rw [hA]; rfl) trivial (enters_of Tryz.func49 (by kernel_rfl) rfl)
        (leaf_seq (d - 1) c (W2.heap.size + 2) (MutN w9.heap.size) T x9 W2 hc2 hA2 (by rw [HGT.out.2.1]; unfold B40; omega) (fun k vs fz h => by obtain ⟨_, _, _, e⟩ := h; cases e) (fun k vs fz h => by obtain ⟨_, _, _, e⟩ := h; cases e))
        KpT.trans (fun W l o o' _ _ hl ho => KpT.putObj W l o o' hl ho) (fun _ => rfl)
        (LBx w9 T) (fun _ _ _ => False)
        (lb_ab (by have := HSZ.out; omega)) (fun _ _ _ _ _ hs _ _ => hs) hI0
        (fun x a' _ => a' = { tmps := (((A.tmps.setIfInBounds 85 (.int .i64 (x.1 : Int))).setIfInBounds 86 (.string x.2)).setIfInBounds 20 (.int .i64 (x.1 : Int))).setIfInBounds 21 (.string x.2), defers := [] })
        (fun _ _ _ _ _ _ hs _ _ => hs) ?assign ?body ?done ?stop
      case assign =>
        intro l pre x W K hi hK
        clear hA hI0 hc2 hA2 HNX H9 HLT HSZ hB0 H4 H4a HGT HE0 HW0 hfn hM hN hJ hTG hT zT
        simp only [encL, List.zip_toArray, List.zip_cons_cons, List.zip_nil_right, List.foldl_toArray', List.foldl_cons, List.foldl_nil]
        gi_wp2
        exact hK _ _ (KeepsFrom.refl _ _) (KpT.refl _ _) hi rfl
      case body =>
        rintro l pre ⟨off, s⟩ a' W _ _ _ _ hb ha' hnx
        obtain ⟨y1, y2, y3, y4, y5, y6, y7, y8⟩ := HNX.out pre (off, s) hnx
        simp only at y1 y2 y3 y4 y5 y6 y7 y8 ha'
        obtain ⟨m, hm⟩ : ∃ m, off + s.size = m := ⟨_, rfl⟩
        rw [hm] at y3 y4 y5 y6 y8
        have r5 : (off : Int) + (s.size : Int) = (m : Int) := by omega
        obtain ⟨cN, fN⟩ := box1 hb.n
        obtain ⟨cA, fA⟩ := box1 hb.a
        rw [← y1] at cA
        have ct : ∀ V, Below W.heap.size W V → V.cell? ⟨tb, 0, none⟩ = some (.string TX) ∧ V.cell? ⟨w9.heap.size, 0, none⟩ = some (.int .i64 (pre.length : Int)) ∧ V.cell? ⟨w9.heap.size + 1, 0, none⟩ = some (.int .i64 (off : Int)) ∧ V.frozen? ⟨w9.heap.size, 0, none⟩ = false ∧ V.frozen? ⟨w9.heap.size + 1, 0, none⟩ = false := fun V hV => by
          have hn := (hV.block _ (Array.getElem?_eq_some_iff.1 hb.n).1).trans hb.n
          have ha := (hV.block _ (Array.getElem?_eq_some_iff.1 hb.a).1).trans hb.a
          have htx := (hb.bel.block tb HLT.out.1).trans H9.out.2.2.2.1
          have ht2 := (hV.block tb (Array.getElem?_eq_some_iff.1 htx).1).trans htx
          obtain ⟨q1, q2⟩ := box1 hn
          obtain ⟨q3, q4⟩ := box1 ha
          exact ⟨(box1 ht2).1, q1, by rw [y1]; exact q3, q2, q4⟩
        have HCT : Hid _ := ct
        have HCB : Hid (∀ V, Below W.heap.size W V → Calls Tryz.prog 14 #[.string TX, .int .i64 (m : Int)] V fun e V' => e = .returned (.bool true) ∧ Below V.heap.size V V') := fun V hV => by
          have := cbound_any TX (m : Int) (by rw [hM]; unfold maxLen; omega) V (H9.out.2.2.2.2.below (hb.bel.trans (hV.mono hb.bel.size))).t (by omega)
          rw [y6] at this
          exact this
        have HCS : Hid (∀ V, Below W.heap.size W V → 64 < s.size → Calls Tryz.prog 15 #[.string TX, .int .i64 ((off : Int) + 32)] V fun e V' => ∃ z : Nat, e = .returned (.int .i64 z) ∧ (m : Int) - 32 < (z : Int) ∧ z ≤ 2199023255552 ∧ Below V.heap.size V V') := fun V hV h64 => by
          refine (csnap_any TX ((off : Int) + 32) (by rw [hM]; unfold maxLen; omega) V (H9.out.2.2.2.2.below (hb.bel.trans (hV.mono hb.bel.size))).t (by omega)).mono ?_
          rintro e V' ⟨z, rfl, hz, hb⟩
          have hup := hz.up
          have hcb := hz.cb
          have hzs : z ≤ M := by
            rcases Nat.lt_or_ge M z with h | h
            · have : cbZ TX (z : Int) = false := cb_out (.inr (by rw [hM]; omega))
              rw [this] at hcb; cases hcb
            · exact h
          refine ⟨z, rfl, ?_, by omega, hb⟩
          rcases Int.lt_or_le ((m : Int) - 32) (z : Int) with h | h
          · exact h
          · rcases hup with hu | hu
            · have := y8 h64 z (by omega) (by omega)
              rw [this] at hcb; cases hcb
            · omega
        have HFIN : Hid (∀ V, Below W.heap.size W V → ∀ W', W' = ((V.setCell ⟨w9.heap.size, 0, none⟩ (.int .i64 ((pre.length : Int) + 1))).setCell ⟨w9.heap.size + 1, 0, none⟩ (.int .i64 (m : Int))) → KeepsFrom W2.heap.size W W' ∧ KpT (MutN w9.heap.size) W W' ∧ LBx w9 T (pre ++ [(off, s)]) W') := fun V hV W' hW' => by
          have hn := (hV.block _ (Array.getElem?_eq_some_iff.1 hb.n).1).trans hb.n
          have ha := (hV.block _ (Array.getElem?_eq_some_iff.1 hb.a).1).trans hb.a
          have hVs := hV.size
          have hbs := hb.bel.size
          have g1 := gcell V w9.heap.size 0 (.int .i64 ((pre.length : Int) + 1))
          have s1 := set1 (i := 0) (.int .i64 ((pre.length : Int) + 1)) hn
          generalize V.setCell ⟨w9.heap.size, 0, none⟩ (.int .i64 ((pre.length : Int) + 1)) = U at *
          have g2 := gcell U (w9.heap.size + 1) 0 (.int .i64 (m : Int))
          have kV : ∀ {k : Nat} {o : Obj}, V.heap[k]? = some o → k ≠ w9.heap.size → U.heap[k]? = some o := fun ho hne => (g1.block _ (Array.getElem?_eq_some_iff.1 ho).1 (fun e => hne (by cases e; rfl))).trans ho
          have a1 := kV ha (by omega)
          have s2 := set1 (i := 0) (.int .i64 (m : Int)) a1
          rw [← hW'] at g2 s2
          have kW : ∀ {k : Nat} {o : Obj}, U.heap[k]? = some o → k ≠ w9.heap.size + 1 → W'.heap[k]? = some o := fun ho hne => (g2.block _ (Array.getElem?_eq_some_iff.1 ho).1 (fun e => hne (by cases e; rfl))).trans ho
          refine ⟨kf_trans ⟨hV.size, fun k o _ ho _ => (hV.block k (Array.getElem?_eq_some_iff.1 ho).1).trans ho⟩ (kf_trans (kf_cells g1 hn) (kf_cells g2 a1)), (KpT.of_below hV).trans ((KpT.of_grown g1 (fun r o e ho => by cases e; rw [hn] at ho; cases ho; exact ⟨.inl rfl, _, _, rfl⟩)).trans (KpT.of_grown g2 (fun r o e ho => by cases e; rw [a1] at ho; cases ho; exact ⟨.inr rfl, _, _, rfl⟩))), ⟨?_, ?_, ?_⟩⟩
          · exact ((hb.bel.trans (hV.mono hb.bel.size)).grown g1 (Nat.le_trans hb.bel.size hV.size) (fun j e => by cases e; exact Nat.le_refl _)).grown g2 (Nat.le_trans (Nat.le_trans hb.bel.size hV.size) g1.size) (fun j e => by cases e; omega)
          · have := kW s1 (by omega)
            rw [List.length_append]
            simpa using this
          · rw [List.length_append]
            show W'.heap[w9.heap.size + 1]? = some (Obj.cells #[.int .i64 ((jo (T.lv.take (pre.length + 1))).size : Int)] 3 (0, 0))
            rw [y3]
            simpa using s2
        have b1 : pre.length ≤ 1099511627777 := by omega
        have b2 : m ≤ 1099511627776 := by omega
        have b3 : off ≤ m ∧ s.size ≤ m := by omega
        have c1 : ¬ (M : Int) < (m : Int) := by omega
        obtain ⟨t0, _, _, _, _⟩ := ct W (Below.refl _ _)
        clear ct hb hnx HNX y1 y2 y3 y4 y6 y8 hI0 hc2 hA2 HSZ hB0 H4 H4a HGT HE0 HW0 hfn hN hJ hTG hT zT
        subst ha'
        subst hA
        by_cases c2 : s.size < 32
        · have c3 := y7 c2
          have c4 : ¬ 64 < (s.size : Int) := by omega
          have c5 : ((s.size : Int) == (M : Int)) = true := by rw [c3]; simp
          have c6 : (s.size : Int) < 32 := by omega
          clear y7 c3 HCS
          gi_wp2_with (first
            | (refine ⟨trivial, (fun h => by cases h), ?_⟩; gi_at_call 14; refine (CallsIn.inRound l (callsIn_wide.2 (HCB.out _ (Below.refl _ _)))).mono ?_; clear HCB; rintro e V1 ⟨rfl, hv1⟩; obtain ⟨t1, t2, t3, t4, t5⟩ := HCT.out V1 hv1; have HV : Hid (Below W.heap.size W V1) := hv1; clear hv1)
            | (refine ⟨trivial, ?_⟩))
          exact HFIN.out _ HV.out _ rfl
        · clear y7
          by_cases c4 : 64 < s.size
          · have c5 : 64 < (s.size : Int) := by omega
            gi_wp2_with (first
              | (refine ⟨trivial, (fun h => by cases h), ?_⟩; gi_at_call 14; refine (CallsIn.inRound l (callsIn_wide.2 (HCB.out _ (Below.refl _ _)))).mono ?_; clear HCB; rintro e V1 ⟨rfl, hv1⟩; obtain ⟨t1, t2, t3, t4, t5⟩ := HCT.out V1 hv1; have HV : Hid (Below W.heap.size W V1) := hv1; clear hv1)
              | (refine ⟨trivial, (fun h => by cases h), ?_⟩; gi_at_call 15; refine (CallsIn.inRound l (callsIn_wide.2 (HCS.out _ HV.out c4))).mono ?_; clear HCS; rintro e V2 ⟨z, rfl, hz1, hz2, hv2⟩; have HV2 : Hid (Below W.heap.size W V2) := HV.out.trans (hv2.mono HV.out.size); obtain ⟨u1, u2, u3, u4, u5⟩ := HCT.out V2 HV2.out; clear hv2))
            exact HFIN.out _ HV2.out _ rfl
          · have c5 : ¬ 64 < (s.size : Int) := by omega
            clear HCS
            gi_wp2_with (first
              | (refine ⟨trivial, (fun h => by cases h), ?_⟩; gi_at_call 14; refine (CallsIn.inRound l (callsIn_wide.2 (HCB.out _ (Below.refl _ _)))).mono ?_; clear HCB; rintro e V1 ⟨rfl, hv1⟩; obtain ⟨t1, t2, t3, t4, t5⟩ := HCT.out V1 hv1; have HV : Hid (Below W.heap.size W V1) := hv1; clear hv1)
              | (refine ⟨trivial, ?_⟩))
            exact HFIN.out _ HV.out _ rfl
      case done =>
        rintro D ys W hD rfl hb hK
        have hlo : (lvo T 0).length = lv := by rw [lvo_len]; exact HGT.out.2.2.1
        have nb := hb.n
        have ab := hb.a
        rw [hlo] at nb ab
        rw [show T.lv.take lv = T.lv by rw [← HGT.out.2.2.1, List.take_length], ← text_lv, HGT.out.2.1, hM] at ab
        have CH : Hid (Calls Tryz.prog 16 #[ptr b] W fun e V => e = .returned (.int .i64 (hh : Int)) ∧ Hid (Below W.heap.size W V)) := by
          have := rheight_any (H9.out.1.below hb.bel)
          rw [HGT.out.2.2.2.1] at this
          exact this
        have CTx : Hid (∀ V, Below W.heap.size W V → Calls Tryz.prog 17 #[ptr b] V fun e V' => e = .returned (.string TX) ∧ Hid (Below V.heap.size V V')) := fun V hV => by
          have := rtext_any (H9.out.1.below (Below.on hb.bel hV)) (by rw [HGT.out.2.1]; unfold B40; omega)
          rw [HGT.out.2.1] at this
          exact this
        have HK : Hid (W.heap[D]? = some (.deferred (some [])) ∧ W2.heap.size ≤ D ∧ W2.heap.size = w9.heap.size + 2) := ⟨hK, hD, HSZ.out⟩
        have HBX : Hid (∀ V, Below W.heap.size W V → V.cell? ⟨w9.heap.size, 0, none⟩ = some (.int .i64 (lv : Int)) ∧ V.cell? ⟨w9.heap.size + 1, 0, none⟩ = some (.int .i64 (M : Int)) ∧ V.cell? ⟨tb, 0, none⟩ = some (.string TX) ∧ V.heap[w.heap.size]? = some (.cells #[.bool false] 4 (0, 0)) ∧ V.heap[D]? = some (.deferred (some [])) ∧ Below w.heap.size w V) := fun V hV => by
          have kp : ∀ {k : Nat} {o : Obj}, W.heap[k]? = some o → V.heap[k]? = some o := fun ho => (hV.block _ (Array.getElem?_eq_some_iff.1 ho).1).trans ho
          have k9 : ∀ {k : Nat} {o : Obj}, w9.heap[k]? = some o → W.heap[k]? = some o := fun ho => (hb.bel.block _ (Array.getElem?_eq_some_iff.1 ho).1).trans ho
          exact ⟨(box1 (kp nb)).1, (box1 (kp ab)).1, (box1 (kp (k9 H9.out.2.2.2.1))).1, kp (k9 H9.out.2.2.1), kp hK, Below.on (Below.on H9.out.2.1 hb.bel) hV⟩
        have hfb := HGT.out.2.2.2.2
        have HWD : Hid (w.heap.size < w9.heap.size) := HLT.out.2
        clear hb hK hD nb ab hlo hI0 hc2 hA2 HNX HLT HSZ hB0 H4 H4a HGT HE0 HW0 hfn hN hJ hTG hT zT H9
        have HFI : Hid (∀ V, Below W.heap.size W V → ∀ Z, Z = V.setCell ⟨w.heap.size, 0, none⟩ (.bool true) → Z.heap[D]? = some (.deferred (some [])) ∧ (Z.putObj D (.deferred none)).cell? ⟨w.heap.size, 0, none⟩ = some (.bool true) ∧ Below w.heap.size w (Z.putObj D (.deferred none))) := fun V hV Z hZ => by
          obtain ⟨-, -, -, r1, r2, r3⟩ := HBX.out V hV
          have hwD : w.heap.size < D := by have := HK.out; have := (Array.getElem?_eq_some_iff.1 r1).1; have := HWD.out; omega
          have g := gcell V w.heap.size 0 (.bool true)
          have s1 := set1 (i := 0) (.bool true) r1
          rw [← hZ] at g s1
          have d1 : Z.heap[D]? = some (.deferred (some [])) := (g.block D (Array.getElem?_eq_some_iff.1 r2).1 (fun e => by injection e with e; omega)).trans r2
          have hB : Below w.heap.size w Z := by rw [hZ]; exact r3.setCell (p := ⟨w.heap.size, 0, none⟩) (Nat.le_refl _) _
          exact ⟨d1, (box1 ((World.putObj_heap_other (w := Z) (o := .deferred none) (show w.heap.size ≠ D by omega)).trans (show _ = some (Obj.cells #[.bool true] 4 (0, 0)) from s1))).1, hB.trans (belowK_b (w := w) (Nat.le_refl _) _ D _ _ (by omega) d1 rfl rfl)⟩
        subst hA
        go_wp2_with (go_at_call 16; refine CH.out.mono ?_; clear CH; rintro e W5 ⟨rfl, H5⟩)
        go_loopw [22, 23, 152] (fun t22 t23 t152 wr => ∃ k : Nat, k ≤ hh ∧ t152 = .int .i64 k ∧ t22 = .int .i64 (fib k : Nat) ∧ t23 = .int .i64 (fib (k + 1) : Nat) ∧ Hid (Below W.heap.size W wr)) (fun _ _ t152 _ => hh - (intOf t152).toNat)
        case atStart => exact ⟨0, Nat.zero_le _, rfl, rfl, rfl, H5.out⟩
        case round =>
          obtain ⟨k, hk, rfl, rfl, rfl, HR⟩ := hrel
          obtain ⟨x1, x2, x3, x4, -⟩ := HBX.out _ HR.out
          by_cases hlt : k < hh
          · have hlt' : (k : Int) < (hh : Int) := by omega
            have f1 : fib (k + 1) ≤ lv := Nat.le_trans (fib_le hlt) hfb
            have f2 : fib k ≤ fib (k + 1) := fib_mono k
            have HF3 : Hid (fib (k + 1 + 1) = fib (k + 1) + fib k) := rfl
            have HF4 : Hid (fib (k + 1) = fib (k + 1)) := rfl
            obtain ⟨p, hp⟩ : ∃ p, fib k = p := ⟨_, rfl⟩
            obtain ⟨q, hq⟩ : ∃ q, fib (k + 1) = q := ⟨_, rfl⟩
            rw [hp, hq] at HF3
            rw [hp, hq] at f2 ⊢
            rw [hq] at f1
            have f4 : ¬ (lv : Int) < (q : Int) := by omega
            have HQ : Hid (fib (k + 1) = q) := hq
            clear hp hq x2 x3 x4
            go_wp2
            exact ⟨⟨k + 1, by omega, by go_num, by rw [HQ.out], by rw [HF3.out]; congr 1; omega, HR⟩, by simp [intOf]; omega⟩
          · have hlt' : ¬ (k : Int) < (hh : Int) := by omega
            clear x1 x2 x3 x4
            have x2 : ∀ V, Below W.heap.size W V → V.cell? ⟨w9.heap.size + 1, 0, none⟩ = some (.int .i64 (M : Int)) ∧ V.cell? ⟨tb, 0, none⟩ = some (.string TX) ∧ V.cell? ⟨w.heap.size, 0, none⟩ = some (.bool false) ∧ V.frozen? ⟨w.heap.size, 0, none⟩ = false := fun V hV => by
              obtain ⟨-, y2, y3, y4, -⟩ := HBX.out V hV
              exact ⟨y2, y3, box1 y4⟩
            have HX2 : Hid _ := x2
            have HD0 : Hid (Below W.heap.size W wr.drew) := below_drew HR.out
            clear x2
            go_upto_region 39 with fail
            have HX3 : Hid (∀ V, Below W.heap.size W V → (V.setCell ⟨w.heap.size, 0, none⟩ (.bool true)).cell? ⟨w9.heap.size + 1, 0, none⟩ = some (.int .i64 (M : Int)) ∧ (V.setCell ⟨w.heap.size, 0, none⟩ (.bool true)).cell? ⟨tb, 0, none⟩ = some (.string TX)) := fun V hV => by
              obtain ⟨y2, y3, -⟩ := HX2.out V hV
              have o1 := HWD.out
              have o2 : tb ≠ w.heap.size := fun e => by
                have z := (HX2.out V hV).2.2.1
                rw [← e, y3] at z
                cases z
              have g := gcell V w.heap.size 0 (.bool true)
              have kp : ∀ {k : Nat} {v : Value}, k ≠ w.heap.size → V.cell? ⟨k, 0, none⟩ = some v → (V.setCell ⟨w.heap.size, 0, none⟩ (.bool true)).cell? ⟨k, 0, none⟩ = some v := fun hne hc => by
                have hk : _ < V.heap.size := cell_lt7 hc
                rw [← hc]
                unfold World.cell?
                simp only [g.block _ hk (fun e => hne (by injection e))]
              exact ⟨kp (by omega) y2, kp o2 y3⟩
            go_region_held3 (fun V => V.cell? ⟨w9.heap.size + 1, 0, none⟩ = some (.int .i64 (M : Int)) ∧ V.cell? ⟨tb, 0, none⟩ = some (.string TX)) (first | exact ⟨(HX2.out _ HR.out).1, (HX2.out _ HR.out).2.1⟩ | exact ⟨(HX2.out _ HD0.out).1, (HX2.out _ HD0.out).2.1⟩ | exact ⟨(HX2.out _ H8.out).1, (HX2.out _ H8.out).2.1⟩ | exact HX3.out _ H8.out) (first | (go_at_call 17; refine (CTx.out _ HD0.out).mono ?_; rintro e V8 ⟨rfl, H7⟩; have H8 : Hid (Below W.heap.size W V8) := Below.on HD0.out H7.out; obtain ⟨-, -, z2, z3⟩ := HX2.out _ H8.out))
            obtain ⟨i1, i2, i3⟩ := HFI.out _ H8.out _ rfl
            go_wp2
            refine ⟨by simp, .inl ⟨_, _, rfl, run_takeDeferred i1, ?_⟩⟩
            exact ⟨_, (by simp [results, Tryz.results3, go_sem, i2]), rfl, i3⟩
      case stop =>
        rintro D c pre W _ _ h _
        exact h.elim
theorem walk_of {H : Type} {d : DataW H} (a0 : Option Addr) (len cap : Nat) (ia ic : Int) (w : World) (hT : Lib.Utf8Tabs 1 2 w) (hlo0 : 1 < w.heap.size) (hlo1 : 2 < w.heap.size) (ss : List ByteArray) (hS : Texts w a0 len ss) (hu : len ≤ Rows.uptoBulk d ∧ ∀ s ∈ ss, s.size ≤ Rows.uptoBulk d) (ha : 0 ≤ ia ∧ ia ≤ 65535) (hc : 0 ≤ ic ∧ ic ≤ 65535) (hk : Rows.uptoSmall H ([d, DataW.lit (.int .u16 ia), DataW.lit (.int .u16 ic)] ++ []) = true) :
    Calls Tryz.prog 3 #[.slice a0 len cap, .int .u16 ia, .int .u16 ic] w fun e w' => e = .returned (.bool true) ∧ Below w.heap.size w w' := by
  have h : Rows.uptoBulkAll ([d, DataW.lit (.int .u16 ia), DataW.lit (.int .u16 ic)] ++ []) ≤ 1048576 := of_decide_eq_true hk
  simp only [List.append_nil, Rows.uptoBulkAll, Rows.uptoBulk] at h
  obtain ⟨a, rfl⟩ := Int.eq_ofNat_of_zero_le ha.1
  obtain ⟨c, rfl⟩ := Int.eq_ofNat_of_zero_le hc.1
  exact callsIn_wide.1 (walk 5 (by omega) a0 len cap a c ss w hS (by omega) (fun s hs => by have := hu.2 s hs; omega) (by omega) (by omega) ⟨hT, hlo0, hlo1⟩)
end Go.Proofs.YtcjmfoadimpffaaGreatDoor.ropeLeaves
