/-
  The walk of the law BindCommands: Commands of any keys and Single of each are the document's; the list that is handed in stays. Conditions: those of walk_of.
-/
import Derived.Test.YtmaolbibbjngcaaDoorIRcm
import Derived.BigQuiet
import Derived.Laws.AppendOwnNone
namespace Go.Proofs.YtmaolbibbjngcaaDoor.bindCommands
open Go.RowKit Go.Shelf Bod

def k99 : Ky := ⟨99, 0, false, false, false, ⟨#[]⟩⟩
theorem info_kyl : (Tryd.prog.info? 30).map (fun i => (i.zero, i.size, i.bytes)) = some (some (.agg #[.int .i64 0, .int .i32 0, .bool false, .bool false, .bool false, .string ⟨#[]⟩]), 6, 32) := by kernel_rfl
theorem kyl_len (l : List Ky) : (kyl l).length = l.length * 6 := by
  induction l with
  | nil => rfl
  | cons x l ih => show (_ ++ kyl l).length = _; rw [List.length_append, ih]; simp; omega
theorem kyl_one (l : List Ky) : ∀ u ∈ kyl l, u.oneCell' = true := fun u hu => by
  unfold kyl at hu
  obtain ⟨x, -, hx⟩ := List.mem_flatMap.1 hu
  simp only [List.mem_cons, List.not_mem_nil, or_false] at hx
  rcases hx with rfl | rfl | rfl | rfl | rfl | rfl <;> rfl
theorem kyl_app (l m : List Ky) : kyl (l ++ m) = kyl l ++ kyl m := by unfold kyl; exact List.flatMap_append
theorem news_ky {W : World} {a : Option Addr} {n cap : Nat} {l : List Ky} (h : RdKy W (.slice a n cap) l) (ad : Addr) (ha : a = some ad) : ∀ j u, (kyl l)[j]? = some u → W.cell? (ad.add j) = some u := fun j u hj => by
  have hl := (List.getElem?_eq_some_iff.1 hj).1
  rw [kyl_len] at hl
  obtain ⟨x, hx⟩ : ∃ x, l[j / 6]? = some x := ⟨l[j / 6]'(by omega), List.getElem?_eq_getElem _⟩
  obtain ⟨a', cap', e, -, hr⟩ := h
  cases e
  obtain ⟨g, o, e2, -, hc⟩ := hr (fun e => by rw [e] at hx; simp at hx)
  rw [ha] at e2
  cases e2
  have := hc (j / 6) x hx (j % 6) (Nat.mod_lt _ (by decide))
  have q := kyl_at l (j / 6) x hx (j % 6) (Nat.mod_lt _ (by decide))
  have ej : j / 6 * 6 + j % 6 = j := by omega
  rw [ej, hj] at q
  rw [← q] at this
  have e3 : (⟨g, o, none⟩ : Addr).add j = ⟨g, o + j / 6 * 6 + j % 6, none⟩ := by rw [Go.WideShapes.add_plain]; congr 1; omega
  rw [e3]
  exact this
theorem new_at9 (w : World) (o o' : Obj) : ((w.alloc o).alloc o').heap[w.heap.size + 1]? = some o' := by
  have := World.alloc_heap_new (w.alloc o) o'
  simpa using this
theorem row_some {W : World} {base n c : Nat} {e : TypeId} {v : Value} {xs : List Value} (h : W.ownsRow base e c v n xs) (hn : 0 < n) : ∃ g cap, v = .slice (some ⟨g, 0, none⟩) n cap ∧ n ≤ cap := by
  rcases h.2 with ⟨rfl, h0⟩ | ⟨g, cap, cur, rfl, -, -, hcap, -⟩
  · omega
  · exact ⟨g, cap, rfl, hcap⟩
/-- the list of the law's own, and the commands made of it -/
structure Cs (w : World) (g N c : Nat) (l : List Ky) (v : Value) (ys : List Cm) (W : World) : Prop where
  bel : Below w.heap.size w W
  row : W.ownsRow w.heap.size 30 6 (.slice (some ⟨g, 0, none⟩) (N + 1) c) (N + 1) (kyl (l ++ [k99]))
  cm : W.ownsRow w.heap.size 34 4 v ys.length (ccl ys)
theorem row_kept {W X : World} {base n c : Nat} {e : TypeId} {v : Value} {xs : List Value} (h : W.ownsRow base e c v n xs) (hb : Below W.heap.size W X) : X.ownsRow base e c v n xs :=
  h.kept (row := none) ⟨hb.os, hb.tape, hb.output, hb.size, fun k hk _ => hb.block k hk⟩ (by cases v.ownBlock <;> simp)
theorem Cs.below {w W X : World} {g N c : Nat} {l : List Ky} {v : Value} {ys : List Cm} (h : Cs w g N c l v ys W) (hb : Below W.heap.size W X) : Cs w g N c l v ys X :=
  ⟨h.bel.trans (hb.mono h.bel.size), row_kept h.row hb, row_kept h.cm hb⟩
theorem own_at {W : World} {base g N c : Nat} {l : List Ky} (h : W.ownsRow base 30 6 (.slice (some ⟨g, 0, none⟩) (N + 1) c) (N + 1) (kyl (l ++ [k99]))) {i : Nat} {x : Ky} (hx : (l ++ [k99])[i]? = some x) (hi : i < N + 1) :
    W.cell? ⟨g, i * 6, none⟩ = some (.int .i64 x.kd) ∧ W.cell? ⟨g, i * 6 + 1, none⟩ = some (.int .i32 x.ch) ∧ W.cell? ⟨g, i * 6 + 2, none⟩ = some (.bool x.ct) ∧ W.cell? ⟨g, i * 6 + 3, none⟩ = some (.bool x.me) ∧ W.cell? ⟨g, i * 6 + 4, none⟩ = some (.bool x.sh) ∧ W.cell? ⟨g, i * 6 + 5, none⟩ = some (.string x.tx) := by
  have e : ∀ j, j < 6 → W.cell? ⟨g, i * 6 + j, none⟩ = (kyc x)[j]? := fun j hj => by
    rw [h.cellAt (i * 6 + j) (by omega)]
    exact kyl_at _ i x hx j hj
  exact ⟨e 0 (by decide), e 1 (by decide), e 2 (by decide), e 3 (by decide), e 4 (by decide), e 5 (by decide)⟩
theorem own_rd {W : World} {base g N c : Nat} {l : List Ky} (h : W.ownsRow base 30 6 (.slice (some ⟨g, 0, none⟩) (N + 1) c) (N + 1) (kyl (l ++ [k99]))) (hN : l.length = N) (hc : N ≤ c) : RdKy W (.slice (some ⟨g, 0, none⟩) N c) l := by
  subst hN
  obtain ⟨hl, hx⟩ := h.lt g rfl
  refine ⟨_, c, rfl, hc, fun h0 => ⟨g, 0, rfl, hx, fun k x hk j hj => ?_⟩⟩
  have hk' := (List.getElem?_eq_some_iff.1 hk).1
  rw [show 0 + k * 6 + j = k * 6 + j by omega, h.cellAt (k * 6 + j) (by omega)]
  exact kyl_at _ k x (by rw [List.getElem?_append_left hk']; exact hk) j hj
set_option maxRecDepth 100000 in
set_option maxHeartbeats 4000000 in
theorem walk (hM : Tryd.prog.follows .mixedOrders = true) (a0 : Option Addr) (cap : Nat) (l : List Ky) (w : World) (hS : RdKy w (.slice a0 l.length cap) l) (hnil : a0 = none → cap = 0) (hl : l.length ≤ 1048576) (hk : ∀ k ∈ l, k.Ok) (hT : Tb w) :
    Calls Tryd.prog 4 #[.slice a0 l.length cap] w fun e W' => e = .returned (.bool true) ∧ Below w.heap.size w W' := by
  obtain ⟨i0, hi, hz0, hz1, hz2⟩ := info_parts info_kyl
  have HR : Hid (∀ W, Below w.heap.size w W → RdKy W (.slice a0 l.length cap) l) := fun W hW => hS.below (Nat.le_refl _) hW
  have CB : Hid (Calls Tryd.prog 9 #[] w fun e w' => e = .returned (.bool true) ∧ Hid (Below w.heap.size w w')) := bds_any hM w hT
  have CC : Hid (∀ (W : World) (a : Option Addr) (c : Nat), Below w.heap.size w W → RdKy W (.slice a l.length c) l → Calls Tryd.prog 19 #[.slice a l.length c] W fun e W' => ∃ v, e = .returned v ∧ Hid (W'.ownsRow W.heap.size 34 4 v (runP bsz l).1.length (ccl (runP bsz l).1) ∧ Below W.heap.size W W')) := fun W a c hW hR => (cms_any hM a c l W hR (by omega) hk (hT.below hW)).mono fun e W' ⟨v, e1, r, b⟩ => ⟨v, e1, r, b⟩
  have CR : Hid (∀ (W : World), Below w.heap.size w W → Calls Tryd.prog 23 #[.slice a0 l.length cap] W fun e W' => ∃ v, e = .returned v ∧ Hid (W'.ownsRow W.heap.size 34 4 v (runP bsz l).1.length (ccl (runP bsz l).1) ∧ Below W.heap.size W W')) := fun W hW => (rcms_any a0 cap l W (HR.out W hW) (by omega) hk).mono fun e W' ⟨v, e1, r, b⟩ => ⟨v, e1, r, b⟩
  have CS : Hid (∀ (W : World) (v v' : Value) (p q : Nat), W.ownsRow p 34 4 v (runP bsz l).1.length (ccl (runP bsz l).1) → W.ownsRow q 34 4 v' (runP bsz l).1.length (ccl (runP bsz l).1) → Calls Tryd.prog 22 #[v, v'] W fun e w' => e = .returned (.bool true) ∧ Below W.heap.size W w') := fun W v v' p q h h' => sam_any _ (by have := runP_len bsz l; omega) v v' p q W h h'
  have C1 : Hid (∀ (k : Ky) (W : World), k ∈ l → Below w.heap.size w W → Calls Tryd.prog 20 #[kyv k] W fun e w' => e = .returned (.tuple #[.agg (cmc (keyP bsz k).1), .bool (keyP bsz k).2.1]) ∧ Below W.heap.size W w') := fun k W hm hW => sng_any hM k (hk k hm) W (hT.below hW)
  have C2 : Hid (∀ (k : Ky) (W : World), k ∈ l → Calls Tryd.prog 21 #[kyv k] W fun e w' => e = .returned (.tuple #[.agg (cmc (keyP bsz k).1), .bool (keyP bsz k).2.1]) ∧ Below W.heap.size W w') := fun k W hm => rsg_any k (hk k hm) W
  have hys := runP_len bsz l
  obtain ⟨ys, hy⟩ : ∃ ys, (runP bsz l).1 = ys := ⟨_, rfl⟩
  rw [hy] at CC CR CS hys
  clear hy
  have HNIL : Hid (a0 = none → l = [] ∧ cap = 0) := fun e => by
    refine ⟨?_, hnil e⟩
    obtain ⟨a', c', e1, -, hr⟩ := hS
    cases e1
    by_cases h0 : l = []
    · exact h0
    · obtain ⟨g, o, e2, -⟩ := hr h0
      rw [e] at e2
      cases e2
  have HNW : Hid (∀ W, Below w.heap.size w W → ∀ ad, a0 = some ad → ∀ j u, (kyl l)[j]? = some u → W.cell? (ad.add j) = some u) := fun W hW ad ha => news_ky (HR.out W hW) ad ha
  obtain ⟨N, hN⟩ : ∃ N, l.length = N := ⟨_, rfl⟩
  have HN : Hid (l.length = N) := hN
  rw [hN] at HR hl hys CC CR ⊢
  have hl' : (N : Int) ≤ 1048576 := by omega
  clear hS hnil hN hM hT hk
  go_enter Tryd.func4, Tryd.ntmps4
  go_upto_region 3 with (go_at_call 9; refine CB.out.mono ?_; clear CB; rintro e w1 ⟨rfl, HB⟩)
  have OW0 := World.ownsRow_lit (base := w.heap.size) (e := 30) (size := 6) w1 #[] 0 HB.out.size (by unfold maxLen; omega) rfl
  have HB1 : Hid (Below w.heap.size w (w1.alloc (.cells #[] 30))) := HB.out.alloc HB.out.size _
  go_cut [3] (fun v3 wx => ∃ g c, v3 = .slice (some ⟨g, 0, none⟩) (N + 1) c ∧ N + 1 ≤ c ∧ Hid (Below w.heap.size w wx ∧ wx.ownsRow w.heap.size 30 6 (.slice (some ⟨g, 0, none⟩) (N + 1) c) (N + 1) (kyl (l ++ [k99]))))
  case first =>
    cases a0 with
    | none =>
      obtain ⟨hl0, hc0⟩ := HNIL.out rfl
      have hN0 : N = 0 := by rw [← HN.out, hl0]; rfl
      subst hc0 hN0
      have HL0 : Hid (l = []) := hl0
      clear hl0
      go_wp2_with (first
        | (at_builtin; refine wpList_append_own_none rfl _ _ 22 rfl w.heap.size 30 i0 6 Tryd.underlying22 hi _ 0 _ rfl OW0 rfl ?_; have HO : Hid ((w1.alloc (.cells #[] 30)).ownsRow w.heap.size 30 6 (.slice (some ⟨w1.heap.size, 0, none⟩) 0 0) 0 []) := OW0; clear OW0)
        | (at_builtin; refine wpList_append_own_at _ rfl _ _ 22 rfl w.heap.size 30 i0 _ 6 32 Tryd.underlying22 hi hz0 hz1 hz2 rfl (by decide) _ _ _ rfl (HO.out.alloc _) ⟨w1.heap.size + 1, 0, none⟩ 1 1 [.int .i64 99, .int .i32 0, .bool false, .bool false, .bool false, .string ⟨#[]⟩] rfl rfl (World.news_of_block (new_at9 w1 _ _)) (by simp [Value.oneCell']) (by unfold maxLen; omega) (by omega) (by have := HB.out.size; simp; omega) ?_; intro v2 w2 hown hgrow _ _; obtain ⟨g, c, rfl, hcc⟩ := row_some hown (by omega); have HF : Hid (Below w.heap.size w w2 ∧ w2.ownsRow w.heap.size 30 6 (.slice (some ⟨g, 0, none⟩) (0 + 1) c) (0 + 1) (kyl (l ++ [k99]))) := ⟨(HB1.out.alloc HB1.out.size _).grown hgrow (HB1.out.alloc HB1.out.size _).size (fun k e => (HO.out.lt k e).1), by rw [HL0.out]; exact hown⟩; clear hown hgrow))
      go_meet
      exact ⟨g, c, rfl, hcc, HF⟩
    | some ad =>
      go_wp2_with (first
        | (at_builtin; refine wpList_append_own_at _ rfl _ _ 22 rfl w.heap.size 30 i0 _ 6 32 Tryd.underlying22 hi hz0 hz1 hz2 rfl (by decide) _ _ _ rfl OW0 ad N cap (kyl l) rfl (by rw [kyl_len, HN.out]) (HNW.out _ HB1.out ad rfl) (kyl_one l) (by unfold maxLen; omega) (by omega) (by have := HB.out.size; simp; omega) ?_; intro v1 w2 hown1 hgrow1 _ _; have HO : Hid (Below w.heap.size w w2 ∧ w2.ownsRow w.heap.size 30 6 v1 (0 + N) (kyl l)) := ⟨HB1.out.grown hgrow1 HB1.out.size (fun k e => (OW0.lt k e).1), hown1⟩; clear OW0 hown1 hgrow1)
        | (at_builtin; refine wpList_append_own_at _ rfl _ _ 22 rfl w.heap.size 30 i0 _ 6 32 Tryd.underlying22 hi hz0 hz1 hz2 rfl (by decide) _ _ _ rfl (HO.out.2.alloc _) ⟨w2.heap.size, 0, none⟩ 1 1 [.int .i64 99, .int .i32 0, .bool false, .bool false, .bool false, .string ⟨#[]⟩] rfl rfl (World.news_of_block (World.alloc_heap_new w2 _)) (by simp [Value.oneCell']) (by unfold maxLen; omega) (by omega) (by have := HO.out.1.size; simp; omega) ?_; intro v2 w3 hown hgrow _ _; obtain ⟨g, c, rfl, hcc⟩ := row_some hown (by omega); have hcc' : N + 1 ≤ c := (by omega); have HF : Hid (Below w.heap.size w w3 ∧ w3.ownsRow w.heap.size 30 6 (.slice (some ⟨g, 0, none⟩) (0 + N + 1) c) (0 + N + 1) (kyl (l ++ [k99]))) := ⟨(HO.out.1.alloc HO.out.1.size _).grown hgrow (HO.out.1.alloc HO.out.1.size _).size (fun k e => (HO.out.2.lt k e).1), by rw [kyl_app]; exact hown⟩; clear hown hgrow))
      go_meet
      rw [Nat.zero_add] at HF
      exact ⟨g, c, rfl, hcc', HF⟩
  case rest =>
    clear OW0 HB1 HB HNIL HNW hi hz0 hz1 hz2
    obtain ⟨g, c, rfl, hc, HO⟩ := hcut
    have hc' : ((N : Int) + 1) ≤ c := by omega
    have hc2 : N ≤ c := by omega
    go_upto_region 6 with (go_at_call 19; refine (CC.out _ _ _ HO.out.1 (own_rd HO.out.2 HN.out hc2)).mono ?_; rintro e w4 ⟨v, rfl, H4⟩; have HS : Hid (Cs w g N c l v ys w4) := ⟨HO.out.1.trans (H4.out.2.mono HO.out.1.size), row_kept HO.out.2 H4.out.2, (fun hle => ⟨H4.out.1.1, H4.out.1.2.imp id fun ⟨g', c', u, h1, h2, h3⟩ => ⟨g', c', u, h1, Nat.le_trans hle h2, h3⟩⟩) HO.out.1.size⟩; clear H4 HO)
    go_loopw [27] (fun t27 wr => ∃ i : Nat, t27 = .int .i64 i ∧ i ≤ N ∧ Hid (Cs w g N c l v ys wr)) (fun t27 _ => N - (intOf t27).toNat)
    case atStart => exact ⟨0, rfl, Nat.zero_le _, HS⟩
    case round =>
      clear HS
      obtain ⟨i, rfl, hi', HL⟩ := hrel
      by_cases hlt : i < N
      · have hlt' : (i : Int) < N := by omega
        obtain ⟨x, hx⟩ : ∃ x, l[i]? = some x := ⟨l[i]'(by rw [HN.out]; exact hlt), List.getElem?_eq_getElem _⟩
        have HXM : Hid (x ∈ l) := List.mem_of_getElem? hx
        have HXO : Hid ((l ++ [k99])[i]? = some x) := by show _ = _; rw [List.getElem?_append_left (by rw [HN.out]; exact hlt)]; exact hx
        obtain ⟨g0, o, rfl, hg, q0, q1, q2, q3, q4, q5⟩ := (HR.out wr HL.out.bel).at hx
        have D : Hid (∀ W, Below w.heap.size w W → Calls Tryd.prog 20 #[kyv x] W fun e w' => e = .returned (.tuple #[.agg (cmc (keyP bsz x).1), .bool (keyP bsz x).2.1]) ∧ Below W.heap.size W w') := fun W hW => C1.out x W HXM.out hW
        have E : Hid (∀ W, Calls Tryd.prog 21 #[kyv x] W fun e w' => e = .returned (.tuple #[.agg (cmc (keyP bsz x).1), .bool (keyP bsz x).2.1]) ∧ Below W.heap.size W w') := fun W => C2.out x W HXM.out
        generalize (keyP bsz x).2.1 = ok at D E
        generalize (keyP bsz x).1 = cm at D E
        clear hx C1 C2 CC CR CS HR HXM
        have HA0 : Hid (Cs w g N c l v ys (wr.alloc (.cells (kyc x) 30)) ∧ (wr.alloc (.cells (kyc x) 30)).heap[wr.heap.size]? = some (.cells (kyc x) 30 (0, 0))) := ⟨HL.out.below ((Below.refl _ _).alloc (Nat.le_refl _) _), World.alloc_heap_new _ _⟩
        have OA : Hid (∀ W, Cs w g N c l v ys W → W.cell? ⟨g, i * 6, none⟩ = some (.int .i64 x.kd) ∧ W.cell? ⟨g, i * 6 + 1, none⟩ = some (.int .i32 x.ch) ∧ W.cell? ⟨g, i * 6 + 2, none⟩ = some (.bool x.ct) ∧ W.cell? ⟨g, i * 6 + 3, none⟩ = some (.bool x.me) ∧ W.cell? ⟨g, i * 6 + 4, none⟩ = some (.bool x.sh) ∧ W.cell? ⟨g, i * 6 + 5, none⟩ = some (.string x.tx)) := fun W hW => own_at hW.row HXO.out (by omega)
        clear HXO
        obtain ⟨x0, x1, x2, x3, x4, x5⟩ := x
        obtain ⟨c0, c1, c2, c3⟩ := cm
        simp only [kyv, kyc, cmc] at q0 q1 q2 q3 q4 q5 D E HA0 OA
        go_upto_region 8 with (fail)
        obtain ⟨kb, hkb⟩ : ∃ kb, wr.heap.size = kb := ⟨_, rfl⟩
        rw [hkb] at HA0 ⊢
        generalize wr.alloc (.cells #[.int .i64 x0, .int .i32 x1, .bool x2, .bool x3, .bool x4, .string x5] 30) = V0 at HA0 ⊢
        clear q0 q1 q2 q3 q4 q5 hkb HL
        obtain ⟨k0, k1, k2, k3, k4, k5, -⟩ := box6 HA0.out.2
        go_upto_region 9 with (go_at_call 20; refine (D.out _ HA0.out.1.bel).mono ?_; clear D; rintro e w5 ⟨rfl, hb5⟩)
        have HA1 : Hid (Cs w g N c l v ys (w5.alloc (.cells #[.int .i64 c0, .int .i64 c1, .string c2, .int .u8 c3] 34)) ∧ (w5.alloc (.cells #[.int .i64 c0, .int .i64 c1, .string c2, .int .u8 c3] 34)).heap[kb]? = some (.cells #[.int .i64 x0, .int .i32 x1, .bool x2, .bool x3, .bool x4, .string x5] 30 (0, 0)) ∧ (w5.alloc (.cells #[.int .i64 c0, .int .i64 c1, .string c2, .int .u8 c3] 34)).heap[w5.heap.size]? = some (.cells #[.int .i64 c0, .int .i64 c1, .string c2, .int .u8 c3] 34 (0, 0))) := ⟨(HA0.out.1.below hb5).below ((Below.refl _ _).alloc (Nat.le_refl _) _), cells_below (cells_below HA0.out.2 hb5) ((Below.refl _ _).alloc (Nat.le_refl _) _), World.alloc_heap_new _ _⟩
        obtain ⟨n1, hn1⟩ : ∃ q, w5.heap.size = q := ⟨_, rfl⟩
        rw [hn1] at HA1 ⊢
        generalize w5.alloc (.cells #[.int .i64 c0, .int .i64 c1, .string c2, .int .u8 c3] 34) = V1 at HA1 ⊢
        clear hn1 hb5 HA0 k0 k1 k2 k3 k4 k5
        obtain ⟨k0, k1, k2, k3, k4, k5, -⟩ := box6 HA1.out.2.1
        go_upto_region 10 with (go_at_call 21; refine (E.out _).mono ?_; clear E; rintro e w6 ⟨rfl, hb6⟩)
        have HA2 : Hid (Cs w g N c l v ys (w6.alloc (.cells #[.int .i64 c0, .int .i64 c1, .string c2, .int .u8 c3] 34)) ∧ (w6.alloc (.cells #[.int .i64 c0, .int .i64 c1, .string c2, .int .u8 c3] 34)).heap[kb]? = some (.cells #[.int .i64 x0, .int .i32 x1, .bool x2, .bool x3, .bool x4, .string x5] 30 (0, 0)) ∧ (w6.alloc (.cells #[.int .i64 c0, .int .i64 c1, .string c2, .int .u8 c3] 34)).heap[n1]? = some (.cells #[.int .i64 c0, .int .i64 c1, .string c2, .int .u8 c3] 34 (0, 0)) ∧ (w6.alloc (.cells #[.int .i64 c0, .int .i64 c1, .string c2, .int .u8 c3] 34)).heap[w6.heap.size]? = some (.cells #[.int .i64 c0, .int .i64 c1, .string c2, .int .u8 c3] 34 (0, 0))) := ⟨(HA1.out.1.below hb6).below ((Below.refl _ _).alloc (Nat.le_refl _) _), cells_below (cells_below HA1.out.2.1 hb6) ((Below.refl _ _).alloc (Nat.le_refl _) _), cells_below (cells_below HA1.out.2.2 hb6) ((Below.refl _ _).alloc (Nat.le_refl _) _), World.alloc_heap_new _ _⟩
        obtain ⟨n2, hn2⟩ : ∃ q, w6.heap.size = q := ⟨_, rfl⟩
        rw [hn2] at HA2 ⊢
        generalize w6.alloc (.cells #[.int .i64 c0, .int .i64 c1, .string c2, .int .u8 c3] 34) = V2 at HA2 ⊢
        clear hn2 hb6 HA1 k0 k1 k2 k3 k4 k5
        obtain ⟨k0, k1, k2, k3, k4, k5, -⟩ := box6 HA2.out.2.1
        obtain ⟨⟨r0, r1, r2, r3⟩, -⟩ := box4 HA2.out.2.2.1
        obtain ⟨⟨z0, z1, z2, z3⟩, -⟩ := box4 HA2.out.2.2.2
        obtain ⟨p0, p1, p2, p3, p4, p5⟩ := OA.out _ HA2.out.1
        have hiN : (i : Int) < (N : Int) + 1 := by omega
        go_quiet (fail)
        go_wp2
        exact ⟨⟨i + 1, by go_num, by omega, by first | exact HA2.out.1 | exact HA2.out.1.below ⟨rfl, rfl, rfl, Nat.le_refl _, fun _ _ => rfl⟩⟩, by simp [intOf]; omega⟩
      · have hge : ¬ ((i : Int) < N) := by omega
        have HB : Hid (Below w.heap.size w wr) := HL.out.bel
        obtain ⟨p0, -, -, -, -, -⟩ := own_at (x := k99) HL.out.row (i := N) (by rw [List.getElem?_append_right (by rw [HN.out]; exact Nat.le_refl _), HN.out]; simp) (by omega)
        have p0' : wr.cell? ⟨g, N * 6, none⟩ = some (.int .i64 99) := p0
        clear p0 C1 C2
        obtain ⟨av, cv, hv, hcv, hvc⟩ := row_cm HL.out.cm rfl
        have HV : Hid (∀ W, Below wr.heap.size wr W → W.ownsRow w.heap.size 34 4 v ys.length (ccl ys)) := fun W hW => row_kept HL.out.cm hW
        have HG : Hid (∀ g, av = some ⟨g, 0, none⟩ → w.heap.size ≤ g ∧ ∃ cur, wr.heap[g]? = some (.cells cur 34 (0, 0)) ∧ ys.length * 4 ≤ cur.size) := fun g hg => by
          have := HL.out.cm
          rw [hv, hg] at this
          rcases this.2 with ⟨e, -⟩ | ⟨g', c', cur, e, h1, h2, h3, -, h5, -⟩
          · cases e
          · cases e
            exact ⟨h1, cur, h2, by rw [h5]; exact Nat.mul_le_mul_right 4 h3⟩
        have HA : Hid (∀ i, i < ys.length → ∃ g, av = some ⟨g, 0, none⟩) := fun i hi => by
          obtain ⟨g, e, -⟩ := hvc i _ (List.getElem?_eq_getElem hi)
          exact ⟨g, e⟩
        subst hv
        clear hvc HL
        obtain ⟨M, hM⟩ : ∃ M, ys.length = M := ⟨_, rfl⟩
        have HM : Hid (ys.length = M) := hM
        rw [hM] at CC CR CS HV HG HA hys hcv ⊢
        clear hM
        have hm' : (M : Int) ≤ 1048576 := by omega
        have hNc : (N : Int) < (N : Int) + 1 := by omega
        go_upto_region 16 with (first
          | (go_at_call 23; refine (CR.out _ HB.out).mono ?_; rintro e w5 ⟨v5, rfl, H5⟩)
          | (go_at_call 22; refine (CS.out _ _ _ _ _ (HV.out _ H5.out.2) H5.out.1).mono ?_; rintro e w6 ⟨rfl, hb6⟩; have HB6 : Hid (Below wr.heap.size wr w6) := H5.out.2.trans (hb6.mono H5.out.2.size); clear hb6))
        have HB7 : Hid (Below w.heap.size w w6) := HB.out.trans (HB6.out.mono HB.out.size)
        have HG7 : Hid (∀ g, av = some ⟨g, 0, none⟩ → ∃ cur, w6.heap[g]? = some (.cells cur 34 (0, 0)) ∧ M * 4 ≤ cur.size) := fun g hg => by
          obtain ⟨-, cur, h1, h2⟩ := HG.out g hg
          exact ⟨cur, cells_below h1 HB6.out, h2⟩
        have HGE : Hid (∀ g, av = some ⟨g, 0, none⟩ → w.heap.size ≤ g) := fun g hg => (HG.out g hg).1
        clear HB HB6 HG HV H5 p0'
        go_loopw [75] (fun t75 ws => ∃ j : Nat, t75 = .int .i64 j ∧ j ≤ M ∧ Hid (Below w.heap.size w ws ∧ ∀ g, av = some ⟨g, 0, none⟩ → ∃ cur, ws.heap[g]? = some (.cells cur 34 (0, 0)) ∧ M * 4 ≤ cur.size)) (fun t75 _ => M - (intOf t75).toNat)
        case atStart => exact ⟨0, rfl, Nat.zero_le _, HB7.out, HG7.out⟩
        case round =>
          clear HB7 HG7
          obtain ⟨j, rfl, hj', HQ⟩ := hrel
          by_cases hlt2 : j < M
          · have hlt2' : (j : Int) < M := by omega
            obtain ⟨gv, rfl⟩ := HA.out j hlt2
            obtain ⟨cur, hb, hsz⟩ := HQ.out.2 gv rfl
            have hge2 := HGE.out gv rfl
            have hcell : ∀ k, k < 4 → ∃ u, wr.cell? ⟨gv, j * 4 + k, none⟩ = some u := fun k hk => by
              have hlt3 : j * 4 + k < cur.size := by omega
              exact ⟨cur[j * 4 + k], by simp [World.cell?, hb, hlt3]⟩
            obtain ⟨u0, e0⟩ := hcell 0 (by decide)
            obtain ⟨u1, e1⟩ := hcell 1 (by decide)
            obtain ⟨u2, e2⟩ := hcell 2 (by decide)
            obtain ⟨u3, e3⟩ := hcell 3 (by decide)
            have f : ∀ k, wr.frozen? ⟨gv, k, none⟩ = false := fun k => by simp [World.frozen?, hb]
            have f0 := f (j * 4)
            have f1 := f (j * 4 + 1)
            have f2 := f (j * 4 + 2)
            have f3 := f (j * 4 + 3)
            rw [Nat.add_zero] at e0
            have HF : Hid (Below w.heap.size w ((((wr.setCell ⟨gv, j * 4, none⟩ (.int .i64 0)).setCell ⟨gv, j * 4 + 1, none⟩ (.int .i64 0)).setCell ⟨gv, j * 4 + 2, none⟩ (.string ⟨#[]⟩)).setCell ⟨gv, j * 4 + 3, none⟩ (.int .u8 0)) ∧ ∀ g, (some ⟨gv, 0, none⟩ : Option Addr) = some ⟨g, 0, none⟩ → ∃ cur, ((((wr.setCell ⟨gv, j * 4, none⟩ (.int .i64 0)).setCell ⟨gv, j * 4 + 1, none⟩ (.int .i64 0)).setCell ⟨gv, j * 4 + 2, none⟩ (.string ⟨#[]⟩)).setCell ⟨gv, j * 4 + 3, none⟩ (.int .u8 0)).heap[g]? = some (.cells cur 34 (0, 0)) ∧ M * 4 ≤ cur.size) := ⟨(((HQ.out.1.setCell (p := ⟨gv, j * 4, none⟩) hge2 _).setCell (p := ⟨gv, j * 4 + 1, none⟩) hge2 _).setCell (p := ⟨gv, j * 4 + 2, none⟩) hge2 _).setCell (p := ⟨gv, j * 4 + 3, none⟩) hge2 _, fun g hg => by
              cases hg
              exact ⟨_, set1 _ (set1 _ (set1 _ (set1 _ hb))), by simpa using hsz⟩⟩
            clear hcell f hb hsz hge2
            go_wp2
            exact ⟨⟨j + 1, by go_num, by omega, HF⟩, by simp [intOf]; omega⟩
          · have hge2 : ¬ ((j : Int) < M) := by omega
            go_wp2_with (first
              | (go_at_call 19; refine (CC.out _ _ _ HQ.out.1 (HR.out _ HQ.out.1)).mono ?_; rintro e w7 ⟨v7, rfl, H7⟩; have HB7 : Hid (Below w.heap.size w w7) := HQ.out.1.trans (H7.out.2.mono HQ.out.1.size))
              | (go_at_call 23; refine (CR.out _ HB7.out).mono ?_; rintro e w8 ⟨v8, rfl, H8⟩; have HB8 : Hid (Below w.heap.size w w8) := HB7.out.trans (H8.out.2.mono HB7.out.size))
              | (go_at_call 22; refine (CS.out _ _ _ _ _ (row_kept H7.out.1 H8.out.2) H8.out.1).mono ?_; rintro e w9 ⟨rfl, hb9⟩; have HB9 : Hid (Below w.heap.size w w9) := HB8.out.trans (hb9.mono HB8.out.size); clear hb9))
            go_ret
            exact ⟨rfl, HB9.out⟩
section
open Go.ChangeShapes Go.WideShapes Go.ChangeAt Go.Deep
theorem kysn_of {H : Type} {enc : TypeId × Value → H} {W : World} {base : Nat} {sp : Nat → Bool} {hd : Bool} {fuel : Nat} {a : Option Addr} {len cap : Nat} {d : DataW H} {p : List MemPlace}
    (h : DataW.trod enc Tryd.prog W base sp hd fuel 22 [.slice a len cap] = some (d, p)) :
    ∃ l : List Ky, RdKy W (.slice a len cap) l ∧ ((a = none → cap = 0) ∧ kyb l ≤ Rows.uptoBulk d ∧ ∀ k ∈ l, (-2147483648 ≤ k.ch ∧ k.ch ≤ 2147483647) ∧ (-9223372036854775808 ≤ k.kd ∧ k.kd ≤ 9223372036854775807)) := by
  obtain ⟨l, h1, h2⟩ := kys_of h
  refine ⟨l, h1, ?_, h2⟩
  rcases open_slice Tryd.underlying22 h with ⟨hcs, _⟩ | ⟨x, l', c, m, n, D, Pl, hcl, _⟩
  · simp at hcs
    exact fun _ => hcs.2.2
  · simp at hcl
    intro e
    rw [e] at hcl
    simp at hcl
end
theorem walk_of {H : Type} {d : DataW H} (a0 : Option Addr) (len cap : Nat) (w : World) (hT : Tb w) (l : List Ky) (hS : RdKy w (.slice a0 len cap) l) (hu : (a0 = none → cap = 0) ∧ kyb l ≤ Rows.uptoBulk d ∧ ∀ k ∈ l, (-2147483648 ≤ k.ch ∧ k.ch ≤ 2147483647) ∧ (-9223372036854775808 ≤ k.kd ∧ k.kd ≤ 9223372036854775807)) (hk : Rows.uptoSmall H ([d] ++ []) = true) :
    Calls Tryd.prog 4 #[.slice a0 len cap] w fun e w' => e = .returned (.bool true) ∧ Below w.heap.size w w' := by
  have h : Rows.uptoBulkAll ([d] ++ []) ≤ 1048576 := of_decide_eq_true hk
  simp only [List.append_nil, Rows.uptoBulkAll] at h
  obtain ⟨a, cap', e, hc⟩ := id hS
  cases e
  have q0 := hu.2.1
  exact walk (by kernel_rfl) a0 cap l w hS hu.1 (by have := kyb_len l; omega) (kys_ok (m := 1048576) (Nat.le_refl _) (by omega) hu.2.2) hT
end Go.Proofs.YtmaolbibbjngcaaDoor.bindCommands
