/-
  Package layout's (*grid).trim: the blank cells at the rows' ends are left out. Conditions: no more than 2^31 rows, none longer than 65535 cells.
-/
import Derived.Test.YtfjoklbiocniiaaDoorPkOU
namespace Go.Proofs.YtfjoklbiocniiaaDoor
open Go.RowKit Go.Shelf Bod Wid
theorem tl_inj {t t' : ByteArray} : t.toList = t'.toList ↔ t = t' := by
  constructor
  · intro h
    rw [ByteArray.toList_eq, ByteArray.toList_eq] at h
    apply ByteArray.ext
    exact Array.toList_inj.1 h
  · rintro rfl; rfl
/-- two cells are one -/
theorem cel_eq2 (t t' : ByteArray) (n n' : Int) (w : World) : (binOp .eql 42 (.agg #[.string t, .int .i64 n]) (.agg #[.string t', .int .i64 n'])).run Tryd.prog w = .ok (.bool (decide (t = t') && decide (n = n'))) w := by
  have h0 : Tryd.prog.underlying 42 = some (.struct (Tryd.prog.fieldsOf 42)) := by kernel_rfl
  have h1 : Tryd.prog.stoodInHeld 42 = false := by kernel_rfl
  rw [run_eql_struct, run_equalIn_agg (d := 9999) _ _ _ _ h0 h1]
  simp [go_sem, Op.eqFields]
  by_cases e : t = t' <;> by_cases e2 : n = n' <;> simp [tl_inj, e, e2]
theorem cel_eq (t : ByteArray) (n : Int) (w : World) : (binOp .eql 42 (.agg #[.string t, .int .i64 n]) (.agg #[.string ⟨#[32]⟩, .int .i64 1])).run Tryd.prog w = .ok (.bool (blkC ⟨t, n⟩)) w := cel_eq2 t _ n 1 w
theorem own_cut {W : World} {base n n' k : Nat} {a : Option Addr} {l : List Cel} (h : W.ownsRow base 42 2 (.slice a n k) n (ccs l)) (hn : n' ≤ n) (hl : l.length = n) : W.ownsRow base 42 2 (.slice a n' k) n' (ccs (l.take n')) := by
  refine ⟨by rw [ccs_len, List.length_take]; omega, ?_⟩
  rcases h.2 with ⟨h1, h2⟩ | ⟨g, cap, cur, h1, hb, hc, h3, h4, h5, h6⟩
  · injection h1 with e1 e2 e3
    subst e1; subst e3
    have : n' = 0 := by omega
    subst this
    exact .inl ⟨rfl, rfl⟩
  · injection h1 with e1 _ e3
    subst e1; subst e3
    refine .inr ⟨g, _, cur, rfl, hb, hc, by omega, h4, h5, ?_⟩
    have e : ccs l = ccs (l.take n') ++ ccs (l.drop n') := by rw [← ccs_app, List.take_append_drop]
    have hlen : (ccs (l.take n')).length = n' * 2 := by rw [ccs_len, List.length_take]; omega
    have : cur.toList.take (n' * 2) = (ccs l).take (n' * 2) := by rw [← h6, List.take_take, Nat.min_eq_left (by omega)]
    rw [this, e, List.take_left' hlen]
theorem own_cells {W : World} {base n k g : Nat} {l : List Cel} {o : Option (Nat × Nat)} {c : Cel} (h : W.ownsRow base 42 2 (.slice (some ⟨g, 0, none⟩) n k) n (ccs l)) {j : Nat} (hj : l[j]? = some c) (hn : j < n) (_ : o = o) : W.cell? ⟨g, j * 2, none⟩ = some (.string c.tx) ∧ W.cell? ⟨g, j * 2 + 1, none⟩ = some (.int .i64 c.sp) := by
  have e : ∀ (l : List Cel) (j : Nat), l[j]? = some c → (ccs l)[j * 2]? = some (.string c.tx) ∧ (ccs l)[j * 2 + 1]? = some (.int .i64 c.sp) := by
    intro l
    induction l with
    | nil => intro j hj; cases hj
    | cons d l ih =>
      intro j hj
      cases j with
      | zero => cases hj; exact ⟨rfl, rfl⟩
      | succ j =>
        have := ih j (by simpa using hj)
        rw [show (j + 1) * 2 = j * 2 + 2 by omega]
        exact this
  obtain ⟨e1, e2⟩ := e l j hj
  rw [h.cellAt (j * 2) (by omega), h.cellAt (j * 2 + 1) (by omega)]
  exact ⟨e1, e2⟩
theorem trm_take {l : List Cel} {j : Nat} {c : Cel} (hj : l[j]? = some c) : trmL (l.take (j + 1)) = if blkC c then trmL (l.take j) else l.take (j + 1) := by
  rw [List.take_add_one, hj]
  simp only [Option.toList_some]
  cases h : blkC c with
  | true => rw [trm_snoc_blk h]; rfl
  | false => rw [trm_snoc_no h]; rfl
theorem trm_pre (l : List Cel) : ∃ n, n ≤ l.length ∧ trmL l = l.take n := by
  have : ∀ m, m ≤ l.length → ∃ n, n ≤ m ∧ trmL (l.take m) = l.take n := by
    intro m
    induction m with
    | zero => intro _; exact ⟨0, Nat.le_refl _, by simp [trmL]⟩
    | succ m ih =>
      intro hm
      rw [trm_take (c := l[m]'(by omega)) (List.getElem?_eq_getElem _)]
      split
      · obtain ⟨n, h1, h2⟩ := ih (by omega); exact ⟨n, by omega, h2⟩
      · exact ⟨m + 1, Nat.le_refl _, rfl⟩
  have := this l.length (Nat.le_refl _)
  rwa [List.take_length] at this
theorem w64s {i : Nat} (h : i < 4294967296) : wrap64 ((i : Int) + 1) = ((i + 1 : Nat) : Int) := by
  unfold wrap64
  omega
/-- all but rows of rows lies as it lay -/
def KeptL (X Y : World) : Prop := (∀ (k : Nat) (cs : Array Value) (t : TypeId) (fz : Nat × Nat), X.heap[k]? = some (.cells cs t fz) → t ≠ 40 → Y.heap[k]? = some (.cells cs t fz)) ∧ ∀ (k : Nat) (o : Obj), X.heap[k]? = some o → o.isCells = false → Y.heap[k]? = some o
def slen : Value → Nat
  | .slice _ n _ => n
  | _ => 0
/-- while trim works -/
structure Tm (w X : World) (lo hi : Nat) (W r c : Int) (gb : Nat) (ov : Value) (R : List (List Cel)) (i : Nat) (bb : Nat) (Y : World) : Prop where
  ex : ∃ vs, Gd w lo hi W r c gb ov vs Y ∧ vs.map Prod.fst = (R.take i).map trmL ++ R.drop i
  bx : Y.heap[bb]? = some (.cells #[.string ⟨#[32]⟩, .int .i64 1] 42 (0, 0))
  fr : ∀ k, k < X.heap.size → (∀ g, ov.ownBlock = some g → k ≠ g) → Y.heap[k]? = X.heap[k]?
  nb : X.heap.size ≤ bb
set_option maxRecDepth 100000 in
set_option maxHeartbeats 2000000 in
theorem trm_any {w X : World} {lo hi gb : Nat} {W r c : Int} {ov : Value} {vs : List (List Cel × Value)} (h : Gd w lo hi W r c gb ov vs X) (hl : vs.length ≤ 2147483648) (hrl : ∀ o ∈ vs, o.1.length ≤ 2147483648) :
    Calls Tryd.prog 28 #[.pointer (some ⟨gb, 0, none⟩)] X fun e Y => (∃ u, e = .returned u) ∧ ∃ vs', Hid (Gd w lo hi W r c gb ov vs' Y ∧ vs'.map Prod.fst = (vs.map Prod.fst).map trmL ∧ Below w.heap.size w Y ∧ KeptL X Y) := by
  have hce := cel_eq
  obtain ⟨R, hR⟩ : ∃ R, vs.map Prod.fst = R := ⟨_, rfl⟩
  have HRL : Hid (∀ l ∈ R, l.length ≤ 2147483648) := fun l hm => by
    rw [← hR] at hm
    obtain ⟨o, ho, rfl⟩ := List.mem_map.1 hm
    exact hrl o ho
  obtain ⟨N, hN⟩ : ∃ N, R.length = N := ⟨_, rfl⟩
  have HN : Hid (R.length = N ∧ N ≤ 2147483648) := ⟨hN, by rw [← hN, ← hR]; simpa using hl⟩
  have hNv : vs.length = N := by rw [← hN, ← hR]; simp
  obtain ⟨oa, ok, hov⟩ := o_slice h.orow
  rw [hNv] at hov
  subst hov
  obtain ⟨⟨-, -, -, c3⟩, -⟩ := h.cells
  have hbb : gb < X.heap.size := h.lt
  have H0 : Hid (Tm w X lo hi W r c gb (.slice oa N ok) R 0 X.heap.size (X.alloc (.cells #[.string ⟨#[32]⟩, .int .i64 1] 42))) :=
    ⟨⟨vs, h.below ((Below.refl _ X).alloc (Nat.le_refl _) _), by simpa using hR⟩, World.alloc_heap_new _ _, fun k hk _ => Below.heap_alloc _ _ _ hk, Nat.le_refl _⟩
  have HOG : Hid (∀ g, (Value.slice oa N ok).ownBlock = some g → ∃ cur, X.heap[g]? = some (.cells cur 40 (0, 0))) := fun g e => (o_blk h.orow e).1
  rw [hR]
  clear h hl hrl hR hN hNv
  go_enter Tryd.func28, Tryd.ntmps28
  go_wp2_with (fail)
  generalize X.alloc (.cells #[.string ⟨#[32]⟩, .int .i64 1] 42) = X0 at H0 ⊢
  clear c3
  go_loopw [11] (fun t11 wr => ∃ i : Nat, t11 = .int .i64 i ∧ i ≤ N ∧ Hid (Tm w X lo hi W r c gb (.slice oa N ok) R i X.heap.size wr)) (fun t11 _ => N - (intOf t11).toNat)
  case atStart => exact ⟨0, rfl, Nat.zero_le _, H0⟩
  case round =>
    clear H0
    obtain ⟨i, rfl, hi', HT⟩ := hrel
    by_cases hlt : i < N
    · obtain ⟨vs, hg, hv⟩ := HT.out.ex
      have hlen : vs.length = N := by have := congrArg List.length hv; simp at this; have := HN.out.1; omega
      obtain ⟨⟨l, v⟩, ho⟩ : ∃ o, vs[i]? = some o := ⟨vs[i]'(by omega), List.getElem?_eq_getElem _⟩
      have hsplit : vs = vs.take i ++ (l, v) :: vs.drop (i + 1) := by
        have := List.getElem?_eq_some_iff.1 ho
        obtain ⟨h1, h2⟩ := this
        rw [← h2, List.getElem_cons_drop, List.take_append_drop]
      have hti : (vs.take i).length = i := by rw [List.length_take]; omega
      have hRi : R[i]? = some l := by
        have := congrArg (fun q => q[i]?) hv
        simp only [List.getElem?_map, ho, Option.map_some] at this
        rw [List.getElem?_append_right (by simp; omega)] at this
        simp only [List.length_map, List.length_take, List.getElem?_drop] at this
        rw [show min i R.length = i by have := HN.out.1; omega] at this
        simpa using this.symm
      have hll := HRL.out l (List.mem_of_getElem? hRi)
      have hmem : (l, v) ∈ vs := List.mem_of_getElem? ho
      obtain ⟨va, vk, hvv⟩ := o_slice (hg.each (l, v) hmem).1
      obtain ⟨n, hn⟩ : ∃ n, l.length = n := ⟨_, rfl⟩
      simp only at hvv
      rw [hn] at hvv
      subst hvv
      have hown := (hg.each (l, _) hmem).1
      simp only at hown
      rw [hn] at hown
      obtain ⟨og, oc, hoa, -, -⟩ := hg.orow.form (by omega)
      rw [hlen] at hoa
      have hoa1 : oa = some ⟨og, 0, none⟩ := by injection hoa
      subst hoa1
      have horow := hg.orow
      rw [hlen] at horow
      have x0 : wr.cell? ⟨og, i, none⟩ = some (.slice va n vk) := by
        rw [horow.cellAt i (by omega), List.getElem?_map, ho]; rfl
      obtain ⟨x1, x2⟩ : wr.cell? ⟨X.heap.size, 0, none⟩ = some (.string ⟨#[32]⟩) ∧ wr.cell? ⟨X.heap.size, 1, none⟩ = some (.int .i64 1) := by simp [World.cell?, HT.out.bx]
      obtain ⟨⟨-, -, -, x3⟩, -⟩ := hg.cells
      have hlt' : (i : Int) < N := by omega
      have HOW : Hid (wr.ownsRow w.heap.size 42 2 (.slice va n vk) n (ccs l) ∧ l.length = n ∧ n ≤ 2147483648) := ⟨hown, hn, by omega⟩
      have HFI : Hid (∀ (m j : Nat) (Z : World), j ≤ n → trmL l = l.take j → Z = (wr.drewN m).setCell ⟨og, i, none⟩ (.slice va j vk) → (wr.drewN m).frozen? ⟨og, i, none⟩ = false ∧ Tm w X lo hi W r c gb (.slice (some ⟨og, 0, none⟩) N ok) R (i + 1) X.heap.size Z) := fun m j Z hj ht hZ => by
        subst hZ
        have hgd : Gd w lo hi W r c gb (.slice (some ⟨og, 0, none⟩) N ok) (vs.take i ++ (l, .slice va n vk) :: vs.drop (i + 1)) (wr.drewN m) := by
          rw [← hsplit]; exact hg.below ⟨rfl, rfl, rfl, Nat.le_refl _, fun _ _ => rfl⟩
        have hcut : (wr.drewN m).ownsRow w.heap.size 42 2 (.slice va j vk) (l.take j).length (ccs (l.take j)) := by
          rw [List.length_take, hn, Nat.min_eq_left hj]
          exact own_cut (W := wr.drewN m) hown hj hn
        have hbk : (Value.slice va j vk).ownBlock = (Value.slice va n vk).ownBlock := by cases va <;> rfl
        obtain ⟨g1, g2, g3, g4, g5⟩ := hgd.setAtN (l' := l.take j) (X1 := wr.drewN m) (v' := .slice va j vk) ⟨rfl, rfl, rfl, Nat.le_refl _, fun _ _ _ => rfl⟩ hcut (fun g e => .inl (by rw [← hbk]; exact e))
        rw [hti] at g1 g3 g4
        have hbnd : og < wr.heap.size := (o_blk horow rfl).2.2
        have hne : X.heap.size ≠ og := fun e => by
          obtain ⟨⟨cur, hc⟩, -, -⟩ := o_blk horow (show (Value.slice (some ⟨og, 0, none⟩) N ok).ownBlock = some og from rfl)
          have := HT.out.bx
          rw [e, hc] at this
          injection this with this
          injection this with _ this
          exact absurd this (by decide)
        refine ⟨g3, ⟨⟨_, g1, ?_⟩, ?_, fun k hk hne2 => ?_, Nat.le_refl _⟩⟩
        · rw [List.map_append, List.map_cons, List.map_take, List.map_drop, hv]
          have hRl : R.length = N := HN.out.1
          have e1 : ((R.take i).map trmL ++ R.drop i).take i = (R.take i).map trmL := by rw [List.take_append_of_le_length (by simp; omega), List.take_of_length_le (by simp; omega)]
          have e2 : ((R.take i).map trmL ++ R.drop i).drop (i + 1) = R.drop (i + 1) := by
            rw [List.drop_append, List.drop_of_length_le (by simp; omega), List.nil_append, List.drop_drop]
            congr 1
            simp; omega
          rw [e1, e2, List.take_add_one, hRi]
          simp [ht]
        · exact (oset_ne (b := og) (Ne.symm hne)).trans HT.out.bx
        · exact (oset_ne (b := og) (fun e => hne2 og rfl e.symm)).trans (HT.out.fr k hk hne2)
      have HLT : Hid (i < N ∧ N ≤ 2147483648) := ⟨hlt, HN.out.2⟩
      clear hv hsplit hti hRi hll hmem hown hoa horow ho hg hn hlen hlt HT
      obtain ⟨j0, hj0', ht0⟩ := trm_pre l
      have hfz : wr.frozen? ⟨og, i, none⟩ = false := (HFI.out 0 j0 _ (by have := HOW.out.2.1; omega) ht0 rfl).1
      clear hj0' ht0
      go_wp2_with (fail)
      obtain ⟨wo, hwo⟩ : ∃ wo, wo = wr := ⟨_, rfl⟩
      subst hwo
      go_loopw [4] (fun t4 wr => ∃ j m : Nat, t4 = .slice va j vk ∧ j ≤ n ∧ wr = wo.drewN m ∧ Hid (trmL l = trmL (l.take j))) (fun t4 _ => slen t4)
      case atStart => exact ⟨n, 0, rfl, Nat.le_refl _, rfl, by show _ = _; rw [← HOW.out.2.1, List.take_length]⟩
      case round =>
        obtain ⟨jj, m, rfl, hj, rfl, HJ⟩ := hrel
        have hend : ∀ (jj : Nat), jj ≤ n → trmL l = l.take jj → ∀ mm, Tm w X lo hi W r c gb (.slice (some ⟨og, 0, none⟩) N ok) R (i + 1) X.heap.size ((wo.drewN mm).setCell ⟨og, i, none⟩ (.slice va jj vk)) := fun jj h1 h2 mm => (HFI.out mm jj _ h1 h2 rfl).2
        have HEND : Hid _ := hend
        clear hend
        by_cases hj00 : jj = 0
        · subst hj00
          go_wp2
          go_quiet (fail)
          go_wp2
          have HE := HEND.out 0 (Nat.zero_le _) (by rw [HJ.out]; simp [trmL])
          go_roundw
          case rel => exact ⟨i + 1, by rw [w64s (by have := HLT.out; omega)], by have := HLT.out; omega, HE _⟩
          case measure => have := HLT.out; rw [w64s (by omega)]; simp [intOf]; omega
        · obtain ⟨j, hjj⟩ : ∃ j, jj = j + 1 := ⟨jj - 1, by omega⟩
          have hj := hj
          obtain ⟨x, hx⟩ : ∃ x, l[j]? = some x := ⟨l[j]'(by have := HOW.out.2.1; omega), List.getElem?_eq_getElem _⟩
          obtain ⟨vg, vc, hva, -, -⟩ := HOW.out.1.form (by omega)
          have hva1 : va = some ⟨vg, 0, none⟩ := by injection hva
          subst hva1
          obtain ⟨y1, y2⟩ := own_cells HOW.out.1 hx (by omega) (o := none) rfl
          have hvk : n ≤ vk := by
            rcases HOW.out.1.2 with ⟨e, -⟩ | ⟨g', cap', cur, e, -, -, h3, -⟩
            · cases e
            · injection e with _ _ e; omega
          have htk := trm_take hx
          rw [← hjj] at htk
          have hw1 : IntKind.i64.wrap ((jj : Int) - 1) = (j : Int) := by rw [IntKind.wrap_i64]; have := HOW.out.2.2; omega
          have hj0 : (0 : Int) < (jj : Int) := by omega
          have hj1 : (j : Int) < (jj : Int) := by omega
          have hjd : decide (0 < jj) = true := by simp; omega
          have hj2 : (j : Int) ≤ (vk : Int) := by omega
          have HJJ : Hid (j + 1 ≤ n ∧ jj = j + 1) := ⟨by omega, hjj⟩
          clear hva hj hx hjj hj00
          cases hb : blkC x with
          | true =>
            have hce1 := hce x.tx x.sp
            rw [show blkC ⟨x.tx, x.sp⟩ = true from hb] at hce1
            have HJ2 : Hid (trmL l = trmL (l.take j)) := by show _ = _; rw [HJ.out, htk, hb]; rfl
            clear hce htk HJ
            go_wp2
            go_quiet (fail)
            go_wp2
            go_roundw
            case rel => exact ⟨j, _, rfl, by have := HJJ.out; omega, rfl, HJ2⟩
            case measure => have := HJJ.out; simp [slen]; omega
          | false =>
            have hce1 := hce x.tx x.sp
            rw [show blkC ⟨x.tx, x.sp⟩ = false from hb] at hce1
            have HE := HEND.out jj (by have := HJJ.out; omega) (by rw [HJ.out, htk, hb]; rfl)
            clear hce htk HJ
            go_wp2
            go_quiet (fail)
            go_wp2
            go_roundw
            case rel => exact ⟨i + 1, by rw [w64s (by have := HLT.out; omega)], by have := HLT.out; omega, HE _⟩
            case measure => have := HLT.out; rw [w64s (by omega)]; simp [intOf]; omega
    · have : i = N := by omega
      subst this
      have hd : ¬ (i : Int) < i := by omega
      go_wp2
      go_end0
      obtain ⟨vs', h1, h2⟩ := HT.out.ex
      have hne : ∀ (k : Nat) (o : Obj), X.heap[k]? = some o → (∀ cur : Array Value, o ≠ .cells cur 40 (0, 0)) → wr.heap[k]? = some o := fun k o hk hc => (HT.out.fr k (Array.getElem?_eq_some_iff.1 hk).1 (fun g e q => by
        subst q
        obtain ⟨cur, hcur⟩ := HOG.out _ e
        rw [hk] at hcur
        exact hc cur (by injection hcur))).trans hk
      refine ⟨⟨_, rfl⟩, vs', ⟨h1, ?_, h1.bel, fun k cs t fz hk ht => hne k _ hk (fun cur e => by cases e; exact ht rfl), fun k o hk hc => hne k o hk (fun cur e => by subst e; cases hc)⟩⟩
      rw [h2, ← HN.out.1, List.take_length, List.drop_length, List.append_nil]
end Go.Proofs.YtfjoklbiocniiaaDoor
