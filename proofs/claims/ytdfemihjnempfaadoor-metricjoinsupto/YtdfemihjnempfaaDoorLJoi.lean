/-
  The law MetricJoins returns true: the summaries of texts, joined, are that of the texts laid together, by the document's measure and by its joining; the list that is handed in stays. Conditions: the two tables of unicode/utf8 lie as their text lays them; the argument holds at most 1048576 values and letters.
-/
import Derived.Test.YtdfemihjnempfaaDoorMLaw
import Derived.Test.YtdfemihjnempfaaDoorUTexts
import Derived.Deep.AppendLies
import Derived.Laws.AppendOwnNone
import Derived.Laws.OwnMore
namespace Go.Proofs.YtdfemihjnempfaaDoor.metricJoins
open Go.RowKit Go.Sort Bod Wid

/-- the parts so far, where they lie -/
structure PI (w : World) (ss : List ByteArray) (v : Value) (k : Nat) (W : World) : Prop where
  row : W.ownsRow w.heap.size 25 7 v k (ssc (ss.take k))
  nil : k = 0 → v = .slice none 0 0
  bel : Below w.heap.size w W
theorem PI.push {w : World} {ss : List ByteArray} {s : ByteArray} {v v' : Value} {k : Nat} {W W1 W2 W3 : World} {o : Obj} (h : PI w ss v k W) (hs : ss[k]? = some s) (hb : Below W.heap.size W W1) (hW2 : W1.alloc o = W2) (hg : W2.grownBy W3 v.ownBlock)
    (hrow : W3.ownsRow w.heap.size 25 7 v' (k + 1) (ssc (ss.take k) ++ (scs (smr s)).toList)) : PI w ss v' (k + 1) W3 := by
  refine ⟨?_, fun h => by omega, ?_⟩
  · rw [List.take_add_one, hs]
    show W3.ownsRow _ _ _ _ _ (ssc (ss.take k ++ [s]))
    rw [ssc_snoc]; exact hrow
  · have b1 : Below w.heap.size w W1 := h.bel.trans (hb.mono h.bel.size)
    have b2 : Below w.heap.size w W2 := by rw [← hW2]; exact b1.alloc b1.size _
    exact b2.grown hg b2.size (fun j e => (h.row.lt j e).1)
theorem cat_bd : ∀ (ss : List ByteArray), (∀ s ∈ ss, s.size ≤ 1048576) → (cat ss).size ≤ ss.length * 1048576
  | [], _ => by simp [cat]
  | s :: r, h => by
    have e := cat_app [s] r
    have h1 := cat_bd r (fun x hx => h x (.tail _ hx))
    have h2 := h s (.head _)
    have e2 : cat [s] = s := by simp [cat]
    rw [e2] at e
    rw [List.singleton_append] at e
    rw [List.length_cons]
    omega
/-- the last one of own -/
def s7 : List Value := [.int .i64 (-7), .int .i64 0, .int .i64 0, .int .i64 0, .int .i64 0, .string ⟨#[]⟩, .string ⟨#[]⟩]
/-- what lies where behind the appends: own, the parts, then the joined one -/
structure OI (w : World) (ss : List ByteArray) (v : Value) (n g c : Nat) (W : World) : Prop where
  own : W.ownsRow w.heap.size 25 7 (.slice (some ⟨g, 0, none⟩) (n + 1) c) (n + 1) (ssc ss ++ s7)
  row : W.ownsRow w.heap.size 25 7 v n (ssc ss)
  len : ss.length = n
  bel : Below w.heap.size w W
theorem OI.below {w : World} {ss : List ByteArray} {v : Value} {n g c : Nat} {W W' : World} (h : OI w ss v n g c W) (hb : Below W.heap.size W W') : OI w ss v n g c W' := ⟨row_below' h.own hb, row_below' h.row hb, h.len, h.bel.trans (hb.mono h.bel.size)⟩
theorem OI.drewN {w : World} {ss : List ByteArray} {v : Value} {n g c : Nat} {W : World} (h : OI w ss v n g c W) (q : Nat) : OI w ss v n g c (W.drewN q) := h.below ⟨rfl, rfl, rfl, Nat.le_refl _, fun _ _ => rfl⟩
theorem OI.lt {w : World} {ss : List ByteArray} {v : Value} {n g c : Nat} {W : World} (h : OI w ss v n g c W) : g < W.heap.size := (h.own.lt g rfl).2
theorem OI.cap {w : World} {ss : List ByteArray} {v : Value} {n g c : Nat} {W : World} (h : OI w ss v n g c W) : n + 1 ≤ c ∧ c ≤ maxLen := by
  rcases h.own.2 with ⟨h', _⟩ | ⟨g', cap', cur, h', _, _, h1, h2, _⟩
  · simp at h'
  · simp only [Value.slice.injEq, Option.some.injEq, Addr.mk.injEq, and_true, true_and] at h'
    obtain ⟨rfl, rfl⟩ := h'
    exact ⟨h1, h2⟩
theorem OI.rds {w : World} {ss : List ByteArray} {v : Value} {n g c : Nat} {W : World} (h : OI w ss v n g c W) : RdS W (.slice (some ⟨g, 0, none⟩) n c) ss :=
  rds_cells h.len h.lt (fun j hj => by
    rw [h.own.cellAt j (by omega), List.getElem?_append_left (by rw [ssc_len, h.len]; exact hj)])
theorem OI.rdp {w : World} {ss : List ByteArray} {v : Value} {n g c : Nat} {W : World} (h : OI w ss v n g c W) : RdS W v ss := RdS.of_row (base := w.heap.size) (by rw [h.len]; exact h.row)
theorem OI.seven {w : World} {ss : List ByteArray} {v : Value} {n g c : Nat} {W : World} (h : OI w ss v n g c W) : W.cell? ⟨g, n * 7, none⟩ = some (.int .i64 (-7)) := by
  rw [h.own.cellAt (n * 7) (by omega), List.getElem?_append_right (by rw [ssc_len, h.len]; exact Nat.le_refl _), ssc_len, h.len, Nat.sub_self]
  rfl
theorem OI.first {w W0 W1 W3 : World} {ss : List ByteArray} {v v1 : Value} {n g g1 c : Nat} (hp : W1.ownsRow w.heap.size 25 7 v n (ssc ss)) (hl : ss.length = n) (hb : Below w.heap.size w W1) (hW : W1.alloc (.cells s7.toArray 25) = W0) (hv : ∀ j, v.ownBlock = some j → j ≠ g1) (h1 : v1.ownBlock = some g1) (hg1 : w.heap.size ≤ g1)
    (hown : W3.ownsRow w.heap.size 25 7 (.slice (some ⟨g, 0, none⟩) (n + 1) c) (n + 1) (ssc ss ++ s7)) (hg : W0.grownBy W3 v1.ownBlock) : OI w ss v n g c W3 := by
  have hp0 : W0.ownsRow w.heap.size 25 7 v n (ssc ss) := by rw [← hW]; exact hp.alloc _
  have hb0 : Below w.heap.size w W0 := by rw [← hW]; exact hb.alloc hb.size _
  refine ⟨hown, hp0.kept hg ?_, hl, hb0.grown hg hb0.size (fun j e => by rw [h1] at e; cases e; exact hg1)⟩
  rw [h1]
  cases hv' : v.ownBlock with
  | none => exact .inl rfl
  | some j => exact .inr fun e => hv j hv' (Option.some.inj e)
theorem ssc_at {ss : List ByteArray} {i : Nat} {s : ByteArray} (h : ss[i]? = some s) : (ssc ss)[i * 7]? = some (.int .i64 (smr s).by') ∧ (ssc ss)[i * 7 + 1]? = some (.int .i64 (smr s).un) ∧ (ssc ss)[i * 7 + 2]? = some (.int .i64 (smr s).cl) ∧ (ssc ss)[i * 7 + 3]? = some (.int .i64 (smr s).ce) ∧ (ssc ss)[i * 7 + 4]? = some (.int .i64 (smr s).nl) ∧ (ssc ss)[i * 7 + 5]? = some (.string (smr s).hd) ∧ (ssc ss)[i * 7 + 6]? = some (.string (smr s).tl) :=
  ⟨ssc_get ss i s h 0 (by omega), ssc_get ss i s h 1 (by omega), ssc_get ss i s h 2 (by omega), ssc_get ss i s h 3 (by omega), ssc_get ss i s h 4 (by omega), ssc_get ss i s h 5 (by omega), ssc_get ss i s h 6 (by omega)⟩
theorem OI.own_at {w : World} {ss : List ByteArray} {v : Value} {n g c : Nat} {W : World} (h : OI w ss v n g c W) {i : Nat} {s : ByteArray} (hs : ss[i]? = some s) : W.cell? ⟨g, i * 7, none⟩ = some (.int .i64 (smr s).by') ∧ W.cell? ⟨g, i * 7 + 1, none⟩ = some (.int .i64 (smr s).un) ∧ W.cell? ⟨g, i * 7 + 2, none⟩ = some (.int .i64 (smr s).cl) ∧ W.cell? ⟨g, i * 7 + 3, none⟩ = some (.int .i64 (smr s).ce) ∧ W.cell? ⟨g, i * 7 + 4, none⟩ = some (.int .i64 (smr s).nl) ∧ W.cell? ⟨g, i * 7 + 5, none⟩ = some (.string (smr s).hd) ∧ W.cell? ⟨g, i * 7 + 6, none⟩ = some (.string (smr s).tl) := by
  have hi : i < n := by have := (List.getElem?_eq_some_iff.1 hs).1; rw [h.len] at this; exact this
  have at' : ∀ j, j < 7 → W.cell? ⟨g, i * 7 + j, none⟩ = (ssc ss)[i * 7 + j]? := fun j hj => by
    rw [h.own.cellAt (i * 7 + j) (by omega), List.getElem?_append_left (by rw [ssc_len, h.len]; omega)]
  obtain ⟨a0, a1, a2, a3, a4, a5, a6⟩ := ssc_at hs
  exact ⟨(at' 0 (by omega)).trans a0, (at' 1 (by omega)).trans a1, (at' 2 (by omega)).trans a2, (at' 3 (by omega)).trans a3, (at' 4 (by omega)).trans a4, (at' 5 (by omega)).trans a5, (at' 6 (by omega)).trans a6⟩
theorem OI.part_at {w : World} {ss : List ByteArray} {n g c gp cp : Nat} {W : World} (h : OI w ss (.slice (some ⟨gp, 0, none⟩) n cp) n g c W) {i : Nat} {s : ByteArray} (hs : ss[i]? = some s) : W.cell? ⟨gp, i * 7, none⟩ = some (.int .i64 (smr s).by') ∧ W.cell? ⟨gp, i * 7 + 1, none⟩ = some (.int .i64 (smr s).un) ∧ W.cell? ⟨gp, i * 7 + 2, none⟩ = some (.int .i64 (smr s).cl) ∧ W.cell? ⟨gp, i * 7 + 3, none⟩ = some (.int .i64 (smr s).ce) ∧ W.cell? ⟨gp, i * 7 + 4, none⟩ = some (.int .i64 (smr s).nl) ∧ W.cell? ⟨gp, i * 7 + 5, none⟩ = some (.string (smr s).hd) ∧ W.cell? ⟨gp, i * 7 + 6, none⟩ = some (.string (smr s).tl) := by
  have hi : i < n := by have := (List.getElem?_eq_some_iff.1 hs).1; rw [h.len] at this; exact this
  have at' : ∀ j, j < 7 → W.cell? ⟨gp, i * 7 + j, none⟩ = (ssc ss)[i * 7 + j]? := fun j hj => h.row.cellAt (i * 7 + j) (by omega)
  obtain ⟨a0, a1, a2, a3, a4, a5, a6⟩ := ssc_at hs
  exact ⟨(at' 0 (by omega)).trans a0, (at' 1 (by omega)).trans a1, (at' 2 (by omega)).trans a2, (at' 3 (by omega)).trans a3, (at' 4 (by omega)).trans a4, (at' 5 (by omega)).trans a5, (at' 6 (by omega)).trans a6⟩
/-- behind the first append -/
structure A1 (w : World) (ss : List ByteArray) (v : Value) (k h g1 c1 : Nat) (W : World) : Prop where
  row : W.ownsRow w.heap.size 25 7 v k (ssc ss)
  bel : Below w.heap.size w W
  own : W.ownsRow w.heap.size 25 7 (.slice (some ⟨g1, 0, none⟩) k c1) k (ssc ss)
  lo : h ≤ g1
  far : ∀ j, v.ownBlock = some j → j < h
theorem A1.of {w wr w2 : World} {ss : List ByteArray} {gp cp k g1 c1 : Nat} (hb : Below w.heap.size w wr) (hrow : wr.ownsRow w.heap.size 25 7 (.slice (some ⟨gp, 0, none⟩) k cp) k (ssc ss)) (hown : w2.ownsRow w.heap.size 25 7 (.slice (some ⟨g1, 0, none⟩) (0 + k) c1) (0 + k) ((#[] : Array Value).toList ++ ssc ss))
    (hg : (wr.alloc (.cells #[] 25)).grownBy w2 (Value.slice (some ⟨wr.heap.size, 0, none⟩) 0 0).ownBlock) (hat : (Value.slice (some ⟨wr.heap.size, 0, none⟩) 0 0).ownBlock = some g1 ∨ g1 = (wr.alloc (.cells #[] 25)).heap.size) : A1 w ss (.slice (some ⟨gp, 0, none⟩) k cp) k wr.heap.size g1 c1 w2 := by
  have hgl := (hrow.lt gp rfl).2
  have hle := hb.size
  refine ⟨(hrow.alloc _).kept hg (.inr fun e => ?_), (hb.alloc hle _).grown hg (by simp; omega) (fun j e => ?_), by rw [Nat.zero_add] at hown; exact hown, ?_, fun j e => ?_⟩
  · have e : gp = wr.heap.size := Option.some.inj e
    omega
  · have e : wr.heap.size = j := Option.some.inj e
    omega
  · rcases hat with h | h
    · have e : wr.heap.size = g1 := Option.some.inj h
      omega
    · simp at h; omega
  · have e : gp = j := Option.some.inj e
    omega
theorem OI.of {w W0 W1 W3 : World} {ss : List ByteArray} {v : Value} {k h g g1 c c1 : Nat} (ha : A1 w ss v k h g1 c1 W1) (hl : ss.length = k) (hh : w.heap.size ≤ h) (hW : W1.alloc (.cells s7.toArray 25) = W0)
    (hown : W3.ownsRow w.heap.size 25 7 (.slice (some ⟨g, 0, none⟩) (k + 1) c) (k + 1) (ssc ss ++ s7)) (hg : W0.grownBy W3 (Value.slice (some ⟨g1, 0, none⟩) k c1).ownBlock) : OI w ss v k g c W3 :=
  OI.first (v1 := .slice (some ⟨g1, 0, none⟩) k c1) (g1 := g1) ha.row hl ha.bel hW (fun j e => by have := ha.far j e; have := ha.lo; omega) rfl (by have := ha.lo; omega) hown hg
theorem A1.none {w wr : World} {ss : List ByteArray} (hb : Below w.heap.size w wr) (hs : ss = []) : A1 w ss (.slice none 0 0) 0 wr.heap.size wr.heap.size 0 (wr.alloc (.cells #[] 25)) := by
  subst hs
  exact ⟨World.ownsRow_nil _ _ _ _, hb.alloc hb.size _, World.ownsRow_lit (base := w.heap.size) (e := 25) (size := 7) wr #[] 0 hb.size (by unfold maxLen; omega) rfl, Nat.le_refl _, fun j e => by cases e⟩
theorem new_at (W : World) (o o' : Obj) : ((W.alloc o).alloc o').heap[W.heap.size + 1]? = some o' := (push2' W.heap o o').2
/-- .. and the joined one's box -/
structure QI (w : World) (ss : List ByteArray) (v : Value) (n g c b : Nat) (M : Sum) (W : World) : Prop where
  o : OI w ss v n g c W
  m : W.heap[b]? = some (.cells (scs M) 25 (0, 0))
theorem QI.drewN {w : World} {ss : List ByteArray} {v : Value} {n g c b : Nat} {M : Sum} {W : World} (h : QI w ss v n g c b M W) (q : Nat) : QI w ss v n g c b M (W.drewN q) := ⟨h.o.drewN q, h.m⟩
set_option maxRecDepth 100000 in
set_option maxHeartbeats 4000000 in
theorem walk (a0 : Option Addr) (len cap : Nat) (ss : List ByteArray) (w : World) (hS : Texts w a0 len ss) (hlen : len ≤ 1048576) (hsz : ∀ s ∈ ss, s.size ≤ 1048576) (hT : Lib.Utf8Tabs 1 2 w) (hlo0 : 1 < w.heap.size) (hlo1 : 2 < w.heap.size) :
    Calls Tryd.prog 5 #[.slice a0 len cap] w fun e w' => e = .returned (.bool true) ∧ Below w.heap.size w w' := by
  have cC := counts_any w hT hlo0 hlo1
  have TT : Hid (∀ W, Below w.heap.size w W → Lib.Utf8Tabs 1 2 W ∧ 1 < W.heap.size ∧ 2 < W.heap.size) := fun W hb => ⟨tabs_below hT hb, Nat.lt_of_lt_of_le hlo0 hb.size, Nat.lt_of_lt_of_le hlo1 hb.size⟩
  obtain ⟨i0, hi, hz0, hz1, hz2⟩ := info_parts info_sum
  have hcat : (cat ss).size ≤ 1099511627776 := by have := cat_bd ss hsz; rw [hS.1] at this; omega
  have HCB : Hid (∀ k, (cat (ss.take k)).size ≤ 1099511627776) := fun k => Nat.le_trans (cat_le ss k) hcat
  have HS : Hid (Texts w a0 len ss) := hS
  have HZ : Hid (∀ s ∈ ss, s.size ≤ 1048576) := hsz
  have hmix : Tryd.prog.follows .mixedOrders = true := by kernel_rfl
  have HM : Hid (Tryd.prog.follows .mixedOrders = true) := hmix
  clear hS hsz hT hlo0 hlo1 hmix
  go_enter Tryd.func5, Tryd.ntmps5
  go_wp2_with (go_at_call 9; refine cC.mono ?_; clear cC; rintro e w1 ⟨rfl, hb1⟩; have HB : Hid (Below w.heap.size w w1) := hb1; clear hb1)
  go_loopw [3, 4, 14] (fun x v t wr => ∃ k : Nat, x = .string (cat (ss.take k)) ∧ t = .int .i64 k ∧ k ≤ len ∧ Hid (PI w ss v k wr)) (fun _ _ t _ => len - (intOf t).toNat)
  case atStart => exact ⟨0, rfl, rfl, Nat.zero_le _, ⟨World.ownsRow_nil _ _ _ _, fun _ => rfl, HB.out⟩⟩
  case round =>
    obtain ⟨k, rfl, rfl, hk, HK⟩ := hrel
    clear HB
    by_cases hlt : k < len
    · obtain ⟨hS1, hS2⟩ := HS.out
      obtain ⟨b, o, rfl, hbl, hcs⟩ := hS2 (by omega)
      have hcell := (HK.out.bel.cell (p := ⟨b, o + k, none⟩) hbl).trans (hcs k hlt)
      obtain ⟨s, hs⟩ : ∃ s, ss.getD k ByteArray.empty = s := ⟨_, rfl⟩
      have hsk : ss[k]? = some s := by
        rw [← hs, List.getD, List.getElem?_eq_getElem (show k < ss.length by omega)]; rfl
      have hsz := HZ.out s (List.mem_of_getElem? hsk)
      rw [hs] at hcell
      have HSK : Hid (ss[k]? = some s) := hsk
      have hx := HCB.out k
      have HCT : Hid (cat (ss.take (k + 1)) = cat (ss.take k) ++ s) := cat_take hsk
      have CR : Hid (Calls Tryd.prog 11 #[.string s] wr fun e W' => e = .returned (sv (smr s)) ∧ Below wr.heap.size wr W') := rmeasure_any s (by omega) wr
      obtain ⟨m, hm⟩ : ∃ m, smr s = m := ⟨_, rfl⟩
      rw [hm] at CR
      have HMm : Hid (smr s = m) := hm
      clear hm hs hsk hcs hS1 hS2
      generalize cat (ss.take k) = x at hx HCT
      go_wp2_with (first | (go_at_call 11; refine CR.out.mono ?_; clear CR; rintro e w2 ⟨rfl, hb2⟩; have HB2 : Hid (Below wr.heap.size wr w2) := hb2; clear hb2) | (at_builtin; refine wpList_append_own _ rfl _ _ 32 rfl w.heap.size 25 i0 _ 7 72 Tryd.underlying32 hi hz0 hz1 hz2 rfl (by decide) _ k _ rfl ((row_below' HK.out.row HB2.out).alloc _) ⟨w2.heap.size, 0, none⟩ 1 1 [.int .i64 m.by', .int .i64 m.un, .int .i64 m.cl, .int .i64 m.ce, .int .i64 m.nl, .string m.hd, .string m.tl] rfl rfl (World.news_of_block (World.alloc_heap_new w2 _)) (by simp [Value.oneCell']) (by unfold maxLen; omega) (by omega) (by have h1 := HK.out.bel.size; have h2 := HB2.out.size; simp; omega) ?_; intro v3 w3 hrow3 hg3 _; have HI : Hid (PI w ss v3 (k + 1) w3) := HK.out.push HSK.out HB2.out rfl hg3 (by rw [HMm.out]; exact hrow3); clear hg3 hrow3))
      exact ⟨⟨k + 1, by rw [HCT.out], by go_num, by omega, HI⟩, by simp [intOf]; omega⟩
    · have hd' : decide (k < len) = false := decide_eq_false hlt
      have hkl : k = len := by omega
      subst hkl
      have hss : ss.take k = ss := List.take_of_length_le (by rw [HS.out.1]; exact Nat.le_refl _)
      rw [hss]
      have hPI := HK.out
      have hrow := hPI.row
      rw [hss] at hrow
      have HROW : Hid (wr.ownsRow w.heap.size 25 7 u4 k (ssc ss)) := hrow
      have HNIL := hPI.nil
      have HBEL : Hid (Below w.heap.size w wr) := hPI.bel
      clear hPI hrow HK hlt hk
      have HC2 : Hid ((cat ss).size ≤ 1099511627776) := hcat
      have hL := HS.out.1
      obtain ⟨M, hM⟩ : ∃ M, smr (cat ss) = M := ⟨_, rfl⟩
      have HMM : Hid (smr (cat ss) = M) := hM
      have CJ : Hid (∀ W v g c, OI w ss v k g c W → Calls Tryd.prog 16 #[.slice (some ⟨g, 0, none⟩) k c] W fun e W' => e = .returned (sv M) ∧ OI w ss v k g c W') := fun W v g c h => by
        obtain ⟨t1, t2, t3⟩ := TT.out W h.bel
        rw [← hM]
        exact (mjoin_any ss _ W h.rds (by omega) (by rw [hL]; omega) t1 t2 t3).mono fun e W' ⟨h1, h2⟩ => ⟨h1, h.below h2⟩
      have hle := HBEL.out.size
      have OW0 := World.ownsRow_lit (base := w.heap.size) (e := 25) (size := 7) wr #[] 0 hle (by unfold maxLen; omega) rfl
      generalize hcs : cat ss = all
      clear hcat
      rcases Nat.eq_zero_or_pos k with hk0 | hk0
      · subst hk0
        have hu4 : u4 = .slice none 0 0 := HNIL rfl
        subst hu4
        have HLL : Hid (ss.length = 0) := hL
        have HSS : Hid (ss = []) := List.length_eq_zero_iff.1 hL
        clear HNIL hL
        go_wp2_with (first | (at_builtin; refine wpList_append_own_none rfl _ _ 32 rfl w.heap.size 25 i0 7 Tryd.underlying32 hi _ 0 _ rfl OW0 rfl ?_; have HA : Hid (A1 w ss (.slice none 0 0) 0 wr.heap.size wr.heap.size 0 (wr.alloc (.cells #[] 25))) := A1.none HBEL.out HSS.out; clear OW0) | (at_builtin; refine wpList_append_lies _ rfl _ _ 32 rfl w.heap.size 25 i0 _ 7 72 Tryd.underlying32 hi hz0 hz1 hz2 rfl (by decide) _ 0 _ rfl (HA.out.own.alloc _) ⟨wr.heap.size + 1, 0, none⟩ 1 1 s7 rfl rfl (World.news_of_block (new_at wr _ _)) (by simp [s7, Value.oneCell']) (by omega) (by unfold maxLen; omega) (by omega) (by have := HA.out.bel.size; simp; omega) _ rfl ?_; intro g c w3 hown hg hat hlt; have HO : Hid (OI w ss (.slice none 0 0) 0 g c w3) := OI.of HA.out HLL.out hle rfl hown hg; have hcap := HO.out.cap.1; clear hown hg hat hlt HA) | (go_at_call 16; refine (CJ.out _ _ _ _ HO.out).mono ?_; clear CJ HO; rintro e w4 ⟨rfl, ho4⟩; obtain ⟨W5, hW5⟩ : ∃ W5, w4.alloc (.cells #[.int .i64 M.by', .int .i64 M.un, .int .i64 M.cl, .int .i64 M.ce, .int .i64 M.nl, .string M.hd, .string M.tl] 25) = W5 := ⟨_, rfl⟩; have HQ : Hid (QI w ss (.slice none 0 0) 0 g c w4.heap.size M W5) := (by show QI _ _ _ _ _ _ _ _ _; rw [← hW5]; exact ⟨ho4.below ((Below.refl _ w4).alloc (Nat.le_refl _) _), World.alloc_heap_new w4 _⟩); clear ho4))
        clear hW5 HROW HBEL hle hi hz0 hz1 hz2
        go_loopw [40] (fun t wx => ∃ i : Nat, t = .int .i64 i ∧ i ≤ 0 ∧ Hid (QI w ss (.slice none 0 0) 0 g c w4.heap.size M wx)) (fun t _ => 0 - (intOf t).toNat)
        case atStart => exact ⟨0, rfl, Nat.zero_le _, HQ⟩
        case round =>
          obtain ⟨i, rfl, hik, HQ2⟩ := hrel
          clear HQ
          have HQ := HQ2
          clear HQ2
          by_cases hlt : i < 0
          · omega
          · have hd2 : decide (i < 0) = false := decide_eq_false hlt
            obtain ⟨⟨m0, m1, m2, m3, m4, m5, m6⟩, -⟩ := box7 HQ.out.m
            have e0 := cell_rg m0; have e1 := cell_rg m1; have e2 := cell_rg m2; have e3 := cell_rg m3; have e4 := cell_rg m4; have e5 := cell_rg m5; have e6 := cell_rg m6
            have e7 := cell_rg HQ.out.o.seven
            have hall : smr all = M := by rw [← hcs]; exact hM
            have hasz : all.size ≤ 1099511627776 := by rw [← hcs]; exact HC2.out
            have hbq := HQ.out.o.bel
            have q1 := regrown (f := 11) (args := #[.string all]) (v := sv M) (W := wr) (fun W hW => by rw [← hall]; exact rmeasure_any all (by omega) W)
            have q2 := regrown (f := 17) (args := #[.slice none 0 0]) (v := sv M) (W := wr) (fun W hW => by
              rw [← hM]
              exact rjoin_any ss _ W (HQ.out.o.below hW).rdp (by have := HC2.out; omega) (by rw [HLL.out]; omega))
            have q3 := regrown (f := 16) (args := #[.slice none 0 0]) (v := sv ⟨0, 0, 0, 0, 0, ⟨#[]⟩, ⟨#[]⟩⟩) (W := wr) (fun W hW => by
              obtain ⟨t1, t2, t3⟩ := TT.out W (hbq.trans (hW.mono hbq.size))
              exact mjoin_any [] _ W (rds_nil _ _ _) (by simp [cat]) (by simp) t1 t2 t3)
            have hlt1 : (0 : Int) < (0 : Int) + 1 := by omega
            clear hM hcs hall m0 m1 m2 m3 m4 m5 m6
            go_wp2
            refine wp_region_quiet_below HM.out (by kernel_rfl) ?_
            repeat (quiet_step (fail))
            quiet_step (exact q1 _ _)
            repeat (quiet_step (fail))
            quiet_step (exact q2 _ _)
            repeat (quiet_step (fail))
            quiet_step (exact q3 _ _)
            repeat (quiet_step (fail))
            refine wpQuiet_nil ?_
            intro _ hw'
            obtain ⟨⟨dq, osq⟩, hw''⟩ := hw'
            subst hw''
            have HB3 : Hid (Below w.heap.size w (grow (redrawn wr dq) osq)) := hbq.trans ((below_regrown wr dq osq).mono hbq.size)
            go_wp2
            go_ret
            exact ⟨rfl, HB3.out⟩
      · obtain ⟨gp, cp, hvv, hgb, hgl⟩ := HROW.out.form hk0
        subst hvv
        have hc7 : (ssc ss).length = k * 7 := by rw [ssc_len, hL]
        have hnews : ∀ W, Below wr.heap.size wr W → ∀ j u, (ssc ss)[j]? = some u → W.cell? ((⟨gp, 0, none⟩ : Addr).add j) = some u := fun W hb j u hu => by
          have hj : j < k * 7 := by rw [← hc7]; exact (List.getElem?_eq_some_iff.1 hu).1
          have e := HROW.out.cellAt j hj
          have hadd : (⟨gp, 0, none⟩ : Addr).add j = ⟨gp, j, none⟩ := by unfold Addr.add; split <;> simp_all
          rw [hadd, (hb.cell (p := ⟨gp, j, none⟩) hgl), e, hu]
        have hone : ∀ u ∈ ssc ss, u.oneCell' = true := fun u hu => by
          obtain ⟨s, _, hs⟩ := List.mem_flatMap.1 hu
          simp at hs
          rcases hs with rfl | rfl | rfl | rfl | rfl | rfl | rfl <;> rfl
        have HNEWS : Hid _ := hnews
        have HONE : Hid _ := hone
        have HC7 : Hid ((ssc ss).length = k * 7) := hc7
        have HLL : Hid (ss.length = k) := hL
        clear hnews hone hc7 HNIL hL
        go_wp2_with (first | (at_builtin; refine wpList_append_lies _ rfl _ _ 32 rfl w.heap.size 25 i0 _ 7 72 Tryd.underlying32 hi hz0 hz1 hz2 rfl (by decide) _ 0 _ rfl OW0 ⟨gp, 0, none⟩ k cp (ssc ss) rfl HC7.out (HNEWS.out _ ((Below.refl _ wr).alloc (Nat.le_refl _) _)) HONE.out hk0 (by unfold maxLen; omega) (by omega) (by simp; omega) _ rfl ?_; intro g1 c1 w2 hown1 hg1 hat1 hlt1; have HA : Hid (A1 w ss (.slice (some ⟨gp, 0, none⟩) k cp) k wr.heap.size g1 c1 w2) := A1.of HBEL.out HROW.out hown1 hg1 hat1; clear hat1 hg1 OW0 hown1 hlt1) | (at_builtin; refine wpList_append_lies _ rfl _ _ 32 rfl w.heap.size 25 i0 _ 7 72 Tryd.underlying32 hi hz0 hz1 hz2 rfl (by decide) _ k _ rfl (HA.out.own.alloc _) ⟨w2.heap.size, 0, none⟩ 1 1 s7 rfl rfl (World.news_of_block (World.alloc_heap_new w2 _)) (by simp [s7, Value.oneCell']) (by omega) (by unfold maxLen; omega) (by omega) (by have := HA.out.bel.size; simp; omega) _ rfl ?_; intro g c w3 hown hg hat hlt; have HO : Hid (OI w ss (.slice (some ⟨gp, 0, none⟩) k cp) k g c w3) := OI.of HA.out HLL.out hle rfl hown hg; have hcap := HO.out.cap.1; clear hown hg hat hlt HA) | (go_at_call 16; refine (CJ.out _ _ _ _ HO.out).mono ?_; clear CJ HO; rintro e w4 ⟨rfl, ho4⟩; obtain ⟨W5, hW5⟩ : ∃ W5, w4.alloc (.cells #[.int .i64 M.by', .int .i64 M.un, .int .i64 M.cl, .int .i64 M.ce, .int .i64 M.nl, .string M.hd, .string M.tl] 25) = W5 := ⟨_, rfl⟩; have HQ : Hid (QI w ss (.slice (some ⟨gp, 0, none⟩) k cp) k g c w4.heap.size M W5) := (by show QI _ _ _ _ _ _ _ _ _; rw [← hW5]; exact ⟨ho4.below ((Below.refl _ w4).alloc (Nat.le_refl _) _), World.alloc_heap_new w4 _⟩); clear ho4))
        clear hW5 HNEWS HONE HC7 HROW HBEL hle hgb hgl hi hz0 hz1 hz2
        go_loopw [40] (fun t wx => ∃ i : Nat, t = .int .i64 i ∧ i ≤ k ∧ Hid (QI w ss (.slice (some ⟨gp, 0, none⟩) k cp) k g c w4.heap.size M wx)) (fun t _ => k - (intOf t).toNat)
        case atStart => exact ⟨0, rfl, Nat.zero_le _, HQ⟩
        case round =>
          obtain ⟨i, rfl, hik, HQ2⟩ := hrel
          clear HQ
          have HQ := HQ2
          clear HQ2
          by_cases hlt : i < k
          · obtain ⟨s, hs⟩ : ∃ s, ss[i]? = some s := ⟨ss[i]'(by rw [HLL.out]; exact hlt), List.getElem?_eq_getElem _⟩
            obtain ⟨o0, o1, o2, o3, o4, o5, o6⟩ := HQ.out.o.own_at hs
            obtain ⟨p0, p1, p2, p3, p4, p5, p6⟩ := HQ.out.o.part_at hs
            generalize smr s = x at o0 o1 o2 o3 o4 o5 o6 p0 p1 p2 p3 p4 p5 p6
            have hlt1 : i < k + 1 := by omega
            clear hs
            go_wp2
            go_quiet (fail)
            have HQ3 : Hid (QI w ss (.slice (some ⟨gp, 0, none⟩) k cp) k g c w4.heap.size M (wr.drewN nq)) := HQ.out.drewN nq
            clear o0 o1 o2 o3 o4 o5 o6 p0 p1 p2 p3 p4 p5 p6 HQ
            go_wp2
            exact ⟨⟨i + 1, by go_num, by omega, HQ3⟩, by simp [intOf]; omega⟩
          · have hd2 : decide (i < k) = false := decide_eq_false hlt
            obtain ⟨⟨m0, m1, m2, m3, m4, m5, m6⟩, -⟩ := box7 HQ.out.m
            have e0 := cell_rg m0; have e1 := cell_rg m1; have e2 := cell_rg m2; have e3 := cell_rg m3; have e4 := cell_rg m4; have e5 := cell_rg m5; have e6 := cell_rg m6
            have e7 := cell_rg HQ.out.o.seven
            have hall : smr all = M := by rw [← hcs]; exact hM
            have hasz : all.size ≤ 1099511627776 := by rw [← hcs]; exact HC2.out
            have hbq := HQ.out.o.bel
            have q1 := regrown (f := 11) (args := #[.string all]) (v := sv M) (W := wr) (fun W hW => by rw [← hall]; exact rmeasure_any all (by omega) W)
            have q2 := regrown (f := 17) (args := #[.slice (some ⟨gp, 0, none⟩) k cp]) (v := sv M) (W := wr) (fun W hW => by
              rw [← hM]
              exact rjoin_any ss _ W (HQ.out.o.below hW).rdp (by have := HC2.out; omega) (by rw [HLL.out]; omega))
            have q3 := regrown (f := 16) (args := #[.slice none 0 0]) (v := sv ⟨0, 0, 0, 0, 0, ⟨#[]⟩, ⟨#[]⟩⟩) (W := wr) (fun W hW => by
              obtain ⟨t1, t2, t3⟩ := TT.out W (hbq.trans (hW.mono hbq.size))
              exact mjoin_any [] _ W (rds_nil _ _ _) (by simp [cat]) (by simp) t1 t2 t3)
            have hlt1 : (k : Int) < (k : Int) + 1 := by omega
            clear hM hcs hall m0 m1 m2 m3 m4 m5 m6
            go_wp2
            refine wp_region_quiet_below HM.out (by kernel_rfl) ?_
            repeat (quiet_step (fail))
            quiet_step (exact q1 _ _)
            repeat (quiet_step (fail))
            quiet_step (exact q2 _ _)
            repeat (quiet_step (fail))
            quiet_step (exact q3 _ _)
            repeat (quiet_step (fail))
            refine wpQuiet_nil ?_
            intro _ hw'
            obtain ⟨⟨dq, osq⟩, hw''⟩ := hw'
            subst hw''
            have HB3 : Hid (Below w.heap.size w (grow (redrawn wr dq) osq)) := hbq.trans ((below_regrown wr dq osq).mono hbq.size)
            go_wp2
            go_ret
            exact ⟨rfl, HB3.out⟩

theorem walk_of {H : Type} {d : DataW H} (a0 : Option Addr) (len cap : Nat) (w : World) (hT : Lib.Utf8Tabs 1 2 w) (hlo0 : 1 < w.heap.size) (hlo1 : 2 < w.heap.size) (ss : List ByteArray) (hS : Texts w a0 len ss) (hu : len ≤ Rows.uptoBulk d ∧ ∀ s ∈ ss, s.size ≤ Rows.uptoBulk d) (hk : Rows.uptoSmall H ([d] ++ []) = true) :
    Calls Tryd.prog 5 #[.slice a0 len cap] w fun e w' => e = .returned (.bool true) ∧ Below w.heap.size w w' := by
  have h : Rows.uptoBulkAll ([d] ++ []) ≤ 1048576 := of_decide_eq_true hk
  simp only [List.append_nil, Rows.uptoBulkAll] at h
  exact walk a0 len cap ss w hS (by omega) (fun s hs => by have := hu.2 s hs; omega) hT hlo0 hlo1
end Go.Proofs.YtdfemihjnempfaaDoor.metricJoins
