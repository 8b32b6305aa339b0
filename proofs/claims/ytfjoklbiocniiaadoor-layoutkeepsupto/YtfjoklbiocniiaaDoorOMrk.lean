/-
  The law's own marked: a mark of its own in each cell of each row. Conditions: at most 2^24 rows of at most 65535 cells each, in blocks of their own.
-/
import Derived.Test.YtfjoklbiocniiaaDoorOGrd
import Derived.Test.YtfjoklbiocniiaaDoorPkOC
namespace Go.Proofs.YtfjoklbiocniiaaDoor
open Go.RowKit Go.Shelf Bod Wid
/-- the marks of n cells, the first one behind b -/
def mks (b : Nat) : Nat → List Value
  | 0 => []
  | k + 1 => mks b k ++ [.string ⟨#[109, 97, 114, 107]⟩, .int .i64 ((b + k + 1 : Nat) : Int)]
theorem mks_len (b : Nat) : ∀ k, (mks b k).length = k * 2
  | 0 => rfl
  | k + 1 => by simp only [mks, List.length_append, mks_len b k, List.length_cons, List.length_nil]; omega
theorem mks_get (b : Nat) : ∀ {n k : Nat}, k < n → (mks b n)[k * 2]? = some (.string ⟨#[109, 97, 114, 107]⟩) ∧ (mks b n)[k * 2 + 1]? = some (.int .i64 ((b + k + 1 : Nat) : Int))
  | 0, k, h => by omega
  | n + 1, k, h => by
    have hl := mks_len b n
    by_cases e : k < n
    · have := mks_get b e
      simp only [mks]
      rw [List.getElem?_append_left (by omega), List.getElem?_append_left (by omega)]
      exact this
    · have : k = n := by omega
      subst this
      simp only [mks]
      rw [List.getElem?_append_right (by omega), List.getElem?_append_right (by omega), hl, Nat.sub_self, show k * 2 + 1 - k * 2 = 1 by omega]
      exact ⟨rfl, rfl⟩
theorem set_same {α : Type} : ∀ {l : List α} {i : Nat} {a : α}, l[i]? = some a → l.set i a = l
  | [], _, _, h => by simp at h
  | x :: l, 0, a, h => by have : x = a := by simpa using h
                          subst this; rfl
  | x :: l, i + 1, a, h => by rw [List.set_cons_succ, set_same (l := l) (by simpa using h)]
theorem take_two {α : Type} {l : List α} {j : Nat} {a b : α} (h0 : l[j]? = some a) (h1 : l[j + 1]? = some b) : l.take (j + 2) = l.take j ++ [a, b] := by
  rw [show j + 2 = j + 1 + 1 by omega, List.take_add_one, List.take_add_one, h0, h1]
  simp
theorem mks_next {X : List Value} {b k : Nat} (h : X.take (k * 2) = mks b k) (hl : k * 2 + 1 < X.length) : ((X.set (k * 2) (.string ⟨#[109, 97, 114, 107]⟩)).set (k * 2 + 1) (.int .i64 ((b + k + 1 : Nat) : Int))).take ((k + 1) * 2) = mks b (k + 1) := by
  rw [show (k + 1) * 2 = k * 2 + 2 by omega]
  have h0 : ((X.set (k * 2) (.string ⟨#[109, 97, 114, 107]⟩)).set (k * 2 + 1) (.int .i64 ((b + k + 1 : Nat) : Int)))[k * 2]? = some (.string ⟨#[109, 97, 114, 107]⟩) := by
    rw [List.getElem?_set_ne (by omega), List.getElem?_set_self (by omega)]
  have h1 : ((X.set (k * 2) (.string ⟨#[109, 97, 114, 107]⟩)).set (k * 2 + 1) (.int .i64 ((b + k + 1 : Nat) : Int)))[k * 2 + 1]? = some (.int .i64 ((b + k + 1 : Nat) : Int)) := by
    rw [List.getElem?_set_self (by rw [List.length_set]; omega)]
  rw [take_two h0 h1, List.take_set_of_le (by omega), List.take_set_of_le (by omega), h]
  rfl
/-- how many cells stand ahead of row i, and 1000 -/
def offN (ns : List Nat) (i : Nat) : Nat := 1000 + (ns.take i).sum
theorem offN_succ {ns : List Nat} {i n : Nat} (h : ns[i]? = some n) : offN ns (i + 1) = offN ns i + n := by
  unfold offN
  rw [List.take_add_one, h]
  simp [List.sum_append]
  omega
theorem sum_leO {ns : List Nat} {c : Nat} (h : ∀ n ∈ ns, n ≤ c) : ns.sum ≤ ns.length * c := by
  induction ns with
  | nil => simp
  | cons x l ih =>
    have h1 := h x List.mem_cons_self
    have h2 := ih (fun n hn => h n (List.mem_cons_of_mem _ hn))
    simp only [List.sum_cons, List.length_cons, Nat.add_mul, Nat.one_mul]
    omega
theorem offN_le {ns : List Nat} {i c : Nat} (h : ∀ n ∈ ns, n ≤ c) : offN ns i ≤ 1000 + ns.length * c := by
  unfold offN
  have h1 := sum_leO (ns := ns.take i) (c := c) (fun n hn => h n (List.mem_of_mem_take hn))
  have h2 : (ns.take i).length ≤ ns.length := by rw [List.length_take]; omega
  have := Nat.mul_le_mul_right c h2
  omega
theorem row_putQ {W : World} {base n c k g i : Nat} {e : TypeId} {u : Value} {xs : List Value} (h : W.ownsRow base e c (.slice (some ⟨g, 0, none⟩) n k) n xs) : (W.setCell ⟨g, i, none⟩ u).ownsRow base e c (.slice (some ⟨g, 0, none⟩) n k) n (xs.set i u) := by
  obtain ⟨hl, h⟩ := h
  refine ⟨by rw [List.length_set]; exact hl, ?_⟩
  rcases h with ⟨h1, _⟩ | ⟨g', cap, cur, h1, h2, h3, h4, h5, h6, h7⟩
  · cases h1
  · obtain ⟨e, _, rfl⟩ := Value.slice.inj h1
    cases e
    refine .inr ⟨g, k, _, rfl, h2, set1 _ h3, h4, h5, by simpa using h6, ?_⟩
    rw [← h7, Array.toList_setIfInBounds, List.take_set]
/-- rows in blocks of their own, what they hold; all else of V is as it was -/
structure Mw (w V : World) (vs : List Value) (ns : List Nat) (X : Nat → List Value) (Y : World) : Prop where
  bel : Below w.heap.size w Y
  size : V.heap.size ≤ Y.heap.size
  keep : ∀ k, k < V.heap.size → (∀ v ∈ vs, v.ownBlock ≠ some k) → Y.heap[k]? = V.heap[k]?
  rows : ∀ (i : Nat) v n, vs[i]? = some v → ns[i]? = some n → Y.ownsRow w.heap.size 42 2 v n (X i)
def updX (X : Nat → List Value) (i : Nat) (l : List Value) : Nat → List Value := fun j => if j = i then l else X j
/-- no two rows lie in one block -/
def Dis (vs : List Value) : Prop := ∀ (i j : Nat) v v' g, vs[i]? = some v → vs[j]? = some v' → i ≠ j → v.ownBlock = some g → v'.ownBlock ≠ some g
theorem Mw.put {w V Y : World} {vs : List Value} {ns : List Nat} {X : Nat → List Value} {i k g n c : Nat} (h : Mw w V vs ns X Y) (hd : Dis vs) (hv : vs[i]? = some (.slice (some ⟨g, 0, none⟩) n c)) (hn : ns[i]? = some n) (u0 u1 : Value) : Mw w V vs ns (updX X i (((X i).set (k * 2) u0).set (k * 2 + 1) u1)) ((Y.setCell ⟨g, k * 2, none⟩ u0).setCell ⟨g, k * 2 + 1, none⟩ u1) := by
  have hr := h.rows i _ n hv hn
  have hg := (own_blkO hr (g := g) rfl).2
  have g2 := (gcell Y g (k * 2) u0).trans (gcell _ g (k * 2 + 1) u1)
  refine ⟨(h.bel.setCell (p := ⟨g, k * 2, none⟩) hg.1 _).setCell (p := ⟨g, k * 2 + 1, none⟩) hg.1 _, Nat.le_trans h.size g2.size, fun b hb hne => (g2.block b (Nat.lt_of_lt_of_le hb h.size) (fun e => hne _ (List.mem_of_getElem? hv) (by cases e; rfl))).trans (h.keep b hb hne), fun j v m h1 h2 => ?_⟩
  by_cases e : j = i
  · subst e
    rw [hv] at h1
    obtain rfl := Option.some.inj h1
    rw [hn] at h2
    obtain rfl := Option.some.inj h2
    unfold updX
    rw [if_pos rfl]
    exact row_putQ (row_putQ hr)
  · unfold updX
    rw [if_neg e]
    exact own_farO (h.rows j v m h1 h2) g2 (fun b e1 e2 => by cases e2; exact hd i j _ v g hv h1 (fun q => e q.symm) rfl e1)
/-- the state between two cells -/
def Mk (w V : World) (vs : List Value) (ns : List Nat) (look : Bool) (i k : Nat) (Y : World) : Prop :=
  ∃ X, Mw w V vs ns X Y ∧ (∀ i' n', i' < i → ns[i']? = some n' → X i' = mks (offN ns i') n') ∧ (X i).take (k * 2) = mks (offN ns i) k ∧ (look = true → ∀ (i' : Nat) n', ns[i']? = some n' → X i' = mks (offN ns i') n')
theorem Mk.row {w V Y : World} {vs : List Value} {ns : List Nat} {look : Bool} {i k n : Nat} {v : Value} (h : Mk w V vs ns look i k Y) (hv : vs[i]? = some v) (hn : ns[i]? = some n) (hk : k < n) : ∃ g c, v = .slice (some ⟨g, 0, none⟩) n c ∧ (∃ u0 u1, Y.cell? ⟨g, k * 2, none⟩ = some u0 ∧ Y.cell? ⟨g, k * 2 + 1, none⟩ = some u1 ∧ (look = true → u1 = .int .i64 ((offN ns i + k + 1 : Nat) : Int))) ∧ Y.frozen? ⟨g, k * 2, none⟩ = false ∧ Y.frozen? ⟨g, k * 2 + 1, none⟩ = false := by
  obtain ⟨X, hX, -, -, hl⟩ := h
  have hr := hX.rows i v n hv hn
  obtain ⟨g, c, rfl, -, -⟩ := hr.form (by omega)
  obtain ⟨⟨cur, hc⟩, -⟩ := own_blkO hr (g := g) rfl
  have hlen := hr.1
  refine ⟨g, c, rfl, ⟨_, _, (hr.cellAt (k * 2) (by omega)).trans (List.getElem?_eq_getElem (by omega)), (hr.cellAt (k * 2 + 1) (by omega)).trans (List.getElem?_eq_getElem (by omega)), fun e => ?_⟩, by simp [World.frozen?, hc], by simp [World.frozen?, hc]⟩
  have h2 := (mks_get (offN ns i) hk).2
  rw [← hl e i n hn] at h2
  exact (List.getElem?_eq_some_iff.1 h2).2
theorem Mk.put {w V Y : World} {vs : List Value} {ns : List Nat} {look : Bool} {i k n g c : Nat} (h : Mk w V vs ns look i k Y) (hd : Dis vs) (hv : vs[i]? = some (.slice (some ⟨g, 0, none⟩) n c)) (hn : ns[i]? = some n) (hk : k < n) : Mk w V vs ns look i (k + 1) ((Y.setCell ⟨g, k * 2, none⟩ (.string ⟨#[109, 97, 114, 107]⟩)).setCell ⟨g, k * 2 + 1, none⟩ (.int .i64 ((offN ns i + k + 1 : Nat) : Int))) := by
  obtain ⟨X, hX, h1, h2, h3⟩ := h
  have hlen := (hX.rows i _ n hv hn).1
  refine ⟨_, hX.put hd hv hn _ _, fun i' n' hi' hn' => ?_, ?_, fun e i' n' hn' => ?_⟩
  · unfold updX; rw [if_neg (by omega)]; exact h1 i' n' hi' hn'
  · unfold updX; rw [if_pos rfl]; exact mks_next h2 (by omega)
  · unfold updX
    split
    · rename_i e2
      subst e2
      rw [hn] at hn'
      obtain rfl := Option.some.inj hn'
      rw [h3 e i' n hn]
      obtain ⟨m0, m1⟩ := mks_get (offN ns i') hk
      rw [set_same m0, set_same m1]
    · exact h3 e i' n' hn'
theorem Mk.turn {w V Y : World} {vs : List Value} {ns : List Nat} {look : Bool} {i n : Nat} {v : Value} (h : Mk w V vs ns look i n Y) (hv : vs[i]? = some v) (hn : ns[i]? = some n) : Mk w V vs ns look (i + 1) 0 Y := by
  obtain ⟨X, hX, h1, h2, h3⟩ := h
  have hlen := (hX.rows i v n hv hn).1
  refine ⟨X, hX, fun i' n' hi' hn' => ?_, by simp [mks], h3⟩
  by_cases e : i' = i
  · subst e
    rw [hn] at hn'
    obtain rfl := Option.some.inj hn'
    rw [← h2, List.take_of_length_le (by omega)]
  · exact h1 i' n' (by omega) hn'
set_option maxRecDepth 100000 in
set_option maxHeartbeats 2000000 in
theorem mark_any (look : Bool) {w V : World} {gr M kr : Nat} {vs : List Value} {ns : List Nat} (hvl : vs.length = M) (hnl : ns.length = M) (hM : M ≤ 16777216) (hns : ∀ n ∈ ns, n ≤ 65535) (hgr : gr < V.heap.size) (hgn : ∀ v ∈ vs, v.ownBlock ≠ some gr) (hc : ∀ (i : Nat) v, vs[i]? = some v → V.cell? ⟨gr, i, none⟩ = some v) (hd : Dis vs) (X : Nat → List Value) (hX : look = true → ∀ (i : Nat) n, ns[i]? = some n → X i = mks (offN ns i) n) (Y : World) (h : Mw w V vs ns X Y) :
    Calls Tryd.prog 15 #[.slice (some ⟨gr, 0, none⟩) M kr, .bool look] Y fun e Z => e = .returned (.bool true) ∧ Hid (∃ X', Mw w V vs ns X' Z ∧ ∀ (i : Nat) n, ns[i]? = some n → X' i = mks (offN ns i) n) := by
  have HS : Hid (Mk w V vs ns look 0 0 Y) := ⟨X, h, fun i' n' hi' => by omega, by simp [mks], hX⟩
  have HV : Hid (vs.length = M ∧ ns.length = M ∧ (∀ n ∈ ns, n ≤ 65535) ∧ Dis vs ∧ ∀ i, offN ns i ≤ 1099511600000) := ⟨hvl, hnl, hns, hd, fun i => by
    have h1 := offN_le (i := i) hns
    rw [hnl] at h1
    omega⟩
  have HC : Hid (∀ (i : Nat) v Z, vs[i]? = some v → (∃ X, Mw w V vs ns X Z) → Z.cell? ⟨gr, i, none⟩ = some v) := fun i v Z hv ⟨X, hZ⟩ => (World.cell?_of_block (a := ⟨gr, i, none⟩) (hZ.keep gr hgr hgn)).trans (hc i v hv)
  clear h hX hc hd hvl hnl hns hgr hgn X
  go_enter Tryd.func15, Tryd.ntmps15
  go_wp2
  go_loopw [5, 6] (fun t5 t6 wr => ∃ i : Nat, i ≤ M ∧ t6 = .int .i64 i ∧ t5 = .int .i64 (offN ns i : Int) ∧ Hid (Mk w V vs ns look i 0 wr)) (fun _ t6 _ => M - (intOf t6).toNat)
  case atStart => exact ⟨0, Nat.zero_le _, rfl, rfl, HS⟩
  case round =>
    obtain ⟨i, hi, rfl, rfl, HI⟩ := hrel
    clear HS
    by_cases hlt : i < M
    · obtain ⟨wo, hwo⟩ : ∃ wo, wo = wr := ⟨_, rfl⟩
      subst hwo
      obtain ⟨v, hv⟩ : ∃ v, vs[i]? = some v := ⟨vs[i]'(by rw [HV.out.1]; exact hlt), List.getElem?_eq_getElem _⟩
      obtain ⟨n, hn⟩ : ∃ n, ns[i]? = some n := ⟨ns[i]'(by rw [HV.out.2.1]; exact hlt), List.getElem?_eq_getElem _⟩
      have hvf : ∃ a c, v = .slice a n c := by obtain ⟨X, hX, -⟩ := HI.out; exact own_formO (hX.rows i v n hv hn)
      obtain ⟨a, c, rfl⟩ := hvf
      have HVN : Hid (vs[i]? = some (.slice a n c) ∧ ns[i]? = some n ∧ i < M) := ⟨hv, hn, hlt⟩
      have hb := HV.out.2.2.2.2 i
      have hn6 := HV.out.2.2.1 n (List.mem_of_getElem? hn)
      obtain ⟨b, hbb⟩ : ∃ b, offN ns i = b := ⟨_, rfl⟩
      have HBB : Hid (offN ns i = b ∧ offN ns (i + 1) = b + n) := ⟨hbb, by rw [offN_succ hn, hbb]⟩
      rw [hbb] at hb ⊢
      clear hv hn hbb
      go_wp2
      go_loopw [5, 7] (fun t5 t7 wr => ∃ k : Nat, k ≤ n ∧ t7 = .int .i64 k ∧ t5 = .int .i64 ((b : Int) + k) ∧ Hid (Mk w V vs ns look i k wr)) (fun _ t7 _ => n - (intOf t7).toNat)
      case atStart => exact ⟨0, Nat.zero_le _, rfl, by simp, HI⟩
      case round =>
        obtain ⟨k, hk, rfl, rfl, HK⟩ := hrel
        clear HI
        have hcr := HC.out i _ wr HVN.out.1 (by obtain ⟨X, hX, -⟩ := HK.out; exact ⟨X, hX⟩)
        by_cases hkn : k < n
        · obtain ⟨g, c', hvs, ⟨u0, u1, c0, c1, hu⟩, f0, f1⟩ := HK.out.row HVN.out.1 HVN.out.2.1 hkn
          obtain ⟨rfl, -, rfl⟩ := Value.slice.inj hvs
          have HK2 : Hid (Mk w V vs ns look i (k + 1) ((wr.setCell ⟨g, k * 2, none⟩ (.string ⟨#[109, 97, 114, 107]⟩)).setCell ⟨g, k * 2 + 1, none⟩ (.int .i64 ((b : Int) + k + 1)))) := by
            have := HK.out.put HV.out.2.2.2.1 HVN.out.1 HVN.out.2.1 hkn
            rw [HBB.out.1, show ((b + k + 1 : Nat) : Int) = (b : Int) + k + 1 by omega] at this
            exact this
          rw [HBB.out.1, show ((b + k + 1 : Nat) : Int) = (b : Int) + k + 1 by omega] at hu
          have hwb : wrap64 ((b : Int) + k + 1) = (b : Int) + k + 1 := by unfold wrap64; omega
          have HKN : Hid (k < n) := hkn
          clear HK hvs
          cases look with
          | false =>
            clear hu
            go_wp2
            exact ⟨⟨k + 1, by omega, by go_num, by go_num, HK2⟩, by simp [intOf]; omega⟩
          | true =>
            obtain rfl := hu rfl
            clear hu
            go_wp2
            exact ⟨⟨k + 1, by omega, by go_num, by go_num, HK2⟩, by simp [intOf]; omega⟩
        · have e : k = n := by omega
          subst e
          have HT : Hid (Mk w V vs ns look (i + 1) 0 wr) := HK.out.turn HVN.out.1 HVN.out.2.1
          have hw1 : (b : Int) + k = (offN ns (i + 1) : Int) := by rw [HBB.out.2]; omega
          have HW1 : Hid ((b : Int) + k = (offN ns (i + 1) : Int)) := hw1
          clear HK hw1
          go_wp2
          rw [HW1.out]
          exact ⟨⟨i + 1, by have := HVN.out.2.2; omega, by go_num, rfl, HT⟩, by have := HVN.out.2.2; simp [intOf]; omega⟩
    · have e : i = M := by omega
      subst e
      obtain ⟨X, hX, h1, -, -⟩ := HI.out
      have HF : Hid (∃ X', Mw w V vs ns X' wr ∧ ∀ (i : Nat) n, ns[i]? = some n → X' i = mks (offN ns i) n) := ⟨X, hX, fun i' n' hn' => h1 i' n' (by have := (List.getElem?_eq_some_iff.1 hn').1; have := HV.out.2.1; omega) hn'⟩
      clear hX h1
      go_wp2
      go_ret
      exact ⟨rfl, HF⟩
end Go.Proofs.YtfjoklbiocniiaaDoor
