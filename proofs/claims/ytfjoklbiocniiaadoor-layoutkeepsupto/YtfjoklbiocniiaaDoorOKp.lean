/-
  An append to a row of the call's own leaves what the row held; rows that grow one by one. Conditions: those of each theorem.
-/
import Derived.Maps.AppendAt
import Derived.Test.YtfjoklbiocniiaaDoorOMrk
namespace Go.Proofs.YtfjoklbiocniiaaDoor
open Go.RowKit Go.Shelf Bod Wid
theorem own_pre {W : World} {base n n' c k : Nat} {e : TypeId} {a : Option Addr} {xs : List Value} (h : W.ownsRow base e c (.slice a n k) n xs) (hn : n' ≤ n) : W.ownsRow base e c (.slice a n' k) n' (xs.take (n' * c)) := by
  have hm := Nat.mul_le_mul_right c hn
  refine ⟨by rw [List.length_take, h.1]; omega, ?_⟩
  rcases h.2 with ⟨h0, h1⟩ | ⟨g, cap, cur, hv, hb, hg, hnc, hcm, hcs, ht⟩
  · obtain ⟨rfl, rfl, rfl⟩ := Value.slice.inj h0
    have : n' = 0 := by omega
    subst this
    exact .inl ⟨rfl, rfl⟩
  · obtain ⟨rfl, -, rfl⟩ := Value.slice.inj hv
    refine .inr ⟨g, k, cur, rfl, hb, hg, by omega, hcm, hcs, ?_⟩
    rw [← ht, List.take_take, Nat.min_eq_left hm]
/-- the append is done in place, or in a new block and nothing else is changed -/
theorem run_append_keep {P : Program} {w : World} (base : Nat) (t ty e : TypeId) (i : TypeInfo) (z : Value) (size bytes : Nat) (ht : P.underlying t = some (.slice e)) (hi : P.info? e = some i) (hz : i.zero = some z)
    (hsize : i.size = size) (hby : i.bytes = bytes) (hzs : z.cells.size = size) (hsz : 0 < size)
    (v : Value) (n : Nat) (xs : List Value) (hown : w.ownsRow base e size v n xs)
    (a : Addr) (m c : Nat) (news : List Value) (hl : news.length = m * size) (hnews : ∀ j u, news[j]? = some u → w.cell? (a.add j) = some u) (h1 : ∀ u ∈ news, u.oneCell' = true)
    (h63 : n + m ≤ maxLen) (hbytes : (n + m) * bytes ≤ 140737488355328) (hbase : base ≤ w.heap.size) (hm : 0 < m) :
    ∃ v' w', (Builtin.append_ #[t, t] ty #[v, .slice (some a) m c]).run P w = .ok v' w' ∧ w'.ownsRow base e size v' (n + m) (xs ++ news) ∧ w.grownBy w' v.ownBlock ∧
      ((∃ a' c', v = .slice a' n c' ∧ v' = .slice a' (n + m) c' ∧ v'.ownBlock = v.ownBlock ∧ (v.ownBlock = none → False)) ∨ (w.grownBy w' none ∧ v'.ownBlock = some w.heap.size)) := by
  subst hsize
  subst hby
  have hsmall : n + m ≤ 9223372036854775807 := by simp only [maxLen] at h63; omega
  have hlen : (xs ++ news).length = (n + m) * i.size := by rw [List.length_append, hown.1, hl, Nat.add_mul]
  have grown : ∀ (old : Nat), old < n + m → ∀ (row : Option Nat),
      (w.drew.alloc (.cells (xs.toArray ++ news.toArray ++ Builtin.zeroCells z.cells (grownCap w (n + m) old e - (n + m))) e)).ownsRow base e i.size
        (.slice (some ⟨w.heap.size, 0, none⟩) (n + m) (grownCap w (n + m) old e)) (n + m) (xs ++ news) ∧
      w.grownBy (w.drew.alloc (.cells (xs.toArray ++ news.toArray ++ Builtin.zeroCells z.cells (grownCap w (n + m) old e - (n + m))) e)) row := by
    intro old ho row
    have hge := grownCap_ge w (n + m) old e
    have hcm : grownCap w (n + m) old e ≤ maxLen := grownCap_le_maxLen w (n + m) old e h63
    refine ⟨⟨hlen, .inr ⟨w.heap.size, _, _, rfl, hbase, heap_alloc_new w.drew _, hge, hcm, ?_, ?_⟩⟩, ⟨rfl, rfl, rfl, by simp, fun k hk _ => Below.heap_alloc w.drew _ k hk⟩⟩
    · simp only [Array.size_append, List.size_toArray, size_zeroCells, hzs, hown.1, hl, ← Nat.add_mul]
      congr 1
      omega
    · simp only [Array.toList_append, List.append_assoc]
      rw [← List.append_assoc, ← hlen]
      exact List.take_left
  rcases hown.2 with ⟨rfl, rfl⟩ | ⟨g, cap, cur, rfl, hbg, hg, hnc, hcm, hcs, htake⟩
  · have hx : xs = [] := List.eq_nil_of_length_eq_zero (by simpa using hown.1)
    subst hx
    have hr := Go.run_append_nil (P := P) w t ty e i z ht hi hz a m c news hl hnews (by omega) (by omega) (by have hb := hbytes; simp only [Nat.zero_add] at hb; omega)
    have hgr := grown 0 (by omega) (Value.ownBlock (.slice none 0 0))
    have hgn := grown 0 (by omega) none
    simp only [Nat.zero_add, List.nil_append, Array.empty_append] at hgr hgn ⊢
    exact ⟨_, _, hr, hgr.1, hgr.2, .inr ⟨hgn.2, rfl⟩⟩
  · by_cases hroom : n + m ≤ cap
    · have hfit : n * i.size + news.length ≤ cur.size := by rw [hl, hcs, ← Nat.add_mul]; exact Nat.mul_le_mul_right _ hroom
      have hr := run_append_room (P := P) w t ty e i ht hi g n cap cur hg a m c news hl hnews h1 hroom hfit
      refine ⟨_, _, hr, ⟨hlen, .inr ⟨g, cap, _, rfl, hbg, setRow_heap w g cur _ e _ hg, hroom, hcm, ?_, ?_⟩⟩, ⟨rfl, rfl, rfl, by simp, fun k _ hk => setRow_other w g k _ (fun e => hk (by simp [Value.ownBlock, e]))⟩, .inl ⟨_, _, rfl, rfl, rfl, fun h => by cases h⟩⟩
      · simp only [List.size_toArray, List.length_append, List.length_take, List.length_drop, Array.length_toList]
        omega
      · rw [htake, ← hlen]
        exact List.take_left
    · have holds : ∀ j u, xs[j]? = some u → w.cell? ((⟨g, 0, none⟩ : Addr).add j) = some u := hown.cells (g := g) rfl
      have hr := run_append_grow (P := P) w t ty e i z ht hi hz ⟨g, 0, none⟩ n cap xs hown.1 holds a m c news hl hnews (by omega) (by omega) (growslice_fits (by omega) hbytes)
      have hgr := grown cap (by omega) (Value.ownBlock (.slice (some ⟨g, 0, none⟩) n cap))
      have hgn := grown cap (by omega) none
      exact ⟨_, _, hr, hgr.1, hgr.2, .inr ⟨hgn.2, rfl⟩⟩
/-- all rows are marked -/
def Mx (w V : World) (vs : List Value) (ns : List Nat) (Y : World) : Prop := ∃ X, Mw w V vs ns X Y ∧ ∀ (i : Nat) n, ns[i]? = some n → X i = mks (offN ns i) n
/-- row i, grown by j cells -/
structure Gs (w V : World) (vs : List Value) (ns : List Nat) (a : Option Addr) (n c b j : Nat) (t : Value) (Y : World) : Prop where
  mx : Mx w V vs ns Y
  own : ∃ xs, Y.ownsRow w.heap.size 42 2 t (n + j) xs ∧ ((t = .slice a (n + j) c ∧ xs.take (n * 2) = mks b n) ∨ (∃ g, t.ownBlock = some g ∧ V.heap.size ≤ g))
/-- what nothing of the rows is in may change -/
theorem Mx.far {w V Y Z : World} {vs : List Value} {ns : List Nat} {row : Option Nat} (h : Mx w V vs ns Y) (hw : w.heap.size ≤ V.heap.size) (hvb : ∀ v ∈ vs, ∀ g, v.ownBlock = some g → g < V.heap.size) (hg : Y.grownBy Z row) (hr : ∀ g, row = some g → V.heap.size ≤ g) : Mx w V vs ns Z := by
  obtain ⟨X, hX, h1⟩ := h
  refine ⟨X, ⟨hX.bel.grown hg (by have := hX.size; omega) (fun g e => by have := hr g e; omega), Nat.le_trans hX.size hg.size, fun k hk hne => (hg.block k (Nat.lt_of_lt_of_le hk hX.size) (fun e => by have := hr k e.symm; omega)).trans (hX.keep k hk hne), fun i v n hv hn => own_farO (hX.rows i v n hv hn) hg (fun g e1 e2 => by have := hr g e2; have := hvb v (List.mem_of_getElem? hv) g e1; omega)⟩, h1⟩
theorem Gs.app {w V Y : World} {vs : List Value} {ns : List Nat} {a : Option Addr} {i n c j : Nat} {t : Value} (h : Gs w V vs ns a n c (offN ns i) j t Y) (hw : w.heap.size ≤ V.heap.size) (hvb : ∀ v ∈ vs, ∀ g, v.ownBlock = some g → g < V.heap.size) (hd : Dis vs) (hv : vs[i]? = some (.slice a n c)) (hn : ns[i]? = some n) (u0 u1 : Value) (h0 : u0.oneCell') (h1 : u1.oneCell') (hnj : n + j ≤ 1073741824) :
    ∃ v3 w3, (Builtin.append_ #[40, 40] 40 #[t, .slice (some ⟨Y.heap.size, 0, none⟩) 1 1]).run Tryd.prog (Y.alloc (.cells #[u0, u1] 42)) = .ok v3 w3 ∧ Gs w V vs ns a n c (offN ns i) (j + 1) v3 w3 := by
  obtain ⟨i0, hi0, hz0, hz1, hz2⟩ := info_parts infoCE
  obtain ⟨hmx, xs, hown, halt⟩ := h
  have hgA : Y.grownBy (Y.alloc (.cells #[u0, u1] 42)) none := World.grownBy_alloc _ _ none
  have hsY : V.heap.size ≤ Y.heap.size := by obtain ⟨X, hX, -⟩ := hmx; exact hX.size
  have hmx1 := hmx.far hw hvb hgA (fun g e => by cases e)
  have hown1 := hown.alloc (.cells #[u0, u1] 42)
  obtain ⟨v3, w3, hrun, h2, h3, h5⟩ := run_append_keep (P := Tryd.prog) (w := Y.alloc (.cells #[u0, u1] 42)) w.heap.size 40 40 42 i0 (.agg #[.string ⟨#[]⟩, .int .i64 0]) 2 24 Tryd.underlying40 hi0 hz0 hz1 hz2 rfl (by omega) t (n + j) xs hown1 ⟨Y.heap.size, 0, none⟩ 1 1 [u0, u1] rfl (fun j u hu => by
    match j, hu with
    | 0, hu => obtain rfl := Option.some.inj hu; simp [Addr.add]
    | 1, hu => obtain rfl := Option.some.inj hu; simp [Addr.add]
    | j + 2, hu => simp at hu) (by intro u hu; simp at hu; rcases hu with rfl | rfl; exact h0; exact h1) (by unfold maxLen; omega) (by omega) (by simp; omega) (by omega)
  refine ⟨v3, w3, hrun, ?_, _, h2, ?_⟩
  · rcases h5 with ⟨a', c', e1, e2, e3, hnn⟩ | ⟨hg, -⟩
    · rcases halt with ⟨e4, hxs⟩ | ⟨g, e4, hgV⟩
      · -- in the row's own block
        rw [e4] at e1
        obtain ⟨rfl, -, rfl⟩ := Value.slice.inj e1
        subst e2
        obtain ⟨X, hX, hall⟩ := hmx1
        have hlx := hown.1
        have hob : t.ownBlock = (Value.slice a n c).ownBlock := by rw [e4]; cases a <;> rfl
        refine ⟨X, ⟨hX.bel.grown h3 (by have := hX.size; omega) (fun g e => (own_blkO hown1 e).2.1), Nat.le_trans hX.size h3.size, fun k hk hne => (h3.block k (Nat.lt_of_lt_of_le hk hX.size) (fun e => hne _ (List.mem_of_getElem? hv) (by rw [← hob]; exact e.symm))).trans (hX.keep k hk hne), fun i' v n' hv' hn' => ?_⟩, hall⟩
        by_cases e : i' = i
        · subst e
          rw [hv] at hv'
          obtain rfl := Option.some.inj hv'
          rw [hn] at hn'
          obtain rfl := Option.some.inj hn'
          have := own_pre (n' := n) h2 (by omega)
          rw [List.take_append_of_le_length (by omega), hxs, ← hall i' n hn] at this
          exact this
        · exact own_farO (hX.rows i' v n' hv' hn') h3 (fun g e1 e2 => hd i i' _ v g hv hv' (fun q => e q.symm) (by rw [← hob]; exact e2) e1)
      · exact hmx1.far hw hvb h3 (fun g' e => by rw [e4] at e; cases e; exact hgV)
    · exact hmx1.far hw hvb hg (fun g e => by cases e)
  · rcases h5 with ⟨a', c', e1, e2, e3, hnn⟩ | ⟨-, hnb⟩
    · rcases halt with ⟨e4, hxs⟩ | ⟨g, e4, hgV⟩
      · rw [e4] at e1
        obtain ⟨rfl, -, rfl⟩ := Value.slice.inj e1
        refine .inl ⟨by rw [e2, Nat.add_assoc], ?_⟩
        have hlx := hown.1
        rw [List.take_append_of_le_length (by omega), hxs]
      · exact .inr ⟨g, by rw [e3, e4], hgV⟩
    · exact .inr ⟨_, hnb, by simp; omega⟩
end Go.Proofs.YtfjoklbiocniiaaDoor
