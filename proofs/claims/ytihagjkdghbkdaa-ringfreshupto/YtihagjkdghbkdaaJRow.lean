/-
  Rows of texts as they lie in memory: how one is laid ahead of them, how they are cut; strings.Clone. Conditions: those of each theorem.
-/
import Derived.Test.YtihagjkdghbkdaaRows
import Derived.Test.YtihagjkdghbkdaaShelf
import Derived.WalkKit
import Derived.WalkLawsBesides
import Derived.WalkSpells
import Derived.OwnWalk
import Derived.RangeFuncRecord
import Derived.Laws.AppendOwnNone
import Derived.Shelf.Spec.SlicesInsertGrow
import Derived.Shelf.Slices.Delete
import Derived.Sort.OwnSorted
namespace Go.Proofs.Ytihagjkdghbkdaa
open Go.RowKit

abbrev Tl := List ByteArray
/-- texts as values -/
def sv (l : Tl) : List Value := l.map Value.string
theorem sv_len (l : Tl) : (sv l).length = l.length := List.length_map ..
theorem sv_get {l : Tl} {k : Nat} {s : ByteArray} (h : l[k]? = some s) : (sv l)[k]? = some (.string s) := by simp [sv, h]
theorem sv_app (l m : Tl) : sv (l ++ m) = sv l ++ sv m := List.map_append ..
theorem sv_take (l : Tl) (n : Nat) : sv (l.take n) = (sv l).take n := List.map_take ..

theorem set1 {W : World} {b i : Nat} {vs : Array Value} {t : TypeId} {fz : Nat × Nat} (u : Value) (h : W.heap[b]? = some (.cells vs t fz)) : (W.setCell ⟨b, i, none⟩ u).heap[b]? = some (.cells (vs.setIfInBounds i u) t fz) := by
  unfold World.setCell
  show (W.heap.modify b _)[b]? = _
  rw [Array.getElem?_modify, if_pos rfl, h]
  rfl
theorem gcell (W : World) (b i : Nat) (u : Value) : W.grownBy (W.setCell ⟨b, i, none⟩ u) (some b) :=
  ⟨rfl, rfl, rfl, by simp [World.setCell], fun k _ hne => by unfold World.setCell; simp only; rw [Array.getElem?_modify, if_neg (fun e => hne (by rw [e]))]⟩
theorem grown0 (W : World) (r : Option Nat) : W.grownBy W r := ⟨rfl, rfl, rfl, Nat.le_refl _, fun _ _ _ => rfl⟩
theorem grown2 {A B C : World} {r : Option Nat} (h : A.grownBy B r) (g : B.grownBy C r) : A.grownBy C r :=
  ⟨g.os.trans h.os, g.tape.trans h.tape, g.output.trans h.output, Nat.le_trans h.size g.size, fun k hk hne => (g.block k (Nat.lt_of_lt_of_le hk h.size) hne).trans (h.block k hk hne)⟩
theorem heap_lay {b : Nat} {t : TypeId} {fz : Nat × Nat} : ∀ (vs : List Value) (o : Nat) {W : World} {cur : Array Value}, W.heap[b]? = some (.cells cur t fz) → (W.setCells b o vs).heap[b]? = some (.cells (Lib.lay cur o vs) t fz)
  | [], _, _, _, h => h
  | v :: r, o, _, _, h => heap_lay r (o + 1) (set1 v h)
theorem grown_lay {b : Nat} : ∀ (vs : List Value) (o : Nat) (W : World), W.grownBy (W.setCells b o vs) (some b)
  | [], _, W => grown0 W _
  | v :: r, o, W => grown2 (gcell W b o v) (grown_lay r (o + 1) _)
theorem lay_ins {cur : Array Value} {x : Value} {cs : List Value} (h : cs.length + 1 ≤ cur.size) : (Lib.lay (Lib.lay cur 1 cs) 0 [x]).toList.take (cs.length + 1) = x :: cs := by
  apply List.ext_getElem?
  intro j
  by_cases hj : j < cs.length + 1
  · rw [List.getElem?_take_of_lt hj, Array.getElem?_toList, Lib.lay_get? _ _ _ _ (by rw [Lib.lay_size]; simp; omega), Lib.lay_get? _ _ _ _ (by omega)]
    cases j with
    | zero => simp
    | succ j => rw [if_neg (by simp), if_pos (by omega)]; simp
  · rw [List.getElem?_take_eq_none (by omega), List.getElem?_eq_none (by simp; omega)]
theorem lay_ins' {cur : Array Value} {x : Value} {cs : List Value} (h : cs.length + 1 ≤ cur.size) : (Lib.lay (Lib.lay cur 0 [x]) 1 cs).toList.take (cs.length + 1) = x :: cs := by
  apply List.ext_getElem?
  intro j
  by_cases hj : j < cs.length + 1
  · rw [List.getElem?_take_of_lt hj, Array.getElem?_toList, Lib.lay_get? _ _ _ _ (by rw [Lib.lay_size]; omega), Lib.lay_get? _ _ _ _ (by simp; omega)]
    cases j with
    | zero => simp
    | succ j => rw [if_pos (by omega)]; simp
  · rw [List.getElem?_take_eq_none (by omega), List.getElem?_eq_none (by simp; omega)]

theorem row_slice {W : World} {base c n : Nat} {e : TypeId} {v : Value} {xs : List Value} (h : W.ownsRow base e c v n xs) : ∃ a k, v = .slice a n k ∧ (a = none → k = 0) := by
  rcases h.2 with ⟨rfl, rfl⟩ | ⟨g, cap, cur, rfl, _⟩
  · exact ⟨_, _, rfl, fun _ => rfl⟩
  · exact ⟨_, _, rfl, fun e => by cases e⟩
theorem row_below {W W' : World} {base c n : Nat} {e : TypeId} {v : Value} {xs : List Value} (h : W.ownsRow base e c v n xs) (hb : Below W.heap.size W W') : W'.ownsRow base e c v n xs :=
  ⟨h.1, h.2.imp id (fun ⟨g, cap, cur, h1, h2, h3, h4⟩ => ⟨g, cap, cur, h1, h2, (hb.block g (Array.getElem?_eq_some_iff.1 h3).1).trans h3, h4⟩)⟩
theorem row_base {W : World} {base base' c n : Nat} {e : TypeId} {v : Value} {xs : List Value} (h : W.ownsRow base e c v n xs) (hb : base' ≤ base) : W.ownsRow base' e c v n xs :=
  ⟨h.1, h.2.imp id (fun ⟨g, cap, cur, h1, h2, h3⟩ => ⟨g, cap, cur, h1, by omega, h3⟩)⟩
theorem row_blk {W : World} {base c n g : Nat} {e : TypeId} {v : Value} {xs : List Value} (h : W.ownsRow base e c v n xs) (hg : v.ownBlock = some g) : (∃ cur, W.heap[g]? = some (.cells cur e (0, 0))) ∧ base ≤ g ∧ g < W.heap.size := by
  have hl := h.lt g hg
  rcases h.2 with ⟨rfl, _⟩ | ⟨g', cap, cur, rfl, hb, hc, _⟩
  · cases hg
  · cases hg; exact ⟨⟨cur, hc⟩, hl⟩
theorem row_cut {W : World} {base c n m cap : Nat} {a : Option Addr} {e : TypeId} {xs : List Value} (h : W.ownsRow base e c (.slice a n cap) n xs) (hm : m ≤ n) (h0 : a ≠ none) : W.ownsRow base e c (.slice a m cap) m (xs.take (m * c)) := by
  obtain ⟨hl, h⟩ := h
  rcases h with ⟨h1, _⟩ | ⟨g, cap', cur, h1, h2, h3, h4, h5, h6, h7⟩
  · cases h1; exact absurd rfl h0
  · obtain ⟨rfl, _, rfl⟩ := Value.slice.inj h1
    have hmc : m * c ≤ n * c := Nat.mul_le_mul_right _ hm
    refine ⟨by rw [List.length_take, hl]; omega, .inr ⟨g, cap, cur, rfl, h2, h3, by omega, h5, h6, ?_⟩⟩
    rw [← h7, List.take_take, Nat.min_eq_left hmc]
/-- a new row at the heap's end -/
theorem row_new {W : World} {base n G : Nat} {xs : List Value} {R : Array Value} (hb : base ≤ W.heap.size) (hs : R.size = G) (hl : xs.length = n) (hG : n ≤ G) (hm : G ≤ maxLen) (ht : R.toList.take n = xs) (hW : W.heap.size = W.heap.size) (W' : World) (hc : W'.heap[W.heap.size]? = some (.cells R 9 (0, 0))) :
    W'.ownsRow base 9 1 (.slice (some ⟨W.heap.size, 0, none⟩) n G) n xs := by
  have := hW
  exact ⟨by omega, .inr ⟨_, G, R, rfl, hb, hc, hG, hm, by omega, by rw [Nat.mul_one]; exact ht⟩⟩

theorem zc_size (n : Nat) : (Builtin.zeroCells (Value.string ⟨#[]⟩).cells n).size = n := by rw [size_zeroCells]; simp [Value.cells]
theorem cells_of {W : World} {g : Nat} {cur : Array Value} {t : TypeId} {n : Nat} {xs : List Value} (hc : W.heap[g]? = some (.cells cur t (0, 0))) (ht : cur.toList.take n = xs) : ∀ j u, xs[j]? = some u → W.cell? ⟨g, 0 + j, none⟩ = some u := by
  intro j u hu
  rw [← ht] at hu
  have hj : j < n := by
    rcases Nat.lt_or_ge j n with h | h
    · exact h
    · rw [List.getElem?_take_eq_none h] at hu; cases hu
  rw [List.getElem?_take_of_lt hj, Array.getElem?_toList] at hu
  simp [World.cell?, hc, hu]
theorem there_of {W : World} {g j : Nat} {cur : Array Value} {t : TypeId} (hc : W.heap[g]? = some (.cells cur t (0, 0))) (hj : j < cur.size) : (W.cell? ⟨g, j, none⟩).isSome = true := by simp [World.cell?, hc, hj]
theorem frozen_of {W : World} {g j : Nat} {cur : Array Value} {t : TypeId} (hc : W.heap[g]? = some (.cells cur t (0, 0))) : W.frozen? ⟨g, j, none⟩ = false := by simp [World.frozen?, hc]

/-- a text laid ahead of a row of texts -/
theorem ins_any {W : World} {base vb : Nat} {v : Value} {l : Tl} {t : ByteArray} (h : W.ownsRow base 9 1 v l.length (sv l)) (hn : l.length ≤ 1048576) (hx : W.heap[vb]? = some (.cells #[.string t] 9 (0, 0))) (hv : v.ownBlock ≠ some vb) (hb : base ≤ W.heap.size) :
    Calls Try.prog 40 #[v, .int .i64 0, .slice (some ⟨vb, 0, none⟩) 1 1] W fun e w' => ∃ v', e = .returned v' ∧ w'.ownsRow base 9 1 v' (t :: l).length (sv (t :: l)) ∧ W.grownBy w' v.ownBlock ∧ (v'.ownBlock = v.ownBlock ∨ v'.ownBlock = some W.heap.size) := by
  have hvs : ∀ j u, [Value.string t][j]? = some u → W.cell? ⟨vb, 0 + j, none⟩ = some u := cells_of (n := 1) hx rfl
  have h1v : ∀ u ∈ [Value.string t], u.oneCell' = true := fun u hu => by simp at hu; subst hu; rfl
  have hgl : ∀ n c, n ≤ 1048577 → n ≤ grownCap W n c 9 ∧ grownCap W n c 9 ≤ maxLen := fun n c hn => ⟨grownCap_ge W _ _ _, grownCap_le_maxLen W _ _ _ (by unfold maxLen; omega)⟩
  rcases h.2 with ⟨rfl, h0⟩ | ⟨g, cap, cur, rfl, hg, hc, hle, hmx, hsz, htk⟩
  · have hl : l = [] := List.eq_nil_of_length_eq_zero h0
    subst hl
    obtain ⟨g1, g2⟩ := hgl 1 0 (by omega)
    refine (show Calls Try.prog 40 #[.slice none 0 0, .int .i64 0, .slice (some ⟨vb, 0, none⟩) 1 1] W _ from Any2.slices_Insert_string_end_grow Try.laysNm222 none 0 0 vb 0 1 1 [] [.string t] W (by omega) (by omega) (by omega) (by omega) rfl rfl (fun _ => rfl) (fun a e => by cases e) hvs h1v).mono ?_
    rintro e w' ⟨rfl, rfl⟩
    refine ⟨_, rfl, row_new hb ?_ rfl g1 g2 ?_ rfl _ (World.alloc_heap_new W.drew _), ⟨rfl, rfl, rfl, by simp [World.alloc], fun k hk _ => ?_⟩, .inr rfl⟩
    · show (_ ++ Builtin.zeroCells _ _ : Array Value).size = grownCap W 1 0 9
      rw [Array.size_append, zc_size]
      simp only [List.nil_append, List.size_toArray, List.length_cons, List.length_nil]
      show 0 + 1 + (grownCap W 1 0 9 - 1) = grownCap W 1 0 9
      omega
    · simp [sv]
    · exact (World.grownBy_alloc W.drew _ none).block k hk (by simp)
  · have hxl : (sv l).length = l.length := sv_len l
    have hne : g ≠ vb := fun e => hv (by rw [e]; rfl)
    have hcs := cells_of hc htk
    have hcz : cur.size = cap := by omega
    rcases Nat.lt_or_ge cap (l.length + 1) with hroom | hroom
    · -- no room: a new row
      obtain ⟨g1, g2⟩ := hgl (l.length + 1) cap (by omega)
      have hgw : g < W.heap.size := (Array.getElem?_eq_some_iff.1 hc).1
      cases l with
      | nil =>
        refine (show Calls Try.prog 40 #[.slice (some ⟨g, 0, none⟩) 0 cap, .int .i64 0, .slice (some ⟨vb, 0, none⟩) 1 1] W _ from Any2.slices_Insert_string_end_grow Try.laysNm222 (some ⟨g, 0, none⟩) 0 cap vb 0 1 1 [] [.string t] W (by omega) (by omega) hroom (by omega) rfl rfl (fun _ => rfl) (fun a e j u hu => by simp at hu) hvs h1v).mono ?_
        rintro e w' ⟨rfl, rfl⟩
        refine ⟨_, rfl, row_new hb ?_ rfl g1 g2 ?_ rfl _ (World.alloc_heap_new W.drew _), ⟨rfl, rfl, rfl, by simp [World.alloc], fun k hk _ => ?_⟩, .inr rfl⟩
        · show (_ ++ Builtin.zeroCells _ _ : Array Value).size = grownCap W 1 cap 9
          rw [Array.size_append, zc_size]
          simp only [List.nil_append, List.size_toArray, List.length_cons, List.length_nil]
          show 0 + 1 + (grownCap W 1 cap 9 - 1) = grownCap W 1 cap 9
          have : 1 ≤ grownCap W 1 cap 9 := g1
          omega
        · simp [sv]
        · exact (World.grownBy_alloc W.drew _ none).block k hk (by simp)
      | cons s l =>
        refine (show Calls Try.prog 40 #[.slice (some ⟨g, 0, none⟩) (s :: l).length cap, .int .i64 0, .slice (some ⟨vb, 0, none⟩) 1 1] W _ from Any2.slices_Insert_string_grow Try.laysNm222 g 0 (s :: l).length cap 0 vb 0 1 1 (sv (s :: l)) [.string t] W (by simp) (by omega) hle hroom (by omega) hxl rfl hcs hvs (fun u hu => by obtain ⟨x, _, rfl⟩ := List.mem_map.1 hu; rfl) h1v).mono ?_
        rintro e w' ⟨rfl, rfl⟩
        have hnew := World.alloc_heap_new W (.cells (((sv (s :: l)).take 0).toArray ++ Builtin.zeroCells (Value.string ⟨#[]⟩).cells ((s :: l).length + 1 - 0) ++ Builtin.zeroCells (Value.string ⟨#[]⟩).cells (grownCap W ((s :: l).length + 1) cap 9 - ((s :: l).length + 1))) 9)
        have hsz2 : (((sv (s :: l)).take 0).toArray ++ Builtin.zeroCells (Value.string ⟨#[]⟩).cells ((s :: l).length + 1 - 0) ++ Builtin.zeroCells (Value.string ⟨#[]⟩).cells (grownCap W ((s :: l).length + 1) cap 9 - ((s :: l).length + 1))).size = grownCap W ((s :: l).length + 1) cap 9 := by
          rw [Array.size_append, Array.size_append, zc_size, zc_size]
          simp only [List.take_zero, List.size_toArray, List.length_nil]
          omega
        have hsz3 := hsz2 ▸ (hxl.symm ▸ g1 : (sv (s :: l)).length + 1 ≤ grownCap W ((s :: l).length + 1) cap 9)
        refine ⟨_, rfl, row_new hb ?_ (by simp [sv]) g1 g2 (by have := lay_ins' (x := .string t) (cs := sv (s :: l)) hsz3; rw [hxl] at this; exact this) rfl _ (heap_lay _ _ (heap_lay _ _ hnew)), ?_, .inr rfl⟩
        · rw [Lib.lay_size, Lib.lay_size]; exact hsz2
        · have a1 := World.grownBy_alloc W (.cells (((sv (s :: l)).take 0).toArray ++ Builtin.zeroCells (Value.string ⟨#[]⟩).cells ((s :: l).length + 1 - 0) ++ Builtin.zeroCells (Value.string ⟨#[]⟩).cells (grownCap W ((s :: l).length + 1) cap 9 - ((s :: l).length + 1))) 9) (some W.heap.size)
          have a2 := grown_lay (b := W.heap.size) [.string t] 0 (W.alloc (.cells (((sv (s :: l)).take 0).toArray ++ Builtin.zeroCells (Value.string ⟨#[]⟩).cells ((s :: l).length + 1 - 0) ++ Builtin.zeroCells (Value.string ⟨#[]⟩).cells (grownCap W ((s :: l).length + 1) cap 9 - ((s :: l).length + 1))) 9)).drew
          have a3 := grown_lay (b := W.heap.size) (sv (s :: l)) 1 ((W.alloc (.cells (((sv (s :: l)).take 0).toArray ++ Builtin.zeroCells (Value.string ⟨#[]⟩).cells ((s :: l).length + 1 - 0) ++ Builtin.zeroCells (Value.string ⟨#[]⟩).cells (grownCap W ((s :: l).length + 1) cap 9 - ((s :: l).length + 1))) 9)).drew.setCells W.heap.size 0 [.string t]).drew
          have a4 := grown2 (⟨a1.os, a1.tape, a1.output, a1.size, a1.block⟩ : W.grownBy _ (some W.heap.size)) (grown2 (B := ((W.alloc (.cells (((sv (s :: l)).take 0).toArray ++ Builtin.zeroCells (Value.string ⟨#[]⟩).cells ((s :: l).length + 1 - 0) ++ Builtin.zeroCells (Value.string ⟨#[]⟩).cells (grownCap W ((s :: l).length + 1) cap 9 - ((s :: l).length + 1))) 9)).drew.setCells W.heap.size 0 [.string t]).drew) ⟨a2.os, a2.tape, a2.output, a2.size, a2.block⟩ a3)
          exact ⟨a4.os, a4.tape, a4.output, a4.size, fun k hk _ => a4.block k hk (fun e => by have := Option.some.inj e; omega)⟩
    · cases l with
      | nil =>
        refine (show Calls Try.prog 40 #[.slice (some ⟨g, 0, none⟩) 0 cap, .int .i64 0, .slice (some ⟨vb, 0, none⟩) 1 1] W _ from Any2.slices_Insert_string_end_room Try.laysNm222 g 0 0 cap vb 0 1 1 [.string t] W (by omega) hroom (by unfold maxLen at hmx; omega) rfl (fun j hj => there_of hc (by simp at hroom; omega)) (fun j _ => frozen_of hc) hvs h1v).mono ?_
        rintro e w' ⟨rfl, rfl⟩
        refine ⟨_, rfl, ⟨by simp [sv], .inr ⟨g, cap, _, rfl, hg, heap_lay _ _ hc, hroom, hmx, by rw [Lib.lay_size]; exact hsz, ?_⟩⟩, grown_lay _ _ _, .inl rfl⟩
        exact lay_ins' (cur := cur) (x := .string t) (cs := []) (by simp at hroom ⊢; omega)
      | cons s l =>
        refine (show Calls Try.prog 40 #[.slice (some ⟨g, 0, none⟩) (s :: l).length cap, .int .i64 0, .slice (some ⟨vb, 0, none⟩) 1 1] W _ from Any2.slices_Insert_string_shift Try.laysNm222 g 0 (s :: l).length cap 0 vb 0 1 1 (sv (s :: l)) [.string t] W (by simp) (by omega) hroom (by unfold maxLen at hmx; omega) (fun e => hne e.symm) hxl rfl hcs (fun j hj => there_of hc (by omega)) (fun j _ => frozen_of hc) hvs (fun u hu => by obtain ⟨x, _, rfl⟩ := List.mem_map.1 hu; rfl) h1v 9 9 1 cap (by simp [World.shape?, hx]) (by simp [World.shape?, hc, hcz]) (by omega) (frozen_of hx) (frozen_of hx)).mono ?_
        rintro e w' ⟨rfl, rfl⟩
        refine ⟨_, rfl, ⟨by simp [sv], .inr ⟨g, cap, _, rfl, hg, heap_lay _ _ (heap_lay (W := W.drew) _ _ hc), hroom, hmx, by rw [Lib.lay_size, Lib.lay_size]; exact hsz, ?_⟩⟩, ?_, .inl rfl⟩
        · have := lay_ins (cur := cur) (x := .string t) (cs := sv (s :: l)) (by omega)
          rw [Nat.mul_one]
          rw [hxl] at this
          exact this
        · have a1 := grown_lay (b := g) (sv (s :: l)) 1 W.drew
          have a2 := grown_lay (b := g) [.string t] 0 (W.drew.setCells g 1 (sv (s :: l)))
          have a3 := grown2 a1 a2
          exact ⟨a3.os, a3.tape, a3.output, a3.size, a3.block⟩

theorem enc_sv (l : Tl) : (l.map fun s => s.data.toList).map encStr = sv l := by
  rw [List.map_map]
  refine List.map_congr_left fun s _ => ?_
  simp [encStr]
/-- a row of texts cut behind the first i -/
theorem del_any {W : World} {base i n : Nat} {v : Value} {l : Tl} (hl : l.length = n) (h : W.ownsRow base 9 1 v n (sv l)) (hi : i ≤ n) (h0 : l ≠ []) :
    Calls Try.prog 41 #[v, .int .i64 (i : Int), .int .i64 (n : Int)] W fun e w' => ∃ v', e = .returned v' ∧ w'.ownsRow base 9 1 v' i (sv (l.take i)) ∧ W.grownBy w' v.ownBlock ∧ v'.ownBlock = v.ownBlock := by
  rcases h.2 with ⟨rfl, h1⟩ | ⟨g, cap, cur, rfl, hg, hc, hle, hmx, hsz, htk⟩
  · exact absurd (List.eq_nil_of_length_eq_zero (hl.trans h1)) h0
  · rw [Nat.mul_one] at htk
    have hcs := cells_of hc htk
    obtain ⟨zs, hzs⟩ : ∃ zs, l.map (fun s => s.data.toList) = zs := ⟨_, rfl⟩
    have hzl : zs.length = n := by rw [← hzs, List.length_map, hl]
    have henc : zs.map encStr = sv l := by rw [← hzs]; exact enc_sv l
    have hH : Sort.Holds encStr W g 0 zs.toArray := fun j hj => by
      have hj' : j < zs.length := by simpa using hj
      refine ⟨hcs j _ ?_, frozen_of hc⟩
      rw [← henc, List.getElem?_map, List.getElem?_eq_getElem hj']
      simp [hj']
    have hC : Calls Try.prog 41 #[.slice (some ⟨g, 0, none⟩) zs.length cap, .int .i64 (i : Int), .int .i64 (zs.length : Int)] W _ := Try.slices_Delete_string g 0 cap i zs.length zs W hH (by omega) (by unfold maxLen at hmx; omega) (by omega) (Nat.le_refl _)
    rw [hzl] at hC
    refine hC.mono ?_
    rintro e w' ⟨rfl, q, rfl⟩
    obtain ⟨ts, hts⟩ : ∃ ts, zs.take i ++ zs.drop n ++ List.replicate (n - i) [] = ts := ⟨_, rfl⟩
    rw [hts]
    have htl : ts.length = zs.length := by rw [← hts]; simp; omega
    have hO := Go.ownsRow_sorted (w := W) (base := base) (g := g) (cap := cap) (n := q) (e := 9) (os := #[]) (cur := cur) (ss := zs) (ts := ts) htl hg hc (by omega) hmx hsz
    rw [Sort.grow_empty] at hO
    rw [hzl] at hO
    have hG := Go.grownBy_sorted (w := W) (g := g) (n := q) (os := #[]) ts.toArray
    rw [Sort.grow_empty] at hG
    refine ⟨_, rfl, ?_, hG, rfl⟩
    have := row_cut hO hi (by simp)
    rw [show n - (n - i) = i by omega]
    have e2 : (ts.map encStr).take (i * 1) = sv (l.take i) := by
      rw [Nat.mul_one, ← List.map_take, sv_take, ← henc, ← List.map_take, ← hts, List.append_assoc, List.take_append_of_le_length (by rw [List.length_take]; omega), List.take_take, Nat.min_self]
    rw [e2] at this
    exact this
set_option maxRecDepth 100000 in
theorem sclone_any (s : ByteArray) (h : s.size ≤ 281474976710656) (w : World) : Calls Try.prog 38 #[.string s] w fun e w' => e = .returned (.string s) ∧ Below w.heap.size w w' := by
  have C1 := Try.stringslite_Clone s w h
  go_enter Try.func38, Try.ntmps38
  go_wp2_with (go_at_call 42; refine C1.mono ?_; rintro e w1 ⟨rfl, hb⟩)
  go_ret
  exact ⟨rfl, hb⟩
end Go.Proofs.Ytihagjkdghbkdaa
