/-
  Lists of summaries in memory. No program is walked in this text; no conditions.
-/
import Derived.Test.YtdfemihjnempfabDoorNRefD
namespace Go.Proofs.YtdfemihjnempfabDoor
open Go.RowKit Bod Wid

/-- the cells of a list of summaries -/
def ssc (ss : List ByteArray) : List Value := ss.flatMap fun s => (scs (smr s)).toList
theorem ssc_snoc (ss : List ByteArray) (s : ByteArray) : ssc (ss ++ [s]) = ssc ss ++ (scs (smr s)).toList := by simp [ssc]
theorem ssc_len : ∀ ss : List ByteArray, (ssc ss).length = ss.length * 7
  | [] => rfl
  | s :: r => by
    have e : ssc (s :: r) = (scs (smr s)).toList ++ ssc r := by simp [ssc]
    rw [e, List.length_append, ssc_len r]
    simp; omega
theorem ssc_get : ∀ (ss : List ByteArray) (k : Nat) (s : ByteArray), ss[k]? = some s → ∀ i, i < 7 → (ssc ss)[k * 7 + i]? = (scs (smr s)).toList[i]?
  | [], _, _, h, _, _ => by simp at h
  | x :: r, 0, s, h, i, hi => by
    have : x = s := by simpa using h
    subst this
    have e : ssc (x :: r) = (scs (smr x)).toList ++ ssc r := by simp [ssc]
    rw [e, Nat.zero_mul, Nat.zero_add, List.getElem?_append_left (by simpa using hi)]
  | x :: r, k + 1, s, h, i, hi => by
    have e : ssc (x :: r) = (scs (smr x)).toList ++ ssc r := by simp [ssc]
    have hl : (scs (smr x)).toList.length = 7 := rfl
    rw [e, List.getElem?_append_right (by rw [hl]; omega), hl, show (k + 1) * 7 + i - 7 = k * 7 + i by omega]
    exact ssc_get r k s (by simpa using h) i hi
/-- a row of summaries' cells reads as them -/
theorem rds_cells {W : World} {g n cap : Nat} {ss : List ByteArray} (hn : ss.length = n) (hg : g < W.heap.size) (hc : ∀ j, j < n * 7 → W.cell? ⟨g, j, none⟩ = (ssc ss)[j]?) : RdS W (.slice (some ⟨g, 0, none⟩) n cap) ss := by
  subst hn
  refine ⟨_, cap, rfl, fun _ => ⟨g, 0, rfl, hg, fun k s hk => ?_⟩⟩
  have hkl := (List.getElem?_eq_some_iff.1 hk).1
  have at' : ∀ i, i < 7 → W.cell? ⟨g, 0 + k * 7 + i, none⟩ = (scs (smr s)).toList[i]? := fun i hi => by
    rw [Nat.zero_add, hc (k * 7 + i) (by omega)]
    exact ssc_get ss k s hk i hi
  exact ⟨at' 0 (by omega), at' 1 (by omega), at' 2 (by omega), at' 3 (by omega), at' 4 (by omega), at' 5 (by omega), at' 6 (by omega)⟩
theorem RdS.of_row {W : World} {base : Nat} {v : Value} {ss : List ByteArray} (h : W.ownsRow base 24 7 v ss.length (ssc ss)) : RdS W v ss := by
  rcases h.2 with ⟨h0, h1⟩ | ⟨g, cap, cur, hv, _⟩
  · have : ss = [] := List.length_eq_zero_iff.1 h1
    subst this
    exact ⟨_, _, h0, fun h => absurd rfl h⟩
  · subst hv
    exact rds_cells rfl (h.lt g rfl).2 (fun j hj => h.cellAt j hj)
theorem rds_block {W : World} {g cap : Nat} {arr : Array Value} {t : TypeId} {ss : List ByteArray} {n : Nat} (hn : ss.length = n) (h : W.heap[g]? = some (.cells arr t (0, 0))) (ha : arr.toList = ssc ss) : RdS W (.slice (some ⟨g, 0, none⟩) n cap) ss := by
  refine rds_cells hn (Array.getElem?_eq_some_iff.1 h).1 (fun j hj => ?_)
  have hl : arr.size = ss.length * 7 := by rw [← ssc_len ss, ← ha]; simp
  have hj2 : j < arr.size := by omega
  rw [← ha]
  simp [World.cell?, h]
theorem RdS.below {W W' : World} {v : Value} {ss : List ByteArray} (h : RdS W v ss) (hb : Below W.heap.size W W') : RdS W' v ss := by
  obtain ⟨a, cap, rfl, hr⟩ := h
  refine ⟨a, cap, rfl, fun h0 => ?_⟩
  obtain ⟨g, o, rfl, hg, hc⟩ := hr h0
  have kp : ∀ {i : Nat} {u : Value}, W.cell? ⟨g, i, none⟩ = some u → W'.cell? ⟨g, i, none⟩ = some u := fun h => (hb.cell (p := ⟨g, _, none⟩) hg).trans h
  refine ⟨g, o, rfl, Nat.lt_of_lt_of_le hg hb.size, fun k s hk => ?_⟩
  obtain ⟨c0, c1, c2, c3, c4, c5, c6⟩ := hc k s hk
  exact ⟨kp c0, kp c1, kp c2, kp c3, kp c4, kp c5, kp c6⟩
theorem rds_nil (W : World) (a : Option Addr) (cap : Nat) : RdS W (.slice a 0 cap) [] := ⟨a, cap, rfl, fun h => absurd rfl h⟩
theorem info_sum : (Tryd.prog.info? 24).map (fun i => (i.zero, i.size, i.bytes)) = some (some (.agg #[.int .i64 0, .int .i64 0, .int .i64 0, .int .i64 0, .int .i64 0, .string ⟨#[]⟩, .string ⟨#[]⟩]), 7, 72) := by kernel_rfl
end Go.Proofs.YtdfemihjnempfabDoor
