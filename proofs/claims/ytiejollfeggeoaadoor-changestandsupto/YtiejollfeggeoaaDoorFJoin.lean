/-
  strings.Join of three texts, with nothing between them. Conditions: those of each theorem.
-/
import Derived.Test.YtiejollfeggeoaaDoorWConF
import Derived.Test.YtiejollfeggeoaaDoorFBas
namespace Go.Proofs.YtiejollfeggeoaaDoor
open Go.RowKit Go.Shelf Bod Wid

/-- the first k sizes, added up -/
def szs (L : List ByteArray) (k : Nat) : Nat := ((L.take k).map (·.size)).sum
/-- the first k texts, one behind the other -/
def cat' (L : List ByteArray) (k : Nat) : List UInt8 := (L.take k).flatMap (·.data.toList)
theorem szs_next {L : List ByteArray} {k : Nat} {y : ByteArray} (h : L[k]? = some y) : szs L (k + 1) = szs L k + y.size := by
  unfold szs
  rw [List.take_add_one, h]
  simp
theorem cat_next {L : List ByteArray} {k : Nat} {y : ByteArray} (h : L[k]? = some y) : cat' L (k + 1) = cat' L k ++ y.data.toList := by
  unfold cat'
  rw [List.take_add_one, h]
  simp
theorem cat_len (L : List ByteArray) : ∀ k, (cat' L k).length = szs L k
  | 0 => rfl
  | k + 1 => by
    cases h : L[k]? with
    | none =>
      have hl : L.length ≤ k := by
        rcases Nat.lt_or_ge k L.length with e | e
        · rw [List.getElem?_eq_getElem e] at h; cases h
        · exact e
      have e1 : L.take (k + 1) = L := List.take_of_length_le (by omega)
      have e2 : L.take k = L := List.take_of_length_le hl
      have := cat_len L k
      unfold cat' szs at this ⊢
      rw [e1]; rw [e2] at this; exact this
    | some y => rw [cat_next h, szs_next h, List.length_append, cat_len L k]; simp
theorem szs_mono (L : List ByteArray) (k : Nat) : szs L k ≤ szs L L.length := by
  have := cat_len L k
  have h2 := cat_len L L.length
  rw [← this, ← h2]
  unfold cat'
  rw [List.take_length]
  conv => rhs; rw [← List.take_append_drop k L, List.flatMap_append, List.length_append]
  omega
set_option maxRecDepth 100000 in
set_option maxHeartbeats 2000000 in
theorem join_any (L : List ByteArray) (hL : L.length = 3) (hz : szs L 3 ≤ 4398046511104) (g : Nat) (w : World) (hg : g < w.heap.size) (hc : ∀ (k : Nat) (y : ByteArray), L[k]? = some y → w.cell? ⟨g, k, none⟩ = some (.string y)) :
    Calls Tryd.prog 18 #[.slice (some ⟨g, 0, none⟩) 3 3, .string ⟨#[]⟩] w fun e W' => e = .returned (.string ⟨(cat' L 3).toArray⟩) ∧ Below w.heap.size w W' := by
  have HC : Hid (∀ W, Below w.heap.size w W → ∀ (k : Nat) (y : ByteArray), L[k]? = some y → W.cell? ⟨g, k, none⟩ = some (.string y)) := fun W hW k y h => (hW.cell (p := ⟨g, k, none⟩) hg).trans (hc k y h)
  have HE : Hid (∀ k, k < 3 → ∃ y, L[k]? = some y) := fun k hk => ⟨_, List.getElem?_eq_getElem (by omega)⟩
  have HZ : Hid (∀ k, szs L k ≤ 4398046511104) := fun k => Nat.le_trans (szs_mono L k) (by rw [hL]; exact hz)
  have hbk : (w.alloc (.cells #[.pointer none, .slice none 0 0] 74)).heap[w.heap.size]? = some (.cells #[.pointer none, .slice none 0 0] 74 (0, 0)) := World.alloc_heap_new _ _
  have cG := Tryd.Builder_Grow_fresh w.heap.size w.heap.size (szs L 3) _ (Nat.le_refl _) hbk (by simp) (by omega)
  have CG : Hid (Calls Tryd.prog 28 #[.pointer (some ⟨w.heap.size, 0, none⟩), .int .i64 (szs L 3)] (w.alloc (.cells #[.pointer none, .slice none 0 0] 74)) fun e W' => e = .returned (.tuple #[]) ∧ Hid (CS w (.slice none 0 0) [] (cat' L 0) W' ∧ w.heap.size + 1 ≤ W'.heap.size)) := cG.mono fun e W' ⟨k1, k2, k3⟩ => by
    refine ⟨k1, ⟨?_, World.ownsRow_nil _ _ _ _, ((Below.refl _ w).alloc (Nat.le_refl _) _).trans k3⟩, by have := k3.size; simp at this; omega⟩
    obtain ⟨_, v0, g1, g2, g3⟩ := k2
    exact ⟨_, v0, g1, row_raise g2 g3, .inr rfl⟩
  have CW : Hid (∀ W k (y : ByteArray), L[k]? = some y → CS w (.slice none 0 0) [] (cat' L k) W ∧ w.heap.size + 1 ≤ W.heap.size → Calls Tryd.prog 29 #[.pointer (some ⟨w.heap.size, 0, none⟩), .string y] W fun e W' => ∃ u, e = .returned u ∧ Hid (CS w (.slice none 0 0) [] (cat' L (k + 1)) W' ∧ w.heap.size + 1 ≤ W'.heap.size)) := fun W k y hk hW => by
    have hzk : szs L (k + 1) ≤ 4398046511104 := HZ.out (k + 1)
    rw [szs_next hk] at hzk
    exact (hW.1.write y (by rw [cat_len]; omega) hW.2).mono fun e W' ⟨⟨u, k1⟩, k2, k3⟩ => ⟨u, k1, by rw [cat_next hk]; exact k2, by have := k3.2.2.2.1; omega⟩
  have CN : Hid (∀ W k, CS w (.slice none 0 0) [] (cat' L k) W ∧ w.heap.size + 1 ≤ W.heap.size → Calls Tryd.prog 29 #[.pointer (some ⟨w.heap.size, 0, none⟩), .string ⟨#[]⟩] W fun e W' => ∃ u, e = .returned u ∧ Hid (CS w (.slice none 0 0) [] (cat' L k) W' ∧ w.heap.size + 1 ≤ W'.heap.size)) := fun W k hW => by
    have hzk : szs L k ≤ 4398046511104 := HZ.out k
    exact (hW.1.write ⟨#[]⟩ (by rw [cat_len]; show _ + 0 ≤ _; omega) hW.2).mono fun e W' ⟨⟨u, k1⟩, k2, k3⟩ => ⟨u, k1, by simpa using k2, by have := k3.2.2.2.1; omega⟩
  have CT : Hid (∀ W, CS w (.slice none 0 0) [] (cat' L 3) W ∧ w.heap.size + 1 ≤ W.heap.size → Calls Tryd.prog 30 #[.pointer (some ⟨w.heap.size, 0, none⟩)] W fun e W' => e = .returned (.string ⟨(cat' L 3).toArray⟩) ∧ Hid (Below w.heap.size w W')) := fun W hW => hW.1.str
  have HB0 : Hid (Below w.heap.size w w) := Below.refl _ _
  obtain ⟨Z, hZ⟩ : ∃ Z, szs L 3 = Z := ⟨_, rfl⟩
  have HZ3 : Hid (szs L 3 = Z) := hZ
  rw [hZ] at CG
  have hzz : Z ≤ 4398046511104 := by omega
  have hzz' : (Z : Int) ≤ 4398046511104 := by omega
  clear cG hbk hc hz hZ hL
  generalize hcat : (⟨(cat' L 3).toArray⟩ : ByteArray) = out at CT ⊢
  clear hcat
  go_enter Tryd.func18, Tryd.ntmps18
  go_wp2
  go_loopw [5, 41] (fun t5 t41 wr => ∃ (n k : Nat), t5 = .int .i64 n ∧ t41 = .int .i64 k ∧ k ≤ 3 ∧ n ≤ 4398046511104 ∧ Hid (n = szs L k ∧ w = wr)) (fun _ t41 _ => 3 - (intOf t41).toNat)
  case atStart => exact ⟨0, 0, rfl, rfl, by omega, by omega, rfl, rfl⟩
  case round =>
    obtain ⟨n, k, rfl, rfl, hk, hn, HN⟩ := hrel
    obtain ⟨hn1, hwr⟩ := HN.out
    by_cases hlt : k < 3
    · obtain ⟨y, hy⟩ := HE.out k hlt
      have c0 := HC.out wr (by rw [← hwr]; exact Below.refl _ _) k y hy
      have hlt' : (k : Int) < 3 := by omega
      have hz1 := HZ.out (k + 1)
      have HX : Hid (n + y.size = szs L (k + 1) ∧ w = wr) := ⟨by rw [szs_next hy, hn1], hwr⟩
      have hyz : n + y.size ≤ 4398046511104 := by rw [HX.out.1]; exact hz1
      have b1 : (n : Int) + y.size ≤ 4398046511104 := by omega
      have b2 : ¬ ((9223372036854775807 : Int) - n < y.size) := by omega
      clear hn1 hwr HN hy hz1
      go_wp2
      exact ⟨⟨n + y.size, k + 1, by go_num, by go_num, by omega, hyz, HX⟩, by simp [intOf]; omega⟩
    · obtain rfl : k = 3 := by omega
      obtain rfl : n = Z := by rw [hn1]; exact HZ3.out
      subst hwr
      obtain ⟨y0, hy0⟩ := HE.out 0 (by omega)
      have c0 := HC.out w HB0.out 0 y0 hy0
      have HW0 : Hid (∀ W, CS w (.slice none 0 0) [] (cat' L 0) W ∧ w.heap.size + 1 ≤ W.heap.size → Calls Tryd.prog 29 #[.pointer (some ⟨w.heap.size, 0, none⟩), .string y0] W fun e W' => ∃ u, e = .returned u ∧ Hid (CS w (.slice none 0 0) [] (cat' L (0 + 1)) W' ∧ w.heap.size + 1 ≤ W'.heap.size)) := fun W hW => CW.out W 0 y0 hy0 hW
      have HC0 : Hid (∀ W, CS w (.slice none 0 0) [] (cat' L 0) W → W.cell? ⟨g, 0, none⟩ = some (.string y0)) := fun W hW => HC.out W hW.bel 0 y0 hy0
      clear HN hn1 hy0 HZ3 c0
      go_upto_region 22 with (first
        | (go_at_call 28; refine CG.out.mono ?_; clear CG; rintro e w1 ⟨rfl, HS⟩; have c0 := HC0.out _ HS.out.1)
        | (go_at_call 29; refine (HW0.out _ HS.out).mono ?_; clear HW0 HS c0 HC0; rintro e w2 ⟨u, rfl, HS⟩))
      go_loopw [65] (fun t65 w' => ∃ k : Nat, t65 = .int .i64 k ∧ k ≤ 2 ∧ Hid (CS w (.slice none 0 0) [] (cat' L (k + 1)) w' ∧ w.heap.size + 1 ≤ w'.heap.size)) (fun t65 _ => 2 - (intOf t65).toNat)
      case atStart => exact ⟨0, rfl, by omega, HS⟩
      case round =>
        clear HS
        obtain ⟨k, rfl, hk, HS⟩ := hrel
        by_cases hlt : k < 2
        · have hlt' : (k : Int) < 2 := by omega
          obtain ⟨y, hy⟩ := HE.out (k + 1) (by omega)
          have HW1 : Hid (∀ W, CS w (.slice none 0 0) [] (cat' L (k + 1)) W ∧ w.heap.size + 1 ≤ W.heap.size → Calls Tryd.prog 29 #[.pointer (some ⟨w.heap.size, 0, none⟩), .string y] W fun e W' => ∃ u, e = .returned u ∧ Hid (CS w (.slice none 0 0) [] (cat' L (k + 1 + 1)) W' ∧ w.heap.size + 1 ≤ W'.heap.size)) := fun W hW => CW.out W (k + 1) y hy hW
          have HW2 : Hid (∀ W, CS w (.slice none 0 0) [] (cat' L (k + 1)) W ∧ w.heap.size + 1 ≤ W.heap.size → Calls Tryd.prog 29 #[.pointer (some ⟨w.heap.size, 0, none⟩), .string ⟨#[]⟩] W fun e W' => ∃ u, e = .returned u ∧ Hid (CS w (.slice none 0 0) [] (cat' L (k + 1)) W' ∧ w.heap.size + 1 ≤ W'.heap.size)) := fun W hW => CN.out W (k + 1) hW
          have c1 := HC.out wr HS.out.1.bel (k + 1) y hy
          have c2 : wr.cell? ⟨g, 1 + k, none⟩ = some (.string y) := by rw [Nat.add_comm 1 k]; exact c1
          have T1 : Hid True := trivial
          clear hy
          go_wp2_with (first
            | (go_at_call 29; have hq := T1; clear hq T1; refine (HW2.out _ HS.out).mono ?_; clear HW2 HS; rintro e w3 ⟨u3, rfl, HS⟩)
            | (go_at_call 29; refine (HW1.out _ HS.out).mono ?_; clear HW1 HS; rintro e w4 ⟨u4, rfl, HS⟩))
          exact ⟨⟨k + 1, by go_num, by omega, HS⟩, by simp [intOf]; omega⟩
        · have hge : ¬ ((k : Int) < 2) := by omega
          obtain rfl : k = 2 := by omega
          go_wp2_with (go_at_call 30; refine (CT.out _ HS.out).mono ?_; clear CT HS; rintro e w5 ⟨rfl, HB⟩)
          go_ret
          exact ⟨rfl, HB.out⟩
end Go.Proofs.YtiejollfeggeoaaDoor
