/-
  Leaves of a rope in plain words: where each lies, and what it is; two numbers' boxes. No conditions beyond those of each theorem.
-/
import Derived.Test.YtcjmfoadimpffaaGreatDoorRLaw
import Derived.Test.YtcjmfoadimpffaaGreatDoorRIter
namespace Go.Proofs.YtcjmfoadimpffaaGreatDoor
open Go.RowKit Go.Shelf Bod Wid

theorem lvo_map : ∀ (t : Tr) (a : Nat), (lvo t a).map (·.2) = t.lv
  | .leaf _, _ => rfl
  | .knot l r, a => by show (lvo l a ++ lvo r _).map _ = l.lv ++ r.lv; rw [List.map_append, lvo_map l, lvo_map r]
theorem lvo_off : ∀ (t : Tr) (a k : Nat) (x : Nat × ByteArray), (lvo t a)[k]? = some x → x.1 = a + (jo (t.lv.take k)).size
  | .leaf s, a, k, x, h => by
    cases k with
    | zero => cases h; rfl
    | succ k => simp [lvo] at h
  | .knot l r, a, k, x, h => by
    have hl : (lvo l a).length = l.lv.length := by rw [← lvo_map l a, List.length_map]
    have h : (lvo l a ++ lvo r (a + l.text.size))[k]? = some x := h
    show x.1 = a + (jo ((l.lv ++ r.lv).take k)).size
    by_cases c : k < l.lv.length
    · rw [List.getElem?_append_left (by omega)] at h
      rw [List.take_append_of_le_length (by omega)]
      exact lvo_off l a k x h
    · rw [List.getElem?_append_right (by omega), hl] at h
      have := lvo_off r _ _ x h
      rw [List.take_append, List.take_of_length_le (by omega), jo_size, ← text_lv]
      omega
theorem lvo_nx {t : Tr} {pre : List (Nat × ByteArray)} {x : Nat × ByteArray} (h : pre ++ [x] <+: lvo t 0) : t.lv[pre.length]? = some x.2 ∧ x.1 = (jo (t.lv.take pre.length)).size ∧ pre.length < t.lv.length := by
  have h1 : (lvo t 0)[pre.length]? = some x := by
    obtain ⟨u, hu⟩ := h
    rw [← hu]
    simp
  have h2 : t.lv[pre.length]? = some x.2 := by rw [← lvo_map t 0, List.getElem?_map, h1]; rfl
  exact ⟨h2, by have := lvo_off t 0 _ x h1; omega, (List.getElem?_eq_some_iff.1 h2).1⟩
theorem lvo_len (t : Tr) : (lvo t 0).length = t.lv.length := by rw [← lvo_map t 0, List.length_map]
theorem box1 {W : World} {b : Nat} {v : Value} {t : TypeId} (h : W.heap[b]? = some (.cells #[v] t (0, 0))) : W.cell? ⟨b, 0, none⟩ = some v ∧ W.frozen? ⟨b, 0, none⟩ = false := by
  simp [World.cell?, World.frozen?, h]
/-- the two numbers' boxes, which the rounds write -/
def MutN (b : Nat) (k : Nat) (o : Obj) : Prop := (k = b ∨ k = b + 1) ∧ ∃ vs fz, o = .cells vs 3 fz
structure Lk (s : ByteArray) (ls : List ByteArray) (k : Nat) (x : ByteArray) : Prop where
  f1 : 1 < ls.length → 32 ≤ x.size
  f2 : (jo (ls.take k)).size + x.size ≤ s.size
  f3 : s.extract (jo (ls.take k)).size ((jo (ls.take k)).size + x.size) = x
  f4 : cbZ s (((jo (ls.take k)).size + x.size : Nat) : Int) = true
  f5 : 64 < x.size → ∀ i : Nat, (jo (ls.take k)).size + 32 ≤ i → i + 32 ≤ (jo (ls.take k)).size + x.size → cbZ s (i : Int) = false
theorem jo_take {ls : List ByteArray} {k : Nat} {x : ByteArray} (h : ls[k]? = some x) : (jo (ls.take (k + 1))).size = (jo (ls.take k)).size + x.size := by
  rw [List.take_add_one, h, jo_size]
  show _ + (jo [x]).size = _
  rw [jo_one]
theorem good_lk {t : Tr} (h : Good t) {k : Nat} {x : ByteArray} (hx : t.lv[k]? = some x) : Lk t.text t.lv k x := by
  obtain ⟨a, b, e, ha⟩ : ∃ a b, t.lv = a ++ x :: b ∧ a = t.lv.take k := ⟨t.lv.take k, t.lv.drop (k + 1), by
    have hk := (List.getElem?_eq_some_iff.1 hx)
    obtain ⟨hk, hk'⟩ := hk
    rw [← hk', ← List.drop_eq_getElem_cons hk, List.take_append_drop], rfl⟩
  have tx : t.text = jo a ++ (x ++ jo b) := by rw [text_lv, e, jo_app]; rfl
  by_cases h0 : t.text.size = 0
  · have ht : t = .leaf noB := by
      rcases h.fine with k | k
      · exact k
      · exact absurd h0 k.ne
    subst ht
    have hx0 : x.size = 0 := by rw [tx, size_app, size_app] at h0; omega
    have ha0 : (jo a).size = 0 := by rw [tx, size_app] at h0; omega
    refine ⟨fun h => by simp [Tr.lv] at h, by rw [← ha]; omega, ?_, ?_, fun h => by omega⟩ <;> rw [← ha]
    · rw [noB_of hx0]
      exact noB_of (by rw [noB_size]; rw [ha0]; rfl)
    · rw [ha0, hx0]; exact cb_zero _
  · obtain ⟨s1, p1⟩ := h.sh_lv h0
    have zx : t.text.size = (jo a).size + (x.size + (jo b).size) := by rw [tx, size_app, size_app]
    refine ⟨fun hl => ?_, by rw [← ha]; omega, ?_, ?_, fun hl i h1 h2 => ?_⟩ <;> (try rw [← ha] at *)
    · rcases s1.sz with g | g
      · omega
      · exact g x (by rw [e]; simp)
    · rw [tx, ext_app, ext_nil (by omega), noB_app, Nat.sub_self, show (jo a).size + x.size - (jo a).size = x.size by omega, ext_left (Nat.le_refl _), ext_all]
    · cases b with
      | nil =>
        have : (jo a).size + x.size = t.text.size := by rw [zx]; show _ = _ + (_ + noB.size); rw [noB_size]; omega
        rw [this]; exact cb_end _
      | cons y b =>
        have big : ∀ z ∈ t.lv, 32 ≤ z.size := by
          rcases s1.sz with g | g
          · rw [e] at g; simp at g; omega
          · exact g
        have hsx := big x (by rw [e]; simp)
        have hsy := big y (by rw [e]; simp)
        have hse : Seam x y := by have := s1.ch; rw [e] at this; exact this.seam
        have := cb_mid (a := jo a) (x := x ++ y) (b := jo b) (i := x.size) (by omega) (by rw [size_app]; omega)
        rw [show t.text = jo a ++ (x ++ y ++ jo b) by rw [tx]; show _ = jo a ++ (x ++ y ++ jo b); rw [app_assoc]; rfl, this]
        exact hse
    · have hu := s1.un x (by rw [e]; simp) hl (i - (jo a).size) (by omega) (by omega)
      have := cb_mid (a := jo a) (x := x) (b := jo b) (i := i - (jo a).size) (by omega) (by omega)
      rw [← tx, show (jo a).size + (i - (jo a).size) = i by omega] at this
      rw [this]
      exact hu
end Go.Proofs.YtcjmfoadimpffaaGreatDoor
