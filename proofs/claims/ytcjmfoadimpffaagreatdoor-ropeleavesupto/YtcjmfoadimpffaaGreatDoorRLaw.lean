/-
  What the laws on ropes share: summaries compared, two ropes laid together, a remainder. No conditions but the ropes' own.
-/
import Derived.Test.YtcjmfoadimpffaaGreatDoorRHolds
import Derived.Test.YtcjmfoadimpffaaGreatDoorRConc
import Derived.BigQuiet
namespace Go.Proofs.YtcjmfoadimpffaaGreatDoor
open Go.RowKit Go.Shelf Bod Wid

theorem sv_eq (x : Sum) (w : World) : (binOp .eql 96 (sv x) (sv x)).run Tryz.prog w = .ok (.bool true) w := sv_same x x rfl w
theorem sv_neq (x : Sum) (w : World) : (binOp .neq 96 (sv x) (sv x)).run Tryz.prog w = .ok (.bool false) w := by simp [go_sem, sv]
/-- two ropes in a row -/
theorem two_ropes {W : World} {a b : Nat} {A B : Tr} (ha : Rp W A (.pointer (some ⟨a, 0, none⟩))) (hb : Rp W B (.pointer (some ⟨b, 0, none⟩))) : RdP (W.alloc (.cells #[.pointer (some ⟨a, 0, none⟩), .pointer (some ⟨b, 0, none⟩)] 26)) (.slice (some ⟨W.heap.size, 0, none⟩) 2 2) [A, B] := by
  have hB := (Below.refl _ W).alloc (Nat.le_refl _) (.cells #[.pointer (some ⟨a, 0, none⟩), .pointer (some ⟨b, 0, none⟩)] 26)
  refine ⟨_, 2, rfl, by simp, fun _ => ⟨W.heap.size, 0, rfl, by simp, fun k t hk => ?_⟩⟩
  have hc : ∀ i u, (#[.pointer (some ⟨a, 0, none⟩), .pointer (some ⟨b, 0, none⟩)] : Array Value)[i]? = some u → (W.alloc (.cells #[.pointer (some ⟨a, 0, none⟩), .pointer (some ⟨b, 0, none⟩)] 26)).cell? ⟨W.heap.size, i, none⟩ = some u := fun i u h => by
    unfold World.cell?
    rw [World.alloc_heap_new]
    simpa using h
  match k, hk with
  | 0, hk => cases hk; exact ⟨_, hc 0 _ rfl, ha.below hB⟩
  | 1, hk => cases hk; exact ⟨_, hc 1 _ rfl, hb.below hB⟩
  | k + 2, hk => simp at hk
theorem joT_two (A B : Tr) : joT [A, B] = A.text ++ B.text := by show A.text ++ (B.text ++ noB) = _; rw [app_noB]
theorem good_two {A B : Tr} (hA : Good A) (hB : Good B) : ∀ t ∈ [A, B], Good t := fun t ht => by
  rcases List.mem_cons.1 ht with rfl | ht
  · exact hA
  · rw [List.mem_singleton.1 ht]; exact hB
/-- Concat of two ropes -/
theorem concat_two {w W : World} {a b : Nat} {A B : Tr} (hE : Ev w) (hW : Below w.heap.size w W) (ha : Rp W A (.pointer (some ⟨a, 0, none⟩))) (hb : Rp W B (.pointer (some ⟨b, 0, none⟩))) (hA : Good A) (hB : Good B) (hs : A.text.size + B.text.size ≤ B40) :
    Calls Tryz.prog 11 #[.slice (some ⟨W.heap.size, 0, none⟩) 2 2] (W.alloc (.cells #[.pointer (some ⟨a, 0, none⟩), .pointer (some ⟨b, 0, none⟩)] 26)) fun e W' => ∃ c, e = .returned (.pointer (some ⟨c, 0, none⟩)) ∧ Rp W' (tog [A, B]) (.pointer (some ⟨c, 0, none⟩)) ∧ Below W.heap.size W W' := by
  have h1 := (Below.refl _ W).alloc (Nat.le_refl _) (.cells #[.pointer (some ⟨a, 0, none⟩), .pointer (some ⟨b, 0, none⟩)] 26)
  refine (rconcat_any (ts := [A, B]) (by show 2 ≤ B40; unfold B40; omega) (two_ropes ha hb) (good_two hA hB) (by rw [joT_two, size_app]; exact hs) (hE.below (Below.on hW h1))).mono fun e W' h => ?_
  obtain ⟨c, k1, k2, k3⟩ := MkR.rp h
  exact ⟨c, k1, k2, Below.on h1 k3⟩
theorem rem_nat (a n : Nat) (_ : 0 < n) : (a : Int) % (n : Int) = ((a % n : Nat) : Int) := by omega
end Go.Proofs.YtcjmfoadimpffaaGreatDoor
