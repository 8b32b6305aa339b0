/-
  The document's own insert, typed, control, meta, named, single, prefix, quoted, second and digit of layer 19: what IRfm tells in plain words. Conditions: the key's Char is a number of 32 bits.
-/
import Derived.Test.YtmaolbibbjngcaaDoorIRfm
import Derived.Test.YtmaolbibbjngcaaDoorURefE
namespace Go.Proofs.YtmaolbibbjngcaaDoor
open Go.RowKit

/-- a key's box, and the box of the command that is answered, still zero -/
structure Gx (w : World) (k : Ky) (W : World) : Prop where
  kx : Kx w k W
  rs : W.heap[w.heap.size + 1]? = some (.cells (cmc cmz) 34 (0, 0))
theorem Gx.below {w W X : World} {k : Ky} (h : Gx w k W) (hb : Below W.heap.size W X) : Gx w k X :=
  ⟨h.kx.below hb, (hb.block _ (Array.getElem?_eq_some_iff.1 h.rs).1).trans h.rs⟩
theorem gx0 (w : World) (k : Ky) : Gx w k ((w.alloc (.cells (kyc k) 30)).alloc (.cells (cmc cmz) 34)) := by
  have e1 : (w.alloc (.cells (kyc k) 30)).heap.size = w.heap.size + 1 := by simp
  refine ⟨(kx0 w k).alloc _, ?_⟩
  have := World.alloc_heap_new (w.alloc (.cells (kyc k) 30)) (.cells (cmc cmz) 34)
  rwa [e1] at this
theorem Gx.fin {w W : World} {k : Ky} (h : Gx w k W) (u0 u1 u2 u3 : Value) : let W' := (((W.setCell ⟨w.heap.size + 1, 0, none⟩ u0).setCell ⟨w.heap.size + 1, 1, none⟩ u1).setCell ⟨w.heap.size + 1, 2, none⟩ u2).setCell ⟨w.heap.size + 1, 3, none⟩ u3
    Below w.heap.size w W' ∧ (W'.cell? ⟨w.heap.size + 1, 0, none⟩ = some u0 ∧ W'.cell? ⟨w.heap.size + 1, 1, none⟩ = some u1 ∧ W'.cell? ⟨w.heap.size + 1, 2, none⟩ = some u2 ∧ W'.cell? ⟨w.heap.size + 1, 3, none⟩ = some u3) :=
  ⟨(((h.kx.bel.setCell (Nat.le_succ _) _).setCell (Nat.le_succ _) _).setCell (Nat.le_succ _) _).setCell (Nat.le_succ _) _, (box4 (set4 h.rs)).1⟩
section
set_option maxRecDepth 100000
set_option maxHeartbeats 2000000
theorem rins_any (t : ByteArray) (w : World) : Calls Tryd.prog 43 #[.string t] w fun e w' => e = .returned (.agg (cmc (insC t))) ∧ Below w.heap.size w w' := by
  have HB : Hid (∀ o, Below w.heap.size w (w.alloc o)) := fun o => (Below.refl _ w).alloc (Nat.le_refl _) o
  by_cases h : t = ⟨#[]⟩
  · subst h
    rw [show insC ⟨#[]⟩ = unb from if_pos rfl]
    unfold unb cmc
    go_enter Tryd.func43, Tryd.ntmps43
    go_wp2
    exact bodyPost_ret (v := .agg #[.int .i64 40, .int .i64 0, .string ⟨#[]⟩, .int .u8 0]) (by simp [results, Tryd.results43, go_sem]) rfl ⟨rfl, HB.out _⟩
  · have n1 := inot_emp h
    have n2 := inot_nil h
    rw [show insC t = ⟨1, 0, t, 0⟩ from if_neg h]
    clear h
    unfold cmc
    go_enter Tryd.func43, Tryd.ntmps43
    go_wp2
    exact bodyPost_ret (v := .agg #[.int .i64 1, .int .i64 0, .string t, .int .u8 0]) (by simp [results, Tryd.results43, go_sem]) rfl ⟨rfl, HB.out _⟩
theorem rtyp_any (k : Ky) (hk : k.Ok) (w : World) : Calls Tryd.prog 44 #[kyv k] w fun e w' => e = .returned (.string (tydR k)) ∧ Below w.heap.size w w' := by
  obtain ⟨a, c, ct, m, sh, tx⟩ := k
  obtain ⟨c0, c1, -, -, -⟩ := hk
  simp only at c0 c1
  have HB : Hid (Below w.heap.size w (w.alloc (.cells #[.int .i64 a, .int .i32 c, .bool ct, .bool m, .bool sh, .string tx] 30))) := (Below.refl _ w).alloc (Nat.le_refl _) _
  unfold kyv tydR
  simp only
  by_cases h4 : a = 4
  · subst h4
    rw [if_pos rfl]
    go_enter Tryd.func44, Tryd.ntmps44
    go_wp2
    go_ret
    exact ⟨rfl, HB.out⟩
  · rw [if_neg h4]
    have e4 : (a == 4) = false := by simp [h4]
    have CE : Hid (∀ (W : World) (b : Nat), W.cell? ⟨b, 0, none⟩ = some (.int .i32 c) → b < W.heap.size → Calls Tryd.prog 57 #[.slice (some ⟨b, 0, none⟩) 1 1] W fun e w' => e = .returned (.string (encB c)) ∧ Below W.heap.size W w') := fun W b p q => rencode_core [c] b 0 1 W (by simp) (fun j hj => by
      have : j = 0 := by simpa using hj
      subst this; simpa using p) q
    clear h4
    go_enter Tryd.func44, Tryd.ntmps44
    go_wp2_with (go_at_call 57; refine (CE.out _ _ (by simp) (by simp)).mono ?_; rintro e w1 ⟨rfl, hb⟩)
    go_ret
    exact ⟨rfl, ibelow_on (((Below.refl _ w).alloc (Nat.le_refl _) _).alloc (by simp) _) hb⟩

end
end Go.Proofs.YtmaolbibbjngcaaDoor
