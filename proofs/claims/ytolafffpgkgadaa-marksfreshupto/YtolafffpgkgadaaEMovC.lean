/-
  The document's one and Moved, where no number wraps: they answer what package marks' own answer. Conditions: those of each theorem.
-/
import Derived.Test.YtolafffpgkgadaaEMovB
namespace Go.Proofs.Ytolafffpgkgadaa
open Go.RowKit

/-- the letters of deltas -/
def dls : List Dl → Nat
  | [] => 0
  | d :: l => d.o.size + d.i.size + dls l
theorem dls_app (a b : List Dl) : dls (a ++ b) = dls a + dls b := by
  induction a with
  | nil => simp [dls]
  | cons x a ih => simp only [List.cons_append, dls, ih]; omega
theorem dls_take {l : List Dl} {k : Nat} {d : Dl} (h : l[k]? = some d) : dls (l.take (k + 1)) = dls (l.take k) + (d.o.size + d.i.size) := by
  rw [List.take_add_one, h, dls_app]
  rfl
theorem dls_le (l : List Dl) (k : Nat) : dls (l.take k) ≤ dls l := by
  have := dls_app (l.take k) (l.drop k)
  rw [List.take_append_drop] at this
  omega
theorem dls_mem {l : List Dl} {d : Dl} (h : d ∈ l) : d.o.size + d.i.size ≤ dls l := by
  induction l with
  | nil => cases h
  | cons x l ih =>
    rcases List.mem_cons.1 h with rfl | h
    · simp only [dls]; omega
    · have := ih h; simp only [dls]; omega
theorem mvP_bd {p : Int} {d : Dl} (h0 : 0 ≤ p) (h1 : 0 ≤ d.a) : 0 ≤ mvP p d ∧ mvP p d ≤ p + (d.i.size : Int) := by
  unfold mvP
  split
  · omega
  · split
    · omega
    · omega
/-- nothing wraps -/
theorem mvP_eq {p : Int} {d : Dl} (h1 : p + (d.i.size : Int) ≤ 9223372036854775807) (h0 : 0 ≤ d.a) : mvP p d = if p ≤ d.a then p else if p < d.a + (d.o.size : Int) then d.a else p + (d.i.size : Int) - (d.o.size : Int) := by
  unfold mvP
  split
  · rfl
  · by_cases c : p - d.a < (d.o.size : Int)
    · rw [if_pos c, if_pos (by omega)]
    · rw [if_neg c, if_neg (by omega)]
      omega
theorem mvs_bd {l : List Dl} (hl : ∀ d ∈ l, 0 ≤ d.a) {p : Int} (h0 : 0 ≤ p) : 0 ≤ mvs p l ∧ mvs p l ≤ p + (dls l : Int) := by
  induction l generalizing p with
  | nil => exact ⟨h0, by simp [mvs, dls]⟩
  | cons d l ih =>
    have h1 := mvP_bd h0 (hl d List.mem_cons_self)
    have h2 := ih (fun e he => hl e (List.mem_cons_of_mem _ he)) h1.1
    have e : mvs p (d :: l) = mvs (mvP p d) l := rfl
    rw [e]
    simp only [dls]
    omega

set_option maxRecDepth 100000 in
set_option maxHeartbeats 1000000 in
theorem one_any (p : Int) (d : Dl) (h0 : 0 ≤ p) (h1 : p ≤ 1152921504606846976) (h2 : 0 ≤ d.a) (h3 : d.a ≤ 1099511627776) (ho : d.o.size ≤ 1152921504606846976) (hi : d.i.size ≤ 1152921504606846976) (w : World) :
    Calls Try.prog 53 #[.int .i64 p, dv d] w fun e w' => e = .returned (.int .i64 (mvP p d)) ∧ Below w.heap.size w w' := by
  rw [mvP_eq (by omega) h2]
  obtain ⟨a, o, i⟩ := d
  simp only at h2 h3 ho hi
  unfold dv
  simp only
  obtain ⟨z0, z1, z2⟩ := new3 w (.int .i64 a) (.string o) (.string i) 63
  have HB : Hid (Below w.heap.size w (w.alloc (.cells #[.int .i64 a, .string o, .string i] 63))) := (Below.refl _ w).alloc (Nat.le_refl _) _
  by_cases c1 : p ≤ a
  · rw [if_pos c1]
    go_enter Try.func53, Try.ntmps53
    go_wp2
    go_ret
    exact ⟨rfl, HB.out⟩
  · rw [if_neg c1]
    by_cases c2 : p < a + (o.size : Int)
    · rw [if_pos c2]
      go_enter Try.func53, Try.ntmps53
      go_wp2
      all_goals try (exfalso; omega)
      all_goals go_ret
      all_goals exact ⟨rfl, HB.out⟩
    · rw [if_neg c2]
      go_enter Try.func53, Try.ntmps53
      go_wp2
      all_goals try (exfalso; omega)
      all_goals go_ret
      all_goals exact ⟨rfl, HB.out⟩
set_option maxRecDepth 100000 in
set_option maxHeartbeats 1000000 in
theorem RMoved_any {w : World} {a : Option Addr} {N cap : Nat} {ds : List Dl} (hN : ds.length = N) (hl : N ≤ 140737488351232) (hR : RdD w (.slice a N cap) ds) (hd : ∀ d ∈ ds, 0 ≤ d.a ∧ d.a ≤ 1099511627776) (hs : dls ds ≤ 1125899906842624) (p : Int) (hp0 : 0 ≤ p) (hp1 : p ≤ 1125899906842624) :
    Calls Try.prog 44 #[.int .i64 p, .slice a N cap] w fun e w' => e = .returned (.int .i64 (mvs p ds)) ∧ Below w.heap.size w w' := by
  have HR : Hid (∀ W', Below w.heap.size w W' → RdD W' (.slice a N cap) ds) := fun W' hb => hR.below (Nat.le_refl _) hb
  have HF : Hid (ds.length = N ∧ (∀ d ∈ ds, 0 ≤ d.a ∧ d.a ≤ 1099511627776) ∧ dls ds ≤ 1125899906842624) := ⟨hN, hd, hs⟩
  clear hR hN hd hs
  go_enter Try.func44, Try.ntmps44
  go_wp2
  go_loopw [0, 5] (fun t0 t5 wr => ∃ k : Nat, k ≤ N ∧ t5 = .int .i64 k ∧ t0 = .int .i64 (mvs p (ds.take k)) ∧ Hid (Below w.heap.size w wr)) (fun _ t5 _ => N - (intOf t5).toNat)
  case atStart => exact ⟨0, Nat.zero_le _, rfl, rfl, Below.refl _ _⟩
  case round =>
    obtain ⟨k, hk, rfl, rfl, HB⟩ := hrel
    by_cases hlt : k < N
    · obtain ⟨d, hd⟩ : ∃ d, ds[k]? = some d := ⟨ds[k]'(by rw [HF.out.1]; exact hlt), List.getElem?_eq_getElem _⟩
      have hdm := List.mem_of_getElem? hd
      obtain ⟨a', cap', ev, hrd⟩ := HR.out _ HB.out
      cases ev
      obtain ⟨g, o, rfl, hg, hcs⟩ := hrd (fun e => by rw [e] at hd; cases hd)
      obtain ⟨y0, y1, y2⟩ := hcs k d hd
      have CM : Hid (Calls Try.prog 53 #[.int .i64 (mvs p (ds.take k)), .agg #[.int .i64 d.a, .string d.o, .string d.i]] wr fun e w' => e = .returned (.int .i64 (mvs p (ds.take (k + 1)))) ∧ Below wr.heap.size wr w') := by
        rw [mvs_take p hd]
        have b1 := mvs_bd (l := ds.take k) (fun e he => (HF.out.2.1 e (List.mem_of_mem_take he)).1) hp0
        have b2 := dls_le ds k
        have b3 := dls_mem hdm
        have b4 := HF.out.2.2
        exact one_any _ d b1.1 (by omega) (HF.out.2.1 d hdm).1 (HF.out.2.1 d hdm).2 (by omega) (by omega) wr
      clear hrd hcs hd hdm
      obtain ⟨x, hx⟩ : ∃ x, mvs p (ds.take (k + 1)) = x := ⟨_, rfl⟩
      rw [hx] at CM
      have HX : Hid (mvs p (ds.take (k + 1)) = x) := hx
      clear hx
      go_wp2_with (go_at_call 53; refine CM.out.mono ?_; clear CM; rintro e w2 ⟨rfl, hb2⟩)
      exact ⟨⟨k + 1, by omega, by go_num, by rw [HX.out], HB.out.trans (hb2.mono HB.out.size)⟩, by simp [intOf]; omega⟩
    · go_wp2
      go_ret
      obtain rfl : k = N := by omega
      rw [List.take_of_length_le (by rw [HF.out.1]; exact Nat.le_refl _)]
      exact ⟨rfl, HB.out⟩
end Go.Proofs.Ytolafffpgkgadaa
