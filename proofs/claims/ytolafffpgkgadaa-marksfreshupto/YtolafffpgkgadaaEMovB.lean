/-
  Package marks' Moved; the law's far; the document's one and Moved. Conditions: those of each theorem.
-/
import Derived.Test.YtolafffpgkgadaaEMov
namespace Go.Proofs.Ytolafffpgkgadaa
open Go.RowKit

theorem mvP_ok {p : Int} {d : Dl} (hp : i64ok p) (hd : d.fit) : i64ok (mvP p d) := by
  obtain ⟨⟨h1, h2⟩, h3, h4⟩ := hd
  obtain ⟨h5, h6⟩ := hp
  unfold mvP i64ok
  split
  · omega
  · split
    · omega
    · omega
def mvs (p : Int) (l : List Dl) : Int := l.foldl mvP p
theorem mvs_ok {l : List Dl} (hl : ∀ d ∈ l, d.fit) : ∀ {p : Int}, i64ok p → i64ok (mvs p l) := by
  induction l with
  | nil => exact fun h => h
  | cons d l ih => exact fun h => ih (fun e he => hl e (List.mem_cons_of_mem _ he)) (mvP_ok h (hl d List.mem_cons_self))
theorem mvs_take {l : List Dl} {k : Nat} {d : Dl} (p : Int) (h : l[k]? = some d) : mvs p (l.take (k + 1)) = mvP (mvs p (l.take k)) d := by
  unfold mvs
  rw [List.take_add_one, h, List.foldl_append]
  rfl

set_option maxRecDepth 100000 in
set_option maxHeartbeats 1000000 in
theorem Moved_any {w : World} {a : Option Addr} {N cap : Nat} {ds : List Dl} (hN : ds.length = N) (hl : N ≤ 140737488351232) (hf : ∀ d ∈ ds, d.fit) (hR : RdD w (.slice a N cap) ds) (p : Int) (hp : i64ok p) :
    Calls Try.prog 31 #[.int .i64 p, .slice a N cap] w fun e w' => e = .returned (.int .i64 (mvs p ds)) ∧ Below w.heap.size w w' := by
  have HR : Hid (∀ W', Below w.heap.size w W' → RdD W' (.slice a N cap) ds) := fun W' hb => hR.below (Nat.le_refl _) hb
  have HF : Hid (ds.length = N ∧ ∀ d ∈ ds, d.fit) := ⟨hN, hf⟩
  clear hR hN hf
  go_enter Try.func31, Try.ntmps31
  go_wp2
  go_loopw [0, 9] (fun t0 t9 wr => ∃ k : Nat, k ≤ N ∧ t9 = .int .i64 k ∧ t0 = .int .i64 (mvs p (ds.take k)) ∧ Hid (Below w.heap.size w wr)) (fun _ t9 _ => N - (intOf t9).toNat)
  case atStart => exact ⟨0, Nat.zero_le _, rfl, rfl, Below.refl _ _⟩
  case round =>
    obtain ⟨k, hk, rfl, rfl, HB⟩ := hrel
    by_cases hlt : k < N
    · obtain ⟨d, hd⟩ : ∃ d, ds[k]? = some d := ⟨ds[k]'(by rw [HF.out.1]; exact hlt), List.getElem?_eq_getElem _⟩
      have hdf := HF.out.2 d (List.mem_of_getElem? hd)
      obtain ⟨a', cap', ev, hrd⟩ := HR.out _ HB.out
      cases ev
      obtain ⟨g, o, rfl, hg, hcs⟩ := hrd (fun e => by rw [e] at hd; cases hd)
      obtain ⟨y0, y1, y2⟩ := hcs k d hd
      have HBA : Hid (Below wr.heap.size wr (wr.alloc (.cells #[.int .i64 d.a, .string d.o, .string d.i] 63))) := (Below.refl _ wr).alloc (Nat.le_refl _) _
      obtain ⟨z0, z1, z2⟩ := new3 wr (.int .i64 d.a) (.string d.o) (.string d.i) 63
      have CM : Hid (Calls Try.prog 45 #[.int .i64 (mvs p (ds.take k)), .agg #[.int .i64 d.a, .string d.o, .string d.i]] (wr.alloc (.cells #[.int .i64 d.a, .string d.o, .string d.i] 63)) fun e w' => e = .returned (.int .i64 (mvs p (ds.take (k + 1)))) ∧ Below (wr.alloc (.cells #[.int .i64 d.a, .string d.o, .string d.i] 63)).heap.size (wr.alloc (.cells #[.int .i64 d.a, .string d.o, .string d.i] 63)) w') := by
        rw [mvs_take p hd]
        exact moved_any _ (mvs_ok (fun e he => HF.out.2 e (List.mem_of_mem_take he)) hp) d hdf _
      clear hrd hcs hd hdf
      obtain ⟨x, hx⟩ : ∃ x, mvs p (ds.take (k + 1)) = x := ⟨_, rfl⟩
      rw [hx] at CM
      have HX : Hid (mvs p (ds.take (k + 1)) = x) := hx
      clear hx
      go_wp2_with (go_at_call 45; refine CM.out.mono ?_; clear CM; rintro e w2 ⟨rfl, hb2⟩)
      exact ⟨⟨k + 1, by omega, by go_num, by rw [HX.out], (HB.out.trans (HBA.out.mono HB.out.size)).trans (hb2.mono (Nat.le_trans HB.out.size HBA.out.size))⟩, by simp [intOf]; omega⟩
    · go_wp2
      go_ret
      obtain rfl : k = N := by omega
      rw [List.take_of_length_le (by rw [HF.out.1]; exact Nat.le_refl _)]
      exact ⟨rfl, HB.out⟩
/-- a place or a delta's place out of what is promised -/
def farP (p : Int) (l : List Dl) : Bool := decide (p < 0 ∨ 1099511627776 < p) || l.any (fun d => decide (d.a < 0 ∨ 1099511627776 < d.a))
set_option maxRecDepth 100000 in
set_option maxHeartbeats 1000000 in
theorem far_any {w : World} {a : Option Addr} {N cap : Nat} {ds : List Dl} (hN : ds.length = N) (hl : N ≤ 140737488351232) (hR : RdD w (.slice a N cap) ds) (p : Int) :
    Calls Try.prog 19 #[.int .i64 p, .slice a N cap] w fun e w' => e = .returned (.bool (farP p ds)) ∧ Below w.heap.size w w' := by
  have HR : Hid (∀ W', Below w.heap.size w W' → RdD W' (.slice a N cap) ds) := fun W' hb => hR.below (Nat.le_refl _) hb
  have HF : Hid (ds.length = N) := hN
  clear hR hN
  by_cases hp : p < 0 ∨ 1099511627776 < p
  · have e1 : farP p ds = true := by simp [farP, hp]
    rw [e1]
    go_enter Try.func19, Try.ntmps19
    go_wp2
    all_goals try (exfalso; omega)
    all_goals go_ret
    all_goals exact ⟨rfl, Below.refl _ _⟩
  · have hp1 : ¬ p < 0 := by omega
    have hp2 : ¬ 1099511627776 < p := by omega
    have e1 : farP p ds = ds.any (fun d => decide (d.a < 0 ∨ 1099511627776 < d.a)) := by simp [farP, hp]
    rw [e1]
    obtain ⟨F, hF⟩ : ∃ F, ds.any (fun d => decide (d.a < 0 ∨ 1099511627776 < d.a)) = F := ⟨_, rfl⟩
    have HFF : Hid (ds.any (fun d => decide (d.a < 0 ∨ 1099511627776 < d.a)) = F) := hF
    rw [hF]
    clear hF e1
    go_enter Try.func19, Try.ntmps19
    go_wp2
    go_loopw [15] (fun t15 wr => ∃ k : Nat, k ≤ N ∧ t15 = .int .i64 k ∧ Hid ((ds.take k).any (fun d => decide (d.a < 0 ∨ 1099511627776 < d.a)) = false ∧ Below w.heap.size w wr)) (fun t15 _ => N - (intOf t15).toNat)
    case atStart => exact ⟨0, Nat.zero_le _, rfl, rfl, Below.refl _ _⟩
    case round =>
      obtain ⟨k, hk, rfl, HB⟩ := hrel
      by_cases hlt : k < N
      · obtain ⟨d, hd⟩ : ∃ d, ds[k]? = some d := ⟨ds[k]'(by rw [HF.out]; exact hlt), List.getElem?_eq_getElem _⟩
        obtain ⟨a', cap', ev, hrd⟩ := HR.out _ HB.out.2
        cases ev
        obtain ⟨g, o, rfl, hg, hcs⟩ := hrd (fun e => by rw [e] at hd; cases hd)
        obtain ⟨y0, y1, y2⟩ := hcs k d hd
        have HBA : Hid (Below wr.heap.size wr (wr.alloc (.cells #[.int .i64 d.a, .string d.o, .string d.i] 63))) := (Below.refl _ wr).alloc (Nat.le_refl _) _
        obtain ⟨z0, z1, z2⟩ := new3 wr (.int .i64 d.a) (.string d.o) (.string d.i) 63
        have HD : Hid (ds[k]? = some d) := hd
        obtain ⟨x, hx⟩ : ∃ x, d.a = x := ⟨_, rfl⟩
        clear hrd hcs hd
        rw [hx] at y0 z0 z1 z2 HBA
        by_cases c1 : x < 0
        · have HE : Hid (ds.any (fun d => decide (d.a < 0 ∨ 1099511627776 < d.a)) = true) := List.any_eq_true.2 ⟨d, List.mem_of_getElem? HD.out, by simp [hx, c1]⟩
          go_wp2
          go_ret
          exact ⟨by rw [← HFF.out, HE.out]; rfl, HB.out.2.trans (HBA.out.mono HB.out.2.size)⟩
        · by_cases c2 : 1099511627776 < x
          · have HE : Hid (ds.any (fun d => decide (d.a < 0 ∨ 1099511627776 < d.a)) = true) := List.any_eq_true.2 ⟨d, List.mem_of_getElem? HD.out, by simp [hx, c2]⟩
            go_wp2
            all_goals go_ret
            all_goals exact ⟨by rw [← HFF.out, HE.out]; rfl, HB.out.2.trans (HBA.out.mono HB.out.2.size)⟩
          · go_wp2
            refine ⟨⟨k + 1, by omega, by go_num, ?_, HB.out.2.trans (HBA.out.mono HB.out.2.size)⟩, by simp [intOf]; omega⟩
            rw [List.take_add_one, HD.out, List.any_append, HB.out.1]
            simp [hx]
            omega
      · go_wp2
        go_ret
        obtain rfl : k = N := by omega
        have := HB.out.1
        rw [List.take_of_length_le (by rw [HF.out]; exact Nat.le_refl _)] at this
        exact ⟨by rw [← HFF.out, this]; rfl, HB.out.2⟩
end Go.Proofs.Ytolafffpgkgadaa
