/-
  Package marks' Drop, Clone and Move of any set; of nil. Conditions: those of each theorem.
-/
import Derived.Test.YtolafffpgkgadaaERefD
import Derived.Shelf.SlMaps.Clone
namespace Go.Proofs.Ytolafffpgkgadaa
open Go.RowKit Go.ChangeMaps Go.MapKept

set_option maxRecDepth 100000 in
theorem drop_any {w : World} {sb : Nat} {mb : Option Nat} {L : Ml} (h : St w sb mb L) {n : Nat} (hn : n < 256) :
    Calls Try.prog 24 #[.pointer (some ⟨sb, 0, none⟩), .int .u8 (n : Int)] w fun e w' => e = .returned (.int .i64 (getE n L).2) ∧ St w' sb mb (drpL n L) ∧ Ch sb mb w w' := by
  have CT := get_any h hn
  cases hg : gd n with
  | false =>
    have e : getE n L = (0, 13) := getE_bad hg
    rw [e] at CT ⊢
    have H : Hid (St w sb mb (drpL n L)) := by show St _ _ _ _; unfold drpL; rw [hg]; exact h
    clear h
    go_enter Try.func24, Try.ntmps24
    go_wp2_with (go_at_call 23; refine CT.mono ?_; clear CT; rintro e w1 ⟨rfl, rfl⟩)
    go_ret
    exact ⟨rfl, H.out, Ch.refl _ _ _⟩
  | true =>
    cases hq : got n L with
    | none =>
      have e : getE n L = (0, 7) := by unfold getE; rw [hg, hq]; rfl
      rw [e] at CT ⊢
      have H : Hid (St w sb mb (drpL n L)) := by show St _ _ _ _; unfold drpL; rw [hg, if_pos rfl, out_none hq]; exact h
      clear h
      go_enter Try.func24, Try.ntmps24
      go_wp2_with (go_at_call 23; refine CT.mono ?_; clear CT; rintro e w1 ⟨rfl, rfl⟩)
      go_ret
      exact ⟨rfl, H.out, Ch.refl _ _ _⟩
    | some y =>
      have e : getE n L = (y, 0) := by unfold getE; rw [hg, hq]; rfl
      rw [e] at CT ⊢
      cases mb with
      | none => rw [h.nil rfl] at hq; cases hq
      | some b =>
        have hc := h.cell
        have hkey := key8 hn
        have hown := (h.own b rfl).2
        have HS : Hid (St w sb (some b) L) := h
        have HO : Hid (Mp w b L) := hown
        have HD : Hid (drpL n L = out n L) := by show drpL n L = _; unfold drpL; rw [hg, if_pos rfl]
        clear h hown hg hq e
        go_enter Try.func24, Try.ntmps24
        go_wp2_with (first
          | (go_at_call 23; refine CT.mono ?_; clear CT; rintro e w1 ⟨rfl, rfl⟩)
          | (at_delete; refine wpList_delete_own _ rfl _ _ 47 5 rfl 3 law8 Try.underlying47 _ b _ _ rfl HO.out.1 _ _ rfl hkey ?_; intro w2 hown2 hg2; have H2 : Hid (St w2 sb (some b) (drpL n L) ∧ Ch sb (some b) w1 w2) := (by rw [del_mk] at hown2; rw [HD.out]; exact HS.out.turned hg2.grown ⟨owns_tight hown2, HO.out.2.1.out, HO.out.2.2.out⟩); clear hown2 hg2))
        go_ret
        exact ⟨rfl, H2.out⟩
theorem drop_none (w : World) {n : Nat} (hn : n < 256) :
    Calls Try.prog 24 #[.pointer none, .int .u8 (n : Int)] w fun e w' => e = .returned (.int .i64 (getE n []).2) ∧ w' = w := by
  have CT := get_none w hn
  cases hg : gd n with
  | false =>
    have e : getE n [] = (0, 13) := getE_bad hg
    rw [e] at CT ⊢
    go_enter Try.func24, Try.ntmps24
    go_wp2_with (go_at_call 23; refine CT.mono ?_; clear CT; rintro e w1 ⟨rfl, rfl⟩)
    go_ret
    exact ⟨rfl, rfl⟩
  | true =>
    have e : getE n [] = (0, 7) := by unfold getE; rw [hg]; rfl
    rw [e] at CT ⊢
    go_enter Try.func24, Try.ntmps24
    go_wp2_with (go_at_call 23; refine CT.mono ?_; clear CT; rintro e w1 ⟨rfl, rfl⟩)
    go_ret
    exact ⟨rfl, rfl⟩
set_option maxRecDepth 100000 in
theorem mclone_own {w : World} {b : Nat} {L : Ml} (h : Mp w b L) : Calls Try.prog 35 #[.map (some b)] w fun e w' => e = .returned (.map (some w.heap.size)) ∧ Mp w' w.heap.size L ∧ Below w.heap.size w w' := by
  obtain ⟨⟨es, clock, hb, F, hs, hD⟩, h2⟩ := h
  have hq := map_some b
  go_enter Try.func35, Try.ntmps35
  go_wp2
  rw [run_callFunc_extern Try.func48 (by kernel_rfl) (by kernel_rfl) (by kernel_rfl) (e := Extern.MapsClone.clone) (by kernel_rfl), run_maps_clone_sl w 47 hb]
  simp only [Result.andThen]
  rw [Oper.upon_value]
  go_wp2
  rw [run_typeAssert_map_sl _ 47 20 _ _ _ Try.underlying47]
  simp only [Result.andThen]
  rw [Oper.upon_value]
  go_wp2
  go_ret
  exact ⟨rfl, ⟨⟨es, clock, (MapKept.heap_alloc w _).1, F, hs, hD⟩, h2⟩, (Below.refl _ w).alloc (Nat.le_refl _) _⟩
theorem mclone_nil (w : World) : Calls Try.prog 35 #[.map none] w fun e w' => e = .returned (.map none) ∧ w' = w := by
  have hq := map_nil
  go_enter Try.func35, Try.ntmps35
  go_wp2
  go_ret
  exact ⟨rfl, rfl⟩
set_option maxRecDepth 100000 in
theorem clone_any {w : World} {sb : Nat} {mb : Option Nat} {L : Ml} (h : St w sb mb L) :
    Calls Try.prog 12 #[.pointer (some ⟨sb, 0, none⟩)] w fun e w' => ∃ sb' mb', e = .returned (.pointer (some ⟨sb', 0, none⟩)) ∧ St w' sb' mb' L ∧ Below w.heap.size w w' ∧ w.heap.size ≤ sb' ∧ ∀ b, mb' = some b → w.heap.size ≤ b := by
  have hc := h.cell
  cases mb with
  | none =>
    have HL : Hid (L = []) := h.nil rfl
    have CM := mclone_nil w
    clear h
    go_enter Try.func12, Try.ntmps12
    go_wp2_with (go_at_call 35; refine CM.mono ?_; clear CM; rintro e w1 ⟨rfl, rfl⟩)
    go_ret
    exact ⟨_, none, rfl, ⟨World.alloc_heap_new w1 _, fun _ => HL.out, fun b e => by cases e⟩, (Below.refl _ w1).alloc (Nat.le_refl _) _, Nat.le_refl _, fun b e => by cases e⟩
  | some b =>
    have CM := mclone_own (h.own b rfl).2
    clear h
    go_enter Try.func12, Try.ntmps12
    go_wp2_with (go_at_call 35; refine CM.mono ?_; clear CM; rintro e w1 ⟨rfl, hm1, hb1⟩; have H1 : Hid (Mp w1 w.heap.size L ∧ Below w.heap.size w w1) := ⟨hm1, hb1⟩; clear hm1 hb1)
    go_ret
    obtain ⟨h1, h2⟩ := H1.out
    have hlt := h1.lt
    refine ⟨_, some w.heap.size, rfl, ⟨World.alloc_heap_new w1 _, fun e => (by cases e), fun b e => ?_⟩, h2.alloc h2.size _, h2.size, fun b e => by cases e; exact Nat.le_refl _⟩
    cases e
    exact ⟨by omega, h1.of_heap (((Below.refl _ w1).alloc (Nat.le_refl _) _).block _ hlt)⟩
theorem clone_none (w : World) : Calls Try.prog 12 #[.pointer none] w fun e w' => e = .returned (.pointer none) ∧ w' = w := by
  go_enter Try.func12, Try.ntmps12
  go_wp2
  go_ret
  exact ⟨rfl, rfl⟩
set_option maxRecDepth 100000 in
theorem move_emp {w : World} (r a : Value) (hA : Calls Try.prog 25 #[r] w fun e W' => ∃ v, e = .returned v ∧ W'.ownsRow w.heap.size 26 2 v 0 [] ∧ Below w.heap.size w W') :
    Calls Try.prog 20 #[r, a] w fun e w' => e = .returned (.tuple #[]) ∧ Below w.heap.size w w' := by
  go_enter Try.func20, Try.ntmps20
  go_wp2_with (go_at_call 25; refine hA.mono ?_; clear hA; rintro e w1 ⟨v1, rfl, hr1, hb1⟩; have H1 : Hid (Below w.heap.size w w1) := hb1; clear hb1; obtain ⟨ta, tc, rfl⟩ : ∃ ta tc, v1 = .slice ta 0 tc := (by rcases hr1.2 with ⟨rfl, _⟩ | ⟨g, cap, cur, rfl, _⟩ <;> exact ⟨_, _, rfl⟩); clear hr1)
  go_loopw [9] (fun t9 wr => t9 = .int .i64 0 ∧ wr = w1) (fun _ _ => 0)
  case atStart => exact ⟨rfl, rfl⟩
  case round =>
    obtain ⟨rfl, rfl⟩ := hrel
    go_wp2
    go_end0
    exact ⟨rfl, H1.out⟩
theorem move_any {w : World} {sb : Nat} {mb : Option Nat} {L : Ml} (h : St w sb mb L) (hg : Gdl L) {a : Option Addr} {N cap : Nat} {ds : List Dl} (hN : ds.length = N) (hl : N ≤ 140737488351232) (hf : ∀ d ∈ ds, d.fit) (hR : ∀ W', Ch sb mb w W' → RdD W' (.slice a N cap) ds) :
    Calls Try.prog 20 #[.pointer (some ⟨sb, 0, none⟩), .slice a N cap] w fun e w' => e = .returned (.tuple #[]) ∧ St w' sb mb (mvL ds L) ∧ Ch sb mb w w' := by
  rcases L with _ | ⟨q, r⟩
  · refine (move_emp _ _ (All_any h hg)).mono ?_
    rintro e w' ⟨rfl, hb⟩
    exact ⟨rfl, h.below hb, Ch.below hb⟩
  · cases mb with
    | none => exact absurd (h.nil rfl) (by simp)
    | some b => exact move_own h (by simp) (sort_all (by simp) (len27 h.ris.1 hg)) hN hl hf hR
theorem move_none (w : World) (a : Value) : Calls Try.prog 20 #[.pointer none, a] w fun e w' => e = .returned (.tuple #[]) ∧ Below w.heap.size w w' := move_emp _ _ (All_none w)
end Go.Proofs.Ytolafffpgkgadaa
