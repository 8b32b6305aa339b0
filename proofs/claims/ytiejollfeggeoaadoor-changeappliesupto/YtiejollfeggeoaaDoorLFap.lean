/-
  The walk of the law ChangeApplies: what Apply answers is what the document says. Conditions: those of walk_of.
-/
import Derived.Test.YtiejollfeggeoaaDoorFApp
import Derived.Test.YtiejollfeggeoaaDoorFAwk
import Derived.Test.YtiejollfeggeoaaDoorUEds
namespace Go.Proofs.YtiejollfeggeoaaDoor.changeApplies
open Go.RowKit Go.Shelf Bod Wid

theorem app_abc : appP ⟨#[97, 98, 99]⟩ 1 1 ⟨#[88, 89]⟩ = (⟨#[97, 88, 89, 99]⟩, 0) := by
  unfold appP
  rw [if_pos (by decide)]
  have : doneP ⟨#[97, 98, 99]⟩ (1 : Int).toNat (1 : Int).toNat ⟨#[88, 89]⟩ = ⟨#[97, 88, 89, 99]⟩ := by decide +kernel
  rw [this]
set_option maxRecDepth 100000 in
set_option maxHeartbeats 2000000 in
theorem walk (hM : Tryd.prog.follows .mixedOrders = true) (s : ByteArray) (hs : s.size ≤ 1048576) (a0 : Option Addr) (cap : Nat) (es : List Ed) (w : World) (hS : RdE w (.slice a0 es.length cap) es) (hl : es.length ≤ 1048576) (hf : ∀ x ∈ es, x.fit ∧ x.p.size ≤ 1048576) (hT : Tw w) :
    Calls Tryd.prog 3 #[.string s, .slice a0 es.length cap] w fun e W' => e = .returned (.bool true) ∧ Below w.heap.size w W' := by
  have C0 : Hid (Calls Tryd.prog 7 #[] w fun e W' => e = .returned (.bool true) ∧ Hid (Below w.heap.size w W')) := awake_any hM w hT
  have C1 : Hid (∀ W (x : Ed), x ∈ es → Below w.heap.size w W → Calls Tryd.prog 8 #[.string s, .agg #[.int .i64 x.a, .int .i64 x.c, .string x.p]] W fun e W' => e = .returned (.tuple #[.string (appP s x.a x.c x.p).1, .int .i64 (appP s x.a x.c x.p).2]) ∧ Hid (Below w.heap.size w W')) := fun W x hx hW => (Apply_any s (by omega) x.a x.c (hf x hx).1.1 (hf x hx).1.2 x.p (by have := (hf x hx).2; omega) W).mono fun e W' ⟨k1, k2⟩ => ⟨k1, below_on hW k2⟩
  have C2 : Hid (∀ W (x : Ed), x ∈ es → Below w.heap.size w W → Calls Tryd.prog 9 #[.string s, .agg #[.int .i64 x.a, .int .i64 x.c, .string x.p]] W fun e W' => e = .returned (.tuple #[.string (appP s x.a x.c x.p).1, .int .i64 (appP s x.a x.c x.p).2]) ∧ Hid (Below w.heap.size w W')) := fun W x hx hW => (rApply_any hM s (by omega) x.a x.c (hf x hx).1.1 (hf x hx).1.2 x.p (by have := (hf x hx).2; omega) W).mono fun e W' ⟨k1, k2⟩ => ⟨k1, below_on hW k2⟩
  have C3 : Hid (∀ W, Below w.heap.size w W → Calls Tryd.prog 8 #[.string ⟨#[97, 98, 99]⟩, .agg #[.int .i64 1, .int .i64 1, .string ⟨#[88, 89]⟩]] W fun e W' => e = .returned (.tuple #[.string ⟨#[97, 88, 89, 99]⟩, .int .i64 0]) ∧ Hid (Below w.heap.size w W')) := fun W hW => by
    have := Apply_any ⟨#[97, 98, 99]⟩ (by decide) 1 1 (by decide) (by decide) ⟨#[88, 89]⟩ (by decide) W
    rw [app_abc] at this
    exact this.mono fun e W' ⟨k1, k2⟩ => ⟨k1, below_on hW k2⟩
  have HR : Hid (∀ W, Below w.heap.size w W → RdE W (.slice a0 es.length cap) es) := fun W hW => hS.below (Nat.le_refl _) hW
  obtain ⟨N, hN⟩ : ∃ N, es.length = N := ⟨_, rfl⟩
  have HN : Hid (es.length = N) := hN
  rw [hN] at hl ⊢
  have hl' : (N : Int) ≤ 1048576 := by omega
  have HRc : Hid (∀ W, Below w.heap.size w W → ∀ (k : Nat) (x : Ed), es[k]? = some x → ∃ g o, a0 = some ⟨g, o, none⟩ ∧ W.cell? ⟨g, o + k * 3, none⟩ = some (.int .i64 x.a) ∧ W.cell? ⟨g, o + k * 3 + 1, none⟩ = some (.int .i64 x.c) ∧ W.cell? ⟨g, o + k * 3 + 2, none⟩ = some (.string x.p)) := fun W hW k x hk => by
    obtain ⟨a, cap', e, hq⟩ := HR.out W hW
    obtain ⟨g, o, e', -, hc⟩ := hq (fun e => by rw [e] at hk; simp at hk)
    injection e with e1 _ _
    exact ⟨g, o, e1.trans e', hc k x hk⟩
  clear hS hf HR hN hT
  go_enter Tryd.func3, Tryd.ntmps3
  go_upto_region 4 with (go_at_call 7; refine C0.out.mono ?_; clear C0; rintro e w1 ⟨rfl, HB⟩)
  go_loopw [5] (fun t5 wr => ∃ i : Nat, t5 = .int .i64 i ∧ i ≤ N ∧ Hid (Below w.heap.size w wr)) (fun t5 _ => N - (intOf t5).toNat)
  case atStart => exact ⟨0, rfl, Nat.zero_le _, HB⟩
  case round =>
    clear HB
    obtain ⟨i, rfl, hi, HB⟩ := hrel
    by_cases hlt : i < N
    · have hlt' : (i : Int) < N := by omega
      obtain ⟨x, hx⟩ : ∃ x, es[i]? = some x := ⟨es[i]'(by rw [HN.out]; exact hlt), List.getElem?_eq_getElem _⟩
      obtain ⟨g, o, rfl, q0, q1, q2⟩ := HRc.out wr HB.out i x hx
      have D1 : Hid (∀ W, Below w.heap.size w W → Calls Tryd.prog 8 #[.string s, .agg #[.int .i64 x.a, .int .i64 x.c, .string x.p]] W fun e W' => e = .returned (.tuple #[.string (appP s x.a x.c x.p).1, .int .i64 (appP s x.a x.c x.p).2]) ∧ Hid (Below w.heap.size w W')) := fun W hW => C1.out W x (List.mem_of_getElem? hx) hW
      have D2 : Hid (∀ W, Below w.heap.size w W → Calls Tryd.prog 9 #[.string s, .agg #[.int .i64 x.a, .int .i64 x.c, .string x.p]] W fun e W' => e = .returned (.tuple #[.string (appP s x.a x.c x.p).1, .int .i64 (appP s x.a x.c x.p).2]) ∧ Hid (Below w.heap.size w W')) := fun W hW => C2.out W x (List.mem_of_getElem? hx) hW
      have HQ : Hid (∀ W, Below w.heap.size w W → W.cell? ⟨g, o + i * 3, none⟩ = some (.int .i64 x.a) ∧ W.cell? ⟨g, o + i * 3 + 1, none⟩ = some (.int .i64 x.c) ∧ W.cell? ⟨g, o + i * 3 + 2, none⟩ = some (.string x.p)) := fun W hW => by
        obtain ⟨g', o', e, h⟩ := HRc.out W hW i x hx
        cases e
        exact h
      generalize (appP s x.a x.c x.p).1 = y at D1 D2
      generalize (appP s x.a x.c x.p).2 = z at D1 D2
      generalize x.a = xa at *
      generalize x.c = xc at *
      generalize x.p = xp at *
      clear hx
      go_wp2_with (first
        | (go_at_call 8; refine (D1.out _ HB.out).mono ?_; clear D1 HB q0 q1 q2; rintro e w2 ⟨rfl, HB⟩; obtain ⟨q0, q1, q2⟩ := HQ.out _ HB.out)
        | (go_at_call 9; refine (D2.out _ HB.out).mono ?_; clear D2 HB q0 q1 q2; rintro e w3 ⟨rfl, HB⟩))
      exact ⟨⟨i + 1, by go_num, by omega, HB⟩, by simp [intOf]; omega⟩
    · have hge : ¬ ((i : Int) < N) := by omega
      go_wp2_with (go_at_call 8; refine (C3.out _ HB.out).mono ?_; clear C3 HB; rintro e w2 ⟨rfl, HB⟩)
      go_ret
      exact ⟨rfl, HB.out⟩
theorem edb_mem : ∀ (l : List Ed) (x : Ed), x ∈ l → x.p.size + 1 ≤ edb l
  | y :: l, x, h => by
    rcases List.mem_cons.1 h with rfl | h
    · simp only [edb]; omega
    · have := edb_mem l x h; simp only [edb]; omega
theorem edb_len : ∀ l : List Ed, l.length ≤ edb l
  | [] => Nat.le_refl _
  | x :: l => by have := edb_len l; simp only [edb, List.length_cons]; omega
theorem walk_of {H : Type} {d : DataW H} (s : ByteArray) (a0 : Option Addr) (len cap : Nat) (w : World) (hT : Lib.Utf8Tabs 1 2 w) (hlo0 : 1 < w.heap.size) (hlo1 : 2 < w.heap.size) (_hs : s.size ≤ 140737488351232) (es : List Ed) (hS : RdE w (.slice a0 len cap) es) (hu : edb es ≤ Rows.uptoBulk d ∧ ∀ x ∈ es, x.fit) (hk : Rows.uptoSmall H ([DataW.lit (.string s.data.toList), d] ++ []) = true) :
    Calls Tryd.prog 3 #[.string s, .slice a0 len cap] w fun e w' => e = .returned (.bool true) ∧ Below w.heap.size w w' := by
  have h : Rows.uptoBulkAll ([DataW.lit (H := H) (.string s.data.toList), d] ++ []) ≤ 1048576 := of_decide_eq_true hk
  simp only [List.append_nil, Rows.uptoBulkAll, Rows.uptoBulk] at h
  obtain ⟨a, cap', e, hc⟩ := id hS
  cases e
  exact walk (by kernel_rfl) s (by rw [Lib.size_eq]; omega) a0 cap es w hS (by have := edb_len es; have := hu.1; omega) (fun x hx => ⟨hu.2 x hx, by have := edb_mem es x hx; have := hu.1; omega⟩) ⟨hT, hlo0, hlo1⟩
end Go.Proofs.YtiejollfeggeoaaDoor.changeApplies
