/-
  A history of package hist through a law's calls; the laws' awake and filled. Conditions: those of each theorem.
-/
import Derived.Test.YtgakgebhhmkclabHAdd
namespace Go.Proofs.Ytgakgebhhmkclab
open Go.RowKit

/-- the history h at pb, made since w -/
def Ps (w : World) (pb : Nat) (h : Hs) (W : World) : Prop := (∃ F, Pr W w.heap.size pb F h) ∧ Below w.heap.size w W
theorem Ps.ok {w W : World} {pb : Nat} {h : Hs} (k : Ps w pb h W) : h.Ok := by obtain ⟨⟨F, k⟩, _⟩ := k; exact k.ok
theorem Ps.below {w W W' : World} {pb : Nat} {h : Hs} (k : Ps w pb h W) (hb : Below W.heap.size W W') : Ps w pb h W' := by
  obtain ⟨⟨F, k⟩, h2⟩ := k
  exact ⟨⟨F, k.below hb⟩, h2.trans (hb.mono h2.size)⟩
theorem Ps.mv {w W W' : World} {pb : Nat} {h h' : Hs} {F F' : Nat → Prop} (k : Pr W w.heap.size pb F h) (hb : Below w.heap.size w W) (k' : Pr W' w.heap.size pb F' h') (hm : Mv W F W' F') : Ps w pb h' W' :=
  ⟨⟨F', k'⟩, hb.trans (hm.low (fun _ hg => (k.fp hg).1) hb.size)⟩
section
variable {w W : World} {pb : Nat} {h : Hs}
theorem new_ps {b : Int} (hb : -9223372036854775808 ≤ b ∧ b ≤ 9223372036854775807) (hW : Below w.heap.size w W) : Calls Try.prog 12 #[.int .i64 b] W fun e W' => ∃ pb, e = .returned (.pointer (some ⟨pb, 0, none⟩)) ∧ Ps w pb (Hs.new b) W' :=
  (new_any hb W w.heap.size hW.size).mono (by
    rintro e W' ⟨rfl, q1, q2⟩
    exact ⟨_, rfl, ⟨_, _, _, q1, rfl⟩, hW.trans (q2.mono hW.size)⟩)
theorem add_ps (k : Ps w pb h W) {t : ByteArray} (ht : t.size ≤ 1099511627776) : Calls Try.prog 13 #[.pointer (some ⟨pb, 0, none⟩), .string t] W fun e W' => e = .returned (.bool (h.took t)) ∧ Ps w pb (h.add t) W' := by
  obtain ⟨⟨F, k⟩, hb⟩ := k
  exact (add_any k ht).mono fun e W' ⟨q1, F', q2, q3⟩ => ⟨q1, Ps.mv k hb q2 q3⟩
theorem back_ps (k : Ps w pb h W) {t : ByteArray} (ht : t.size ≤ 1099511627776) : Calls Try.prog 14 #[.pointer (some ⟨pb, 0, none⟩), .string t] W fun e W' => e = .returned (.tuple #[.string (h.backA t).1, .int .i64 (h.backA t).2]) ∧ Ps w pb (h.back t) W' := by
  obtain ⟨⟨F, k⟩, hb⟩ := k
  exact (back_any k ht).mono fun e W' ⟨q1, F', q2, q3⟩ => ⟨q1, Ps.mv k hb q2 q3⟩
theorem forward_ps (k : Ps w pb h W) {t : ByteArray} (ht : t.size ≤ 1099511627776) : Calls Try.prog 15 #[.pointer (some ⟨pb, 0, none⟩), .string t] W fun e W' => e = .returned (.tuple #[.string (h.fwdA t).1, .int .i64 (h.fwdA t).2]) ∧ Ps w pb (h.fwd t) W' := by
  obtain ⟨⟨F, k⟩, hb⟩ := k
  exact (forward_any k ht).mono fun e W' ⟨q1, F', q2, q3⟩ => ⟨q1, Ps.mv k hb q2 q3⟩
theorem go_ps (k : Ps w pb h W) {p : Int} (hp : -9223372036854775808 ≤ p ∧ p ≤ 9223372036854775807) {t : ByteArray} (ht : t.size ≤ 1099511627776) : Calls Try.prog 22 #[.pointer (some ⟨pb, 0, none⟩), .int .i64 p, .string t] W fun e W' => e = .returned (.tuple #[.string (h.goA p t).1, .int .i64 (h.goA p t).2]) ∧ Ps w pb (h.goes p t) W' := by
  obtain ⟨⟨F, k⟩, hb⟩ := k
  exact (go_any k hp ht).mono fun e W' ⟨q1, F', q2, q3⟩ => ⟨q1, Ps.mv k hb q2 q3⟩
theorem home_ps (k : Ps w pb h W) : Calls Try.prog 18 #[.pointer (some ⟨pb, 0, none⟩)] W fun e W' => e = .returned (.tuple #[]) ∧ Ps w pb h.home W' := by
  obtain ⟨⟨F, v, d, k, rfl⟩, hb⟩ := k
  exact (home_any k).mono fun e W' ⟨q1, q2, q3⟩ => ⟨q1, Ps.mv ⟨v, d, k, rfl⟩ hb ⟨_, _, q2, rfl⟩ q3⟩
theorem len_ps (k : Ps w pb h W) : Calls Try.prog 10 #[.pointer (some ⟨pb, 0, none⟩)] W fun e W' => e = .returned (.int .i64 (h.es.length : Int)) ∧ W' = W := by
  obtain ⟨⟨F, v, d, k, _⟩, _⟩ := k; exact len_any k
theorem place_ps (k : Ps w pb h W) : Calls Try.prog 9 #[.pointer (some ⟨pb, 0, none⟩)] W fun e W' => e = .returned (.int .i64 (h.pl : Int)) ∧ W' = W := by
  obtain ⟨⟨F, v, d, k, _⟩, _⟩ := k; exact place_any k
theorem bound_ps (k : Ps w pb h W) : Calls Try.prog 19 #[.pointer (some ⟨pb, 0, none⟩)] W fun e W' => e = .returned (.int .i64 (h.b : Int)) ∧ W' = W := by
  obtain ⟨⟨F, v, d, k, _⟩, _⟩ := k; exact bound_any k
theorem drafts_ps (k : Ps w pb h W) : Calls Try.prog 11 #[.pointer (some ⟨pb, 0, none⟩)] W fun e W' => e = .returned (.int .i64 (h.nt.length : Int)) ∧ Ps w pb h W' := by
  have k0 := k
  obtain ⟨⟨F, v, d, k, _⟩, _⟩ := k; exact (drafts_any k).mono fun e W' q => ⟨q.1, k0.below q.2⟩
theorem find_ps (k : Ps w pb h W) {t : ByteArray} {i : Int} (hi : -9223372036854775808 ≤ i ∧ i ≤ 9223372036854775807) : Calls Try.prog 7 #[.pointer (some ⟨pb, 0, none⟩), .string t, .int .i64 i] W fun e W' => e = .returned (.tuple #[.int .i64 (h.find t i).1, .int .i64 (h.find t i).2.1, .int .i64 (h.find t i).2.2]) ∧ W' = W := by
  obtain ⟨⟨F, v, d, k, _⟩, _⟩ := k; exact find_any k hi
theorem entries_ps (k : Ps w pb h W) : Calls Try.prog 6 #[.pointer (some ⟨pb, 0, none⟩)] W fun e W' => ∃ a c, e = .returned (.slice a h.es.length c) ∧ W'.ownsRow W.heap.size 9 1 (.slice a h.es.length c) h.es.length (sv h.es) ∧ Ps w pb h W' ∧ Below W.heap.size W W' := by
  have k0 := k
  obtain ⟨⟨F, v, d, k, _⟩, _⟩ := k
  refine (entries_any k).mono ?_
  rintro e W' ⟨u, rfl, q1, q2⟩
  obtain ⟨a, c, rfl, _⟩ := row_slice q1
  exact ⟨a, c, rfl, q1, k0.below q2, q2⟩
end
def hA0 : Hs := Hs.new 2
def hA1 : Hs := hA0.add ⟨#[97]⟩
def hA2 : Hs := hA1.add ⟨#[98]⟩
def hA3 : Hs := hA2.add ⟨#[99]⟩
def hA4 : Hs := hA3.back ⟨#[120]⟩
def hA5 : Hs := hA4.back ⟨#[67]⟩
def hA6 : Hs := hA5.fwd ⟨#[98, 98]⟩
theorem awake_facts : hA2.took ⟨#[99]⟩ = true ∧ hA3.es.length = 2 ∧ hA3.pl = 2 ∧ hA3.backA ⟨#[120]⟩ = (⟨#[99]⟩, 0) ∧ hA4.backA ⟨#[67]⟩ = (⟨#[98]⟩, 0) ∧ hA5.fwdA ⟨#[98, 98]⟩ = (⟨#[67]⟩, 0) ∧ hA6.fwdA ⟨#[67]⟩ = (⟨#[120]⟩, 0) := by
  refine ⟨?_, ?_, ?_, ?_, ?_, ?_, ?_⟩ <;> decide
set_option maxRecDepth 100000 in
set_option maxHeartbeats 4000000 in
theorem awake_any (w : World) : Calls Try.prog 4 #[] w fun e w' => e = .returned (.bool true) ∧ Below w.heap.size w w' := by
  obtain ⟨x1, x2, x3, x4, x5, x6, x7⟩ := awake_facts
  have C0 : Hid (Calls Try.prog 12 #[.int .i64 2] w fun e W' => ∃ pb, e = .returned (.pointer (some ⟨pb, 0, none⟩)) ∧ Hid (Ps w pb hA0 W')) := new_ps (by omega) (Below.refl _ _)
  have C1 : Hid (∀ W pb, Ps w pb hA0 W → Calls Try.prog 13 #[.pointer (some ⟨pb, 0, none⟩), .string ⟨#[97]⟩] W fun e W' => ∃ β, e = .returned (.bool β) ∧ Hid (Ps w pb hA1 W')) := fun W pb k => (add_ps k (by decide)).mono fun e W' q => ⟨_, q⟩
  have C2 : Hid (∀ W pb, Ps w pb hA1 W → Calls Try.prog 13 #[.pointer (some ⟨pb, 0, none⟩), .string ⟨#[98]⟩] W fun e W' => ∃ β, e = .returned (.bool β) ∧ Hid (Ps w pb hA2 W')) := fun W pb k => (add_ps k (by decide)).mono fun e W' q => ⟨_, q⟩
  have C3 : Hid (∀ W pb, Ps w pb hA2 W → Calls Try.prog 13 #[.pointer (some ⟨pb, 0, none⟩), .string ⟨#[99]⟩] W fun e W' => e = .returned (.bool true) ∧ Hid (Ps w pb hA3 W')) := fun W pb k => (add_ps k (by decide)).mono fun e W' q => ⟨by rw [← x1]; exact q.1, q.2⟩
  have C4 : Hid (∀ W pb, Ps w pb hA3 W → Calls Try.prog 10 #[.pointer (some ⟨pb, 0, none⟩)] W fun e W' => e = .returned (.int .i64 2) ∧ W' = W) := fun W pb k => by have := len_ps k; rw [x2] at this; exact this
  have C5 : Hid (∀ W pb, Ps w pb hA3 W → Calls Try.prog 9 #[.pointer (some ⟨pb, 0, none⟩)] W fun e W' => e = .returned (.int .i64 2) ∧ W' = W) := fun W pb k => by have := place_ps k; rw [x3] at this; exact this
  have C6 : Hid (∀ W pb, Ps w pb hA3 W → Calls Try.prog 14 #[.pointer (some ⟨pb, 0, none⟩), .string ⟨#[120]⟩] W fun e W' => e = .returned (.tuple #[.string ⟨#[99]⟩, .int .i64 0]) ∧ Hid (Ps w pb hA4 W')) := fun W pb k => by have := back_ps k (t := ⟨#[120]⟩) (by decide); rw [x4] at this; exact this
  have C7 : Hid (∀ W pb, Ps w pb hA4 W → Calls Try.prog 14 #[.pointer (some ⟨pb, 0, none⟩), .string ⟨#[67]⟩] W fun e W' => e = .returned (.tuple #[.string ⟨#[98]⟩, .int .i64 0]) ∧ Hid (Ps w pb hA5 W')) := fun W pb k => by have := back_ps k (t := ⟨#[67]⟩) (by decide); rw [x5] at this; exact this
  have C8 : Hid (∀ W pb, Ps w pb hA5 W → Calls Try.prog 15 #[.pointer (some ⟨pb, 0, none⟩), .string ⟨#[98, 98]⟩] W fun e W' => e = .returned (.tuple #[.string ⟨#[67]⟩, .int .i64 0]) ∧ Hid (Ps w pb hA6 W')) := fun W pb k => by have := forward_ps k (t := ⟨#[98, 98]⟩) (by decide); rw [x6] at this; exact this
  have C9 : Hid (∀ W pb, Ps w pb hA6 W → Calls Try.prog 15 #[.pointer (some ⟨pb, 0, none⟩), .string ⟨#[67]⟩] W fun e W' => e = .returned (.tuple #[.string ⟨#[120]⟩, .int .i64 0]) ∧ Hid (Below w.heap.size w W')) := fun W pb k => by have := forward_ps k (t := ⟨#[67]⟩) (by decide); rw [x7] at this; exact this.mono fun e W' q => ⟨q.1, q.2.2⟩
  clear x1 x2 x3 x4 x5 x6 x7
  go_enter Try.func4, Try.ntmps4
  go_wp2_with (first
    | (go_at_call 12; refine C0.out.mono ?_; clear C0; rintro e w1 ⟨pb, rfl, H0⟩)
    | (go_at_call 13; refine (C1.out _ _ H0.out).mono ?_; clear C1 H0; rintro e w2 ⟨β1, rfl, H1⟩)
    | (go_at_call 13; refine (C2.out _ _ H1.out).mono ?_; clear C2 H1; rintro e w3 ⟨β2, rfl, H2⟩)
    | (go_at_call 13; refine (C3.out _ _ H2.out).mono ?_; clear C3 H2; rintro e w4 ⟨rfl, H3⟩)
    | (go_at_call 10; refine (C4.out _ _ H3.out).mono ?_; clear C4; rintro e w5 ⟨rfl, hw⟩; subst hw)
    | (go_at_call 9; refine (C5.out _ _ H3.out).mono ?_; clear C5; rintro e w5 ⟨rfl, hw⟩; subst hw)
    | (go_at_call 14; refine (C6.out _ _ H3.out).mono ?_; clear C6 H3; rintro e w6 ⟨rfl, H4⟩)
    | (go_at_call 14; refine (C7.out _ _ H4.out).mono ?_; clear C7 H4; rintro e w7 ⟨rfl, H5⟩)
    | (go_at_call 15; refine (C8.out _ _ H5.out).mono ?_; clear C8 H5; rintro e w8 ⟨rfl, H6⟩)
    | (go_at_call 15; refine (C9.out _ _ H6.out).mono ?_; clear C9 H6; rintro e w9 ⟨rfl, H7⟩))
  go_ret
  exact ⟨rfl, H7.out⟩
/-- lines added, one behind the other -/
def Hs.fill (h : Hs) : Tl → Hs
  | [] => h
  | t :: l => (h.add t).fill l
theorem Hs.fill_snoc (h : Hs) (l : Tl) (t : ByteArray) : h.fill (l ++ [t]) = (h.fill l).add t := by
  induction l generalizing h with
  | nil => rfl
  | cons x l ih => exact ih (h.add x)
theorem Hs.Ok.fill {h : Hs} (k : h.Ok) {l : Tl} (hl : ∀ s ∈ l, s.size ≤ 1099511627776) : (h.fill l).Ok := by
  induction l generalizing h with
  | nil => exact k
  | cons x l ih => exact ih (k.add (hl x List.mem_cons_self)) (fun s hs => hl s (List.mem_cons_of_mem _ hs))
/-- at the bottom, without drafts -/
def Hs.Rest (h : Hs) : Prop := h.pl = h.es.length ∧ h.nt = []
theorem Hs.Rest.new (b : Int) : (Hs.new b).Rest := ⟨rfl, rfl⟩
theorem Hs.Rest.add (h : Hs) (t : ByteArray) : (h.add t).Rest := by unfold Hs.add; split <;> exact ⟨rfl, rfl⟩
theorem Hs.Rest.fill {h : Hs} (k : h.Rest) (l : Tl) : (h.fill l).Rest := by
  induction l generalizing h with
  | nil => exact k
  | cons x l ih => exact ih (Hs.Rest.add h x)
/-- a text of a slice that came in -/
theorem RdS.at {w W : World} {a : Option Addr} {n c : Nat} {l : Tl} (h : RdS w (.slice a n c) l) (hb : Below w.heap.size w W) {k : Nat} {s : ByteArray} (hk : l[k]? = some s) : ∃ g o, a = some ⟨g, o, none⟩ ∧ W.cell? ⟨g, o + k, none⟩ = some (.string s) := by
  obtain ⟨a', c', e, hr⟩ := h
  obtain ⟨rfl, _, _⟩ := Value.slice.inj e
  obtain ⟨g, o, rfl, hg, hc⟩ := hr (fun e => by rw [e] at hk; cases hk)
  exact ⟨g, o, rfl, (hb.cell (p := ⟨g, o + k, none⟩) hg).trans (hc k s hk)⟩
theorem fill_take (h : Hs) {l : Tl} {k : Nat} {s : ByteArray} (hk : l[k]? = some s) : h.fill (l.take (k + 1)) = (h.fill (l.take k)).add s := by rw [List.take_add_one, hk]; exact Hs.fill_snoc h _ s
set_option maxRecDepth 100000 in
set_option maxHeartbeats 2000000 in
theorem filled_any {w W : World} {b : Int} {la : Option Addr} {ln lc : Nat} {l : Tl} (hb : -9223372036854775808 ≤ b ∧ b ≤ 9223372036854775807) (hl : RdS w (.slice la ln lc) l) (hf : ∀ s ∈ l, s.size ≤ 1099511627776) (hln : ln ≤ 1048576) (hW : Below w.heap.size w W) :
    Calls Try.prog 5 #[.int .i64 b, .slice la ln lc] W fun e W' => ∃ pb, e = .returned (.pointer (some ⟨pb, 0, none⟩)) ∧ Ps w pb ((Hs.new b).fill l) W' := by
  have hN : l.length = ln := by obtain ⟨_, _, e, _⟩ := hl; cases e; rfl
  have HL : Hid (RdS w (.slice la ln lc) l ∧ l.length = ln ∧ ∀ s ∈ l, s.size ≤ 1099511627776) := ⟨hl, hN, hf⟩
  have C0 : Hid (Calls Try.prog 12 #[.int .i64 b] W fun e W' => ∃ pb, e = .returned (.pointer (some ⟨pb, 0, none⟩)) ∧ Hid (Ps w pb (Hs.new b) W')) := new_ps hb hW
  clear hl hf hN
  go_enter Try.func5, Try.ntmps5
  go_wp2_with (go_at_call 12; refine C0.out.mono ?_; clear C0; rintro e w1 ⟨pb, rfl, H0⟩)
  go_loopw [6] (fun t6 wr => ∃ k : Nat, k ≤ ln ∧ t6 = .int .i64 k ∧ Hid (Ps w pb ((Hs.new b).fill (l.take k)) wr)) (fun t6 _ => ln - (intOf t6).toNat)
  case atStart => exact ⟨0, Nat.zero_le _, rfl, H0.out⟩
  case round =>
    obtain ⟨k, hk, rfl, HK⟩ := hrel
    clear H0
    by_cases hlt : k < ln
    · obtain ⟨s, hs⟩ : ∃ s, l[k]? = some s := ⟨l[k]'(by rw [HL.out.2.1]; exact hlt), List.getElem?_eq_getElem _⟩
      obtain ⟨g, o, rfl, c0⟩ := HL.out.1.at HK.out.2 hs
      have CA : Hid (∀ W, Ps w pb ((Hs.new b).fill (l.take k)) W → Calls Try.prog 13 #[.pointer (some ⟨pb, 0, none⟩), .string s] W fun e W' => ∃ β, e = .returned (.bool β) ∧ Hid (Ps w pb ((Hs.new b).fill (l.take (k + 1))) W')) := fun W q => (add_ps q (HL.out.2.2 s (List.mem_of_getElem? hs))).mono fun e W' q2 => ⟨_, q2.1, by show Ps _ _ _ _; rw [fill_take _ hs]; exact q2.2⟩
      have hlt' : (k : Int) < (ln : Int) := by omega
      clear hs HL
      go_wp2_with (go_at_call 13; refine (CA.out _ HK.out).mono ?_; clear CA; rintro e w2 ⟨β, rfl, H2⟩)
      exact ⟨⟨k + 1, by omega, by go_num, H2.out⟩, by simp [intOf]; omega⟩
    · go_wp2
      go_ret
      have := HK.out
      rw [List.take_of_length_le (by rw [HL.out.2.1]; omega)] at this
      exact ⟨_, rfl, this⟩
end Go.Proofs.Ytgakgebhhmkclab
