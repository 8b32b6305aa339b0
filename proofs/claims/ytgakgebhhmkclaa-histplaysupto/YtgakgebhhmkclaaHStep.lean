/-
  The law's step: one call of a history of package hist and of the document's own. Conditions: those of each theorem.
-/
import Derived.Test.YtgakgebhhmkclaaHPair
namespace Go.Proofs.Ytgakgebhhmkclaa
open Go.RowKit

/-- what a call makes of a history -/
def Hs.step (q : Hq) (h : Hs) : Hs := if q.1 = 1 then h.add q.2.1 else if q.1 = 2 then h.back q.2.1 else if q.1 = 3 then h.fwd q.2.1 else if q.1 = 4 then h.goes q.2.2 q.2.1 else if q.1 = 6 then h.home else h
section
variable {B W : World} {U : Nat → Prop} {base pb rb : Nat} {h : Hs} {t : ByteArray} {i : Int}
set_option maxRecDepth 100000 in
set_option maxHeartbeats 4000000 in
theorem step2 (k : Pq B U base pb rb h W) (ht : t.size ≤ 1099511627776) (_hi : -9223372036854775808 ≤ i ∧ i ≤ 9223372036854775807) :
    Calls Try.prog 14 #[.pointer (some ⟨pb, 0, none⟩), .pointer (some ⟨rb, 0, none⟩), .agg #[.int .i64 2, .string t, .int .i64 i]] W fun e W' => e = .returned (.bool true) ∧ Pq B U base pb rb (h.back t) W' := by
  have HX0 : Hid (Px B U base pb rb W.heap.size #[.int .i64 2, .string t, .int .i64 i] h h (W.alloc (.cells #[.int .i64 2, .string t, .int .i64 i] 32))) := k.px _
  have HC : Hid (∀ ob h q W', Px B U base pb rb ob #[.int .i64 2, .string t, .int .i64 i] h q W' → W'.cell? ⟨ob, 0, none⟩ = some (.int .i64 2) ∧ W'.cell? ⟨ob, 1, none⟩ = some (.string t) ∧ W'.cell? ⟨ob, 2, none⟩ = some (.int .i64 i)) := fun ob h q W' hp => ⟨hp.box 0, hp.box 1, hp.box 2⟩
  have CS : Hid (∀ ob H W', Px B U base pb rb ob #[.int .i64 2, .string t, .int .i64 i] H H W' → Calls Try.prog 13 #[.pointer (some ⟨pb, 0, none⟩), .pointer (some ⟨rb, 0, none⟩)] W' fun e W2 => e = .returned (.bool true) ∧ Hid (Pq B U base pb rb H W2)) := fun ob H W' hp => (seen_any hp.pq).mono fun e W2 r => ⟨r.1, hp.pq.below r.2⟩
  have C1 : Hid (∀ ob W', Px B U base pb rb ob #[.int .i64 2, .string t, .int .i64 i] h h W' → Calls Try.prog 15 #[.pointer (some ⟨pb, 0, none⟩), .string t] W' fun e W2 => e = .returned (.tuple #[.string (h.backA t).1, .int .i64 (h.backA t).2]) ∧ Hid (Px B U base pb rb ob #[.int .i64 2, .string t, .int .i64 i] (h.back t) h W2)) := fun ob W' q => q.pro fun F kF => back_any kF ht
  have C2 : Hid (∀ ob W', Px B U base pb rb ob #[.int .i64 2, .string t, .int .i64 i] (h.back t) h W' → Calls Try.prog 36 #[.pointer (some ⟨rb, 0, none⟩), .string t] W' fun e W2 => e = .returned (.tuple #[.string (h.backA t).1, .int .i64 (h.backA t).2]) ∧ Hid (Px B U base pb rb ob #[.int .i64 2, .string t, .int .i64 i] (h.back t) (h.back t) W2)) := fun ob W' q => q.doc fun F kF => rback_any kF ht
  generalize h.backA t = A at C1 C2
  generalize h.back t = h1 at C1 C2 ⊢
  clear k
  go_enter Try.func14, Try.ntmps14
  go_upto_region 3 with fail
  obtain ⟨ob, hob⟩ : ∃ ob, W.heap.size = ob := ⟨_, rfl⟩
  obtain ⟨W1, hW1⟩ : ∃ W1, W.alloc (.cells #[.int .i64 2, .string t, .int .i64 i] 32) = W1 := ⟨_, rfl⟩
  rw [hW1] at HX0 ⊢
  rw [hob] at HX0 ⊢
  obtain ⟨c0, c1, c2⟩ := HC.out _ _ _ _ HX0.out
  clear hW1 hob
  go_wp2_with (first
    | (go_at_call 15; refine (C1.out _ _ HX0.out).mono ?_; clear C1 HX0 c0 c1 c2; rintro e w2 ⟨rfl, H2⟩; obtain ⟨c0, c1, c2⟩ := HC.out _ _ _ _ H2.out)
    | (go_at_call 36; refine (C2.out _ _ H2.out).mono ?_; clear C2 H2 c0 c1 c2; rintro e w3 ⟨rfl, H3⟩; obtain ⟨c0, c1, c2⟩ := HC.out _ _ _ _ H3.out)
    | (go_at_call 13; refine (CS.out _ _ _ H3.out).mono ?_; clear CS H3; rintro e w4 ⟨rfl, H4⟩))
  go_ret
  exact ⟨by simp, H4.out⟩
set_option maxRecDepth 100000 in
set_option maxHeartbeats 4000000 in
theorem step3 (k : Pq B U base pb rb h W) (ht : t.size ≤ 1099511627776) (_hi : -9223372036854775808 ≤ i ∧ i ≤ 9223372036854775807) :
    Calls Try.prog 14 #[.pointer (some ⟨pb, 0, none⟩), .pointer (some ⟨rb, 0, none⟩), .agg #[.int .i64 3, .string t, .int .i64 i]] W fun e W' => e = .returned (.bool true) ∧ Pq B U base pb rb (h.fwd t) W' := by
  have HX0 : Hid (Px B U base pb rb W.heap.size #[.int .i64 3, .string t, .int .i64 i] h h (W.alloc (.cells #[.int .i64 3, .string t, .int .i64 i] 32))) := k.px _
  have HC : Hid (∀ ob h q W', Px B U base pb rb ob #[.int .i64 3, .string t, .int .i64 i] h q W' → W'.cell? ⟨ob, 0, none⟩ = some (.int .i64 3) ∧ W'.cell? ⟨ob, 1, none⟩ = some (.string t) ∧ W'.cell? ⟨ob, 2, none⟩ = some (.int .i64 i)) := fun ob h q W' hp => ⟨hp.box 0, hp.box 1, hp.box 2⟩
  have CS : Hid (∀ ob H W', Px B U base pb rb ob #[.int .i64 3, .string t, .int .i64 i] H H W' → Calls Try.prog 13 #[.pointer (some ⟨pb, 0, none⟩), .pointer (some ⟨rb, 0, none⟩)] W' fun e W2 => e = .returned (.bool true) ∧ Hid (Pq B U base pb rb H W2)) := fun ob H W' hp => (seen_any hp.pq).mono fun e W2 r => ⟨r.1, hp.pq.below r.2⟩
  have C1 : Hid (∀ ob W', Px B U base pb rb ob #[.int .i64 3, .string t, .int .i64 i] h h W' → Calls Try.prog 22 #[.pointer (some ⟨pb, 0, none⟩), .string t] W' fun e W2 => e = .returned (.tuple #[.string (h.fwdA t).1, .int .i64 (h.fwdA t).2]) ∧ Hid (Px B U base pb rb ob #[.int .i64 3, .string t, .int .i64 i] (h.fwd t) h W2)) := fun ob W' q => q.pro fun F kF => forward_any kF ht
  have C2 : Hid (∀ ob W', Px B U base pb rb ob #[.int .i64 3, .string t, .int .i64 i] (h.fwd t) h W' → Calls Try.prog 37 #[.pointer (some ⟨rb, 0, none⟩), .string t] W' fun e W2 => e = .returned (.tuple #[.string (h.fwdA t).1, .int .i64 (h.fwdA t).2]) ∧ Hid (Px B U base pb rb ob #[.int .i64 3, .string t, .int .i64 i] (h.fwd t) (h.fwd t) W2)) := fun ob W' q => q.doc fun F kF => rforward_any kF ht
  generalize h.fwdA t = A at C1 C2
  generalize h.fwd t = h1 at C1 C2 ⊢
  clear k
  go_enter Try.func14, Try.ntmps14
  go_upto_region 3 with fail
  obtain ⟨ob, hob⟩ : ∃ ob, W.heap.size = ob := ⟨_, rfl⟩
  obtain ⟨W1, hW1⟩ : ∃ W1, W.alloc (.cells #[.int .i64 3, .string t, .int .i64 i] 32) = W1 := ⟨_, rfl⟩
  rw [hW1] at HX0 ⊢
  rw [hob] at HX0 ⊢
  obtain ⟨c0, c1, c2⟩ := HC.out _ _ _ _ HX0.out
  clear hW1 hob
  go_wp2_with (first
    | (go_at_call 22; refine (C1.out _ _ HX0.out).mono ?_; clear C1 HX0 c0 c1 c2; rintro e w2 ⟨rfl, H2⟩; obtain ⟨c0, c1, c2⟩ := HC.out _ _ _ _ H2.out)
    | (go_at_call 37; refine (C2.out _ _ H2.out).mono ?_; clear C2 H2 c0 c1 c2; rintro e w3 ⟨rfl, H3⟩; obtain ⟨c0, c1, c2⟩ := HC.out _ _ _ _ H3.out)
    | (go_at_call 13; refine (CS.out _ _ _ H3.out).mono ?_; clear CS H3; rintro e w4 ⟨rfl, H4⟩))
  go_ret
  exact ⟨by simp, H4.out⟩
set_option maxRecDepth 100000 in
set_option maxHeartbeats 4000000 in
theorem step4 (k : Pq B U base pb rb h W) (ht : t.size ≤ 1099511627776) (hi : -9223372036854775808 ≤ i ∧ i ≤ 9223372036854775807) :
    Calls Try.prog 14 #[.pointer (some ⟨pb, 0, none⟩), .pointer (some ⟨rb, 0, none⟩), .agg #[.int .i64 4, .string t, .int .i64 i]] W fun e W' => e = .returned (.bool true) ∧ Pq B U base pb rb (h.goes i t) W' := by
  have HX0 : Hid (Px B U base pb rb W.heap.size #[.int .i64 4, .string t, .int .i64 i] h h (W.alloc (.cells #[.int .i64 4, .string t, .int .i64 i] 32))) := k.px _
  have HC : Hid (∀ ob h q W', Px B U base pb rb ob #[.int .i64 4, .string t, .int .i64 i] h q W' → W'.cell? ⟨ob, 0, none⟩ = some (.int .i64 4) ∧ W'.cell? ⟨ob, 1, none⟩ = some (.string t) ∧ W'.cell? ⟨ob, 2, none⟩ = some (.int .i64 i)) := fun ob h q W' hp => ⟨hp.box 0, hp.box 1, hp.box 2⟩
  have CS : Hid (∀ ob H W', Px B U base pb rb ob #[.int .i64 4, .string t, .int .i64 i] H H W' → Calls Try.prog 13 #[.pointer (some ⟨pb, 0, none⟩), .pointer (some ⟨rb, 0, none⟩)] W' fun e W2 => e = .returned (.bool true) ∧ Hid (Pq B U base pb rb H W2)) := fun ob H W' hp => (seen_any hp.pq).mono fun e W2 r => ⟨r.1, hp.pq.below r.2⟩
  have C1 : Hid (∀ ob W', Px B U base pb rb ob #[.int .i64 4, .string t, .int .i64 i] h h W' → Calls Try.prog 21 #[.pointer (some ⟨pb, 0, none⟩), .int .i64 i, .string t] W' fun e W2 => e = .returned (.tuple #[.string (h.goA i t).1, .int .i64 (h.goA i t).2]) ∧ Hid (Px B U base pb rb ob #[.int .i64 4, .string t, .int .i64 i] (h.goes i t) h W2)) := fun ob W' q => q.pro fun F kF => go_any kF hi ht
  have C2 : Hid (∀ ob W', Px B U base pb rb ob #[.int .i64 4, .string t, .int .i64 i] (h.goes i t) h W' → Calls Try.prog 38 #[.pointer (some ⟨rb, 0, none⟩), .int .i64 i, .string t] W' fun e W2 => e = .returned (.tuple #[.string (h.goA i t).1, .int .i64 (h.goA i t).2]) ∧ Hid (Px B U base pb rb ob #[.int .i64 4, .string t, .int .i64 i] (h.goes i t) (h.goes i t) W2)) := fun ob W' q => q.doc fun F kF => rgo_any kF hi ht
  generalize h.goA i t = A at C1 C2
  generalize h.goes i t = h1 at C1 C2 ⊢
  clear k
  go_enter Try.func14, Try.ntmps14
  go_upto_region 3 with fail
  obtain ⟨ob, hob⟩ : ∃ ob, W.heap.size = ob := ⟨_, rfl⟩
  obtain ⟨W1, hW1⟩ : ∃ W1, W.alloc (.cells #[.int .i64 4, .string t, .int .i64 i] 32) = W1 := ⟨_, rfl⟩
  rw [hW1] at HX0 ⊢
  rw [hob] at HX0 ⊢
  obtain ⟨c0, c1, c2⟩ := HC.out _ _ _ _ HX0.out
  clear hW1 hob
  go_wp2_with (first
    | (go_at_call 21; refine (C1.out _ _ HX0.out).mono ?_; clear C1 HX0 c0 c1 c2; rintro e w2 ⟨rfl, H2⟩; obtain ⟨c0, c1, c2⟩ := HC.out _ _ _ _ H2.out)
    | (go_at_call 38; refine (C2.out _ _ H2.out).mono ?_; clear C2 H2 c0 c1 c2; rintro e w3 ⟨rfl, H3⟩; obtain ⟨c0, c1, c2⟩ := HC.out _ _ _ _ H3.out)
    | (go_at_call 13; refine (CS.out _ _ _ H3.out).mono ?_; clear CS H3; rintro e w4 ⟨rfl, H4⟩))
  go_ret
  exact ⟨by simp, H4.out⟩
set_option maxRecDepth 100000 in
set_option maxHeartbeats 4000000 in
theorem step5 (k : Pq B U base pb rb h W) (ht : t.size ≤ 1099511627776) (hi : -9223372036854775808 ≤ i ∧ i ≤ 9223372036854775807) :
    Calls Try.prog 14 #[.pointer (some ⟨pb, 0, none⟩), .pointer (some ⟨rb, 0, none⟩), .agg #[.int .i64 5, .string t, .int .i64 i]] W fun e W' => e = .returned (.bool true) ∧ Pq B U base pb rb (h) W' := by
  have HX0 : Hid (Px B U base pb rb W.heap.size #[.int .i64 5, .string t, .int .i64 i] h h (W.alloc (.cells #[.int .i64 5, .string t, .int .i64 i] 32))) := k.px _
  have HC : Hid (∀ ob h q W', Px B U base pb rb ob #[.int .i64 5, .string t, .int .i64 i] h q W' → W'.cell? ⟨ob, 0, none⟩ = some (.int .i64 5) ∧ W'.cell? ⟨ob, 1, none⟩ = some (.string t) ∧ W'.cell? ⟨ob, 2, none⟩ = some (.int .i64 i)) := fun ob h q W' hp => ⟨hp.box 0, hp.box 1, hp.box 2⟩
  have CS : Hid (∀ ob H W', Px B U base pb rb ob #[.int .i64 5, .string t, .int .i64 i] H H W' → Calls Try.prog 13 #[.pointer (some ⟨pb, 0, none⟩), .pointer (some ⟨rb, 0, none⟩)] W' fun e W2 => e = .returned (.bool true) ∧ Hid (Pq B U base pb rb H W2)) := fun ob H W' hp => (seen_any hp.pq).mono fun e W2 r => ⟨r.1, hp.pq.below r.2⟩
  have C1 : Hid (∀ ob W', Px B U base pb rb ob #[.int .i64 5, .string t, .int .i64 i] h h W' → Calls Try.prog 23 #[.pointer (some ⟨pb, 0, none⟩), .string t, .int .i64 i] W' fun e W2 => e = .returned (.tuple #[.int .i64 (h.find t i).1, .int .i64 (h.find t i).2.1, .int .i64 (h.find t i).2.2]) ∧ Hid (Px B U base pb rb ob #[.int .i64 5, .string t, .int .i64 i] (h) h W2)) := fun ob W' q => q.pro fun F kF => by obtain ⟨v, d, kv, hF⟩ := kF; exact (find_any kv hi).mono fun e W2 r => ⟨r.1, F, by rw [r.2]; exact ⟨v, d, kv, hF⟩, by rw [r.2]; exact Mv.refl _ _⟩
  have C2 : Hid (∀ ob W', Px B U base pb rb ob #[.int .i64 5, .string t, .int .i64 i] (h) h W' → Calls Try.prog 39 #[.pointer (some ⟨rb, 0, none⟩), .string t, .int .i64 i] W' fun e W2 => e = .returned (.tuple #[.int .i64 (h.find t i).1, .int .i64 (h.find t i).2.1, .int .i64 (h.find t i).2.2]) ∧ Hid (Px B U base pb rb ob #[.int .i64 5, .string t, .int .i64 i] (h) (h) W2)) := fun ob W' q => q.doc fun F kF => by obtain ⟨v, d, kv, hF⟩ := kF; exact (rfind_any kv ht hi).mono fun e W2 r => ⟨r.1, F, by rw [r.2]; exact ⟨v, d, kv, hF⟩, by rw [r.2]; exact Mv.refl _ _⟩
  generalize h.find t i = A at C1 C2
  clear k
  go_enter Try.func14, Try.ntmps14
  go_upto_region 3 with fail
  obtain ⟨ob, hob⟩ : ∃ ob, W.heap.size = ob := ⟨_, rfl⟩
  obtain ⟨W1, hW1⟩ : ∃ W1, W.alloc (.cells #[.int .i64 5, .string t, .int .i64 i] 32) = W1 := ⟨_, rfl⟩
  rw [hW1] at HX0 ⊢
  rw [hob] at HX0 ⊢
  obtain ⟨c0, c1, c2⟩ := HC.out _ _ _ _ HX0.out
  clear hW1 hob
  go_wp2_with (first
    | (go_at_call 23; refine (C1.out _ _ HX0.out).mono ?_; clear C1 HX0 c0 c1 c2; rintro e w2 ⟨rfl, H2⟩; obtain ⟨c0, c1, c2⟩ := HC.out _ _ _ _ H2.out)
    | (go_at_call 39; refine (C2.out _ _ H2.out).mono ?_; clear C2 H2 c0 c1 c2; rintro e w3 ⟨rfl, H3⟩; obtain ⟨c0, c1, c2⟩ := HC.out _ _ _ _ H3.out)
    | (go_at_call 13; refine (CS.out _ _ _ H3.out).mono ?_; clear CS H3; rintro e w4 ⟨rfl, H4⟩))
  go_ret
  exact ⟨by simp, H4.out⟩
set_option maxRecDepth 100000 in
set_option maxHeartbeats 4000000 in
theorem step6 (k : Pq B U base pb rb h W) (_ht : t.size ≤ 1099511627776) (_hi : -9223372036854775808 ≤ i ∧ i ≤ 9223372036854775807) :
    Calls Try.prog 14 #[.pointer (some ⟨pb, 0, none⟩), .pointer (some ⟨rb, 0, none⟩), .agg #[.int .i64 6, .string t, .int .i64 i]] W fun e W' => e = .returned (.bool true) ∧ Pq B U base pb rb (h.home) W' := by
  have HX0 : Hid (Px B U base pb rb W.heap.size #[.int .i64 6, .string t, .int .i64 i] h h (W.alloc (.cells #[.int .i64 6, .string t, .int .i64 i] 32))) := k.px _
  have HC : Hid (∀ ob h q W', Px B U base pb rb ob #[.int .i64 6, .string t, .int .i64 i] h q W' → W'.cell? ⟨ob, 0, none⟩ = some (.int .i64 6) ∧ W'.cell? ⟨ob, 1, none⟩ = some (.string t) ∧ W'.cell? ⟨ob, 2, none⟩ = some (.int .i64 i)) := fun ob h q W' hp => ⟨hp.box 0, hp.box 1, hp.box 2⟩
  have CS : Hid (∀ ob H W', Px B U base pb rb ob #[.int .i64 6, .string t, .int .i64 i] H H W' → Calls Try.prog 13 #[.pointer (some ⟨pb, 0, none⟩), .pointer (some ⟨rb, 0, none⟩)] W' fun e W2 => e = .returned (.bool true) ∧ Hid (Pq B U base pb rb H W2)) := fun ob H W' hp => (seen_any hp.pq).mono fun e W2 r => ⟨r.1, hp.pq.below r.2⟩
  have C1 : Hid (∀ ob W', Px B U base pb rb ob #[.int .i64 6, .string t, .int .i64 i] h h W' → Calls Try.prog 25 #[.pointer (some ⟨pb, 0, none⟩)] W' fun e W2 => e = .returned (.tuple #[]) ∧ Hid (Px B U base pb rb ob #[.int .i64 6, .string t, .int .i64 i] (h.home) h W2)) := fun ob W' q => q.pro fun F kF => by obtain ⟨v, d, kv, rfl⟩ := kF; exact (home_any kv).mono fun e W2 r => ⟨r.1, _, ⟨_, _, r.2.1, rfl⟩, r.2.2⟩
  have C2 : Hid (∀ ob W', Px B U base pb rb ob #[.int .i64 6, .string t, .int .i64 i] (h.home) h W' → Calls Try.prog 40 #[.pointer (some ⟨rb, 0, none⟩)] W' fun e W2 => e = .returned (.tuple #[]) ∧ Hid (Px B U base pb rb ob #[.int .i64 6, .string t, .int .i64 i] (h.home) (h.home) W2)) := fun ob W' q => q.doc fun F kF => by obtain ⟨v, d, kv, rfl⟩ := kF; exact (rhome_any kv).mono fun e W2 r => ⟨r.1, _, ⟨_, _, r.2.1, rfl⟩, r.2.2⟩
  generalize h.home = h1 at C1 C2 ⊢
  clear k
  go_enter Try.func14, Try.ntmps14
  go_upto_region 3 with fail
  obtain ⟨ob, hob⟩ : ∃ ob, W.heap.size = ob := ⟨_, rfl⟩
  obtain ⟨W1, hW1⟩ : ∃ W1, W.alloc (.cells #[.int .i64 6, .string t, .int .i64 i] 32) = W1 := ⟨_, rfl⟩
  rw [hW1] at HX0 ⊢
  rw [hob] at HX0 ⊢
  obtain ⟨c0, c1, c2⟩ := HC.out _ _ _ _ HX0.out
  clear hW1 hob
  go_wp2_with (first
    | (go_at_call 25; refine (C1.out _ _ HX0.out).mono ?_; clear C1 HX0 c0 c1 c2; rintro e w2 ⟨rfl, H2⟩; obtain ⟨c0, c1, c2⟩ := HC.out _ _ _ _ H2.out)
    | (go_at_call 40; refine (C2.out _ _ H2.out).mono ?_; clear C2 H2 c0 c1 c2; rintro e w3 ⟨rfl, H3⟩; obtain ⟨c0, c1, c2⟩ := HC.out _ _ _ _ H3.out)
    | (go_at_call 13; refine (CS.out _ _ _ H3.out).mono ?_; clear CS H3; rintro e w4 ⟨rfl, H4⟩))
  go_ret
  exact ⟨by simp, H4.out⟩
set_option maxRecDepth 100000 in
set_option maxHeartbeats 4000000 in
theorem step7 (k : Pq B U base pb rb h W) (_ht : t.size ≤ 1099511627776) (hi : -9223372036854775808 ≤ i ∧ i ≤ 9223372036854775807) :
    Calls Try.prog 14 #[.pointer (some ⟨pb, 0, none⟩), .pointer (some ⟨rb, 0, none⟩), .agg #[.int .i64 7, .string t, .int .i64 i]] W fun e W' => e = .returned (.bool true) ∧ Pq B U base pb rb (h) W' := by
  have HX0 : Hid (Px B U base pb rb W.heap.size #[.int .i64 7, .string t, .int .i64 i] h h (W.alloc (.cells #[.int .i64 7, .string t, .int .i64 i] 32))) := k.px _
  have HC : Hid (∀ ob h q W', Px B U base pb rb ob #[.int .i64 7, .string t, .int .i64 i] h q W' → W'.cell? ⟨ob, 0, none⟩ = some (.int .i64 7) ∧ W'.cell? ⟨ob, 1, none⟩ = some (.string t) ∧ W'.cell? ⟨ob, 2, none⟩ = some (.int .i64 i)) := fun ob h q W' hp => ⟨hp.box 0, hp.box 1, hp.box 2⟩
  have CS : Hid (∀ ob H W', Px B U base pb rb ob #[.int .i64 7, .string t, .int .i64 i] H H W' → Calls Try.prog 13 #[.pointer (some ⟨pb, 0, none⟩), .pointer (some ⟨rb, 0, none⟩)] W' fun e W2 => e = .returned (.bool true) ∧ Hid (Pq B U base pb rb H W2)) := fun ob H W' hp => (seen_any hp.pq).mono fun e W2 r => ⟨r.1, hp.pq.below r.2⟩
  have C1 : Hid (∀ ob W', Px B U base pb rb ob #[.int .i64 7, .string t, .int .i64 i] h h W' → Calls Try.prog 24 #[.pointer (some ⟨pb, 0, none⟩), .int .i64 i] W' fun e W2 => e = .returned (.tuple #[.string (h.ent i).1, .int .i64 (h.ent i).2]) ∧ Hid (Px B U base pb rb ob #[.int .i64 7, .string t, .int .i64 i] (h) h W2)) := fun ob W' q => q.pro fun F kF => by have k0 := kF; obtain ⟨v, d, kv, hF⟩ := kF; exact (entry_any kv hi).mono fun e W2 r => ⟨r.1, F, k0.below r.2, Mv.below r.2⟩
  have C2 : Hid (∀ ob W', Px B U base pb rb ob #[.int .i64 7, .string t, .int .i64 i] (h) h W' → Calls Try.prog 41 #[.pointer (some ⟨rb, 0, none⟩), .int .i64 i] W' fun e W2 => e = .returned (.tuple #[.string (h.ent i).1, .int .i64 (h.ent i).2]) ∧ Hid (Px B U base pb rb ob #[.int .i64 7, .string t, .int .i64 i] (h) (h) W2)) := fun ob W' q => q.doc fun F kF => by obtain ⟨v, d, kv, hF⟩ := kF; exact (rentry_any kv hi).mono fun e W2 r => ⟨r.1, F, by rw [r.2]; exact ⟨v, d, kv, hF⟩, by rw [r.2]; exact Mv.refl _ _⟩
  generalize h.ent i = A at C1 C2
  clear k
  go_enter Try.func14, Try.ntmps14
  go_upto_region 3 with fail
  obtain ⟨ob, hob⟩ : ∃ ob, W.heap.size = ob := ⟨_, rfl⟩
  obtain ⟨W1, hW1⟩ : ∃ W1, W.alloc (.cells #[.int .i64 7, .string t, .int .i64 i] 32) = W1 := ⟨_, rfl⟩
  rw [hW1] at HX0 ⊢
  rw [hob] at HX0 ⊢
  obtain ⟨c0, c1, c2⟩ := HC.out _ _ _ _ HX0.out
  clear hW1 hob
  go_wp2_with (first
    | (go_at_call 24; refine (C1.out _ _ HX0.out).mono ?_; clear C1 HX0 c0 c1 c2; rintro e w2 ⟨rfl, H2⟩; obtain ⟨c0, c1, c2⟩ := HC.out _ _ _ _ H2.out)
    | (go_at_call 41; refine (C2.out _ _ H2.out).mono ?_; clear C2 H2 c0 c1 c2; rintro e w3 ⟨rfl, H3⟩; obtain ⟨c0, c1, c2⟩ := HC.out _ _ _ _ H3.out)
    | (go_at_call 13; refine (CS.out _ _ _ H3.out).mono ?_; clear CS H3; rintro e w4 ⟨rfl, H4⟩))
  go_ret
  exact ⟨by simp, H4.out⟩
set_option maxRecDepth 100000 in
set_option maxHeartbeats 4000000 in
theorem step1 (k : Pq B U base pb rb h W) (ht : t.size ≤ 1099511627776) (_hi : -9223372036854775808 ≤ i ∧ i ≤ 9223372036854775807) :
    Calls Try.prog 14 #[.pointer (some ⟨pb, 0, none⟩), .pointer (some ⟨rb, 0, none⟩), .agg #[.int .i64 1, .string t, .int .i64 i]] W fun e W' => e = .returned (.bool true) ∧ Pq B U base pb rb (h.add t) W' := by
  have HX0 : Hid (Px B U base pb rb W.heap.size #[.int .i64 1, .string t, .int .i64 i] h h (W.alloc (.cells #[.int .i64 1, .string t, .int .i64 i] 32))) := k.px _
  have HC : Hid (∀ ob h q W', Px B U base pb rb ob #[.int .i64 1, .string t, .int .i64 i] h q W' → W'.cell? ⟨ob, 0, none⟩ = some (.int .i64 1) ∧ W'.cell? ⟨ob, 1, none⟩ = some (.string t) ∧ W'.cell? ⟨ob, 2, none⟩ = some (.int .i64 i)) := fun ob h q W' hp => ⟨hp.box 0, hp.box 1, hp.box 2⟩
  have CS : Hid (∀ ob H W', Px B U base pb rb ob #[.int .i64 1, .string t, .int .i64 i] H H W' → Calls Try.prog 13 #[.pointer (some ⟨pb, 0, none⟩), .pointer (some ⟨rb, 0, none⟩)] W' fun e W2 => e = .returned (.bool true) ∧ Hid (Pq B U base pb rb H W2)) := fun ob H W' hp => (seen_any hp.pq).mono fun e W2 r => ⟨r.1, hp.pq.below r.2⟩
  have C1 : Hid (∀ ob W', Px B U base pb rb ob #[.int .i64 1, .string t, .int .i64 i] h h W' → Calls Try.prog 11 #[.pointer (some ⟨pb, 0, none⟩), .string t] W' fun e W2 => e = .returned (.bool (h.took t)) ∧ Hid (Px B U base pb rb ob #[.int .i64 1, .string t, .int .i64 i] (h.add t) h W2)) := fun ob W' q => q.pro fun F kF => add_any kF ht
  have C2 : Hid (∀ ob W', Px B U base pb rb ob #[.int .i64 1, .string t, .int .i64 i] (h.add t) h W' → Calls Try.prog 17 #[.pointer (some ⟨rb, 0, none⟩), .string t] W' fun e W2 => e = .returned (.bool (h.took t)) ∧ Hid (Px B U base pb rb ob #[.int .i64 1, .string t, .int .i64 i] (h.add t) (h.add t) W2)) := fun ob W' q => q.doc fun F kF => radd_any kF ht
  generalize h.took t = A at C1 C2
  generalize h.add t = h1 at C1 C2 ⊢
  clear k
  go_enter Try.func14, Try.ntmps14
  go_upto_region 3 with fail
  obtain ⟨ob, hob⟩ : ∃ ob, W.heap.size = ob := ⟨_, rfl⟩
  obtain ⟨W1, hW1⟩ : ∃ W1, W.alloc (.cells #[.int .i64 1, .string t, .int .i64 i] 32) = W1 := ⟨_, rfl⟩
  rw [hW1] at HX0 ⊢
  rw [hob] at HX0 ⊢
  obtain ⟨c0, c1, c2⟩ := HC.out _ _ _ _ HX0.out
  clear hW1 hob
  have HX : Hid (Px B U base pb rb ob #[.int .i64 1, .string t, .int .i64 i] h h W1) := HX0.out
  clear HX0
  go_upto_region 5 with fail
  go_region_held3 (fun W' => W'.cell? ⟨ob, 0, none⟩ = some (.int .i64 1) ∧ W'.cell? ⟨ob, 1, none⟩ = some (.string t) ∧ W'.cell? ⟨ob, 2, none⟩ = some (.int .i64 i)) (first | exact HC.out _ _ _ _ HX.out | exact HC.out _ _ _ _ HX.out.drew)
    (first
      | (go_at_call 11; refine (C1.out _ _ HX.out.drew).mono ?_; clear C1; rintro e w2 ⟨rfl, H2⟩; clear HX; have HX := H2; clear H2)
      | (go_at_call 17; refine (C2.out _ _ HX.out).mono ?_; clear C2; rintro e w3 ⟨rfl, H3⟩; clear HX; have HX := H3; clear H3))
  all_goals (have cc := HC.out _ _ _ _ HX.out; obtain ⟨z0, z1, z2⟩ := cc)
  all_goals go_wp2_with (go_at_call 13; refine (CS.out _ _ _ HX.out).mono ?_; clear CS HX; rintro e w4 ⟨rfl, H4⟩)
  all_goals go_ret
  all_goals exact ⟨by simp, H4.out⟩
set_option maxRecDepth 100000 in
set_option maxHeartbeats 4000000 in
theorem step0 {kd : Int} (k : Pq B U base pb rb h W) (_ht : t.size ≤ 1099511627776) (_hi : -9223372036854775808 ≤ i ∧ i ≤ 9223372036854775807) (hk : kd ≠ 1 ∧ kd ≠ 2 ∧ kd ≠ 3 ∧ kd ≠ 4 ∧ kd ≠ 5 ∧ kd ≠ 6 ∧ kd ≠ 7) (_hkd : -9223372036854775808 ≤ kd ∧ kd ≤ 9223372036854775807) :
    Calls Try.prog 14 #[.pointer (some ⟨pb, 0, none⟩), .pointer (some ⟨rb, 0, none⟩), .agg #[.int .i64 kd, .string t, .int .i64 i]] W fun e W' => e = .returned (.bool true) ∧ Pq B U base pb rb (h) W' := by
  have HX0 : Hid (Px B U base pb rb W.heap.size #[.int .i64 kd, .string t, .int .i64 i] h h (W.alloc (.cells #[.int .i64 kd, .string t, .int .i64 i] 32))) := k.px _
  have HC : Hid (∀ ob h q W', Px B U base pb rb ob #[.int .i64 kd, .string t, .int .i64 i] h q W' → W'.cell? ⟨ob, 0, none⟩ = some (.int .i64 kd) ∧ W'.cell? ⟨ob, 1, none⟩ = some (.string t) ∧ W'.cell? ⟨ob, 2, none⟩ = some (.int .i64 i)) := fun ob h q W' hp => ⟨hp.box 0, hp.box 1, hp.box 2⟩
  have CS : Hid (∀ ob H W', Px B U base pb rb ob #[.int .i64 kd, .string t, .int .i64 i] H H W' → Calls Try.prog 13 #[.pointer (some ⟨pb, 0, none⟩), .pointer (some ⟨rb, 0, none⟩)] W' fun e W2 => e = .returned (.bool true) ∧ Hid (Pq B U base pb rb H W2)) := fun ob H W' hp => (seen_any hp.pq).mono fun e W2 r => ⟨r.1, hp.pq.below r.2⟩
  obtain ⟨k1, k2, k3, k4, k5, k6, k7⟩ := hk
  have b1 : (kd == 1) = false := by simpa using k1
  have b2 : (kd == 2) = false := by simpa using k2
  have b3 : (kd == 3) = false := by simpa using k3
  have b4 : (kd == 4) = false := by simpa using k4
  have b5 : (kd == 5) = false := by simpa using k5
  have b6 : (kd == 6) = false := by simpa using k6
  have b7 : (kd == 7) = false := by simpa using k7
  clear k
  go_enter Try.func14, Try.ntmps14
  go_upto_region 3 with fail
  obtain ⟨ob, hob⟩ : ∃ ob, W.heap.size = ob := ⟨_, rfl⟩
  obtain ⟨W1, hW1⟩ : ∃ W1, W.alloc (.cells #[.int .i64 kd, .string t, .int .i64 i] 32) = W1 := ⟨_, rfl⟩
  rw [hW1] at HX0 ⊢
  rw [hob] at HX0 ⊢
  obtain ⟨c0, c1, c2⟩ := HC.out _ _ _ _ HX0.out
  clear hW1 hob
  go_wp2_with (first
    | (go_at_call 13; refine (CS.out _ _ _ HX0.out).mono ?_; clear CS HX0; rintro e w4 ⟨rfl, H4⟩))
  go_ret
  exact ⟨by simp, H4.out⟩
end
theorem step_any {B W : World} {U : Nat → Prop} {base pb rb : Nat} {h : Hs} (k : Pq B U base pb rb h W) {q : Hq} (hq : q.fit) (ht : q.2.1.size ≤ 1099511627776) :
    Calls Try.prog 14 #[.pointer (some ⟨pb, 0, none⟩), .pointer (some ⟨rb, 0, none⟩), .agg #[.int .i64 q.1, .string q.2.1, .int .i64 q.2.2]] W fun e W' => e = .returned (.bool true) ∧ Pq B U base pb rb (h.step q) W' := by
  obtain ⟨kd, t, i⟩ := q
  obtain ⟨h1, h2⟩ := hq
  simp only at h1 h2 ht ⊢
  by_cases e1 : kd = 1
  · subst e1; exact step1 k ht h2
  by_cases e2 : kd = 2
  · subst e2; exact step2 k ht h2
  by_cases e3 : kd = 3
  · subst e3; exact step3 k ht h2
  by_cases e4 : kd = 4
  · subst e4; exact step4 k ht h2
  by_cases e5 : kd = 5
  · subst e5; exact step5 k ht h2
  by_cases e6 : kd = 6
  · subst e6; exact step6 k ht h2
  by_cases e7 : kd = 7
  · subst e7; exact step7 k ht h2
  have e : h.step (kd, t, i) = h := by simp [Hs.step, e1, e2, e3, e4, e6]
  rw [e]
  exact step0 k ht h2 ⟨e1, e2, e3, e4, e5, e6, e7⟩ h1
end Go.Proofs.Ytgakgebhhmkclaa
