/-
  A history of package hist beside the document's own: what stays while either is turned; the law's seen and step. Conditions: those of each theorem.
-/
import Derived.Test.YtgakgebhhmkclaaHRefD
import Derived.Test.YtgakgebhhmkclaaUHop
namespace Go.Proofs.Ytgakgebhhmkclaa
open Go.RowKit

/-- the history h of package hist and the document's q, side by side; since B no more is turned than U and what is new; and a block that is only read -/
def Px (B : World) (U : Nat → Prop) (base pb rb ob : Nat) (bx : Array Value) (h q : Hs) (W : World) : Prop :=
  ∃ F G, Pr W base pb F h ∧ Rr W base rb G q ∧ (∀ g, F g → ¬ G g) ∧ Mv B U W (fun g => F g ∨ G g) ∧ W.heap[ob]? = some (.cells bx 32 (0, 0)) ∧ ¬ F ob ∧ ¬ G ob
theorem Px.box {B W : World} {U : Nat → Prop} {base pb rb ob : Nat} {bx : Array Value} {h q : Hs} (k : Px B U base pb rb ob bx h q W) (i : Nat) : W.cell? ⟨ob, i, none⟩ = bx[i]? := by
  obtain ⟨F, G, _, _, _, _, k5, _⟩ := k
  simp [World.cell?, k5]
theorem Px.below {B W W' : World} {U : Nat → Prop} {base pb rb ob : Nat} {bx : Array Value} {h q : Hs} (k : Px B U base pb rb ob bx h q W) (hb : Below W.heap.size W W') : Px B U base pb rb ob bx h q W' := by
  obtain ⟨F, G, k1, k2, k3, k4, k5, k6⟩ := k
  exact ⟨F, G, k1.below hb, k2.below hb, k3, k4.trans (Mv.below hb), (hb.block ob (Array.getElem?_eq_some_iff.1 k5).1).trans k5, k6⟩
theorem Px.drew {B W : World} {U : Nat → Prop} {base pb rb ob : Nat} {bx : Array Value} {h q : Hs} (k : Px B U base pb rb ob bx h q W) : Px B U base pb rb ob bx h q W.drew := k.below ⟨rfl, rfl, rfl, Nat.le_refl _, fun _ _ => rfl⟩
section
variable {B W : World} {U : Nat → Prop} {base pb rb ob : Nat} {bx : Array Value} {h h' q q' : Hs} {f : FuncId} {args : Array Value} {R : Ending}
theorem Px.pro (k : Px B U base pb rb ob bx h q W) (hc : ∀ F, Pr W base pb F h → Calls Try.prog f args W fun e W' => e = R ∧ ∃ F', Pr W' base pb F' h' ∧ Mv W F W' F') : Calls Try.prog f args W fun e W' => e = R ∧ Px B U base pb rb ob bx h' q W' := by
  obtain ⟨F, G, k1, k2, k3, k4, k5, k6, k7⟩ := k
  have hol := (Array.getElem?_eq_some_iff.1 k5).1
  refine (hc F k1).mono ?_
  rintro e W' ⟨rfl, F', q1, q2⟩
  obtain ⟨r1, r2⟩ := k2.kept q2 (fun g hg hf => k3 g hf hg)
  refine ⟨rfl, F', G, q1, r1, fun g hf hg => r2 g hg hf, k4.trans (q2.mono (fun g e => .inl e) (fun g e => ?_)), (q2.ch.2.2.2.2 ob hol k6).trans k5, fun e => ?_, k7⟩
  · rcases e with e | e
    · exact .inl e
    · exact .inr (.inl (.inr e))
  · rcases q2.nx ob e with e | e
    · exact k6 e
    · omega
theorem Px.doc (k : Px B U base pb rb ob bx h q W) (hc : ∀ G, Rr W base rb G q → Calls Try.prog f args W fun e W' => e = R ∧ ∃ G', Rr W' base rb G' q' ∧ Mv W G W' G') : Calls Try.prog f args W fun e W' => e = R ∧ Px B U base pb rb ob bx h q' W' := by
  obtain ⟨F, G, k1, k2, k3, k4, k5, k6, k7⟩ := k
  have hol := (Array.getElem?_eq_some_iff.1 k5).1
  refine (hc G k2).mono ?_
  rintro e W' ⟨rfl, G', q1, q2⟩
  obtain ⟨r1, r2⟩ := k1.kept q2 k3
  refine ⟨rfl, F, G', r1, q1, r2, k4.trans (q2.mono (fun g e => .inr e) (fun g e => ?_)), (q2.ch.2.2.2.2 ob hol k7).trans k5, k6, fun e => ?_⟩
  · rcases e with e | e
    · exact .inr (.inl (.inl e))
    · exact .inl e
  · rcases q2.nx ob e with e | e
    · exact k7 e
    · omega
end
/-- both are h -/
def Pq (B : World) (U : Nat → Prop) (base pb rb : Nat) (h : Hs) (W : World) : Prop := ∃ F G, Pr W base pb F h ∧ Rr W base rb G h ∧ (∀ g, F g → ¬ G g) ∧ Mv B U W (fun g => F g ∨ G g)
theorem Px.pq {B W : World} {U : Nat → Prop} {base pb rb ob : Nat} {bx : Array Value} {h : Hs} (k : Px B U base pb rb ob bx h h W) : Pq B U base pb rb h W := by
  obtain ⟨F, G, k1, k2, k3, k4, _⟩ := k
  exact ⟨F, G, k1, k2, k3, k4⟩
theorem Pq.below {B W W' : World} {U : Nat → Prop} {base pb rb : Nat} {h : Hs} (k : Pq B U base pb rb h W) (hb : Below W.heap.size W W') : Pq B U base pb rb h W' := by
  obtain ⟨F, G, k1, k2, k3, k4⟩ := k
  exact ⟨F, G, k1.below hb, k2.below hb, k3, k4.trans (Mv.below hb)⟩
theorem Pq.px {B W : World} {U : Nat → Prop} {base pb rb : Nat} {h : Hs} (k : Pq B U base pb rb h W) (bx : Array Value) : Px B U base pb rb W.heap.size bx h h (W.alloc (.cells bx 32)) := by
  obtain ⟨F, G, k1, k2, k3, k4⟩ := k
  have hb : Below W.heap.size W (W.alloc (.cells bx 32)) := (Below.refl _ W).alloc (Nat.le_refl _) _
  exact ⟨F, G, k1.below hb, k2.below hb, k3, k4.trans (Mv.below hb), World.alloc_heap_new W _, fun e => by have := (k1.fp e).2; omega, fun e => by have := (k2.fp e).2; omega⟩
theorem Pq.ok {B W : World} {U : Nat → Prop} {base pb rb : Nat} {h : Hs} (k : Pq B U base pb rb h W) : h.Ok := by obtain ⟨F, G, k1, _⟩ := k; exact k1.ok
set_option maxRecDepth 100000 in
set_option maxHeartbeats 2000000 in
theorem seen_any {B W : World} {U : Nat → Prop} {base pb rb : Nat} {h : Hs} (k : Pq B U base pb rb h W) :
    Calls Try.prog 13 #[.pointer (some ⟨pb, 0, none⟩), .pointer (some ⟨rb, 0, none⟩)] W fun e W' => e = .returned (.bool true) ∧ Below W.heap.size W W' := by
  obtain ⟨F, G, ⟨v, d, k1, _⟩, ⟨v2, d2, k2, _⟩, k3, k4⟩ := k
  have hn3 := k1.small
  obtain ⟨n, hn⟩ : ∃ n, h.es.length = n := ⟨_, rfl⟩
  have C1 := len_any k1
  have C2 := rlen_any k2
  have C3 := place_any k1
  have C4 := rplace_any k2
  have C5 : Hid (Calls Try.prog 27 #[.pointer (some ⟨pb, 0, none⟩)] W fun e W' => e = .returned (.int .i64 (h.nt.length : Int)) ∧ Hid (Below W.heap.size W W')) := drafts_any k1
  have C6 : Hid (∀ W', Below W.heap.size W W' → Calls Try.prog 34 #[.pointer (some ⟨rb, 0, none⟩)] W' fun e W2 => e = .returned (.int .i64 (h.nt.length : Int)) ∧ W2 = W') := fun W' hb => rdrafts_any (k2.below hb)
  have C7 : Hid (∀ W', Below W.heap.size W W' → Calls Try.prog 28 #[.pointer (some ⟨pb, 0, none⟩)] W' fun e W2 => e = .returned (.int .i64 (h.b : Int)) ∧ W2 = W') := fun W' hb => bound_any (k1.below hb)
  have C8 : Hid (∀ W', Below W.heap.size W W' → Calls Try.prog 35 #[.pointer (some ⟨rb, 0, none⟩)] W' fun e W2 => e = .returned (.int .i64 (h.b : Int)) ∧ W2 = W') := fun W' hb => rbound_any (k2.below hb)
  have C9 : Hid (∀ W', Below W.heap.size W W' → Calls Try.prog 18 #[.pointer (some ⟨pb, 0, none⟩)] W' fun e W2 => ∃ a c, e = .returned (.slice a n c) ∧ Hid (RdS W2 (.slice a n c) h.es ∧ Below W.heap.size W W2)) := fun W' hb => (entries_any (k1.below hb)).mono (by
    rintro e W2 ⟨x, rfl, q1, q2⟩
    rw [hn] at q1
    obtain ⟨a, c, rfl, _⟩ := row_slice q1
    exact ⟨a, c, rfl, RdS.of_row q1, hb.trans (q2.mono hb.size)⟩)
  have CA : Hid (∀ W' a c, RdS W' (.slice a n c) h.es ∧ Below W.heap.size W W' → Calls Try.prog 20 #[.pointer (some ⟨rb, 0, none⟩)] W' fun e W2 => ∃ a' c', e = .returned (.slice a' n c') ∧ Hid (RdS W2 (.slice a' n c') h.es ∧ RdS W2 (.slice a n c) h.es ∧ Below W.heap.size W W2)) := fun W' a c hb => (rentries_any (k2.below hb.2)).mono (by
    rintro e W2 ⟨x, rfl, q1, q2⟩
    rw [hn] at q1
    obtain ⟨a', c', rfl, _⟩ := row_slice q1
    exact ⟨a', c', rfl, RdS.of_row q1, hb.1.below (Nat.le_refl _) q2, hb.2.trans (q2.mono hb.2.size)⟩)
  have CB : Hid (∀ W' a c a' c', RdS W' (.slice a' n c') h.es ∧ RdS W' (.slice a n c) h.es ∧ Below W.heap.size W W' → Calls Try.prog 19 #[.slice a n c, .slice a' n c'] W' fun e W2 => e = .returned (.bool true) ∧ Hid (Below W.heap.size W W2)) := fun W' a c a' c' q => (same_any hn (by omega) q.2.1 q.1).mono fun e W2 r => ⟨r.1, q.2.2.trans (r.2.mono q.2.2.size)⟩
  rw [hn] at C1 C2
  generalize h.pl = pl at C3 C4
  generalize h.nt.length = m at C5 C6
  generalize h.b = b at C7 C8
  clear k1 k2 k3 k4 hn
  go_enter Try.func13, Try.ntmps13
  go_wp2_with (first
    | (go_at_call 16; refine C1.mono ?_; clear C1; rintro e w1 ⟨rfl, hw1⟩; subst hw1)
    | (go_at_call 32; refine C2.mono ?_; clear C2; rintro e w1 ⟨rfl, hw1⟩; subst hw1)
    | (go_at_call 26; refine C3.mono ?_; clear C3; rintro e w1 ⟨rfl, hw1⟩; subst hw1)
    | (go_at_call 33; refine C4.mono ?_; clear C4; rintro e w1 ⟨rfl, hw1⟩; subst hw1)
    | (go_at_call 27; refine C5.out.mono ?_; clear C5; rintro e w2 ⟨rfl, H2⟩)
    | (go_at_call 34; refine (C6.out _ H2.out).mono ?_; clear C6; rintro e w3 ⟨rfl, hw1⟩; subst hw1)
    | (go_at_call 28; refine (C7.out _ H2.out).mono ?_; clear C7; rintro e w3 ⟨rfl, hw1⟩; subst hw1)
    | (go_at_call 35; refine (C8.out _ H2.out).mono ?_; clear C8; rintro e w3 ⟨rfl, hw1⟩; subst hw1)
    | (go_at_call 18; refine (C9.out _ H2.out).mono ?_; clear C9 H2; rintro e w4 ⟨a4, c4, rfl, H4⟩)
    | (go_at_call 20; refine (CA.out _ _ _ H4.out).mono ?_; clear CA H4; rintro e w5 ⟨a5, c5, rfl, H5⟩)
    | (go_at_call 19; refine (CB.out _ _ _ _ _ H5.out).mono ?_; clear CB H5; rintro e w6 ⟨rfl, H6⟩))
  go_ret
  exact ⟨by simp, H6.out⟩
end Go.Proofs.Ytgakgebhhmkclaa
