/-
  A ring of package ring beside a list that it has answered: the list stays while the ring is turned. Conditions: those of each theorem.
-/
import Derived.Test.YtihagjkdghbkdaaJKls
import Derived.Test.YtihagjkdghbkdaaUJop
namespace Go.Proofs.Ytihagjkdghbkdaa
open Go.RowKit

structure Lk (w : World) (pb : Nat) (s : Rg) (l : Tl) (x : Value) (W : World) : Prop where
  pr : ∃ v, Pr W w.heap.size pb v s ∧ Apart v x
  row : W.ownsRow w.heap.size 9 1 x l.length (sv l)
  bel : Below w.heap.size w W
theorem Lk.ps {w W : World} {pb : Nat} {s : Rg} {l : Tl} {x : Value} (h : Lk w pb s l x W) : Ps w pb s W := by
  obtain ⟨v, h1, _⟩ := h.pr
  exact ⟨⟨v, h1⟩, h.bel⟩
theorem Lk.below {w W W' : World} {pb : Nat} {s : Rg} {l : Tl} {x : Value} (h : Lk w pb s l x W) (hb : Below W.heap.size W W') : Lk w pb s l x W' := by
  obtain ⟨v, h1, h2⟩ := h.pr
  exact ⟨⟨v, h1.below hb, h2⟩, row_below h.row hb, h.bel.trans (hb.mono h.bel.size)⟩
theorem Lk.step {w W W' : World} {pb : Nat} {s s' : Rg} {l : Tl} {x v v' : Value} (h : Lk w pb s l x W) (hv : Pr W w.heap.size pb v s) (ha : Apart v x) (hp : Pr W' w.heap.size pb v' s') (hc : Ch pb v.ownBlock W W') (hn : Nx W v.ownBlock v'.ownBlock) : Lk w pb s' l x W' := by
  refine ⟨⟨v', hp, fun g hg e => ?_⟩, row_of_heap h.row (fun g hg => hc.2.2.2.2 g (row_blk h.row hg).2.2 (fun e => ?_) (fun e => ha g e hg)), hc.low h.bel (Nat.le_refl _) hv.low (fun k e => (hv.blk e).2.1)⟩
  · rcases hn g hg with e2 | e2
    · exact ha g e2 e
    · have := (row_blk h.row e).2.2; omega
  · obtain ⟨p, _, hb⟩ := hv.box
    obtain ⟨⟨cur, hc2⟩, _⟩ := row_blk h.row hg
    rw [e, hb] at hc2; injection hc2 with hc; injection hc with _ ht _; exact absurd ht (by decide)
theorem kill_lk {w W : World} {pb : Nat} {s : Rg} {l : Tl} {x : Value} (h : Lk w pb s l x W) {t : ByteArray} (ht : t.size ≤ 35184372088832) (hf : s.Fit 35184372088832) (a : Bool) : Calls Try.prog 16 #[.pointer (some ⟨pb, 0, none⟩), .string t, .bool a] W fun e W' => e = .returned (.bool (s.kept t)) ∧ Lk w pb (s.kill t a) l x W' := by
  obtain ⟨v, h1, h2⟩ := h.pr
  exact (kill_any h1 ht hf a).mono fun e W' ⟨e1, v', q1, q2, q3⟩ => ⟨e1, h.step h1 h2 q1 q2 q3⟩
theorem Ps.lk {w W W' : World} {pb : Nat} {s : Rg} {l : Tl} {x : Value} (h : Ps w pb s W) (hr : W'.ownsRow W.heap.size 9 1 x l.length (sv l)) (hb : Below W.heap.size W W') : Lk w pb s l x W' := by
  obtain ⟨⟨v, h1⟩, h2⟩ := h
  refine ⟨⟨v, h1.below hb, fun g e1 e2 => ?_⟩, row_base hr h2.size, h2.trans (hb.mono h2.size)⟩
  have := (h1.blk e1).2.2
  have := (row_blk hr e2).2.1
  omega
theorem unLS : Try.prog.underlying 35 = some (.slice (Try.prog.elem 35)) := by kernel_rfl
theorem szLS (W : World) : (sizeOf (Try.prog.elem 35)).run Try.prog W = .ok 1 W := by kernel_rfl
/-- a list without its first -/
theorem run_tail {W0 : World} {base g m c : Nat} {x : ByteArray} {l : Tl} (h : W0.ownsRow base 9 1 (.slice (some ⟨g, 0, none⟩) (m + 1) c) (m + 1) (sv (x :: l))) :
    ∃ a3, (∀ W, (Instr.sliceAt 35 (.slice (some ⟨g, 0, none⟩) (m + 1) c) (some (.int .i64 1)) none none).run Try.prog W = .ok (.slice a3 m (c - 1)) W) ∧ RdS W0 (.slice a3 m (c - 1)) l := by
  have hl : l.length = m := by have := h.1; rw [sv_len] at this; simp at this; omega
  have hcap : m + 1 ≤ c := by
    rcases h.2 with ⟨e, _⟩ | ⟨g, cap, cur, e, _, _, hle, _⟩
    · cases e
    · obtain ⟨_, _, rfl⟩ := Value.slice.inj e; exact hle
  refine ⟨if c = 1 then some ⟨g, 0, none⟩ else some ⟨g, 1, none⟩, fun W => ?_, ?_⟩
  · rw [run_sliceAt_slice _ _ _ _ _ _ unLS, run_slice_l _ _ _ _ _ unLS _ _ (by omega) (by omega), szLS]
    simp only [Result.andThen, sliced, Option.map_some]
    have e1 : (1 : Int).toNat = 1 := rfl
    rw [e1, Nat.add_sub_cancel]
    split
    · rfl
    · rw [Go.WideShapes.add_plain]
  · refine ⟨_, c - 1, by rw [hl], fun h0 => ⟨g, 1, ?_, (row_blk h rfl).2.2, fun k s hk => ?_⟩⟩
    · have : 0 < l.length := List.length_pos_iff.2 h0
      rw [if_neg (by omega)]
    · obtain ⟨g', e, hc⟩ := row_at (k := k + 1) h (by simpa using hk)
      cases e
      rw [Nat.add_comm]
      exact hc
end Go.Proofs.Ytihagjkdghbkdaa
