/-
  The library's maps.Keys over a map from bytes to numbers, and slices.AppendSeq, Collect and Sorted over it: the names of the marks, in their order. Conditions: the map is there and holds a mark; those of each theorem.
-/
import Derived.RangeFuncLeaves
import Derived.RangeFuncBox
import Derived.Shelf.Abstract
import Derived.OwnWalkIn
import Derived.TacticsInMore
import Derived.LoopNIn
import Derived.LoopIn
import Derived.RegionIn
import Derived.Maps.AppendAt
import Derived.Maps.OwnIn
import Derived.Sort.MapsRangeIn
import Derived.Deep.AppendLies
import Derived.Test.YtolafffpgkgadaaXSeq
import Derived.Test.YtolafffpgkgadaaELoad
import Derived.Test.YtolafffpgkgadaaEPdq
namespace Go.Proofs.Ytolafffpgkgadaa
open Go.RowKit Go.Shelf Bod
attribute [local go_sem] Oper.semAt_some

/-- what has come of the names: those that are no longer to come, each once -/
def Cl (L : Ml) (left : Lit → Bool) (ss : List Nat) : Prop := ss.Nodup ∧ ∀ n, n ∈ ss ↔ ((got n L).isSome = true ∧ left (.int .u8 (n : Int)) = false)
theorem Cl.start (L : Ml) : Cl L (Maps.has (mk L)) [] := ⟨List.nodup_nil, fun n => by rw [has_mk]; cases (got n L).isSome <;> simp⟩
theorem Cl.step {L : Ml} {left : Lit → Bool} {ss : List Nat} (h : Cl L left ss) {x : Nat} (hl : left (.int .u8 (x : Int)) = true) (hx : (got x L).isSome = true) :
    Cl L (fun z => left z && !z.sameKey (.int .u8 (x : Int))) (ss ++ [x]) := by
  refine ⟨?_, fun n => ?_⟩
  · rw [List.nodup_append]
    refine ⟨h.1, by simp, fun a ha b hb e => ?_⟩
    rw [List.mem_singleton.1 hb] at e
    subst e
    have := ((h.2 a).1 ha).2
    rw [hl] at this
    cases this
  · rw [List.mem_append, h.2]
    by_cases e : n = x
    · subst e; simp [hx, Lit.sameKey]
    · have : ¬ ((n : Int) = (x : Int)) := by omega
      simp [e, Lit.sameKey, this]
theorem got_some {n : Nat} {L : Ml} (h : (got n L).isSome = true) : n ∈ L.map (·.1) := by
  obtain ⟨a, ha⟩ := Option.isSome_iff_exists.1 h
  exact List.mem_map.2 ⟨(n, a), got_mem ha, rfl⟩
theorem ris_nodup {L : Ml} (h : Ris L) : (L.map (·.1)).Nodup := by
  refine List.pairwise_map.2 (List.Pairwise.imp (fun h => ?_) h)
  omega
theorem Cl.perm {L : Ml} {left : Lit → Bool} {ss : List Nat} (h : Cl L left ss) (hr : Ris L) (hl : ∀ kl, left kl = false) : ss.Perm (L.map (·.1)) := by
  refine (List.perm_ext_iff_of_nodup h.1 (ris_nodup hr)).2 fun n => ?_
  rw [h.2]
  constructor
  · rintro ⟨h1, _⟩; exact got_some h1
  · intro hn
    obtain ⟨p, hp, rfl⟩ := List.mem_map.1 hn
    exact ⟨by rw [got_of_mem hr (show (p.1, p.2) ∈ L from hp)]; rfl, hl _⟩
/-- the map's block is kept -/
def KpM (b : Nat) (W W' : World) : Prop := ∀ o, W.heap[b]? = some o → W'.heap[b]? = some o
theorem ranges_of {P : Program} {k : TypeId} {R : Value → Option (DataW Unit × List MemPlace)} {w w' : World} {b r n : Nat} {D : DataW Unit} {left : Lit → Bool} {cnt : Nat}
    (h : w.ranges P k R b r n D left cnt) (h1 : KpM b w w') (h2 : KpM r w w') : w'.ranges P k R b r n D left cnt := by
  obtain ⟨es, clock, since, seen, c0, hb, F, hs, hD, hr, rest⟩ := h
  exact ⟨es, clock, since, seen, c0, h1 _ hb, F, hs, hD, h2 _ hr, rest⟩
theorem ranges_iter {P : Program} {k : TypeId} {R : Value → Option (DataW Unit × List MemPlace)} {w : World} {b r n : Nat} {D : DataW Unit} {left : Lit → Bool} {cnt : Nat}
    (h : w.ranges P k R b r n D left cnt) : ∃ o : Obj, w.heap[r]? = some o ∧ o.isCells = false := by
  obtain ⟨es, clock, since, seen, c0, hb, F, hs, hD, hr, rest⟩ := h
  exact ⟨_, hr, rfl⟩

set_option maxRecDepth 100000 in
set_option maxHeartbeats 1000000 in
theorem keys_seq (n : Nat) (hn : 1 ≤ n) (Bm b B : Nat) (L : Ml) (w : World) (hBm : Bm < w.heap.size) (hm : w.cell? ⟨Bm, 0, none⟩ = some (.map (some b))) (hown : Mp w b L) :
    SeqC Fence.wide n Try.prog 52 #[.pointer (some ⟨Bm, 0, none⟩)] (fun x : Nat => #[.int .u8 (x : Int)]) (KpM b) (fun ys => ys.Perm (L.map (·.1))) (fun _ => True) (fun pre x => pre.length < L.length ∧ x < 256) 0 B w := by
  intro l J Jx W hWB hW hJ hJx hY h0
  have hm' : W.cell? ⟨Bm, 0, none⟩ = some (.map (some b)) := (hW.cell (p := ⟨Bm, 0, none⟩) hBm).trans hm
  have hown' : Mp W b L := hown.of_heap (hW.block b hown.lt)
  have HW : Hid (W.heap.size = B ∧ Ris L) := ⟨hWB, hown.2.1⟩
  clear hm hown hBm hW hWB
  refine callsIn_of_wp Try.func52 rfl trivial ?_ rfl
  simp only [Try.ntmps52, List.size_toArray, List.length_cons, List.length_nil, Nat.reduceAdd, Nat.reduceSub, Array.replicate_succ, Array.replicate_zero, List.push_toArray, List.append_toArray, List.nil_append, List.cons_append]
  gi_wp2_with (first
    | (gi_at_range; refine wpListIn_range_own _ rfl _ 47 rfl 5 3 law8 Try.underlying47 _ b _ _ rfl hown'.1 ?_; intro w0 hrg0 hg0 hs0)
    | gi_in)
  try go_frame
  gi_loopw [3] (fun _ wr => ∃ (left : Lit → Bool) (cnt : Nat) (ss : List Nat), wr.ranges Try.prog 5 (plainElem Try.prog 3) b W.heap.size L.length (mk L) left cnt ∧ ss.length + cnt ≤ L.length ∧ Cl L left ss ∧ J ss wr ∧ W.heap.size < wr.heap.size)
    (fun _ wr => wr.rangeLeft b W.heap.size)
  case atStart =>
    exact ⟨_, _, [], hrg0, by simp [size_mk], Cl.start L, hJ.grow h0 hg0, by omega⟩
  case round =>
    obtain ⟨left, cnt, ss, hrg, hcs, hC, hJs, hsz⟩ := hrel
    have HC : Hid (Cl L left ss ∧ ss.length + cnt ≤ L.length ∧ W.heap.size < wr.heap.size) := ⟨hC, hcs, hsz⟩
    clear hC hcs hsz
    gi_wp2_with (first
      | (gi_at_next; refine wpListIn_next_ranges_ii _ rfl _ rfl 5 3 .u8 .i64 law8 Try.underlying5 Try.underlying3 b W.heap.size _ _ _ _ rfl hrg ?_ ?_)
      | gi_in)
    · intro hc0 hl0
      gi_wp2
      go_end0
      exact ⟨⟨_, rfl⟩, .inl ⟨ss, HC.out.1.perm HW.out.2 hl0, hJs⟩⟩
    · intro x c w2 cnt2 hwx hwc hlk hat hrg2 hlt hg2 hs2 hen
      obtain ⟨m, rfl⟩ : ∃ m : Nat, x = (m : Int) := ⟨x.toNat, by simp [Lit.wf, IntKind.min, IntKind.max, IntKind.bits, IntKind.signed] at hwx; omega⟩
      have hm8 : m < 256 := by simp [Lit.wf, IntKind.min, IntKind.max, IntKind.bits, IntKind.signed] at hwx; omega
      have hgs : (got m L).isSome = true := by rw [← has_mk]; exact Maps.has_true_of_atKey hat
      have hJ2 : J ss w2 := hJ ss wr w2 (some W.heap.size) hJs hg2 (fun r e => by cases e; exact ⟨by have := HW.out.1; omega, .inr (ranges_iter hrg)⟩)
      obtain ⟨fn, tmps, assign, body, hy, hR⟩ := hY ss m w2 hJ2 (by have := HW.out.1; have := HC.out.2.2; omega) ⟨by have := HC.out.2.1; omega, hm8⟩
      have HS : Hid (w2.heap.size = wr.heap.size) := hs2
      clear hs2
      gi_wp2
      refine hR.mono ?_
      rintro e W3 ⟨hkf, (⟨rfl, hJ3, hk3⟩ | ⟨rfl, hJx3⟩)⟩
      · gi_wp2
        obtain ⟨o, ho, hoc⟩ := ranges_iter hrg2
        have hrg3 := ranges_of hrg2 hk3 (fun o' ho' => hkf.same _ _ (by have := HW.out.1; omega) ho' (by rw [ho] at ho'; cases ho'; exact hoc))
        go_roundw
        case rel => exact ⟨_, cnt2, ss ++ [m], hrg3, by have := HC.out.2.1; simp; omega, HC.out.1.step hlk hgs, hJ3, by have h1 := hkf.size; have h2 := HS.out; have h3 := HC.out.2.2; omega⟩
        case measure => rw [hrg3.left_eq, hrg.left_eq]; exact hlt
      · gi_wp2
        refine bodyPost_ret (results_none rfl _ _ _) rfl ?_
        exact ⟨⟨_, rfl⟩, .inr ⟨ss ++ [m], trivial, hJx3⟩⟩
theorem keys_in (n : Nat) (mb : Option Nat) (w : World) :
    CallsIn Fence.wide n Try.prog 43 #[.map mb] w fun e w' => e = .returned (.func (.func 52) #[] #[.pointer (some ⟨w.heap.size, 0, none⟩)]) ∧ w' = w.alloc (.cells #[.map mb] 47) := by
  refine callsIn_of_wp Try.func43 rfl trivial ?_ rfl
  simp only [Try.ntmps43, List.size_toArray, List.length_cons, List.length_nil, Nat.reduceAdd, Nat.reduceSub, Array.replicate_succ, Array.replicate_zero, List.push_toArray, List.append_toArray, List.nil_append, List.cons_append]
  gi_wp2
  go_ret
  exact ⟨rfl, rfl⟩
end Go.Proofs.Ytolafffpgkgadaa
