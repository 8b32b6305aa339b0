/-
  A list of bytes that a call has made of a text and lengthens: what it holds, what an append of one byte makes of it. Conditions: it is short.
-/
import Derived.Test.YtadgbbnkhjapnaaDoorURefB
import Derived.Test.YtadgbbnkhjapnaaDoorUMathJ
import Derived.ArgAppend
import Derived.Lib.ConvBytes
import Derived.Lib.AtoiErrMem
namespace Go.Proofs.YtadgbbnkhjapnaaDoor
open Go.RowKit Bod

theorem infoB : (Tryd.prog.info? 5).map (fun i => (i.zero, i.size, i.bytes)) = some (some (.int .u8 0), 1, 1) := by kernel_rfl

/-- the block b, of room cap, holds the bytes zs, and none of its cells is frozen -/
structure Buf (base : Nat) (W : World) (b cap : Nat) (zs : List Int) : Prop where
  lo : base ≤ b
  lt : b < W.heap.size
  len : zs.length ≤ cap
  cells : ∀ j, j < zs.length → W.cell? ⟨b, j, none⟩ = some (.int .u8 (zs[j]?.getD 0))
  room : ∀ j, j < cap → (W.cell? ⟨b, j, none⟩).isSome = true ∧ W.frozen? ⟨b, j, none⟩ = false

theorem Buf.kept {base : Nat} {W W' : World} {b cap : Nat} {zs : List Int} {row : Option Nat} (h : Buf base W b cap zs) (hg : W.grownBy W' row) (hr : row ≠ some b) : Buf base W' b cap zs := by
  have hb := hg.block b h.lt (fun e => hr e.symm)
  have hc : ∀ j, W'.cell? ⟨b, j, none⟩ = W.cell? ⟨b, j, none⟩ := fun j => World.cell?_of_block (a := ⟨b, j, none⟩) hb
  have hf : ∀ j, W'.frozen? ⟨b, j, none⟩ = W.frozen? ⟨b, j, none⟩ := fun j => World.frozen?_of_block (a := ⟨b, j, none⟩) hb
  exact ⟨h.lo, Nat.lt_of_lt_of_le h.lt hg.size, h.len, fun j hj => (hc j).trans (h.cells j hj), fun j hj => by rw [hc, hf]; exact h.room j hj⟩
theorem Buf.below {base : Nat} {W W' : World} {b cap : Nat} {zs : List Int} (h : Buf base W b cap zs) (hb : Below W.heap.size W W') : Buf base W' b cap zs :=
  h.kept (row := none) ⟨hb.os, hb.tape, hb.output, hb.size, fun k hk _ => hb.block k hk⟩ (by simp)
theorem Buf.alloc {base : Nat} {W : World} {b cap : Nat} {zs : List Int} (h : Buf base W b cap zs) (o : Obj) : Buf base (W.alloc o) b cap zs := h.kept (World.grownBy_alloc W o none) (by simp)

theorem set_cell (W : World) (b o : Nat) (u : Value) (j : Nat) (h : (W.cell? ⟨b, o, none⟩).isSome = true) : (W.setCell ⟨b, o, none⟩ u).cell? ⟨b, j, none⟩ = if j = o then some u else W.cell? ⟨b, j, none⟩ := by
  by_cases e : j = o
  · subst e; rw [if_pos rfl]; exact World.cell?_setCell_same' _ _ _ h
  · rw [if_neg e]
    have := World.cell?_setCells_out b [u] o W ⟨b, j, none⟩ (fun _ _ => by simp; omega)
    simpa [World.setCells] using this

theorem Buf.conv {base : Nat} {W : World} {b cap : Nat} {zs : List Int} (h : Buf base W b cap zs) (hz : ∀ z ∈ zs, 0 ≤ z ∧ z < 256) : (convert 46 9 (.slice (some ⟨b, 0, none⟩) zs.length cap)).run Tryd.prog W = .ok (.string (txt zs)) W := by
  have hl : (zs.map fun x => x.toNat.toUInt8).length = zs.length := by simp
  rw [← hl]
  refine run_convert_bytes_back W 46 9 5 ⟨b, 0, none⟩ cap _ Tryd.underlying46 Tryd.underlying5 Tryd.underlying9 (fun j hj => ?_)
  rw [hl] at hj
  have hb := hz zs[j] (List.getElem_mem hj)
  have := h.cells j hj
  rw [List.getElem?_eq_getElem hj, Option.getD_some] at this
  have e : ((⟨b, 0, none⟩ : Addr).add j) = ⟨b, j, none⟩ := by rw [Go.WideShapes.add_plain, Nat.zero_add]
  rw [e, this]
  simp
  omega

/-- one of its bytes is written -/
theorem Buf.set {base : Nat} {W : World} {b cap : Nat} {zs : List Int} (h : Buf base W b cap zs) {n : Nat} (hn : n < zs.length) (x : Int) : Buf base (W.setCell ⟨b, n, none⟩ (.int .u8 x)) b cap (zs.set n x) := by
  have hr := h.room n (Nat.lt_of_lt_of_le hn h.len)
  have hc := fun j => set_cell W b n (.int .u8 x) j hr.1
  refine ⟨h.lo, by simpa using h.lt, by simpa using h.len, fun j hj => ?_, fun j hj => ⟨?_, ?_⟩⟩
  · rw [hc j]
    by_cases e : j = n
    · subst e; rw [if_pos rfl]; simp [hn]
    · rw [if_neg e, h.cells j (by simpa using hj)]
      rw [List.getElem?_set_ne (fun q => e q.symm)]
  · rw [hc j]
    by_cases e : j = n
    · rw [if_pos e]; rfl
    · rw [if_neg e]; exact (h.room j hj).1
  · rw [World.frozen?_setCell]; exact (h.room j hj).2

theorem append_buf {base : Nat} {W : World} {b cap : Nat} {zs : List Int} (h : Buf base W b cap zs) (hbase : base ≤ W.heap.size) (hl : zs.length ≤ 1000) (x : Nat) (c : Int) (hx : W.cell? ⟨x, 0, none⟩ = some (.int .u8 c)) :
    ∃ b' cap' W', (Builtin.append_ #[46, 46] 46 #[.slice (some ⟨b, 0, none⟩) zs.length cap, .slice (some ⟨x, 0, none⟩) 1 1]).run Tryd.prog W = .ok (.slice (some ⟨b', 0, none⟩) (zs.length + 1) cap') W' ∧ Buf base W' b' cap' (zs ++ [c]) ∧ W.grownBy W' (some b) ∧ (b' = b ∨ W.heap.size ≤ b') := by
  obtain ⟨i0, hi, hz0, hz1, hz2⟩ := info_parts infoB
  have hnews : ∀ j u, [Value.int .u8 c][j]? = some u → W.cell? ((⟨x, 0, none⟩ : Addr).add j) = some u := fun j u hj => by
    match j, hj with
    | 0, hj => simp at hj; subst hj; rw [Go.WideShapes.add_plain]; exact hx
  by_cases hr : zs.length + 1 ≤ cap
  · have hrm := h.room zs.length (by omega)
    have hrun := run_append_room_cells (P := Tryd.prog) W 46 46 5 i0 Tryd.underlying46 hi b 0 zs.length cap ⟨x, 0, none⟩ 1 1 [.int .u8 c] (by rw [hz1]; rfl) hnews (by simp [Value.oneCell']) hr
      (fun j hj => by have : j = 0 := by simpa using hj
                      subst this; rw [hz1]; simpa using hrm.1) (fun j hj => by have : j = 0 := by simpa using hj
                                                                               subst this; rw [hz1]; simpa using hrm.2)
    rw [hz1] at hrun
    simp only [Nat.zero_add, Nat.mul_one, World.setCells] at hrun
    have hc := fun j => set_cell W b zs.length (.int .u8 c) j hrm.1
    refine ⟨b, cap, _, hrun, ⟨h.lo, by simpa using h.lt, by simpa using hr, fun j hj => ?_, fun j hj => ⟨?_, ?_⟩⟩, ?_, .inl rfl⟩
    · rw [hc j]
      by_cases e : j = zs.length
      · subst e; rw [if_pos rfl]; simp
      · have hj' : j < zs.length := by simp at hj; omega
        rw [if_neg e, h.cells j hj', List.getElem?_append_left hj']
    · rw [hc j]
      by_cases e : j = zs.length
      · rw [if_pos e]; rfl
      · rw [if_neg e]; exact (h.room j hj).1
    · rw [World.frozen?_setCell]; exact (h.room j hj).2
    · have hg : ∀ k, k ≠ b → (W.setCell ⟨b, zs.length, none⟩ (.int .u8 c)).heap[k]? = W.heap[k]? := fun k hk => by
        have hb := (Below.refl (k + 1) W)
        simp [World.setCell, Array.getElem?_modify, Ne.symm hk]
      exact ⟨rfl, rfl, rfl, by simp, fun k _ hk => hg k (fun e => hk (by rw [e]))⟩
  · obtain ⟨v', W', hrun, r1, r2⟩ := run_append_arg_grows (P := Tryd.prog) W 46 46 5 i0 _ 1 1 Tryd.underlying46 hi hz0 hz1 hz2 rfl (by decide) ⟨b, 0, none⟩ zs.length cap (zs.map fun z => Value.int .u8 z) (by simp)
      (fun j u hj => by
        rw [Go.WideShapes.add_plain, Nat.zero_add]
        rw [List.getElem?_map] at hj
        cases hzj : zs[j]? with
        | none => rw [hzj] at hj; cases hj
        | some z =>
          rw [hzj] at hj
          have hlt : j < zs.length := (List.getElem?_eq_some_iff.1 hzj).1
          have := h.cells j hlt
          rw [hzj] at this
          rw [this]; simpa using hj) ⟨x, 0, none⟩ 1 1 [.int .u8 c] rfl hnews (by omega) (by unfold maxLen; omega) (by omega)
    have r1' := r1
    rcases r1.2 with ⟨_, h0⟩ | ⟨g, cap', cur, rfl, hbg, hg, hnc, hcm, hcs, htk⟩
    · omega
    have hgl := (Array.getElem?_eq_some_iff.1 hg).1
    refine ⟨g, cap', W', hrun, ⟨by omega, hgl, by simpa using hnc, fun j hj => ?_, fun j hj => ⟨?_, ?_⟩⟩, ⟨r2.os, r2.tape, r2.output, r2.size, fun k hk _ => r2.block k hk (by simp)⟩, .inr hbg⟩
    · have hj1 : j < zs.length + 1 := by simpa using hj
      have := r1'.cellAt j (by omega)
      rw [this]
      by_cases e : j < zs.length
      · rw [List.getElem?_append_left (by simpa using e), List.getElem?_append_left e, List.getElem?_map, List.getElem?_eq_getElem e]; rfl
      · have : j = zs.length := by omega
        subst this
        simp
    · unfold World.cell?
      simp [hg, hcs, hj]
    · unfold World.frozen?
      simp [hg]
end Go.Proofs.YtadgbbnkhjapnaaDoor
