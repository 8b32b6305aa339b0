/-
  Package word: forms, Spans, Upper, Lower, Capital. No program is walked in this text; no conditions.
-/
import Derived.Test.YtdggbnkhbmffoaaGreatDoorPkI
import Derived.Test.YtdggbnkhbmffoaaGreatDoorCRd
import Derived.Test.YtdggbnkhbmffoaaGreatDoorPkB
import Derived.Test.YtdggbnkhbmffoaaGreatDoorPkVW
import Derived.Test.YtdggbnkhbmffoaaGreatDoorPkC
import Derived.Test.YtdggbnkhbmffoaaGreatDoorKBase
import Derived.Maps.OwnIn
import Derived.Deep.AppendLies
import Derived.Test.YtdggbnkhbmffoaaGreatDoorPkWR
import Derived.Test.YtdggbnkhbmffoaaGreatDoorPkWC
import Derived.Test.YtdggbnkhbmffoaaGreatDoorPkU
namespace Go.Proofs.YtdggbnkhbmffoaaGreatDoor
open Go.RowKit Go.Shelf Bod

theorem sizeT : (Tryz.prog.info? 106).map (·.size) = some 2 := by kernel_rfl
theorem liesT : liesAt Tryz.prog Tryz.prog.depth 106 (2 / Tryz.prog.cellsOf 106) 0 106 1 = true := by kernel_rfl
theorem infoU8 : (Tryz.prog.info? 5).map (fun i => (i.zero, i.size, i.bytes)) = some (some (.int .u8 0), 1, 1) := by kernel_rfl

/-- the block b is a builder (p: its own address, if it was written) that holds bs; its row lies at hi or beyond -/
structure Bld (b hi : Nat) (bs : List Value) (W : World) (p v : Value) : Prop where
  box : W.heap[b]? = some (.cells #[p, v] 106 (0, 0))
  row : W.ownsRow hi 5 1 v bs.length bs
  adr : p = .pointer none ∨ p = .pointer (some ⟨b, 0, none⟩)
theorem Bld.far {b hi : Nat} {bs : List Value} {W : World} {p v : Value} (h : Bld b hi bs W p v) {g : Nat} (hg : v.ownBlock = some g) : hi ≤ g := (h.row.lt g hg).1
theorem Bld.block {b hi : Nat} {bs : List Value} {W : World} {p v : Value} (h : Bld b hi bs W p v) {g : Nat} (hg : v.ownBlock = some g) : ∃ vs, W.heap[g]? = some (.cells vs 5 (0, 0)) := by
  rcases h.row.2 with ⟨h0, _⟩ | ⟨g', cap', cur, hv, _, hgb, _⟩
  · rw [h0] at hg; cases hg
  · rw [hv] at hg; cases hg; exact ⟨_, hgb⟩
theorem Bld.kept {b hi : Nat} {bs : List Value} {W W' : World} {p v : Value} {row : Option Nat} (h : Bld b hi bs W p v) (hg : W.grownBy W' row) (h1 : row ≠ some b) (h2 : ∀ g, v.ownBlock = some g → row ≠ some g) : Bld b hi bs W' p v :=
  ⟨(hg.block b (Array.getElem?_eq_some_iff.1 h.box).1 (fun e => h1 e.symm)).trans h.box, h.row.kept hg (by cases hb : v.ownBlock with
    | none => exact .inl rfl
    | some g => exact .inr (fun e => h2 g hb e.symm)), h.adr⟩
theorem bld_ab {b B lo hi : Nat} {α : Type} {f : α → List Value} (hb : b < B) : Ab B lo hi (fun (l : α) W => ∃ p v, Bld b hi (f l) W p v) := fun l X Y row h hg hr => h.imp fun p h => h.imp fun v hv =>
  hv.kept hg (fun e => by have := (hr b e).1; omega) (fun g hg' e => by
    obtain ⟨_, (h3 | ⟨o, ho, hc⟩)⟩ := hr g e
    · have := hv.far hg'; omega
    · obtain ⟨vs, hvs⟩ := hv.block hg'
      rw [hvs] at ho; cases ho; cases hc)

/-- what a write to the builder leaves as it was: all but its own block and rows of bytes at hi or beyond -/
def Wr (b hi : Nat) (W W' : World) : Prop := W'.os = W.os ∧ W'.tape = W.tape ∧ W'.output = W.output ∧ W.heap.size ≤ W'.heap.size ∧ ∀ k o, W.heap[k]? = some o → k ≠ b → (hi ≤ k → ∀ vs fz, o ≠ .cells vs 5 fz) → W'.heap[k]? = some o
theorem Wr.refl (b hi : Nat) (W : World) : Wr b hi W W := ⟨rfl, rfl, rfl, Nat.le_refl _, fun _ _ h _ _ => h⟩
theorem Wr.trans {b hi : Nat} {X Y Z : World} (h : Wr b hi X Y) (k : Wr b hi Y Z) : Wr b hi X Z :=
  ⟨k.1.trans h.1, k.2.1.trans h.2.1, k.2.2.1.trans h.2.2.1, Nat.le_trans h.2.2.2.1 k.2.2.2.1, fun i o a b c => k.2.2.2.2 i o (h.2.2.2.2 i o a b c) b c⟩
theorem Wr.set (b hi i : Nat) (W : World) (u : Value) : Wr b hi W (W.setCell ⟨b, i, none⟩ u) :=
  have g := gcell W b i u
  ⟨g.os, g.tape, g.output, g.size, fun k _ hk hne _ => (g.block k (Array.getElem?_eq_some_iff.1 hk).1 (fun e => hne (by cases e; rfl))).trans hk⟩

set_option maxRecDepth 100000 in
set_option maxHeartbeats 1000000 in
theorem check_used (b : Nat) (w : World) (h0 : w.cell? ⟨b, 0, none⟩ = some (.pointer (some ⟨b, 0, none⟩))) :
    Calls Tryz.prog 115 #[.pointer (some ⟨b, 0, none⟩)] w fun e w' => e = .returned (.tuple #[]) ∧ w' = w := by
  obtain ⟨j, hj, hjs⟩ := Option.map_eq_some_iff.1 sizeT
  have hq := Lib.run_neq_ptr_same (P := Tryz.prog) w ⟨b, 0, none⟩ Tryz.underlying103 hj
  go_enter Tryz.func115, Tryz.ntmps115
  go_wp2
  go_end0
  exact ⟨rfl, rfl⟩
set_option maxRecDepth 100000 in
set_option maxHeartbeats 1000000 in
theorem check_new (b : Nat) (v : Value) (w : World) (hb : w.heap[b]? = some (.cells #[.pointer none, v] 106 (0, 0))) :
    Calls Tryz.prog 115 #[.pointer (some ⟨b, 0, none⟩)] w fun e w' => e = .returned (.tuple #[]) ∧ w' = w.setCell ⟨b, 0, none⟩ (.pointer (some ⟨b, 0, none⟩)) := by
  obtain ⟨j, hj, hjs⟩ := Option.map_eq_some_iff.1 sizeT
  have h0 : w.cell? ⟨b, 0, none⟩ = some (.pointer none) := by simp [World.cell?, hb]
  have hf : w.frozen? ⟨b, 0, none⟩ = false := by simp [World.frozen?, hb]
  have hsh : w.shape? b = some (106, 2) := by simp [World.shape?, hb]
  have hto := Lib.run_to_unsafe (P := Tryz.prog) w ⟨b, 0, none⟩ Tryz.underlying103 Tryz.underlying157 hj (by rw [hjs]; decide) hsh (by decide : (0 : Nat) < 2)
  have hfr := Lib.run_from_unsafe (P := Tryz.prog) w ⟨b, 0, none⟩ Tryz.underlying157 Tryz.underlying103 hj hsh liesT
  have hq := Lib.run_neq_ptr_same (P := Tryz.prog) (w.setCell ⟨b, 0, none⟩ (.pointer (some ⟨b, 0, none⟩))) ⟨b, 0, none⟩ Tryz.underlying103 hj
  have hno : ∀ x : Value, (callFunc 136 #[x]).run Tryz.prog w = .ok (.value x) w := fun x => by
    rw [run_callFunc_extern Tryz.func136 (by kernel_rfl) (by kernel_rfl) (by kernel_rfl) (e := Extern.AbiNoEscape.same) (by kernel_rfl), Lib.run_noEscape]
    rfl
  go_enter Tryz.func115, Tryz.ntmps115
  go_wp2
  go_end0
  exact ⟨rfl, rfl⟩

theorem check_any {b hi : Nat} {bs : List Value} {w : World} {p v : Value} (h : Bld b hi bs w p v) (hb : b < hi) :
    Calls Tryz.prog 115 #[.pointer (some ⟨b, 0, none⟩)] w fun e w' => e = .returned (.tuple #[]) ∧ Bld b hi bs w' (.pointer (some ⟨b, 0, none⟩)) v ∧ Wr b hi w w' ∧ w'.heap.size = w.heap.size := by
  have hbox := h.box
  rcases h.adr with rfl | rfl
  · refine (check_new b v w hbox).mono ?_
    rintro e w' ⟨rfl, rfl⟩
    refine ⟨rfl, ⟨set1 (i := 0) (.pointer (some ⟨b, 0, none⟩)) hbox, h.row.kept (gcell w b 0 _) ?_, .inr rfl⟩, Wr.set _ _ _ _ _, by simp [World.setCell]⟩
    cases hv : v.ownBlock with
    | none => exact .inl rfl
    | some g => exact .inr (fun e => by cases e; have := h.far hv; omega)
  · refine (check_used b w (by simp [World.cell?, hbox])).mono ?_
    rintro e w' ⟨rfl, rfl⟩
    exact ⟨rfl, h, Wr.refl _ _ _, rfl⟩
/-- behind the append: what the new buffer leaves -/
theorem Bld.put {b hi : Nat} {bs bs' : List Value} {w1 w2 : World} {p v v' : Value} (h : Bld b hi bs w1 p v) (hb : b < hi) (hg : w1.grownBy w2 v.ownBlock) (hown : w2.ownsRow hi 5 1 v' bs'.length bs') :
    w2.heap[b]? = some (.cells #[p, v] 106 (0, 0)) ∧ Bld b hi bs' (w2.setCell ⟨b, 1, none⟩ v') p v' ∧ Wr b hi w1 (w2.setCell ⟨b, 1, none⟩ v') := by
  have h2 : w2.heap[b]? = some (.cells #[p, v] 106 (0, 0)) := (hg.block b (Array.getElem?_eq_some_iff.1 h.box).1 (fun e => by have := h.far e.symm; omega)).trans h.box
  refine ⟨h2, ⟨set1 (i := 1) v' h2, hown.kept (gcell w2 b 1 _) ?_, h.adr⟩, Wr.trans ⟨hg.os, hg.tape, hg.output, hg.size, fun k o hk hne hrow => (hg.block k (Array.getElem?_eq_some_iff.1 hk).1 (fun e => ?_)).trans hk⟩ (Wr.set _ _ _ _ _)⟩
  · cases hv : v'.ownBlock with
    | none => exact .inl rfl
    | some g => exact .inr (fun e => by cases e; have := (hown.lt _ hv).1; omega)
  · obtain ⟨vs, hvs⟩ := h.block e.symm
    rw [hvs] at hk; cases hk
    exact hrow (h.far e.symm) _ _ rfl
theorem row_slice {W : World} {base : Nat} {e : TypeId} {size : Nat} {v : Value} {n : Nat} {xs : List Value} (h : W.ownsRow base e size v n xs) : ∃ ao ln cp, v = .slice ao ln cp := by
  rcases h.2 with ⟨h0, _⟩ | ⟨g, cap, cur, hv, _⟩
  · exact ⟨_, _, _, h0⟩
  · exact ⟨_, _, _, hv⟩
theorem row_len {xs : List Value} {n : Nat} (h : xs.length = n * 1) : xs.length = n := by omega
theorem wr_alloc {b hi : Nat} (W : World) (o : Obj) : Wr b hi W (W.alloc o) := ⟨rfl, rfl, rfl, by simp, fun k _ hk _ _ => (Below.heap_alloc _ _ _ (Array.getElem?_eq_some_iff.1 hk).1).trans hk⟩

set_option maxRecDepth 100000 in
set_option maxHeartbeats 1000000 in
theorem wbyte_any {b hi : Nat} {bs : List Value} (c : Int) {w : World} {p v : Value} (h : Bld b hi bs w p v) (hb : b < hi) (hw : hi ≤ w.heap.size) (hl : bs.length + 1 ≤ 140737488355328) :
    Calls Tryz.prog 109 #[.pointer (some ⟨b, 0, none⟩), .int .u8 c] w fun e w' => e = .returned .nilIface ∧ (∃ p' v', Bld b hi (bs ++ [.int .u8 c]) w' p' v') ∧ Wr b hi w w' := by
  obtain ⟨i0, hi0, hz0, hz1, hz2⟩ := info_parts infoU8
  have cC := check_any h hb
  have hml : bs.length + 1 ≤ maxLen := by unfold maxLen; omega
  go_enter Tryz.func109, Tryz.ntmps109
  go_wp2_with (first | (go_at_call 115; refine cC.mono ?_; clear cC; rintro e w1 ⟨rfl, k1, HW1, hsz⟩; have HS : Hid (w1.heap.size = w.heap.size) := hsz; clear hsz; have c1 : w1.cell? ⟨b, 1, none⟩ = some v := (by simp [World.cell?, k1.box])) | (at_builtin; refine wpList_append_own_at _ rfl _ _ 104 rfl hi 5 i0 (.int .u8 0) 1 1 Tryz.underlying104 hi0 hz0 hz1 hz2 rfl (by decide) _ _ _ rfl (k1.row.alloc _) ⟨w1.heap.size, 0, none⟩ 1 1 [.int .u8 c] rfl rfl (World.news_of_block (World.alloc_heap_new w1 _)) (by simp [Value.oneCell']) hml (by omega) (by have := HS.out; simp; omega) ?_; intro v' w2 hown' hgrow _ _; obtain ⟨g', cap', rfl⟩ := ownsRow_succ hown'; obtain ⟨q1, q2, q3⟩ := (k1.kept (World.grownBy_alloc w1 _ none) (by simp) (by simp)).put (bs' := bs ++ [.int .u8 c]) hb hgrow (by simpa using hown'); have d1 : w2.cell? ⟨b, 1, none⟩ = some v := (by simp [World.cell?, q1]); have f1 : w2.frozen? ⟨b, 1, none⟩ = false := (by simp [World.frozen?, q1])))
  go_ret
  exact ⟨rfl, ⟨_, _, q2⟩, HW1.trans ((wr_alloc _ _).trans q3)⟩
set_option maxRecDepth 100000 in
set_option maxHeartbeats 1000000 in
theorem wstr_any {b hi : Nat} {bs : List Value} (s : ByteArray) {w : World} {p v : Value} (h : Bld b hi bs w p v) (hb : b < hi) (hw : hi ≤ w.heap.size) (hl : bs.length + s.size ≤ 140737488355328) :
    Calls Tryz.prog 88 #[.pointer (some ⟨b, 0, none⟩), .string s] w fun e w' => (∃ u, e = .returned u) ∧ (∃ p' v', Bld b hi (bs ++ Lib.strCells s) w' p' v') ∧ Wr b hi w w' := by
  obtain ⟨i0, hi0, hz0, hz1, hz2⟩ := info_parts infoU8
  have cC := check_any h hb
  have hml : bs.length + s.size ≤ maxLen := by unfold maxLen; omega
  go_enter Tryz.func88, Tryz.ntmps88
  go_wp2_with (first | (go_at_call 115; refine cC.mono ?_; clear cC; rintro e w1 ⟨rfl, k1, HW1, hsz⟩; have HS : Hid (w1.heap.size = w.heap.size) := hsz; clear hsz; have c1 : w1.cell? ⟨b, 1, none⟩ = some v := (by simp [World.cell?, k1.box])) | (at_builtin; refine Lib.wpList_append_own_string _ rfl _ _ 104 9 rfl hi 5 i0 Tryz.underlying104 Tryz.underlying9 hi0 hz0 hz1 hz2 _ _ _ rfl k1.row s rfl hml hl (by have := HS.out; omega) ?_; intro v' w2 hown' hgrow _; obtain ⟨ao, ln, cp, rfl⟩ := row_slice hown'; obtain ⟨q1, q2, q3⟩ := k1.put (bs' := bs ++ Lib.strCells s) hb hgrow (by rw [row_len hown'.1]; exact hown'); have d1 : w2.cell? ⟨b, 1, none⟩ = some v := (by simp [World.cell?, q1]); have f1 : w2.frozen? ⟨b, 1, none⟩ = false := (by simp [World.frozen?, q1])))
  exact bodyPost_ret (v := .tuple #[.int .i64 s.size, .nilIface]) (by simp [results, Tryz.results88, go_sem]) rfl ⟨⟨_, rfl⟩, ⟨_, _, q2⟩, HW1.trans q3⟩
set_option maxRecDepth 100000 in
set_option maxHeartbeats 1000000 in
theorem wrune_any {b hi : Nat} {bs : List Value} (r : Int) (hr : -2147483648 ≤ r ∧ r ≤ 2147483647) {w : World} {p v : Value} (h : Bld b hi bs w p v) (hb : b < hi) (hw : hi ≤ w.heap.size) (hl : bs.length + 4 ≤ 140737488355328) :
    Calls Tryz.prog 110 #[.pointer (some ⟨b, 0, none⟩), .int .i32 r] w fun e w' => (∃ u, e = .returned u) ∧ (∃ p' v', Bld b hi (bs ++ Lib.runeCells r) w' p' v') ∧ Wr b hi w w' := by
  have cC := check_any h hb
  have HR : Hid (-2147483648 ≤ r ∧ r ≤ 2147483647) := hr
  have hk4 := Lib.runeCells_le r
  go_enter Tryz.func110, Tryz.ntmps110
  go_wp2_with (first | (go_at_call 115; refine cC.mono ?_; clear cC; rintro e w1 ⟨rfl, k1, HW1, hsz⟩; obtain ⟨ao, ln, cp, rfl⟩ := row_slice k1.row; have HS : Hid (w1.heap.size = w.heap.size) := hsz; clear hsz; have c1 : w1.cell? ⟨b, 1, none⟩ = some (.slice ao ln cp) := (by simp [World.cell?, k1.box])) | (go_at_call 132; refine (Tryz.utf8_AppendRune_plain hi _ bs.length bs r HR.out.1 HR.out.2 w1 k1.row hl (by have := HS.out; omega)).mono ?_; rintro e w2 ⟨v', rfl, hown', o, hgrow⟩; obtain ⟨ao', ln', cp', rfl⟩ := row_slice hown'; obtain ⟨q1, q2, q3⟩ := (k1.kept (World.grownBy_alloc w1 o none) (by simp) (by simp)).put (bs' := bs ++ Lib.runeCells r) hb hgrow (by rw [row_len hown'.1]; exact hown'); have d1 : w2.cell? ⟨b, 1, none⟩ = some (.slice ao ln cp) := (by simp [World.cell?, q1]); have f1 : w2.frozen? ⟨b, 1, none⟩ = false := (by simp [World.frozen?, q1])))
  exact bodyPost_ret (v := .tuple #[.int .i64 (wrap64 ((ln' : Int) - ln)), .nilIface]) (by simp [results, Tryz.results110, go_sem]) rfl ⟨⟨_, rfl⟩, ⟨_, _, q2⟩, HW1.trans ((wr_alloc _ _).trans q3)⟩
end Go.Proofs.YtdggbnkhbmffoaaGreatDoor
namespace Go.Proofs.YtdggbnkhbmffoaaGreatDoor
open Go.RowKit Go.Great Wid

/-- the runs of small letters: the first, the last, the step, how far down the large ones are -/
def sml : List (Int × Int × Int × Int) := [(97, 122, 1, 32), (224, 246, 1, 32), (248, 254, 1, 32), (255, 255, 1, -121), (257, 303, 2, 1), (307, 311, 2, 1), (331, 375, 2, 1), (945, 961, 1, 32), (963, 969, 1, 32), (1072, 1103, 1, 32), (1104, 1119, 1, 80), (1121, 1153, 2, 1)]
def smc : Array Value := (sml.flatMap fun p => [Value.int .i32 p.1, .int .i32 p.2.1, .int .i32 p.2.2.1, .int .i32 p.2.2.2]).toArray

set_option maxRecDepth 100000 in
set_option maxHeartbeats 2000000 in
theorem small_any (w : World) : Calls Tryz.prog 111 #[] w fun e w' => e = .returned (.agg smc) ∧ Below w.heap.size w w' := by
  refine calls_of_wp Tryz.func111 rfl ?_
  apply wp_seq_k; intro K0 hK0
  apply wp_region_lit
  refine wpList_allocTo rfl (some 0) rfl (.pointer (some ⟨w.heap.size, 0, none⟩)) (.cells (Array.replicate 48 (.int .i32 0)) 128) (by as_aux_lemma => kernel_rfl) ?_
  apply wpList_nil
  refine hK0 _ _ ?_
  clear hK0
  apply wp_seq_k; intro K1 hK1
  apply wp_region_lit
  refine wpList_buildTo rfl 127 _ rfl (some 1) rfl #[.int .i32 97, .int .i32 122, .int .i32 1, .int .i32 32] (by as_aux_lemma => kernel_rfl) ?_
  refine wpList_buildTo rfl 127 _ rfl (some 2) rfl #[.int .i32 224, .int .i32 246, .int .i32 1, .int .i32 32] (by as_aux_lemma => kernel_rfl) ?_
  refine wpList_buildTo rfl 127 _ rfl (some 3) rfl #[.int .i32 248, .int .i32 254, .int .i32 1, .int .i32 32] (by as_aux_lemma => kernel_rfl) ?_
  refine wpList_buildTo rfl 127 _ rfl (some 4) rfl #[.int .i32 255, .int .i32 255, .int .i32 1, .int .i32 (-121)] (by as_aux_lemma => kernel_rfl) ?_
  refine wpList_buildTo rfl 127 _ rfl (some 5) rfl #[.int .i32 257, .int .i32 303, .int .i32 2, .int .i32 1] (by as_aux_lemma => kernel_rfl) ?_
  refine wpList_buildTo rfl 127 _ rfl (some 6) rfl #[.int .i32 307, .int .i32 311, .int .i32 2, .int .i32 1] (by as_aux_lemma => kernel_rfl) ?_
  refine wpList_buildTo rfl 127 _ rfl (some 7) rfl #[.int .i32 331, .int .i32 375, .int .i32 2, .int .i32 1] (by as_aux_lemma => kernel_rfl) ?_
  refine wpList_buildTo rfl 127 _ rfl (some 8) rfl #[.int .i32 945, .int .i32 961, .int .i32 1, .int .i32 32] (by as_aux_lemma => kernel_rfl) ?_
  refine wpList_buildTo rfl 127 _ rfl (some 9) rfl #[.int .i32 963, .int .i32 969, .int .i32 1, .int .i32 32] (by as_aux_lemma => kernel_rfl) ?_
  refine wpList_buildTo rfl 127 _ rfl (some 10) rfl #[.int .i32 1072, .int .i32 1103, .int .i32 1, .int .i32 32] (by as_aux_lemma => kernel_rfl) ?_
  refine wpList_buildTo rfl 127 _ rfl (some 11) rfl #[.int .i32 1104, .int .i32 1119, .int .i32 1, .int .i32 80] (by as_aux_lemma => kernel_rfl) ?_
  refine wpList_buildTo rfl 127 _ rfl (some 12) rfl #[.int .i32 1121, .int .i32 1153, .int .i32 2, .int .i32 1] (by as_aux_lemma => kernel_rfl) ?_
  refine wpList_buildTo rfl 128 _ rfl (some 13) rfl (smc) (by as_aux_lemma => kernel_rfl) ?_
  refine wpList_store_rowTo rfl 128 _ _ rfl rfl w.heap.size (smc) (by as_aux_lemma => kernel_rfl) (by as_aux_lemma => kernel_rfl) 128 (Array.replicate 48 (.int .i32 0)) Array.getElem?_push_size (by as_aux_lemma => kernel_rfl) (by as_aux_lemma => kernel_rfl) (by as_aux_lemma => kernel_rfl) ?_
  apply wpList_nil
  refine hK1 _ _ ?_
  clear hK1
  rw [setRow_alloc]
  refine wp_ret (bodyPost_ret (res_arr (t := 128) (e := 127) (n := 12) (d := 0) (i := ((Tryz.prog.info? 128).getD default)) (by as_aux_lemma => kernel_rfl) (by as_aux_lemma => kernel_rfl) (by as_aux_lemma => kernel_rfl) _ w _ (by as_aux_lemma => kernel_rfl) (by as_aux_lemma => kernel_rfl)) (by as_aux_lemma => kernel_rfl) ⟨rfl, (Below.refl _ w).alloc (Nat.le_refl _) _⟩)

theorem ix12 (w : World) : ∀ (i : Nat) (p : Int × Int × Int × Int), sml[i]? = some p → (Instr.index 128 (.agg smc) (.int .i64 i)).run Tryz.prog w = .ok (.agg #[.int .i32 p.1, .int .i32 p.2.1, .int .i32 p.2.2.1, .int .i32 p.2.2.2]) w := by
  intro i p h
  have hi : i < 12 := (List.getElem?_eq_some_iff.1 h).1
  by_cases h0 : i = 0
  · have e : ∀ w : World, (Instr.index 128 (.agg (smc)) (.int .i64 0)).run Tryz.prog w = .ok (.agg #[.int .i32 97, .int .i32 122, .int .i32 1, .int .i32 32]) w := fun w => by kernel_rfl
    subst h0
    rw [← (Option.some.inj h : ((97 : Int), (122 : Int), (1 : Int), (32 : Int)) = p)]
    exact e w
  by_cases h1 : i = 1
  · have e : ∀ w : World, (Instr.index 128 (.agg (smc)) (.int .i64 1)).run Tryz.prog w = .ok (.agg #[.int .i32 224, .int .i32 246, .int .i32 1, .int .i32 32]) w := fun w => by kernel_rfl
    subst h1
    rw [← (Option.some.inj h : ((224 : Int), (246 : Int), (1 : Int), (32 : Int)) = p)]
    exact e w
  by_cases h2 : i = 2
  · have e : ∀ w : World, (Instr.index 128 (.agg (smc)) (.int .i64 2)).run Tryz.prog w = .ok (.agg #[.int .i32 248, .int .i32 254, .int .i32 1, .int .i32 32]) w := fun w => by kernel_rfl
    subst h2
    rw [← (Option.some.inj h : ((248 : Int), (254 : Int), (1 : Int), (32 : Int)) = p)]
    exact e w
  by_cases h3 : i = 3
  · have e : ∀ w : World, (Instr.index 128 (.agg (smc)) (.int .i64 3)).run Tryz.prog w = .ok (.agg #[.int .i32 255, .int .i32 255, .int .i32 1, .int .i32 (-121)]) w := fun w => by kernel_rfl
    subst h3
    rw [← (Option.some.inj h : ((255 : Int), (255 : Int), (1 : Int), (-121 : Int)) = p)]
    exact e w
  by_cases h4 : i = 4
  · have e : ∀ w : World, (Instr.index 128 (.agg (smc)) (.int .i64 4)).run Tryz.prog w = .ok (.agg #[.int .i32 257, .int .i32 303, .int .i32 2, .int .i32 1]) w := fun w => by kernel_rfl
    subst h4
    rw [← (Option.some.inj h : ((257 : Int), (303 : Int), (2 : Int), (1 : Int)) = p)]
    exact e w
  by_cases h5 : i = 5
  · have e : ∀ w : World, (Instr.index 128 (.agg (smc)) (.int .i64 5)).run Tryz.prog w = .ok (.agg #[.int .i32 307, .int .i32 311, .int .i32 2, .int .i32 1]) w := fun w => by kernel_rfl
    subst h5
    rw [← (Option.some.inj h : ((307 : Int), (311 : Int), (2 : Int), (1 : Int)) = p)]
    exact e w
  by_cases h6 : i = 6
  · have e : ∀ w : World, (Instr.index 128 (.agg (smc)) (.int .i64 6)).run Tryz.prog w = .ok (.agg #[.int .i32 331, .int .i32 375, .int .i32 2, .int .i32 1]) w := fun w => by kernel_rfl
    subst h6
    rw [← (Option.some.inj h : ((331 : Int), (375 : Int), (2 : Int), (1 : Int)) = p)]
    exact e w
  by_cases h7 : i = 7
  · have e : ∀ w : World, (Instr.index 128 (.agg (smc)) (.int .i64 7)).run Tryz.prog w = .ok (.agg #[.int .i32 945, .int .i32 961, .int .i32 1, .int .i32 32]) w := fun w => by kernel_rfl
    subst h7
    rw [← (Option.some.inj h : ((945 : Int), (961 : Int), (1 : Int), (32 : Int)) = p)]
    exact e w
  by_cases h8 : i = 8
  · have e : ∀ w : World, (Instr.index 128 (.agg (smc)) (.int .i64 8)).run Tryz.prog w = .ok (.agg #[.int .i32 963, .int .i32 969, .int .i32 1, .int .i32 32]) w := fun w => by kernel_rfl
    subst h8
    rw [← (Option.some.inj h : ((963 : Int), (969 : Int), (1 : Int), (32 : Int)) = p)]
    exact e w
  by_cases h9 : i = 9
  · have e : ∀ w : World, (Instr.index 128 (.agg (smc)) (.int .i64 9)).run Tryz.prog w = .ok (.agg #[.int .i32 1072, .int .i32 1103, .int .i32 1, .int .i32 32]) w := fun w => by kernel_rfl
    subst h9
    rw [← (Option.some.inj h : ((1072 : Int), (1103 : Int), (1 : Int), (32 : Int)) = p)]
    exact e w
  by_cases h10 : i = 10
  · have e : ∀ w : World, (Instr.index 128 (.agg (smc)) (.int .i64 10)).run Tryz.prog w = .ok (.agg #[.int .i32 1104, .int .i32 1119, .int .i32 1, .int .i32 80]) w := fun w => by kernel_rfl
    subst h10
    rw [← (Option.some.inj h : ((1104 : Int), (1119 : Int), (1 : Int), (80 : Int)) = p)]
    exact e w
  by_cases h11 : i = 11
  · have e : ∀ w : World, (Instr.index 128 (.agg (smc)) (.int .i64 11)).run Tryz.prog w = .ok (.agg #[.int .i32 1121, .int .i32 1153, .int .i32 2, .int .i32 1]) w := fun w => by kernel_rfl
    subst h11
    rw [← (Option.some.inj h : ((1121 : Int), (1153 : Int), (2 : Int), (1 : Int)) = p)]
    exact e w
  omega
/-- a letter of a run -/
def hasR (p : Int × Int × Int × Int) (c : Int) : Bool := decide (p.1 ≤ c) && decide (c ≤ p.2.1) && decide ((c - p.1) % p.2.2.1 = 0)
/-- what the runs keep to -/
def okR (p : Int × Int × Int × Int) : Prop := -200 ≤ p.1 ∧ p.1 ≤ 2000 ∧ p.2.1 ≤ 2000 ∧ -200 ≤ p.2.1 ∧ 1 ≤ p.2.2.1 ∧ p.2.2.1 ≤ 2 ∧ -200 ≤ p.2.2.2 ∧ p.2.2.2 ≤ 200
theorem sml_ok : ∀ p ∈ sml, okR p ∧ okR (p.1 - p.2.2.2, p.2.1 - p.2.2.2, p.2.2.1, p.2.2.2) := by
  unfold okR
  decide
theorem rem_pos {a b : Int} (ha : 0 ≤ a) : a.tmod b = a % b := Int.tmod_eq_emod_of_nonneg ha

set_option maxRecDepth 100000 in
set_option maxHeartbeats 1000000 in
theorem has_any (p : Int × Int × Int × Int) (hp : okR p) (c : Int) (w : World) : Calls Tryz.prog 112 #[.agg #[.int .i32 p.1, .int .i32 p.2.1, .int .i32 p.2.2.1, .int .i32 p.2.2.2], .int .i32 c] w fun e w' => e = .returned (.bool (hasR p c)) ∧ Below w.heap.size w w' := by
  obtain ⟨a, b, st, d⟩ := p
  obtain ⟨g1, g2, g3, g4, g5, g6, g7, g8⟩ := hp
  unfold hasR
  dsimp only at g1 g2 g3 g4 g5 g6 g7 g8 ⊢
  by_cases h1 : a ≤ c
  · by_cases h2 : c ≤ b
    · have h3 : IntKind.i32.wrap (c - a) = c - a := by rw [IntKind.wrap_i32]; omega
      have h4 : (c - a).tmod st = (c - a) % st := rem_pos (by omega)
      have h5 : ¬ st = 0 := by omega
      rw [decide_eq_true h1, decide_eq_true h2]
      go_enter Tryz.func112, Tryz.ntmps112
      go_wp2
      go_ret
      exact ⟨ret_bool (by rw [Bool.true_and, Bool.true_and]; rfl), (Below.refl _ w).alloc (Nat.le_refl _) _⟩
    · rw [decide_eq_false h2]
      go_enter Tryz.func112, Tryz.ntmps112
      go_wp2
      go_ret
      exact ⟨by simp, (Below.refl _ w).alloc (Nat.le_refl _) _⟩
  · rw [decide_eq_false h1]
    go_enter Tryz.func112, Tryz.ntmps112
    go_wp2
    go_ret
    exact ⟨by simp, (Below.refl _ w).alloc (Nat.le_refl _) _⟩

theorem sml_up : (sml.all fun p => (List.range 60).all fun k => !(hasR p (p.1 + (k : Nat))) || (decide (upc (p.1 + (k : Nat)) = p.1 + (k : Nat) - p.2.2.2))) = true := by decide +kernel
theorem sml_low : (sml.all fun p => (List.range 60).all fun k => !(hasR (p.1 - p.2.2.2, p.2.1 - p.2.2.2, p.2.2.1, p.2.2.2) (p.1 - p.2.2.2 + (k : Nat))) || (decide (lowc (p.1 - p.2.2.2 + (k : Nat)) = p.1 - p.2.2.2 + (k : Nat) + p.2.2.2))) = true := by decide +kernel
theorem sml_len : ∀ p ∈ sml, p.2.1 - p.1 < 60 := by decide
theorem prs_sml : (prs.all fun q => (sml.any fun p => hasR p q.1) && (sml.any fun p => hasR (p.1 - p.2.2.2, p.2.1 - p.2.2.2, p.2.2.1, p.2.2.2) q.2)) = true := by decide +kernel
theorem up_has {p : Int × Int × Int × Int} {c : Int} (hp : p ∈ sml) (h : hasR p c = true) : upc c = c - p.2.2.2 := by
  have h1 := List.all_eq_true.1 sml_up p hp
  have hl := sml_len p hp
  have hr : p.1 ≤ c ∧ c ≤ p.2.1 := by
    unfold hasR at h
    simp only [Bool.and_eq_true, decide_eq_true_eq] at h
    exact h.1
  have h2 := List.all_eq_true.1 h1 (c - p.1).toNat (by rw [List.mem_range]; omega)
  have e : p.1 + ((c - p.1).toNat : Int) = c := by omega
  rw [e, h] at h2
  simpa using h2
theorem low_has {p : Int × Int × Int × Int} {c : Int} (hp : p ∈ sml) (h : hasR (p.1 - p.2.2.2, p.2.1 - p.2.2.2, p.2.2.1, p.2.2.2) c = true) : lowc c = c + p.2.2.2 := by
  have h1 := List.all_eq_true.1 sml_low p hp
  have hl := sml_len p hp
  have hr : p.1 - p.2.2.2 ≤ c ∧ c ≤ p.2.1 - p.2.2.2 := by
    unfold hasR at h
    simp only [Bool.and_eq_true, decide_eq_true_eq] at h
    exact h.1
  have h2 := List.all_eq_true.1 h1 (c - (p.1 - p.2.2.2)).toNat (by rw [List.mem_range]; omega)
  have e : p.1 - p.2.2.2 + ((c - (p.1 - p.2.2.2)).toNat : Int) = c := by omega
  rw [e, h] at h2
  simpa using h2
theorem up_none {c : Int} (h : ∀ p ∈ sml, hasR p c = false) : upc c = c := by
  rcases up_cases c with h1 | h1
  · exact h1.1
  · have h2 := List.all_eq_true.1 prs_sml _ h1
    simp only [Bool.and_eq_true, List.any_eq_true] at h2
    obtain ⟨⟨p, hp, hq⟩, _⟩ := h2
    rw [h p hp] at hq
    cases hq
theorem low_none {c : Int} (h : ∀ p ∈ sml, hasR (p.1 - p.2.2.2, p.2.1 - p.2.2.2, p.2.2.1, p.2.2.2) c = false) : lowc c = c := by
  rcases low_cases c with h1 | h1
  · exact h1.1
  · have h2 := List.all_eq_true.1 prs_sml _ h1
    simp only [Bool.and_eq_true, List.any_eq_true] at h2
    obtain ⟨_, ⟨p, hp, hq⟩⟩ := h2
    rw [h p hp] at hq
    cases hq

set_option maxRecDepth 100000 in
set_option maxHeartbeats 1000000 in
theorem large_any (p : Int × Int × Int × Int) (hp : okR p) (w : World) : Calls Tryz.prog 113 #[.agg #[.int .i32 p.1, .int .i32 p.2.1, .int .i32 p.2.2.1, .int .i32 p.2.2.2]] w fun e w' => e = .returned (.agg #[.int .i32 (p.1 - p.2.2.2), .int .i32 (p.2.1 - p.2.2.2), .int .i32 p.2.2.1, .int .i32 p.2.2.2]) ∧ Below w.heap.size w w' := by
  obtain ⟨a, b, st, d⟩ := p
  obtain ⟨g1, g2, g3, g4, g5, g6, g7, g8⟩ := hp
  dsimp only at g1 g2 g3 g4 g5 g6 g7 g8 ⊢
  have h1 : IntKind.i32.wrap (a - d) = a - d := by rw [IntKind.wrap_i32]; omega
  have h2 : IntKind.i32.wrap (b - d) = b - d := by rw [IntKind.wrap_i32]; omega
  go_enter Tryz.func113, Tryz.ntmps113
  go_wp2
  exact bodyPost_ret (v := .agg #[.int .i32 (a - d), .int .i32 (b - d), .int .i32 st, .int .i32 d]) (by simp [results, Tryz.results113, go_sem]) rfl ⟨rfl, ((Below.refl _ w).alloc (Nat.le_refl _) _).alloc (by simp) _⟩

set_option maxRecDepth 100000 in
set_option maxHeartbeats 1000000 in
theorem upof_any (c : Int) (w : World) : Calls Tryz.prog 85 #[.int .i32 c] w fun e w' => e = .returned (.int .i32 (upc c)) ∧ Below w.heap.size w w' := by
  have cO := small_any w
  have hI := ix12
  generalize smc = A at cO hI
  go_enter Tryz.func85, Tryz.ntmps85
  go_wp2_with (go_at_call 111; refine cO.mono ?_; clear cO; rintro e w0 ⟨rfl, hb0⟩)
  go_loopw [6] (fun t wr => ∃ i : Nat, t = .int .i64 i ∧ i ≤ 12 ∧ (∀ j p, j < i → sml[j]? = some p → hasR p c = false) ∧ Below w.heap.size w wr) (fun t _ => 12 - (intOf t).toNat)
  case atStart => exact ⟨0, rfl, Nat.zero_le _, fun j p h => by omega, hb0⟩
  case round =>
    clear hb0
    obtain ⟨i, rfl, hi, hno, hB⟩ := hrel
    by_cases hlt : i < 12
    · obtain ⟨p, hp⟩ : ∃ p, sml[i]? = some p := ⟨sml[i]'hlt, List.getElem?_eq_getElem hlt⟩
      have hm : p ∈ sml := List.mem_of_getElem? hp
      have hJ := hI wr i p hp
      have CH : Hid (∀ W, Below w.heap.size w W → Calls Tryz.prog 112 #[.agg #[.int .i32 p.1, .int .i32 p.2.1, .int .i32 p.2.2.1, .int .i32 p.2.2.2], .int .i32 c] W fun e w' => e = .returned (.bool (hasR p c)) ∧ Below W.heap.size W w') := fun W _ => has_any p (sml_ok p hm).1 c W
      have HB : Hid (Below w.heap.size w wr) := hB
      have HN : Hid (∀ j p, j < i → sml[j]? = some p → hasR p c = false) := hno
      have HP : Hid (sml[i]? = some p) := hp
      have HA : Hid (Below w.heap.size w (wr.alloc (.cells #[.int .i32 p.1, .int .i32 p.2.1, .int .i32 p.2.2.1, .int .i32 p.2.2.2] 127))) := hB.alloc hB.size _
      clear hI hB hno hp
      cases hh : hasR p c with
      | true =>
        have hup := up_has hm hh
        have hok := (sml_ok p hm).1
        have hr : p.1 ≤ c ∧ c ≤ p.2.1 := by
          unfold hasR at hh
          simp only [Bool.and_eq_true, decide_eq_true_eq] at hh
          exact hh.1
        have hw : IntKind.i32.wrap (c - p.2.2.2) = c - p.2.2.2 := by
          obtain ⟨g1, g2, g3, g4, g5, g6, g7, g8⟩ := hok
          rw [IntKind.wrap_i32]; omega
        have HU : Hid (_ = _) := hup
        rw [hh] at CH
        clear hh hup hok hr hm
        go_wp2_with (go_at_call 112; refine (CH.out _ HA.out).mono ?_; clear CH; rintro e w1 ⟨rfl, hb1⟩; have d3 : w1.cell? ⟨wr.heap.size, 3, none⟩ = some (.int .i32 p.2.2.2) := (by rw [hb1.cell (p := ⟨wr.heap.size, 3, none⟩) (by simp)]; simp))
        go_ret
        exact ⟨ret_int HU.out.symm, HA.out.trans (hb1.mono HA.out.size)⟩
      | false =>
        rw [hh] at CH
        have HH : Hid (hasR p c = false) := hh
        clear hh hm
        go_wp2_with (go_at_call 112; refine (CH.out _ HA.out).mono ?_; clear CH; rintro e w1 ⟨rfl, hb1⟩)
        exact ⟨⟨i + 1, by first | rfl | simp, by omega, fun j q hj hq => by
          by_cases e : j = i
          · subst e; rw [HP.out] at hq; cases hq; exact HH.out
          · exact HN.out j q (by omega) hq, HA.out.trans (hb1.mono HA.out.size)⟩, by simp [intOf]; omega⟩
    · have : i = 12 := by omega
      subst this
      have hn : upc c = c := up_none fun p hp => by
        obtain ⟨j, hj⟩ := List.mem_iff_getElem?.1 hp
        exact hno j p (List.getElem?_eq_some_iff.1 hj).1 hj
      have HU : Hid (_ = _) := hn
      clear hI hn hno
      go_wp2
      go_ret
      exact ⟨ret_int HU.out.symm, hB⟩

set_option maxRecDepth 100000 in
set_option maxHeartbeats 1000000 in
theorem lowof_any (c : Int) (w : World) : Calls Tryz.prog 86 #[.int .i32 c] w fun e w' => e = .returned (.int .i32 (lowc c)) ∧ Below w.heap.size w w' := by
  have cO := small_any w
  have hI := ix12
  generalize smc = A at cO hI
  go_enter Tryz.func86, Tryz.ntmps86
  go_wp2_with (go_at_call 111; refine cO.mono ?_; clear cO; rintro e w0 ⟨rfl, hb0⟩)
  go_loopw [6] (fun t wr => ∃ i : Nat, t = .int .i64 i ∧ i ≤ 12 ∧ (∀ j (p : Int × Int × Int × Int), j < i → sml[j]? = some p → hasR (p.1 - p.2.2.2, p.2.1 - p.2.2.2, p.2.2.1, p.2.2.2) c = false) ∧ Below w.heap.size w wr) (fun t _ => 12 - (intOf t).toNat)
  case atStart => exact ⟨0, rfl, Nat.zero_le _, fun j p h => by omega, hb0⟩
  case round =>
    clear hb0
    obtain ⟨i, rfl, hi, hno, hB⟩ := hrel
    by_cases hlt : i < 12
    · obtain ⟨p, hp⟩ : ∃ p, sml[i]? = some p := ⟨sml[i]'hlt, List.getElem?_eq_getElem hlt⟩
      have hm : p ∈ sml := List.mem_of_getElem? hp
      have hJ := hI wr i p hp
      have CL : Hid (∀ W, Below w.heap.size w W → Calls Tryz.prog 113 #[.agg #[.int .i32 p.1, .int .i32 p.2.1, .int .i32 p.2.2.1, .int .i32 p.2.2.2]] W fun e w' => e = .returned (.agg #[.int .i32 (p.1 - p.2.2.2), .int .i32 (p.2.1 - p.2.2.2), .int .i32 p.2.2.1, .int .i32 p.2.2.2]) ∧ Below W.heap.size W w') := fun W _ => large_any p (sml_ok p hm).1 W
      have CH : Hid (∀ W, Below w.heap.size w W → Calls Tryz.prog 112 #[.agg #[.int .i32 (p.1 - p.2.2.2), .int .i32 (p.2.1 - p.2.2.2), .int .i32 p.2.2.1, .int .i32 p.2.2.2], .int .i32 c] W fun e w' => e = .returned (.bool (hasR (p.1 - p.2.2.2, p.2.1 - p.2.2.2, p.2.2.1, p.2.2.2) c)) ∧ Below W.heap.size W w') := fun W _ => has_any (p.1 - p.2.2.2, p.2.1 - p.2.2.2, p.2.2.1, p.2.2.2) (sml_ok p hm).2 c W
      have HB : Hid (Below w.heap.size w wr) := hB
      have HN : Hid (∀ j (p : Int × Int × Int × Int), j < i → sml[j]? = some p → hasR (p.1 - p.2.2.2, p.2.1 - p.2.2.2, p.2.2.1, p.2.2.2) c = false) := hno
      have HP : Hid (sml[i]? = some p) := hp
      have HA : Hid (Below w.heap.size w (wr.alloc (.cells #[.int .i32 p.1, .int .i32 p.2.1, .int .i32 p.2.2.1, .int .i32 p.2.2.2] 127))) := hB.alloc hB.size _
      clear hI hB hno hp
      cases hh : hasR (p.1 - p.2.2.2, p.2.1 - p.2.2.2, p.2.2.1, p.2.2.2) c with
      | true =>
        have hup := low_has hm hh
        have hok := (sml_ok p hm).2
        have hr : p.1 - p.2.2.2 ≤ c ∧ c ≤ p.2.1 - p.2.2.2 := by
          unfold hasR at hh
          simp only [Bool.and_eq_true, decide_eq_true_eq] at hh
          exact hh.1
        have hw : IntKind.i32.wrap (c + p.2.2.2) = c + p.2.2.2 := by
          obtain ⟨g1, g2, g3, g4, g5, g6, g7, g8⟩ := hok
          dsimp only at g1 g2 g3 g4 g5 g6 g7 g8
          rw [IntKind.wrap_i32]; omega
        have HU : Hid (_ = _) := hup
        rw [hh] at CH
        clear hh hup hok hr hm
        go_wp2_with (first | (go_at_call 113; refine (CL.out _ HA.out).mono ?_; clear CL; rintro e w1 ⟨rfl, hb1⟩; have HB1 : Hid (Below w.heap.size w w1) := HA.out.trans (hb1.mono HA.out.size)) | (go_at_call 112; refine (CH.out _ HB1.out).mono ?_; clear CH; rintro e w2 ⟨rfl, hb2⟩; have d3 : w2.cell? ⟨wr.heap.size, 3, none⟩ = some (.int .i32 p.2.2.2) := (by rw [hb2.cell (p := ⟨wr.heap.size, 3, none⟩) (by have := hb1.size; simp at this; show wr.heap.size < _; omega), hb1.cell (p := ⟨wr.heap.size, 3, none⟩) (by simp)]; simp)))
        go_ret
        exact ⟨ret_int HU.out.symm, HB1.out.trans (hb2.mono HB1.out.size)⟩
      | false =>
        rw [hh] at CH
        have HH : Hid (hasR (p.1 - p.2.2.2, p.2.1 - p.2.2.2, p.2.2.1, p.2.2.2) c = false) := hh
        clear hh hm
        go_wp2_with (first | (go_at_call 113; refine (CL.out _ HA.out).mono ?_; clear CL; rintro e w1 ⟨rfl, hb1⟩; have HB1 : Hid (Below w.heap.size w w1) := HA.out.trans (hb1.mono HA.out.size); clear hb1) | (go_at_call 112; refine (CH.out _ HB1.out).mono ?_; clear CH; rintro e w2 ⟨rfl, hb2⟩))
        exact ⟨⟨i + 1, by first | rfl | simp, by omega, fun j q hj hq => by
          by_cases e : j = i
          · subst e; rw [HP.out] at hq; cases hq; exact HH.out
          · exact HN.out j q (by omega) hq, HB1.out.trans (hb2.mono HB1.out.size)⟩, by simp [intOf]; omega⟩
    · have : i = 12 := by omega
      subst this
      have hn : lowc c = c := low_none fun p hp => by
        obtain ⟨j, hj⟩ := List.mem_iff_getElem?.1 hp
        exact hno j p (List.getElem?_eq_some_iff.1 hj).1 hj
      have HU : Hid (_ = _) := hn
      clear hI hn hno
      go_wp2
      go_ret
      exact ⟨ret_int HU.out.symm, hB⟩
end Go.Proofs.YtdggbnkhbmffoaaGreatDoor
namespace Go.Proofs.YtdggbnkhbmffoaaGreatDoor
open Go.RowKit Go.Shelf Bod Wid
attribute [local go_sem] Oper.semAt_some

theorem push3 (a : Array Obj) (o0 o1 o2 : Obj) : (((a.push o0).push o1).push o2)[a.size]? = some o0 ∧ (((a.push o0).push o1).push o2)[a.size + 1]? = some o1 ∧ (((a.push o0).push o1).push o2)[a.size + 1 + 1]? = some o2 := by
  refine ⟨?_, ?_, ?_⟩
  · rw [Array.getElem?_push, if_neg (by simp only [Array.size_push]; omega), Array.getElem?_push, if_neg (by simp only [Array.size_push]; omega), Array.getElem?_push_size]
  · rw [Array.getElem?_push, if_neg (by simp only [Array.size_push]; omega), ← Array.size_push o0, Array.getElem?_push_size]
  · rw [← Array.size_push o0, ← Array.size_push o1, Array.getElem?_push_size]
/-- the box b holds a slice of its own that reads as l; its row lies at hi or beyond -/
structure LsS (n₀ b hi : Nat) (l : List (Nat × Nat)) (W : World) (v : Value) : Prop where
  box : W.heap[b]? = some (.cells #[v] 77 (0, 0))
  row : W.ownsRow n₀ 53 2 v l.length (spc l)
  nil : v = .slice none 0 0 ↔ l = []
  far : ∀ g, v.ownBlock = some g → hi ≤ g
theorem LsS.block {n₀ b hi : Nat} {l : List (Nat × Nat)} {W : World} {v : Value} (h : LsS n₀ b hi l W v) {g : Nat} (hg : v.ownBlock = some g) : ∃ vs, W.heap[g]? = some (.cells vs 53 (0, 0)) := by
  rcases h.row.2 with ⟨h0, _⟩ | ⟨g', cap', cur, hv, _, hgb, _⟩
  · rw [h0] at hg; cases hg
  · rw [hv] at hg; cases hg; exact ⟨_, hgb⟩
theorem LsS.kept {n₀ b hi : Nat} {l : List (Nat × Nat)} {W W' : World} {v : Value} {row : Option Nat} (h : LsS n₀ b hi l W v) (hg : W.grownBy W' row) (h1 : row ≠ some b) (h2 : ∀ g, v.ownBlock = some g → row ≠ some g) : LsS n₀ b hi l W' v :=
  ⟨(hg.block b (Array.getElem?_eq_some_iff.1 h.box).1 (fun e => h1 e.symm)).trans h.box, h.row.kept hg (by cases hb : v.ownBlock with
    | none => exact .inl rfl
    | some g => exact .inr (fun e => h2 g hb e.symm)), h.nil, h.far⟩
theorem lss_ab {n₀ b B lo hi : Nat} (hb : b < B) : Ab B lo hi (fun l W => ∃ v, LsS n₀ b hi l W v) := fun l X Y row h hg hr => h.imp fun v hv =>
  hv.kept hg (fun e => by have := (hr b e).1; omega) (fun g hg' e => by
    obtain ⟨_, (h3 | ⟨o, ho, hc⟩)⟩ := hr g e
    · have := hv.far g hg'; omega
    · obtain ⟨vs, hvs⟩ := hv.block hg'
      rw [hvs] at ho; cases ho; cases hc)

/-- behind the append -/
theorem LsS.grown {n₀ b hi : Nat} {l : List (Nat × Nat)} {W w1 : World} {v : Value} {o : Obj} (h : LsS n₀ b hi l W v) (hb : b < hi) (hg : (W.alloc o).grownBy w1 v.ownBlock) : w1.heap[b]? = some (.cells #[v] 77 (0, 0)) := by
  have hs := (Array.getElem?_eq_some_iff.1 h.box).1
  refine (hg.block b (by simp; omega) (fun e => ?_)).trans ((Below.heap_alloc _ _ _ hs).trans h.box)
  have := h.far b e.symm
  omega
theorem LsS.appended {n₀ b hi B : Nat} {l : List (Nat × Nat)} {x : Nat × Nat} {w W w1 : World} {v v' : Value} {o : Obj} {M : Nat → Obj → Prop} (h : LsS n₀ b hi l W v) (hb : b < hi) (hB : Below n₀ w W) (hn : n₀ ≤ b) (hW : hi ≤ W.heap.size) (hg : (W.alloc o).grownBy w1 v.ownBlock)
    (hown : w1.ownsRow n₀ 53 2 v' (l.length + 1) (spc l ++ [.int .i64 (x.1 : Int), .int .i64 (x.2 : Int)])) (hob : v'.ownBlock = v.ownBlock ∨ v'.ownBlock = some (W.alloc o).heap.size)
    (m1 : ∀ o, M b o) (m2 : ∀ k vs fz, hi ≤ k → M k (.cells vs 53 fz)) :
    KeepsFrom B W (w1.setCell ⟨b, 0, none⟩ v') ∧ KpT M W (w1.setCell ⟨b, 0, none⟩ v') ∧ (∃ v, LsS n₀ b hi (l ++ [x]) (w1.setCell ⟨b, 0, none⟩ v') v) ∧ Below n₀ w (w1.setCell ⟨b, 0, none⟩ v') := by
  have hs := (Array.getElem?_eq_some_iff.1 h.box).1
  have t0 := h.grown hb hg
  have ga : W.grownBy (W.alloc o) none := World.grownBy_alloc W o none
  have g2 := gcell w1 b 0 v'
  have hBa : Below W.heap.size W (W.alloc o) := (Below.refl _ W).alloc (Nat.le_refl _) _
  have hfar : ∀ g, v.ownBlock = some g → hi ≤ g ∧ ∃ vs, (W.alloc o).heap[g]? = some (.cells vs 53 (0, 0)) := fun g e => by
    obtain ⟨vs, hvs⟩ := h.block e
    exact ⟨h.far g e, vs, (Below.heap_alloc _ _ _ (Array.getElem?_eq_some_iff.1 hvs).1).trans hvs⟩
  have kf1 : KeepsFrom B (W.alloc o) w1 := ⟨hg.size, fun k o' _ hk hc => (hg.block k (Array.getElem?_eq_some_iff.1 hk).1 (fun e => by
    obtain ⟨_, vs, hvs⟩ := hfar k e.symm
    rw [hvs] at hk; cases hk; cases hc)).trans hk⟩
  have kp1 : KpT M (W.alloc o) w1 := KpT.of_grown hg (fun r o' e ho => by
    obtain ⟨h1, vs, hvs⟩ := hfar r e
    rw [hvs] at ho; cases ho
    exact m2 _ _ _ h1)
  have far' : ∀ g, v'.ownBlock = some g → hi ≤ g := fun g e => by
    rcases hob with h1 | h1
    · rw [h1] at e; exact h.far g e
    · rw [h1] at e; cases e; simp; omega
  refine ⟨kf_trans (kf_below hBa) (kf_trans kf1 (kf_cells g2 t0)), (KpT.of_below hBa).trans (kp1.trans (KpT.of_grown g2 (fun r o' e _ => by cases e; exact m1 o'))), ⟨v', by simpa using set1 (i := 0) v' t0, ?_, ?_, far'⟩, ?_⟩
  · rw [spc_snoc, List.length_append]
    exact hown.kept g2 (by cases hb' : v'.ownBlock with
      | none => exact .inl rfl
      | some g => exact .inr (fun e => by cases e; have := far' b hb'; omega))
  · obtain ⟨g', cap', rfl⟩ := ownsRow_succ hown
    simp
  · have h1 := hB.alloc (show n₀ ≤ W.heap.size by omega) o
    have h2 : Below n₀ w w1 := h1.grown hg (by simp; omega) (fun k e => by have := (hfar k e).1; omega)
    exact h2.setCell (p := ⟨b, 0, none⟩) hn _

theorem wst_len (p : Clu → Bool) : ∀ (l : List Clu) (a : List (Nat × Nat)), (l.foldl (wst p) a).length ≤ a.length + l.length
  | [], a => by simp
  | c :: r, a => by
    have h1 := wst_len p r (wst p a c)
    have h2 : (wst p a c).length ≤ a.length + 1 := by
      unfold wst
      split
      · split
        · rename_i y hy
          have hne : a ≠ [] := fun e => by rw [e] at hy; cases hy
          have hpos := List.length_pos_iff.2 hne
          split
          · rw [List.length_append, List.length_dropLast]; simp only [List.length_cons, List.length_nil]; omega
          · simp
        · simp
      · omega
    rw [List.foldl_cons, List.length_cons]
    omega
theorem wac_len (p : Clu → Bool) (l : List Clu) : (wac p l).length ≤ l.length := by
  have := wst_len p l []
  simpa [wac] using this
/-- a cell of a row is written -/
theorem row_set {W : World} {base n size : Nat} {e : TypeId} {v : Value} {xs : List Value} {g j : Nat} (h : W.ownsRow base e size v n xs) (hg : v.ownBlock = some g) (u : Value) : (W.setCell ⟨g, j, none⟩ u).ownsRow base e size v n (xs.set j u) := by
  refine ⟨by rw [List.length_set]; exact h.1, ?_⟩
  rcases h.2 with ⟨h0, _⟩ | ⟨g', cap, cur, hv, hb, hgb, hnc, hcm, hcs, ht⟩
  · rw [h0] at hg; cases hg
  · have e1 : g' = g := by rw [hv] at hg; exact Option.some.inj hg
    subst e1
    refine .inr ⟨g', cap, cur.setIfInBounds j u, hv, hb, set1 (i := j) u hgb, hnc, hcm, by rw [Array.size_setIfInBounds]; exact hcs, ?_⟩
    rw [Array.toList_setIfInBounds, List.take_set, ht]
/-- the last word goes on -/
theorem LsS.on {n₀ b hi B : Nat} {a : List (Nat × Nat)} {x t m : Nat} {w W : World} {v : Value} {g : Nat} {M : Nat → Obj → Prop} (h : LsS n₀ b hi (a ++ [(x, t)]) W v) (hb : b < hi) (hB : Below n₀ w W) (hn : n₀ ≤ b) (hg : v.ownBlock = some g)
    (m2 : ∀ k vs fz, hi ≤ k → M k (.cells vs 53 fz)) :
    KeepsFrom B W (W.setCell ⟨g, a.length * 2 + 1, none⟩ (.int .i64 (m : Int))) ∧ KpT M W (W.setCell ⟨g, a.length * 2 + 1, none⟩ (.int .i64 (m : Int))) ∧ (∃ v, LsS n₀ b hi (a ++ [(x, m)]) (W.setCell ⟨g, a.length * 2 + 1, none⟩ (.int .i64 (m : Int))) v) ∧ Below n₀ w (W.setCell ⟨g, a.length * 2 + 1, none⟩ (.int .i64 (m : Int))) := by
  have hfar := h.far g hg
  obtain ⟨vs, hvs⟩ := h.block hg
  have g2 := gcell W g (a.length * 2 + 1) (.int .i64 (m : Int))
  have hl := spc_len a
  refine ⟨kf_cells g2 hvs, KpT.of_grown g2 (fun r o e ho => by cases e; rw [hvs] at ho; cases ho; exact m2 _ _ _ hfar), ⟨v, ?_, ?_, ?_, h.far⟩, hB.setCell (p := ⟨g, a.length * 2 + 1, none⟩) (by show n₀ ≤ g; omega) _⟩
  · exact (g2.block b (Array.getElem?_eq_some_iff.1 h.box).1 (fun e => by cases e; omega)).trans h.box
  · have := row_set h.row hg (j := a.length * 2 + 1) (.int .i64 (m : Int))
    rw [spc_snoc] at this
    have e : (spc a ++ [Value.int .i64 ((x, t).1 : Int), Value.int .i64 ((x, t).2 : Int)]).set (a.length * 2 + 1) (.int .i64 (m : Int)) = spc (a ++ [(x, m)]) := by
      rw [spc_snoc, List.set_append_right _ _ (by rw [hl]; omega), hl, show a.length * 2 + 1 - a.length * 2 = 1 by omega]
      rfl
    rw [e] at this
    simpa using this
  · rw [h.nil]; simp

set_option maxRecDepth 100000 in
set_option maxHeartbeats 2000000 in
theorem spans_in (n : Nat) (hn : 5 ≤ n) (s : ByteArray) (hs : s.size ≤ maxLen) (hm : s.size ≤ 4398046511104) (w : World) (hT : Lib.Utf8Tabs 1 2 w) (_hlo0 : 1 < w.heap.size) (hlo1 : 2 < w.heap.size) :
    CallsIn Fence.wide n Tryz.prog 87 #[.string s] w fun e W' => ∃ v, e = .returned v ∧ W'.ownsRow w.heap.size 53 2 v (words s).length (spc (words s)) ∧ Below w.heap.size w W' := by
  have h1 : 1 ≤ n := by omega
  have h2 : 1 ≤ n - 1 - 1 := by omega
  obtain ⟨i0, hi, hz0, hz1, hz2⟩ := info_parts info_span
  refine callsIn_of_wp_marks Tryz.func87 rfl trivial ?_ rfl
  simp only [Tryz.ntmps87, List.size_toArray, List.length_cons, List.length_nil, Nat.reduceAdd, Nat.reduceSub, Array.replicate_succ, Array.replicate_zero, List.push_toArray, List.append_toArray, List.nil_append, List.cons_append]
  gi_wp2_with (refine ⟨trivial, ?_⟩; gi_at_call 114; refine (walk_in (n - 1) _ _).mono ?_; rintro e w' ⟨rfl, rfl⟩)
  obtain ⟨W3, hW3⟩ : ∃ W3, (((w.alloc (.cells #[.string s] 9)).alloc (.cells #[.slice none 0 0] 77)).alloc (.cells #[.string s] 9)) = W3 := ⟨_, rfl⟩
  rw [hW3]
  obtain ⟨p0, p1, p2⟩ : W3.heap[w.heap.size]? = some (.cells #[.string s] 9 (0, 0)) ∧ W3.heap[w.heap.size + 1]? = some (.cells #[.slice none 0 0] 77 (0, 0)) ∧ W3.heap[w.heap.size + 1 + 1]? = some (.cells #[.string s] 9 (0, 0)) := by rw [← hW3]; exact push3 w.heap _ _ _
  have hB0 : Below w.heap.size w W3 := by rw [← hW3]; exact (((Below.refl _ w).alloc (Nat.le_refl _) _).alloc (by simp) _).alloc (by simp; omega) _
  have hsz : W3.heap.size = w.heap.size + 3 := by rw [← hW3]; simp
  clear hW3
  refine range_own rfl h1 (gf := 133) (lb := #[.pointer (some ⟨w.heap.size + 1 + 1, 0, none⟩)]) rfl trivial (enters_of Tryz.func133 (by kernel_rfl) rfl)
    (clu_seq (n - 1) (by omega) (w.heap.size + 1 + 1) (W3.heap.size + 2) (fun k o => k = w.heap.size + 1 ∨ (W3.heap.size + 2 + 4 ≤ k ∧ ∃ vs fz, o = .cells vs 53 fz)) s hs (fun _ h => by rcases h with h | ⟨h, _⟩ <;> omega) (fun _ h => by rcases h with h | ⟨h, _⟩ <;> omega) (fun _ h => by rcases h with h | ⟨h, _⟩ <;> omega) (fun k _ h1 h2 h => by rcases h with h | ⟨h, _⟩ <;> omega)
      (fun k _ _ h1 h => by rcases h with h | ⟨_, vs, fz, h⟩; omega; cases h)
      W3 (by omega) (by omega) (by omega) p2 (tabs_below hT hB0))
    KpT.trans (fun W l o o' _ _ hl ho => KpT.putObj W l o o' hl ho) (fun _ => rfl)
    (fun pre W => (∃ v, LsS w.heap.size (w.heap.size + 1) (W3.heap.size + 2 + 4) (wac (wcl s) pre) W v) ∧ W.heap[w.heap.size]? = some (.cells #[.string s] 9 (0, 0)) ∧ Below w.heap.size w W)
    (fun _ _ _ => False)
    (Ab.and ((lss_ab (by omega)).map (fun pre => wac (wcl s) pre)) (Ab.and (ab_block (o := fun _ => _) (by omega)) (ab_below (by omega) (Nat.le_refl _))))
    (fun _ _ _ _ _ hs _ _ => hs)
    ⟨⟨_, p1, World.ownsRow_nil _ _ _ _, by simp [wac], fun g h => by cases h⟩, p0, hB0⟩
    (fun x a' W' => ∃ Bx, w.heap.size + 1 < Bx ∧ W'.heap[Bx]? = some (.cells (cvs x) 75 (0, 0)) ∧
      a' = { tmps := #[.string s, .pointer (some ⟨w.heap.size, 0, none⟩), .slice none 0 0, .pointer (some ⟨w.heap.size + 1, 0, none⟩), .pointer (some ⟨Bx, 0, none⟩), undef, .string s, .func (.func 133) #[] #[.pointer (some ⟨w.heap.size + 1 + 1, 0, none⟩)], cv x, undef, undef, undef, undef, undef, undef, undef, undef, undef, undef, undef, undef, undef, undef, undef, undef, undef, undef, undef, undef, undef, undef, undef, undef, undef, undef, undef, undef, undef, undef, undef, undef, undef, undef, undef], defers := [] })
    (fun x a' _ X Y row h hg hr => h.imp fun Bx hx => ⟨hx.1, (hg.block Bx (Array.getElem?_eq_some_iff.1 hx.2.1).1 (fun e => by
      obtain ⟨_, (h3 | ⟨o, ho, hc⟩)⟩ := hr Bx e.symm
      · omega
      · rw [hx.2.1] at ho; cases ho; cases hc)).trans hx.2.1, hx.2.2⟩)
    ?assign ?body ?done ?stop
  case assign =>
    rintro l pre x W K ⟨⟨v, hv⟩, hq, hB⟩ hK
    have hsx := (Array.getElem?_eq_some_iff.1 hv.box).1
    gi_wp2
    exact hK _ _ (kf_below ((Below.refl _ W).alloc (Nat.le_refl _) _)) (KpT.of_below ((Below.refl _ W).alloc (Nat.le_refl _) _)) ⟨⟨v, hv.kept (World.grownBy_alloc W _ none) (by simp) (by simp)⟩, (Below.heap_alloc _ _ _ (Array.getElem?_eq_some_iff.1 hq).1).trans hq, hB.alloc hB.size _⟩ ⟨W.heap.size, hsx, World.alloc_heap_new W _, rfl⟩
  case body =>
    rintro l pre x a' W _ _ _ hWs ⟨⟨v, hv⟩, hq, hB⟩ ⟨Bx, hBx, qx, rfl⟩ hnx
    have hxm : x ∈ cl s := hnx.subset (by simp)
    have hsp := cl_span hxm
    have hc : W.cell? ⟨w.heap.size, 0, none⟩ = some (.string s) := by simp [World.cell?, hq]
    obtain ⟨⟨d0, d1, d2, d3⟩, _⟩ := box4 qx
    have cE := wbegins_any s x.fr hs (cl_fr s x hxm) W (tabs_below hT hB)
    have hwat : wat s x.fr = wcl s x := by unfold wat wcl; rw [decide_eq_true (by omega), Bool.true_and]
    rw [hwat] at cE
    have hpl := (pre_bd hnx).1
    simp only [List.length_append, List.length_cons, List.length_nil] at hpl
    have hyl := wac_len (wcl s) pre
    have HG : Hid (Below w.heap.size w W) := hB
    have HV : Hid (LsS w.heap.size (w.heap.size + 1) (W3.heap.size + 2 + 4) (wac (wcl s) pre) W v) := hv
    have HQ : Hid (W.heap[w.heap.size]? = some (.cells #[.string s] 9 (0, 0))) := hq
    have HW : Hid (W3.heap.size + 2 + 4 ≤ W.heap.size) := hWs
    have HX : Hid (W.heap[Bx]? = some (.cells (cvs x) 75 (0, 0))) := qx
    have hbox : W.cell? ⟨w.heap.size + 1, 0, none⟩ = some v := by simp [World.cell?, hv.box]
    -- behind a call that only makes memory all lies as it lay
    have HL : Hid (∀ w1 : World, Below W.heap.size W w1 → w1.cell? ⟨w.heap.size + 1, 0, none⟩ = some v ∧ w1.cell? ⟨Bx, 0, none⟩ = some (.int .i64 x.fr) ∧ w1.cell? ⟨Bx, 1, none⟩ = some (.int .i64 x.to) ∧ LsS w.heap.size (w.heap.size + 1) (W3.heap.size + 2 + 4) (wac (wcl s) pre) w1 v ∧ w1.heap[w.heap.size]? = some (.cells #[.string s] 9 (0, 0)) ∧ Below w.heap.size w w1 ∧ W3.heap.size + 2 + 4 ≤ w1.heap.size) := fun w1 hb => by
      have k1 := hv.kept (grown_of_below hb) (by simp) (by simp)
      have k2 : w1.heap[Bx]? = some (.cells (cvs x) 75 (0, 0)) := (hb.block _ (Array.getElem?_eq_some_iff.1 qx).1).trans qx
      obtain ⟨⟨q0, q1, _, _⟩, _⟩ := box4 k2
      exact ⟨by simp [World.cell?, k1.box], q0, q1, k1, (hb.block _ (Array.getElem?_eq_some_iff.1 hq).1).trans hq, hB.trans (hb.mono hB.size), Nat.le_trans hWs hb.size⟩
    clear hB hv hq hWs qx hxm
    cases hw : wcl s x with
    | false =>
      rw [hw] at cE
      have HN : Hid (wac (wcl s) (pre ++ [x]) = wac (wcl s) pre) := by show _ = _; rw [wac_snoc, wst_no hw]
      clear hw
      gi_wp2_with (refine ⟨trivial, ?_⟩; gi_at_call 77; refine (CallsIn.inRound l (callsIn_wide.2 cE)).mono ?_; clear cE; rintro e w1 ⟨rfl, hb1⟩)
      obtain ⟨_, _, _, k1, k2, k3, _⟩ := HL.out w1 hb1
      exact ⟨kf_below hb1, KpT.of_below hb1, ⟨v, by rw [HN.out]; exact k1⟩, k2, k3⟩
    | true =>
      rw [hw] at cE
      rcases List.eq_nil_or_concat (wac (wcl s) pre) with ey | ⟨ya, yl, ey⟩
      · -- the first word
        have HN : Hid (wac (wcl s) (pre ++ [x]) = wac (wcl s) pre ++ [(x.fr, x.to)]) := by show _ = _; rw [wac_snoc, wst_new hw (fun y hy => by rw [ey] at hy; cases hy)]
        have hv0 : v = .slice none 0 0 := HV.out.nil.2 ey
        subst hv0
        have hml : (wac (wcl s) pre).length + 1 ≤ maxLen := by omega
        have hbl : ((wac (wcl s) pre).length + 1) * 16 ≤ 140737488355328 := by omega
        clear hw ey
        gi_wp2_with (refine ⟨trivial, ?_⟩; gi_at_call 77; refine (CallsIn.inRound l (callsIn_wide.2 cE)).mono ?_; clear cE; rintro e w1 ⟨rfl, hb1⟩; obtain ⟨z0, z1, z2, _⟩ := HL.out w1 hb1; have HK : Hid (Below W.heap.size W w1) := hb1; clear hb1)
        refine region_quiet (by kernel_rfl) (by kernel_rfl) (by kernel_rfl) ?_
        repeat (gi_big_quiet_step (fail))
        refine wpQuietIn_nil ?_
        intro _ hw'
        obtain ⟨nq, hw''⟩ := hw'
        subst hw''
        have y0 : (w1.drewN nq).cell? ⟨w.heap.size + 1, 0, none⟩ = some (.slice none 0 0) := z0
        have y1 : (w1.drewN nq).cell? ⟨Bx, 0, none⟩ = some (.int .i64 x.fr) := z1
        have y2 : (w1.drewN nq).cell? ⟨Bx, 1, none⟩ = some (.int .i64 x.to) := z2
        obtain ⟨_, _, _, k1, k2, k3, k4⟩ := HL.out w1 HK.out
        have l1 : LsS w.heap.size (w.heap.size + 1) (W3.heap.size + 2 + 4) (wac (wcl s) pre) (w1.drewN nq) (.slice none 0 0) := ⟨k1.box, k1.row, k1.nil, k1.far⟩
        have HD : Hid (Below W.heap.size W (w1.drewN nq)) := ⟨HK.out.os, HK.out.tape, HK.out.output, HK.out.size, HK.out.block⟩
        have H2 : Hid ((w1.drewN nq).heap[w.heap.size]? = some (.cells #[.string s] 9 (0, 0))) := k2
        have H3 : Hid (Below w.heap.size w (w1.drewN nq)) := ⟨k3.os, k3.tape, k3.output, k3.size, k3.block⟩
        have H4 : Hid (W3.heap.size + 2 + 4 ≤ (w1.drewN nq).heap.size) := k4
        clear k1 k2 k3 k4 z0 z1 z2
        generalize w1.drewN nq = Wd at y0 y1 y2 l1 HD H2 H3 H4 ⊢
        gi_wp2_with (gi_at_builtin; refine wpListIn_append_own_at _ rfl _ _ 77 rfl w.heap.size 53 i0 _ 2 16 Tryz.underlying77 hi hz0 hz1 hz2 rfl (by decide) _ _ _ rfl (l1.row.alloc _) ⟨Wd.heap.size, 0, none⟩ 1 1 [.int .i64 (x.fr : Int), .int .i64 (x.to : Int)] rfl rfl (World.news_of_block (World.alloc_heap_new Wd _)) (by simp [Value.oneCell']) hml hbl (by have := H3.out.size; simp; omega) ?_; intro v' w2 hown' hgrow _ hob; obtain ⟨g', cap', rfl⟩ := ownsRow_succ hown'; have t0 := l1.grown (by omega) hgrow; have tc : w2.cell? ⟨w.heap.size + 1, 0, none⟩ = some (.slice none 0 0) := (by simp [World.cell?, t0]); have tf : w2.frozen? ⟨w.heap.size + 1, 0, none⟩ = false := (by simp [World.frozen?, t0]))
        obtain ⟨r1, r2, r3, r4⟩ := l1.appended (B := W3.heap.size) (x := (x.fr, x.to)) (M := fun k o => k = w.heap.size + 1 ∨ (W3.heap.size + 2 + 4 ≤ k ∧ ∃ vs fz, o = .cells vs 53 fz)) (by omega) H3.out (by omega) H4.out hgrow hown' hob (fun _ => .inl rfl) (fun k vs fz hk => .inr ⟨hk, vs, fz, rfl⟩)
        refine ⟨kf_trans (kf_below HD.out) r1, (KpT.of_below HD.out).trans r2, by rw [HN.out]; exact r3, ?_, r4⟩
        exact r2.2 _ _ H2.out rfl (fun h => by rcases h with h | ⟨h, _⟩ <;> omega)
      · rw [List.concat_eq_append] at ey
        obtain ⟨yx, yt⟩ := yl
        obtain ⟨g, cap, hvs, hcy⟩ : ∃ g cap, v = .slice (some ⟨g, 0, none⟩) (ya.length + 1) cap ∧ W.cell? ⟨g, ya.length * 2 + 1, none⟩ = some (.int .i64 yt) := by
          have hr := HV.out.row
          rw [ey, List.length_append] at hr
          obtain ⟨g, cap, e⟩ := ownsRow_succ hr
          refine ⟨g, cap, e, ?_⟩
          have hl := spc_len (ya ++ [(yx, yt)])
          subst e
          exact (hr.cellAt (ya.length * 2 + 1) (by omega)).trans (spc_get _ ya.length (yx, yt) (by simp)).2
        subst hvs
        have hgl : g < W.heap.size := (Array.getElem?_eq_some_iff.1 (HV.out.block (g := g) rfl).choose_spec).1
        have hya : ya.length ≤ s.size := by have := congrArg List.length ey; simp only [List.length_append, List.length_cons, List.length_nil] at this; omega
        have HW6 : Hid (wrap64 (ya.length : Int) = (ya.length : Int)) := by show wrap64 _ = _; unfold maxLen at hs; unfold wrap64; omega
        clear hya
        have HLC : Hid (∀ w1 : World, Below W.heap.size W w1 → w1.cell? ⟨g, ya.length * 2 + 1, none⟩ = some (.int .i64 yt)) := fun w1 hb => (hb.cell (p := ⟨g, ya.length * 2 + 1, none⟩) hgl).trans hcy
        by_cases hjn : yt = x.fr
        · -- the last word goes on
          subst hjn
          have HN : Hid (wac (wcl s) (pre ++ [x]) = ya ++ [(yx, x.to)]) := by show _ = _; rw [wac_snoc, ey, wst_on hw]
          have HE : Hid (wac (wcl s) pre = ya ++ [(yx, x.fr)]) := ey
          clear hw ey
          gi_wp2_with (refine ⟨trivial, ?_⟩; gi_at_call 77; refine (CallsIn.inRound l (callsIn_wide.2 cE)).mono ?_; clear cE; rintro e w1 ⟨rfl, hb1⟩; obtain ⟨z0, z1, z2, _⟩ := HL.out w1 hb1; have zg := HLC.out w1 hb1; have HK : Hid (Below W.heap.size W w1) := hb1; clear hb1)
          rw [HW6.out]
          refine region_quiet (by kernel_rfl) (by kernel_rfl) (by kernel_rfl) ?_
          repeat (gi_big_quiet_step (fail))
          refine wpQuietIn_nil ?_
          intro _ hw'
          obtain ⟨nq, hw''⟩ := hw'
          subst hw''
          have y0 : (w1.drewN nq).cell? ⟨w.heap.size + 1, 0, none⟩ = some (.slice (some ⟨g, 0, none⟩) (ya.length + 1) cap) := z0
          have y1 : (w1.drewN nq).cell? ⟨Bx, 0, none⟩ = some (.int .i64 x.fr) := z1
          have y2 : (w1.drewN nq).cell? ⟨Bx, 1, none⟩ = some (.int .i64 x.to) := z2
          obtain ⟨_, _, _, k1, k2, k3, k4⟩ := HL.out w1 HK.out
          have l1 : LsS w.heap.size (w.heap.size + 1) (W3.heap.size + 2 + 4) (wac (wcl s) pre) (w1.drewN nq) (.slice (some ⟨g, 0, none⟩) (ya.length + 1) cap) := ⟨k1.box, k1.row, k1.nil, k1.far⟩
          have HD : Hid (Below W.heap.size W (w1.drewN nq)) := ⟨HK.out.os, HK.out.tape, HK.out.output, HK.out.size, HK.out.block⟩
          have H2 : Hid ((w1.drewN nq).heap[w.heap.size]? = some (.cells #[.string s] 9 (0, 0))) := k2
          have H3 : Hid (Below w.heap.size w (w1.drewN nq)) := ⟨k3.os, k3.tape, k3.output, k3.size, k3.block⟩
          have H4 : Hid (W3.heap.size + 2 + 4 ≤ (w1.drewN nq).heap.size) := k4
          have yg : (w1.drewN nq).cell? ⟨g, ya.length * 2 + 1, none⟩ = some (.int .i64 x.fr) := zg
          clear k1 k2 k3 k4 z0 z1 z2 zg
          generalize w1.drewN nq = Wd at y0 y1 y2 yg l1 HD H2 H3 H4 ⊢
          have yf : Wd.frozen? ⟨g, ya.length * 2 + 1, none⟩ = false := by obtain ⟨vs, hvs⟩ := l1.block (g := g) rfl; simp [World.frozen?, hvs]
          gi_wp2
          rw [HE.out] at l1
          obtain ⟨r1, r2, r3, r4⟩ := l1.on (B := W3.heap.size) (m := x.to) (M := fun k o => k = w.heap.size + 1 ∨ (W3.heap.size + 2 + 4 ≤ k ∧ ∃ vs fz, o = .cells vs 53 fz)) (by omega) H3.out (by omega) rfl (fun k vs fz hk => .inr ⟨hk, vs, fz, rfl⟩)
          refine ⟨kf_trans (kf_below HD.out) r1, (KpT.of_below HD.out).trans r2, by rw [HN.out]; exact r3, ?_, r4⟩
          exact r2.2 _ _ H2.out rfl (fun h => by rcases h with h | ⟨h, _⟩ <;> omega)
        · -- another word
          have HN : Hid (wac (wcl s) (pre ++ [x]) = wac (wcl s) pre ++ [(x.fr, x.to)]) := by show _ = _; rw [wac_snoc, wst_new hw (fun y hy => by rw [ey] at hy; simp at hy; rw [← hy]; exact hjn)]
          have hml : (wac (wcl s) pre).length + 1 ≤ maxLen := by omega
          have hbl : ((wac (wcl s) pre).length + 1) * 16 ≤ 140737488355328 := by omega
          have hne : ((yt : Int) == (x.fr : Int)) = false := beq_eq_false_iff_ne.2 (by omega)
          clear hw ey hjn
          gi_wp2_with (refine ⟨trivial, ?_⟩; gi_at_call 77; refine (CallsIn.inRound l (callsIn_wide.2 cE)).mono ?_; clear cE; rintro e w1 ⟨rfl, hb1⟩; obtain ⟨z0, z1, z2, _⟩ := HL.out w1 hb1; have zg := HLC.out w1 hb1; have HK : Hid (Below W.heap.size W w1) := hb1; clear hb1)
          rw [HW6.out]
          refine region_quiet (by kernel_rfl) (by kernel_rfl) (by kernel_rfl) ?_
          repeat (gi_big_quiet_step (fail))
          refine wpQuietIn_nil ?_
          intro _ hw'
          obtain ⟨nq, hw''⟩ := hw'
          subst hw''
          have y0 : (w1.drewN nq).cell? ⟨w.heap.size + 1, 0, none⟩ = some (.slice (some ⟨g, 0, none⟩) (ya.length + 1) cap) := z0
          have y1 : (w1.drewN nq).cell? ⟨Bx, 0, none⟩ = some (.int .i64 x.fr) := z1
          have y2 : (w1.drewN nq).cell? ⟨Bx, 1, none⟩ = some (.int .i64 x.to) := z2
          obtain ⟨_, _, _, k1, k2, k3, k4⟩ := HL.out w1 HK.out
          have l1 : LsS w.heap.size (w.heap.size + 1) (W3.heap.size + 2 + 4) (wac (wcl s) pre) (w1.drewN nq) (.slice (some ⟨g, 0, none⟩) (ya.length + 1) cap) := ⟨k1.box, k1.row, k1.nil, k1.far⟩
          have HD : Hid (Below W.heap.size W (w1.drewN nq)) := ⟨HK.out.os, HK.out.tape, HK.out.output, HK.out.size, HK.out.block⟩
          have H2 : Hid ((w1.drewN nq).heap[w.heap.size]? = some (.cells #[.string s] 9 (0, 0))) := k2
          have H3 : Hid (Below w.heap.size w (w1.drewN nq)) := ⟨k3.os, k3.tape, k3.output, k3.size, k3.block⟩
          have H4 : Hid (W3.heap.size + 2 + 4 ≤ (w1.drewN nq).heap.size) := k4
          clear k1 k2 k3 k4 z0 z1 z2
          generalize w1.drewN nq = Wd at y0 y1 y2 l1 HD H2 H3 H4 ⊢
          gi_wp2_with (gi_at_builtin; refine wpListIn_append_own_at _ rfl _ _ 77 rfl w.heap.size 53 i0 _ 2 16 Tryz.underlying77 hi hz0 hz1 hz2 rfl (by decide) _ _ _ rfl (l1.row.alloc _) ⟨Wd.heap.size, 0, none⟩ 1 1 [.int .i64 (x.fr : Int), .int .i64 (x.to : Int)] rfl rfl (World.news_of_block (World.alloc_heap_new Wd _)) (by simp [Value.oneCell']) hml hbl (by have := H3.out.size; simp; omega) ?_; intro v' w2 hown' hgrow _ hob; obtain ⟨g', cap', rfl⟩ := ownsRow_succ hown'; have t0 := l1.grown (by omega) hgrow; have tc : w2.cell? ⟨w.heap.size + 1, 0, none⟩ = some (.slice (some ⟨g, 0, none⟩) (ya.length + 1) cap) := (by simp [World.cell?, t0]); have tf : w2.frozen? ⟨w.heap.size + 1, 0, none⟩ = false := (by simp [World.frozen?, t0]))
          obtain ⟨r1, r2, r3, r4⟩ := l1.appended (B := W3.heap.size) (x := (x.fr, x.to)) (M := fun k o => k = w.heap.size + 1 ∨ (W3.heap.size + 2 + 4 ≤ k ∧ ∃ vs fz, o = .cells vs 53 fz)) (by omega) H3.out (by omega) H4.out hgrow hown' hob (fun _ => .inl rfl) (fun k vs fz hk => .inr ⟨hk, vs, fz, rfl⟩)
          refine ⟨kf_trans (kf_below HD.out) r1, (KpT.of_below HD.out).trans r2, by rw [HN.out]; exact r3, ?_, r4⟩
          exact r2.2 _ _ H2.out rfl (fun h => by rcases h with h | ⟨h, _⟩ <;> omega)
  case done =>
    rintro D ys W hD rfl ⟨⟨v, hv⟩, hq, hB⟩ hK
    have hc : W.cell? ⟨w.heap.size + 1, 0, none⟩ = some v := by simp [World.cell?, hv.box]
    have hrow := hv.row
    rw [wac_eq _ (cl_tile s)] at hrow
    have HR : Hid (W.ownsRow w.heap.size 53 2 v (words s).length (spc (words s))) := hrow
    clear hrow
    gi_wp2
    refine ⟨by simp, .inl ⟨_, _, rfl, run_takeDeferred hK, ?_⟩⟩
    exact ⟨_, results_tmp rfl _ _ _, v, rfl, ownsRow_putObj HR.out _ hK rfl, hB.trans (belowK_b (w := w) (Nat.le_refl _) W D _ _ (by omega) hK rfl rfl)⟩
  case stop =>
    rintro D c pre W _ _ h _
    exact h.elim
theorem spans_any (s : ByteArray) (hs : s.size ≤ maxLen) (hm : s.size ≤ 4398046511104) (w : World) (hT : Lib.Utf8Tabs 1 2 w) (hlo0 : 1 < w.heap.size) (hlo1 : 2 < w.heap.size) :
    Calls Tryz.prog 87 #[.string s] w fun e W' => ∃ v, e = .returned v ∧ W'.ownsRow w.heap.size 53 2 v (words s).length (spc (words s)) ∧ Below w.heap.size w W' := callsIn_wide.1 (spans_in 5 (by omega) s hs hm w hT hlo0 hlo1)
end Go.Proofs.YtdggbnkhbmffoaaGreatDoor
namespace Go.Proofs.YtdggbnkhbmffoaaGreatDoor
open Go.RowKit Go.Shelf Bod Wid
attribute [local go_sem] Oper.semAt_some

theorem Wr.below {b hi n₀ : Nat} {w W W' : World} (h : Wr b hi W W') (hb : n₀ ≤ b) (hh : n₀ ≤ hi) (hn : n₀ ≤ w.heap.size) (k : Below n₀ w W) : Below n₀ w W' :=
  ⟨h.1.trans k.os, h.2.1.trans k.tape, h.2.2.1.trans k.output, Nat.le_trans k.size h.2.2.2.1, fun j hj => by
    have hjw : j < W.heap.size := by have := k.size; omega
    have e : W.heap[j]? = some W.heap[j] := Array.getElem?_eq_getElem hjw
    rw [h.2.2.2.2 j _ e (by omega) (fun h => by omega), ← e]
    exact k.block j hj⟩
theorem Wr.keeps {b hi B : Nat} {W W' : World} {vs : Array Value} {t : TypeId} {fz : Nat × Nat} (h : Wr b hi W W') (hb : W.heap[b]? = some (.cells vs t fz)) : KeepsFrom B W W' :=
  ⟨h.2.2.2.1, fun k o _ hk hc => h.2.2.2.2 k o hk (fun e => by subst e; rw [hb] at hk; cases hk; cases hc) (fun _ vs fz e => by subst e; cases hc)⟩
theorem wr_below {b hi : Nat} {W W' : World} (h : Below W.heap.size W W') : Wr b hi W W' := ⟨h.os, h.tape, h.output, h.size, fun k _ hk _ _ => (h.block k (Array.getElem?_eq_some_iff.1 hk).1).trans hk⟩
/-- what the rounds may write: the builder and rows of bytes behind it -/
def Mw (b Bs k : Nat) (o : Obj) : Prop := k = b ∨ (k ≠ Bs ∧ b + 1 ≤ k ∧ ∃ vs fz, o = .cells vs 5 fz)
theorem wr_mw {b Bs : Nat} {W W' : World} {vs : Array Value} (h : Wr b (b + 1) W W') (hB : W.heap[Bs]? = some (.cells vs 9 (0, 0))) (hne : Bs ≠ b) : KpT (Mw b Bs) W W' :=
  ⟨h.2.2.2.1, fun k o hk _ hm => h.2.2.2.2 k o hk (fun e => hm (.inl e)) (fun hh vs' fz e => by
    by_cases e2 : k = Bs
    · subst e2; rw [hB] at hk; subst e; cases hk
    · exact hm (.inr ⟨e2, hh, vs', fz, e⟩))⟩
theorem row_raise {W : World} {b n : Nat} {v : Value} {xs : List Value} (h : W.ownsRow b 5 1 v n xs) (hne : v.ownBlock ≠ some b) : W.ownsRow (b + 1) 5 1 v n xs :=
  ⟨h.1, h.2.imp id fun ⟨g, cap, cur, h1, h2, h3⟩ => ⟨g, cap, cur, h1, by have : g ≠ b := fun e => hne (by rw [h1, e]; rfl); omega, h3⟩⟩
theorem bld_abU {b B hi : Nat} {f : List Nat → List Value} (hb : b < B) : Ab B hi (hi + 0) (fun l W => ∃ p v, Bld b (b + 1) (f l) W p v) := fun l X Y row h hg hr => h.imp fun p h => h.imp fun v hv =>
  hv.kept hg (fun e => by have := (hr b e).1; omega) (fun g hg' e => by
    obtain ⟨_, (h3 | ⟨o, ho, hc⟩)⟩ := hr g e
    · omega
    · obtain ⟨vs, hvs⟩ := hv.block hg'
      rw [hvs] at ho; cases ho; cases hc)
theorem get_bang {s : ByteArray} {x : Nat} (h : x < s.size) : s.get! x = s[x]'h := by
  rw [ByteArray.getElem_eq_getElem_data]
  exact getElem!_pos s.data x h
theorem pc_four (f : Int → Int) (s : ByteArray) (i : Nat) : (pc (fun _ => f) s i).length ≤ 4 := by
  unfold pc
  split
  · simp
  · have := (Lib.runeCells_le (f (ch s i))).2
    rw [encR_len]
    simpa [Lib.runeCells] using this
theorem flat_four (f : Int → Int) (s : ByteArray) : ∀ l : List Nat, (l.flatMap (pc (fun _ => f) s)).length ≤ 4 * l.length
  | [] => by simp
  | i :: l => by
    have h1 := flat_four f s l
    have h2 := pc_four f s i
    rw [List.flatMap_cons, List.length_append, List.length_cons]
    omega
theorem pre_pc {f : Int → Int} {s : ByteArray} {pre : List Nat} (h : pre <+: offs s 0) : (pre.flatMap (pc (fun _ => f) s)).length ≤ 4 * s.size := by
  have h1 := flat_four f s pre
  have h2 := h.length_le
  have h3 := offs_len_le s
  omega
theorem fm_rng {f : Int → Int} {c : Int} (hf : f = upc ∨ f = lowc) (hc : -1 ≤ c ∧ c ≤ 1114111) : -2147483648 ≤ f c ∧ f c ≤ 2147483647 := by
  rcases hf with e | e <;> rw [e]
  · rcases up_cases c with h1 | h1
    · rw [h1.1]; omega
    · have := (pair h1).2.2.2.2.1; omega
  · rcases low_cases c with h1 | h1
    · rw [h1.1]; omega
    · have := (pair h1).2.2.2.1; omega

set_option maxRecDepth 100000 in
set_option maxHeartbeats 2000000 in
theorem written_up (n : Nat) (hn : 5 ≤ n) (s : ByteArray) (hs : s.size ≤ maxLen) (hm : s.size ≤ 4398046511104) (w : World) (hT : Lib.Utf8Tabs 1 2 w) (_hlo0 : 1 < w.heap.size) (hlo1 : 2 < w.heap.size) :
    CallsIn Fence.wide n Tryz.prog 84 #[.string s, .func (.func 85) #[] #[]] w fun e W' => e = .returned (.string (fm (fun _ => upc) s)) ∧ Below w.heap.size w W' := by
  have h1 : 1 ≤ n := by omega
  have h2 : 1 ≤ n - 1 - 1 := by omega
  have hbk : (((w.alloc (.cells #[.string s] 9)).alloc (.cells #[.func (.func 85) #[] #[]] 102)).alloc (.cells #[.pointer none, .slice none 0 0] 106)).heap[w.heap.size + 1 + 1]? = some (.cells #[.pointer none, .slice none 0 0] 106 (0, 0)) := (push3 w.heap _ _ _).2.2
  have cG := Tryz.Builder_Grow_fresh (w.heap.size + 1 + 1) (w.heap.size + 1 + 1) s.size _ (Nat.le_refl _) hbk (by simp) (by omega)
  have HG0 : Hid (∀ w1, Below (w.heap.size + 1 + 1) (((w.alloc (.cells #[.string s] 9)).alloc (.cells #[.func (.func 85) #[] #[]] 102)).alloc (.cells #[.pointer none, .slice none 0 0] 106)) w1 → w1.heap[w.heap.size]? = some (.cells #[.string s] 9 (0, 0)) ∧ w1.heap[w.heap.size + 1]? = some (.cells #[.func (.func 85) #[] #[]] 102 (0, 0)) ∧ Below w.heap.size w w1 ∧ w.heap.size + 3 ≤ w1.heap.size) := fun w1 hb => by
    obtain ⟨q0, q1, _⟩ := push3 w.heap (.cells #[.string s] 9) (.cells #[.func (.func 85) #[] #[]] 102) (.cells #[.pointer none, .slice none 0 0] 106)
    refine ⟨(hb.block _ (by omega)).trans q0, (hb.block _ (by omega)).trans q1, ((((Below.refl _ w).alloc (Nat.le_refl _) _).alloc (by simp) _).alloc (by simp; omega) _).trans (hb.mono (by omega)), by have := hb.size; simp at this; omega⟩
  refine callsIn_of_wp_marks Tryz.func84 rfl trivial ?_ rfl
  simp only [Tryz.ntmps84, List.size_toArray, List.length_cons, List.length_nil, Nat.reduceAdd, Nat.reduceSub, Array.replicate_succ, Array.replicate_zero, List.push_toArray, List.append_toArray, List.nil_append, List.cons_append]
  gi_wp2_with (first | (refine ⟨trivial, ?_⟩; gi_at_call 107; refine (callsIn_wide.2 cG).mono ?_; clear cG; rintro e w1 ⟨rfl, hbl, hb1⟩; have HBl : Hid (Lib.BuilderAt 106 5 (w.heap.size + 1 + 1) (w.heap.size + 1 + 1) (.pointer (some ⟨w.heap.size + 1 + 1, 0, none⟩)) [] w1) := hbl; clear hbl; obtain ⟨q0, q1, q2, q3⟩ := HG0.out w1 hb1; have cs1 : w1.cell? ⟨w.heap.size, 0, none⟩ = some (.string s) := (by simp [World.cell?, q0])) | (refine ⟨trivial, ?_⟩; gi_at_call 108; refine (uwalk_in (n - 1) _ _).mono ?_; rintro e w' ⟨rfl, rfl⟩))
  obtain ⟨W4, hW4⟩ : ∃ W4, w1.alloc (.cells #[.string s] 9) = W4 := ⟨_, rfl⟩
  rw [hW4]
  have p0 : W4.heap[w.heap.size]? = some (.cells #[.string s] 9 (0, 0)) := by rw [← hW4]; exact (Below.heap_alloc _ _ _ (by omega)).trans q0
  have p1 : W4.heap[w.heap.size + 1]? = some (.cells #[.func (.func 85) #[] #[]] 102 (0, 0)) := by rw [← hW4]; exact (Below.heap_alloc _ _ _ (by omega)).trans q1
  have p2 : W4.heap[w1.heap.size]? = some (.cells #[.string s] 9 (0, 0)) := by rw [← hW4]; exact World.alloc_heap_new w1 _
  have hB0 : Below w.heap.size w W4 := by rw [← hW4]; exact q2.alloc (by omega) _
  have hsz : W4.heap.size = w1.heap.size + 1 := by rw [← hW4]; simp
  obtain ⟨v0, hBld⟩ : ∃ v0, Bld (w.heap.size + 1 + 1) (w.heap.size + 1 + 1 + 1) (Lib.byteCells []) W4 (.pointer (some ⟨w.heap.size + 1 + 1, 0, none⟩)) v0 := by
    obtain ⟨_, v0, g1, g2, g3⟩ := HBl.out
    rw [← hW4]
    refine ⟨v0, (Below.heap_alloc _ _ _ (by omega)).trans g1, (row_raise g2 g3).alloc _, .inr rfl⟩
  have hB1s : w.heap.size + 3 ≤ w1.heap.size := q3
  clear hW4 HG0 hbk cs1 HBl
  refine range_own rfl h1 (gf := 131) (lb := #[.pointer (some ⟨w1.heap.size, 0, none⟩)]) rfl trivial (enters_of Tryz.func131 (by kernel_rfl) rfl)
    (unit_seq (n - 1) (by omega) w1.heap.size (W4.heap.size + 2) (Mw (w.heap.size + 1 + 1) w1.heap.size) s hs (fun o h => by rcases h with h | ⟨_, h, _⟩ <;> omega) (fun o h => by rcases h with h | ⟨_, h, _⟩ <;> omega) (fun o h => by rcases h with h | ⟨h, _⟩ <;> omega) (fun k vs fz h1 h => by rcases h with h | ⟨_, _, vs, fz, h⟩; omega; cases h)
      W4 (by simp [World.cell?, p2]) (tabs_below hT hB0))
    KpT.trans (fun W l o o' _ _ hl ho => KpT.putObj W l o o' hl ho) (fun _ => rfl)
    (fun pre W => (∃ p v, Bld (w.heap.size + 1 + 1) (w.heap.size + 1 + 1 + 1) (Lib.byteCells (pre.flatMap (pc (fun _ => upc) s))) W p v) ∧ (W.heap[w.heap.size]? = some (.cells #[.string s] 9 (0, 0)) ∧ W.heap[w.heap.size + 1]? = some (.cells #[.func (.func 85) #[] #[]] 102 (0, 0)) ∧ W.heap[w1.heap.size]? = some (.cells #[.string s] 9 (0, 0))) ∧ Below w.heap.size w W)
    (fun _ _ _ => False)
    (Ab.and (bld_abU (f := fun pre => Lib.byteCells (pre.flatMap (pc (fun _ => upc) s))) (by omega)) (Ab.and (Ab.and (ab_block (o := fun _ => _) (by omega)) (Ab.and (ab_block (o := fun _ => _) (by omega)) (ab_block (o := fun _ => _) (by omega)))) (ab_below (by omega) (Nat.le_refl _))))
    (fun _ _ _ _ _ hs _ _ => hs)
    ⟨⟨_, _, hBld⟩, ⟨p0, p1, p2⟩, hB0⟩
    (fun x a' W' => ∃ Bx, w.heap.size + 1 + 1 < Bx ∧ W'.heap[Bx]? = some (.cells #[.int .i32 (ch s x), .int .i64 (sz s x)] 83 (0, 0)) ∧
      a' = { tmps := #[.string s, .func (.func 85) #[] #[], .pointer (some ⟨w.heap.size, 0, none⟩), .pointer (some ⟨w.heap.size + 1, 0, none⟩), .string ⟨#[]⟩, .pointer (some ⟨w.heap.size + 1 + 1, 0, none⟩), .int .i64 x, .pointer (some ⟨Bx, 0, none⟩), .string s, .int .i64 s.size, .tuple #[], .string s, .func (.func 131) #[] #[.pointer (some ⟨w1.heap.size, 0, none⟩)], .int .i64 x, .agg #[.int .i32 (ch s x), .int .i64 (sz s x)], undef, undef, undef, undef, undef, undef, undef, undef, undef, undef, undef, undef, undef], defers := [] })
    (fun x a' _ X Y row h hg hr => h.imp fun Bx hx => ⟨hx.1, (hg.block Bx (Array.getElem?_eq_some_iff.1 hx.2.1).1 (fun e => by
      obtain ⟨_, (h3 | ⟨o, ho, hc⟩)⟩ := hr Bx e.symm
      · omega
      · rw [hx.2.1] at ho; cases ho; cases hc)).trans hx.2.1, hx.2.2⟩)
    ?assign ?body ?done ?stop
  case assign =>
    rintro l pre x W K ⟨⟨p, v, hv⟩, ⟨hq0, hq1, hq2⟩, hB⟩ hK
    have hsx := (Array.getElem?_eq_some_iff.1 hv.box).1
    gi_wp2
    exact hK _ _ (kf_below ((Below.refl _ W).alloc (Nat.le_refl _) _)) (KpT.of_below ((Below.refl _ W).alloc (Nat.le_refl _) _)) ⟨⟨p, v, hv.kept (World.grownBy_alloc W _ none) (by simp) (by simp)⟩, ⟨(Below.heap_alloc _ _ _ (Array.getElem?_eq_some_iff.1 hq0).1).trans hq0, (Below.heap_alloc _ _ _ (Array.getElem?_eq_some_iff.1 hq1).1).trans hq1, (Below.heap_alloc _ _ _ (Array.getElem?_eq_some_iff.1 hq2).1).trans hq2⟩, hB.alloc hB.size _⟩ ⟨W.heap.size, hsx, World.alloc_heap_new W _, rfl⟩
  case body =>
    rintro l pre x a' W _ _ _ hWs ⟨⟨p, v, hv⟩, ⟨hq0, hq1, hq2⟩, hB⟩ ⟨Bx, hBx, qx, rfl⟩ hnx
    obtain ⟨hxB, hxs⟩ := offs_all s s.size 0 (by omega) (B_zero s) x (hnx.subset (by simp))
    have hc0 : W.cell? ⟨w.heap.size, 0, none⟩ = some (.string s) := by simp [World.cell?, hq0]
    have hc1 : W.cell? ⟨w.heap.size + 1, 0, none⟩ = some (.func (.func 85) #[] #[]) := by simp [World.cell?, hq1]
    have dx : W.cell? ⟨Bx, 0, none⟩ = some (.int .i32 (ch s x)) := by simp [World.cell?, qx]
    have hlen := pre_pc (f := upc) ((List.prefix_append pre [x]).trans hnx)
    have hl4 : (Lib.byteCells (pre.flatMap (pc (fun _ => upc) s))).length + 4 ≤ 140737488355328 := by rw [Lib.byteCells_length]; omega
    have hcb := ch_bd s x
    have HV : Hid (Bld (w.heap.size + 1 + 1) (w.heap.size + 1 + 1 + 1) (Lib.byteCells (pre.flatMap (pc (fun _ => upc) s))) W p v) := hv
    have HQ : Hid (W.heap[w.heap.size]? = some (.cells #[.string s] 9 (0, 0)) ∧ W.heap[w.heap.size + 1]? = some (.cells #[.func (.func 85) #[] #[]] 102 (0, 0)) ∧ W.heap[w1.heap.size]? = some (.cells #[.string s] 9 (0, 0))) := ⟨hq0, hq1, hq2⟩
    have HB : Hid (Below w.heap.size w W) := hB
    have HWs : Hid (w.heap.size + 1 + 1 + 1 ≤ W.heap.size) := by show _ ≤ _; omega
    -- behind a write to the builder
    have FIN : Hid (∀ w2, Wr (w.heap.size + 1 + 1) (w.heap.size + 1 + 1 + 1) W w2 → (∃ p v, Bld (w.heap.size + 1 + 1) (w.heap.size + 1 + 1 + 1) (Lib.byteCells ((pre ++ [x]).flatMap (pc (fun _ => upc) s))) w2 p v) →
        KeepsFrom W4.heap.size W w2 ∧ KpT (Mw (w.heap.size + 1 + 1) w1.heap.size) W w2 ∧ (∃ p v, Bld (w.heap.size + 1 + 1) (w.heap.size + 1 + 1 + 1) (Lib.byteCells ((pre ++ [x]).flatMap (pc (fun _ => upc) s))) w2 p v) ∧ (w2.heap[w.heap.size]? = some (.cells #[.string s] 9 (0, 0)) ∧ w2.heap[w.heap.size + 1]? = some (.cells #[.func (.func 85) #[] #[]] 102 (0, 0)) ∧ w2.heap[w1.heap.size]? = some (.cells #[.string s] 9 (0, 0))) ∧ Below w.heap.size w w2) := fun w2 hW2 hb2 =>
      ⟨hW2.keeps hv.box, wr_mw hW2 hq2 (by omega), hb2, ⟨hW2.2.2.2.2 _ _ hq0 (by omega) (fun h => by omega), hW2.2.2.2.2 _ _ hq1 (by omega) (fun h => by omega), hW2.2.2.2.2 _ _ hq2 (by omega) (fun _ vs fz e => by cases e)⟩, hW2.below (by omega) (by omega) (Nat.le_refl _) hB⟩
    clear hv hq0 hq1 hq2 hB hWs qx
    by_cases hneg : ch s x < 0
    · have HP : Hid (pc (fun _ => upc) s x = [s[x]'hxs]) := by show _ = _; unfold pc; rw [if_pos hneg, get_bang hxs]
      have cB := wbyte_any ((s[x]'hxs).toNat : Int) HV.out (by omega) HWs.out (by omega)
      gi_wp2_with (refine ⟨trivial, ?_⟩; gi_at_call 109; refine (CallsIn.inRound l (callsIn_wide.2 cB)).mono ?_; clear cB; rintro e w2 ⟨rfl, hb2, HW2⟩)
      exact FIN.out _ HW2 (by rw [List.flatMap_append, byteCells_app]; simpa [Lib.byteCells, HP.out] using hb2)
    · have hnn : ¬ ch s x < 0 := hneg
      have HP : Hid (Lib.byteCells (pc (fun _ => upc) s x) = Lib.runeCells (upc (ch s x))) := by show _ = _; unfold pc; rw [if_neg hneg, Lib.byteCells_encodeRune]
      have cF := upof_any (ch s x) W
      have hfr := fm_rng (.inl rfl) hcb (c := ch s x) (f := upc)
      have CR : Hid (∀ w2, Below W.heap.size W w2 → Calls Tryz.prog 110 #[.pointer (some ⟨w.heap.size + 1 + 1, 0, none⟩), .int .i32 (upc (ch s x))] w2 fun e w' => (∃ u, e = .returned u) ∧ (∃ p' v', Bld (w.heap.size + 1 + 1) (w.heap.size + 1 + 1 + 1) (Lib.byteCells (pre.flatMap (pc (fun _ => upc) s)) ++ Lib.runeCells (upc (ch s x))) w' p' v') ∧ Wr (w.heap.size + 1 + 1) (w.heap.size + 1 + 1 + 1) w2 w') := fun w2 hb => wrune_any _ hfr (HV.out.kept (grown_of_below hb) (by simp) (by simp)) (by omega) (Nat.le_trans HWs.out hb.size) hl4
      generalize upc (ch s x) = fc at cF CR HP
      gi_wp2_with (first | (refine ⟨trivial, ?_⟩; gi_at_call 85; refine (CallsIn.inRound l (callsIn_wide.2 cF)).mono ?_; clear cF; rintro e w2 ⟨rfl, hb2⟩) | (refine ⟨trivial, ?_⟩; gi_at_call 110; refine (CallsIn.inRound l (callsIn_wide.2 (CR.out _ hb2))).mono ?_; clear CR; rintro e w3 ⟨⟨u, rfl⟩, hb3, HW3⟩))
      exact FIN.out _ ((wr_below hb2).trans HW3) (by rw [List.flatMap_append, byteCells_app, List.flatMap_singleton, HP.out]; exact hb3)
  case done =>
    rintro D ys W hD rfl ⟨⟨p, v, hv⟩, _, hB⟩ hK
    have hbl : Lib.IsBuilderF 106 5 w.heap.size (w.heap.size + 1 + 1) (Lib.byteCells ((offs s 0).flatMap (pc (fun _ => upc) s))) W := by
      have row := row_lower hv.row (show w.heap.size ≤ w.heap.size + 1 + 1 + 1 by omega)
      have hne : v.ownBlock ≠ some (w.heap.size + 1 + 1) := fun e => by have := hv.far e; omega
      have hbox := hv.box
      refine Lib.IsBuilderF.of ?_
      rcases hv.adr with rfl | rfl
      · exact .inl ⟨by omega, v, hbox, row, hne⟩
      · exact .inr ⟨by omega, v, hbox, row, hne⟩
    have cS := Tryz.Builder_String_any_k w.heap.size (w.heap.size + 1 + 1) ((offs s 0).flatMap (pc (fun _ => upc) s)) W hbl hB.size
    have HE : Hid ((⟨((offs s 0).flatMap (pc (fun _ => upc) s)).toArray⟩ : ByteArray) = fm (fun _ => upc) s) := by show _ = _; unfold fm fs; rw [← sg_all s s.size 0 (by omega)]
    gi_wp2_with (refine ⟨trivial, ?_⟩; gi_at_call 89; refine (callsIn_wide.2 cS).mono ?_; rintro e w2 ⟨rfl, _, hb2, hk2⟩)
    have hK1 := hk2 D _ hK (by intro e; cases e; omega) (by intro c fz e; cases e)
    refine ⟨by simp, .inl ⟨_, _, rfl, run_takeDeferred hK1, ?_⟩⟩
    exact ⟨_, results_tmp rfl _ _ _, by rw [← HE.out]; rfl, (hB.trans hb2).trans (belowK_b (w := w) (Nat.le_refl _) w2 D _ _ (by omega) hK1 rfl rfl)⟩
  case stop =>
    rintro D c pre W _ _ h _
    exact h.elim

set_option maxRecDepth 100000 in
set_option maxHeartbeats 2000000 in
theorem written_low (n : Nat) (hn : 5 ≤ n) (s : ByteArray) (hs : s.size ≤ maxLen) (hm : s.size ≤ 4398046511104) (w : World) (hT : Lib.Utf8Tabs 1 2 w) (_hlo0 : 1 < w.heap.size) (hlo1 : 2 < w.heap.size) :
    CallsIn Fence.wide n Tryz.prog 84 #[.string s, .func (.func 86) #[] #[]] w fun e W' => e = .returned (.string (fm (fun _ => lowc) s)) ∧ Below w.heap.size w W' := by
  have h1 : 1 ≤ n := by omega
  have h2 : 1 ≤ n - 1 - 1 := by omega
  have hbk : (((w.alloc (.cells #[.string s] 9)).alloc (.cells #[.func (.func 86) #[] #[]] 102)).alloc (.cells #[.pointer none, .slice none 0 0] 106)).heap[w.heap.size + 1 + 1]? = some (.cells #[.pointer none, .slice none 0 0] 106 (0, 0)) := (push3 w.heap _ _ _).2.2
  have cG := Tryz.Builder_Grow_fresh (w.heap.size + 1 + 1) (w.heap.size + 1 + 1) s.size _ (Nat.le_refl _) hbk (by simp) (by omega)
  have HG0 : Hid (∀ w1, Below (w.heap.size + 1 + 1) (((w.alloc (.cells #[.string s] 9)).alloc (.cells #[.func (.func 86) #[] #[]] 102)).alloc (.cells #[.pointer none, .slice none 0 0] 106)) w1 → w1.heap[w.heap.size]? = some (.cells #[.string s] 9 (0, 0)) ∧ w1.heap[w.heap.size + 1]? = some (.cells #[.func (.func 86) #[] #[]] 102 (0, 0)) ∧ Below w.heap.size w w1 ∧ w.heap.size + 3 ≤ w1.heap.size) := fun w1 hb => by
    obtain ⟨q0, q1, _⟩ := push3 w.heap (.cells #[.string s] 9) (.cells #[.func (.func 86) #[] #[]] 102) (.cells #[.pointer none, .slice none 0 0] 106)
    refine ⟨(hb.block _ (by omega)).trans q0, (hb.block _ (by omega)).trans q1, ((((Below.refl _ w).alloc (Nat.le_refl _) _).alloc (by simp) _).alloc (by simp; omega) _).trans (hb.mono (by omega)), by have := hb.size; simp at this; omega⟩
  refine callsIn_of_wp_marks Tryz.func84 rfl trivial ?_ rfl
  simp only [Tryz.ntmps84, List.size_toArray, List.length_cons, List.length_nil, Nat.reduceAdd, Nat.reduceSub, Array.replicate_succ, Array.replicate_zero, List.push_toArray, List.append_toArray, List.nil_append, List.cons_append]
  gi_wp2_with (first | (refine ⟨trivial, ?_⟩; gi_at_call 107; refine (callsIn_wide.2 cG).mono ?_; clear cG; rintro e w1 ⟨rfl, hbl, hb1⟩; have HBl : Hid (Lib.BuilderAt 106 5 (w.heap.size + 1 + 1) (w.heap.size + 1 + 1) (.pointer (some ⟨w.heap.size + 1 + 1, 0, none⟩)) [] w1) := hbl; clear hbl; obtain ⟨q0, q1, q2, q3⟩ := HG0.out w1 hb1; have cs1 : w1.cell? ⟨w.heap.size, 0, none⟩ = some (.string s) := (by simp [World.cell?, q0])) | (refine ⟨trivial, ?_⟩; gi_at_call 108; refine (uwalk_in (n - 1) _ _).mono ?_; rintro e w' ⟨rfl, rfl⟩))
  obtain ⟨W4, hW4⟩ : ∃ W4, w1.alloc (.cells #[.string s] 9) = W4 := ⟨_, rfl⟩
  rw [hW4]
  have p0 : W4.heap[w.heap.size]? = some (.cells #[.string s] 9 (0, 0)) := by rw [← hW4]; exact (Below.heap_alloc _ _ _ (by omega)).trans q0
  have p1 : W4.heap[w.heap.size + 1]? = some (.cells #[.func (.func 86) #[] #[]] 102 (0, 0)) := by rw [← hW4]; exact (Below.heap_alloc _ _ _ (by omega)).trans q1
  have p2 : W4.heap[w1.heap.size]? = some (.cells #[.string s] 9 (0, 0)) := by rw [← hW4]; exact World.alloc_heap_new w1 _
  have hB0 : Below w.heap.size w W4 := by rw [← hW4]; exact q2.alloc (by omega) _
  have hsz : W4.heap.size = w1.heap.size + 1 := by rw [← hW4]; simp
  obtain ⟨v0, hBld⟩ : ∃ v0, Bld (w.heap.size + 1 + 1) (w.heap.size + 1 + 1 + 1) (Lib.byteCells []) W4 (.pointer (some ⟨w.heap.size + 1 + 1, 0, none⟩)) v0 := by
    obtain ⟨_, v0, g1, g2, g3⟩ := HBl.out
    rw [← hW4]
    refine ⟨v0, (Below.heap_alloc _ _ _ (by omega)).trans g1, (row_raise g2 g3).alloc _, .inr rfl⟩
  have hB1s : w.heap.size + 3 ≤ w1.heap.size := q3
  clear hW4 HG0 hbk cs1 HBl
  refine range_own rfl h1 (gf := 131) (lb := #[.pointer (some ⟨w1.heap.size, 0, none⟩)]) rfl trivial (enters_of Tryz.func131 (by kernel_rfl) rfl)
    (unit_seq (n - 1) (by omega) w1.heap.size (W4.heap.size + 2) (Mw (w.heap.size + 1 + 1) w1.heap.size) s hs (fun o h => by rcases h with h | ⟨_, h, _⟩ <;> omega) (fun o h => by rcases h with h | ⟨_, h, _⟩ <;> omega) (fun o h => by rcases h with h | ⟨h, _⟩ <;> omega) (fun k vs fz h1 h => by rcases h with h | ⟨_, _, vs, fz, h⟩; omega; cases h)
      W4 (by simp [World.cell?, p2]) (tabs_below hT hB0))
    KpT.trans (fun W l o o' _ _ hl ho => KpT.putObj W l o o' hl ho) (fun _ => rfl)
    (fun pre W => (∃ p v, Bld (w.heap.size + 1 + 1) (w.heap.size + 1 + 1 + 1) (Lib.byteCells (pre.flatMap (pc (fun _ => lowc) s))) W p v) ∧ (W.heap[w.heap.size]? = some (.cells #[.string s] 9 (0, 0)) ∧ W.heap[w.heap.size + 1]? = some (.cells #[.func (.func 86) #[] #[]] 102 (0, 0)) ∧ W.heap[w1.heap.size]? = some (.cells #[.string s] 9 (0, 0))) ∧ Below w.heap.size w W)
    (fun _ _ _ => False)
    (Ab.and (bld_abU (f := fun pre => Lib.byteCells (pre.flatMap (pc (fun _ => lowc) s))) (by omega)) (Ab.and (Ab.and (ab_block (o := fun _ => _) (by omega)) (Ab.and (ab_block (o := fun _ => _) (by omega)) (ab_block (o := fun _ => _) (by omega)))) (ab_below (by omega) (Nat.le_refl _))))
    (fun _ _ _ _ _ hs _ _ => hs)
    ⟨⟨_, _, hBld⟩, ⟨p0, p1, p2⟩, hB0⟩
    (fun x a' W' => ∃ Bx, w.heap.size + 1 + 1 < Bx ∧ W'.heap[Bx]? = some (.cells #[.int .i32 (ch s x), .int .i64 (sz s x)] 83 (0, 0)) ∧
      a' = { tmps := #[.string s, .func (.func 86) #[] #[], .pointer (some ⟨w.heap.size, 0, none⟩), .pointer (some ⟨w.heap.size + 1, 0, none⟩), .string ⟨#[]⟩, .pointer (some ⟨w.heap.size + 1 + 1, 0, none⟩), .int .i64 x, .pointer (some ⟨Bx, 0, none⟩), .string s, .int .i64 s.size, .tuple #[], .string s, .func (.func 131) #[] #[.pointer (some ⟨w1.heap.size, 0, none⟩)], .int .i64 x, .agg #[.int .i32 (ch s x), .int .i64 (sz s x)], undef, undef, undef, undef, undef, undef, undef, undef, undef, undef, undef, undef, undef], defers := [] })
    (fun x a' _ X Y row h hg hr => h.imp fun Bx hx => ⟨hx.1, (hg.block Bx (Array.getElem?_eq_some_iff.1 hx.2.1).1 (fun e => by
      obtain ⟨_, (h3 | ⟨o, ho, hc⟩)⟩ := hr Bx e.symm
      · omega
      · rw [hx.2.1] at ho; cases ho; cases hc)).trans hx.2.1, hx.2.2⟩)
    ?assign ?body ?done ?stop
  case assign =>
    rintro l pre x W K ⟨⟨p, v, hv⟩, ⟨hq0, hq1, hq2⟩, hB⟩ hK
    have hsx := (Array.getElem?_eq_some_iff.1 hv.box).1
    gi_wp2
    exact hK _ _ (kf_below ((Below.refl _ W).alloc (Nat.le_refl _) _)) (KpT.of_below ((Below.refl _ W).alloc (Nat.le_refl _) _)) ⟨⟨p, v, hv.kept (World.grownBy_alloc W _ none) (by simp) (by simp)⟩, ⟨(Below.heap_alloc _ _ _ (Array.getElem?_eq_some_iff.1 hq0).1).trans hq0, (Below.heap_alloc _ _ _ (Array.getElem?_eq_some_iff.1 hq1).1).trans hq1, (Below.heap_alloc _ _ _ (Array.getElem?_eq_some_iff.1 hq2).1).trans hq2⟩, hB.alloc hB.size _⟩ ⟨W.heap.size, hsx, World.alloc_heap_new W _, rfl⟩
  case body =>
    rintro l pre x a' W _ _ _ hWs ⟨⟨p, v, hv⟩, ⟨hq0, hq1, hq2⟩, hB⟩ ⟨Bx, hBx, qx, rfl⟩ hnx
    obtain ⟨hxB, hxs⟩ := offs_all s s.size 0 (by omega) (B_zero s) x (hnx.subset (by simp))
    have hc0 : W.cell? ⟨w.heap.size, 0, none⟩ = some (.string s) := by simp [World.cell?, hq0]
    have hc1 : W.cell? ⟨w.heap.size + 1, 0, none⟩ = some (.func (.func 86) #[] #[]) := by simp [World.cell?, hq1]
    have dx : W.cell? ⟨Bx, 0, none⟩ = some (.int .i32 (ch s x)) := by simp [World.cell?, qx]
    have hlen := pre_pc (f := lowc) ((List.prefix_append pre [x]).trans hnx)
    have hl4 : (Lib.byteCells (pre.flatMap (pc (fun _ => lowc) s))).length + 4 ≤ 140737488355328 := by rw [Lib.byteCells_length]; omega
    have hcb := ch_bd s x
    have HV : Hid (Bld (w.heap.size + 1 + 1) (w.heap.size + 1 + 1 + 1) (Lib.byteCells (pre.flatMap (pc (fun _ => lowc) s))) W p v) := hv
    have HQ : Hid (W.heap[w.heap.size]? = some (.cells #[.string s] 9 (0, 0)) ∧ W.heap[w.heap.size + 1]? = some (.cells #[.func (.func 86) #[] #[]] 102 (0, 0)) ∧ W.heap[w1.heap.size]? = some (.cells #[.string s] 9 (0, 0))) := ⟨hq0, hq1, hq2⟩
    have HB : Hid (Below w.heap.size w W) := hB
    have HWs : Hid (w.heap.size + 1 + 1 + 1 ≤ W.heap.size) := by show _ ≤ _; omega
    -- behind a write to the builder
    have FIN : Hid (∀ w2, Wr (w.heap.size + 1 + 1) (w.heap.size + 1 + 1 + 1) W w2 → (∃ p v, Bld (w.heap.size + 1 + 1) (w.heap.size + 1 + 1 + 1) (Lib.byteCells ((pre ++ [x]).flatMap (pc (fun _ => lowc) s))) w2 p v) →
        KeepsFrom W4.heap.size W w2 ∧ KpT (Mw (w.heap.size + 1 + 1) w1.heap.size) W w2 ∧ (∃ p v, Bld (w.heap.size + 1 + 1) (w.heap.size + 1 + 1 + 1) (Lib.byteCells ((pre ++ [x]).flatMap (pc (fun _ => lowc) s))) w2 p v) ∧ (w2.heap[w.heap.size]? = some (.cells #[.string s] 9 (0, 0)) ∧ w2.heap[w.heap.size + 1]? = some (.cells #[.func (.func 86) #[] #[]] 102 (0, 0)) ∧ w2.heap[w1.heap.size]? = some (.cells #[.string s] 9 (0, 0))) ∧ Below w.heap.size w w2) := fun w2 hW2 hb2 =>
      ⟨hW2.keeps hv.box, wr_mw hW2 hq2 (by omega), hb2, ⟨hW2.2.2.2.2 _ _ hq0 (by omega) (fun h => by omega), hW2.2.2.2.2 _ _ hq1 (by omega) (fun h => by omega), hW2.2.2.2.2 _ _ hq2 (by omega) (fun _ vs fz e => by cases e)⟩, hW2.below (by omega) (by omega) (Nat.le_refl _) hB⟩
    clear hv hq0 hq1 hq2 hB hWs qx
    by_cases hneg : ch s x < 0
    · have HP : Hid (pc (fun _ => lowc) s x = [s[x]'hxs]) := by show _ = _; unfold pc; rw [if_pos hneg, get_bang hxs]
      have cB := wbyte_any ((s[x]'hxs).toNat : Int) HV.out (by omega) HWs.out (by omega)
      gi_wp2_with (refine ⟨trivial, ?_⟩; gi_at_call 109; refine (CallsIn.inRound l (callsIn_wide.2 cB)).mono ?_; clear cB; rintro e w2 ⟨rfl, hb2, HW2⟩)
      exact FIN.out _ HW2 (by rw [List.flatMap_append, byteCells_app]; simpa [Lib.byteCells, HP.out] using hb2)
    · have hnn : ¬ ch s x < 0 := hneg
      have HP : Hid (Lib.byteCells (pc (fun _ => lowc) s x) = Lib.runeCells (lowc (ch s x))) := by show _ = _; unfold pc; rw [if_neg hneg, Lib.byteCells_encodeRune]
      have cF := lowof_any (ch s x) W
      have hfr := fm_rng (.inr rfl) hcb (c := ch s x) (f := lowc)
      have CR : Hid (∀ w2, Below W.heap.size W w2 → Calls Tryz.prog 110 #[.pointer (some ⟨w.heap.size + 1 + 1, 0, none⟩), .int .i32 (lowc (ch s x))] w2 fun e w' => (∃ u, e = .returned u) ∧ (∃ p' v', Bld (w.heap.size + 1 + 1) (w.heap.size + 1 + 1 + 1) (Lib.byteCells (pre.flatMap (pc (fun _ => lowc) s)) ++ Lib.runeCells (lowc (ch s x))) w' p' v') ∧ Wr (w.heap.size + 1 + 1) (w.heap.size + 1 + 1 + 1) w2 w') := fun w2 hb => wrune_any _ hfr (HV.out.kept (grown_of_below hb) (by simp) (by simp)) (by omega) (Nat.le_trans HWs.out hb.size) hl4
      generalize lowc (ch s x) = fc at cF CR HP
      gi_wp2_with (first | (refine ⟨trivial, ?_⟩; gi_at_call 86; refine (CallsIn.inRound l (callsIn_wide.2 cF)).mono ?_; clear cF; rintro e w2 ⟨rfl, hb2⟩) | (refine ⟨trivial, ?_⟩; gi_at_call 110; refine (CallsIn.inRound l (callsIn_wide.2 (CR.out _ hb2))).mono ?_; clear CR; rintro e w3 ⟨⟨u, rfl⟩, hb3, HW3⟩))
      exact FIN.out _ ((wr_below hb2).trans HW3) (by rw [List.flatMap_append, byteCells_app, List.flatMap_singleton, HP.out]; exact hb3)
  case done =>
    rintro D ys W hD rfl ⟨⟨p, v, hv⟩, _, hB⟩ hK
    have hbl : Lib.IsBuilderF 106 5 w.heap.size (w.heap.size + 1 + 1) (Lib.byteCells ((offs s 0).flatMap (pc (fun _ => lowc) s))) W := by
      have row := row_lower hv.row (show w.heap.size ≤ w.heap.size + 1 + 1 + 1 by omega)
      have hne : v.ownBlock ≠ some (w.heap.size + 1 + 1) := fun e => by have := hv.far e; omega
      have hbox := hv.box
      refine Lib.IsBuilderF.of ?_
      rcases hv.adr with rfl | rfl
      · exact .inl ⟨by omega, v, hbox, row, hne⟩
      · exact .inr ⟨by omega, v, hbox, row, hne⟩
    have cS := Tryz.Builder_String_any_k w.heap.size (w.heap.size + 1 + 1) ((offs s 0).flatMap (pc (fun _ => lowc) s)) W hbl hB.size
    have HE : Hid ((⟨((offs s 0).flatMap (pc (fun _ => lowc) s)).toArray⟩ : ByteArray) = fm (fun _ => lowc) s) := by show _ = _; unfold fm fs; rw [← sg_all s s.size 0 (by omega)]
    gi_wp2_with (refine ⟨trivial, ?_⟩; gi_at_call 89; refine (callsIn_wide.2 cS).mono ?_; rintro e w2 ⟨rfl, _, hb2, hk2⟩)
    have hK1 := hk2 D _ hK (by intro e; cases e; omega) (by intro c fz e; cases e)
    refine ⟨by simp, .inl ⟨_, _, rfl, run_takeDeferred hK1, ?_⟩⟩
    exact ⟨_, results_tmp rfl _ _ _, by rw [← HE.out]; rfl, (hB.trans hb2).trans (belowK_b (w := w) (Nat.le_refl _) w2 D _ _ (by omega) hK1 rfl rfl)⟩
  case stop =>
    rintro D c pre W _ _ h _
    exact h.elim

set_option maxRecDepth 100000 in
set_option maxHeartbeats 1000000 in
theorem upper_any (s : ByteArray) (hs : s.size ≤ maxLen) (hm : s.size ≤ 4398046511104) (w : World) (hT : Lib.Utf8Tabs 1 2 w) (hlo0 : 1 < w.heap.size) (hlo1 : 2 < w.heap.size) :
    Calls Tryz.prog 49 #[.string s] w fun e W' => e = .returned (.string (fm (fun _ => upc) s)) ∧ Below w.heap.size w W' := by
  have cW := callsIn_wide.1 (written_up 5 (by omega) s hs hm w hT hlo0 hlo1)
  go_enter Tryz.func49, Tryz.ntmps49
  go_wp2_with (go_at_call 84; refine cW.mono ?_; clear cW; rintro e w1 ⟨rfl, hb1⟩)
  go_ret
  exact ⟨rfl, hb1⟩
set_option maxRecDepth 100000 in
set_option maxHeartbeats 1000000 in
theorem lower_any (s : ByteArray) (hs : s.size ≤ maxLen) (hm : s.size ≤ 4398046511104) (w : World) (hT : Lib.Utf8Tabs 1 2 w) (hlo0 : 1 < w.heap.size) (hlo1 : 2 < w.heap.size) :
    Calls Tryz.prog 50 #[.string s] w fun e W' => e = .returned (.string (fm (fun _ => lowc) s)) ∧ Below w.heap.size w W' := by
  have cW := callsIn_wide.1 (written_low 5 (by omega) s hs hm w hT hlo0 hlo1)
  go_enter Tryz.func50, Tryz.ntmps50
  go_wp2_with (go_at_call 84; refine cW.mono ?_; clear cW; rintro e w1 ⟨rfl, hb1⟩)
  go_ret
  exact ⟨rfl, hb1⟩
end Go.Proofs.YtdggbnkhbmffoaaGreatDoor
namespace Go.Proofs.YtdggbnkhbmffoaaGreatDoor
open Go.RowKit Go.Shelf Bod Wid

/-- while Capital writes: the builder at n, the list of the words at lv -/
structure CS (w : World) (lv : Value) (ws : List (Nat × Nat)) (out : List UInt8) (W : World) : Prop where
  bl : ∃ p v, Bld w.heap.size (w.heap.size + 1) (Lib.byteCells out) W p v
  row : W.ownsRow (w.heap.size + 1) 53 2 lv ws.length (spc ws)
  bel : Below w.heap.size w W
theorem row_wr {b hi B n : Nat} {v : Value} {xs : List Value} {W W' : World} (h : Wr b hi W W') (hr : W.ownsRow B 53 2 v n xs) (hb : ∀ vs, W.heap[b]? ≠ some (.cells vs 53 (0, 0))) : W'.ownsRow B 53 2 v n xs := by
  refine ⟨hr.1, hr.2.imp id fun ⟨g, cap, cur, h1, h2, h3, h4⟩ => ⟨g, cap, cur, h1, h2, ?_, h4⟩⟩
  exact h.2.2.2.2 g _ h3 (fun e => by subst e; exact hb _ h3) (fun _ vs fz e => by cases e)
theorem CS.below {w : World} {lv : Value} {ws : List (Nat × Nat)} {out : List UInt8} {W W' : World} (h : CS w lv ws out W) (hb : Below W.heap.size W W') : CS w lv ws out W' :=
  ⟨h.bl.imp fun _ h => h.imp fun _ h => h.kept (grown_of_below hb) (by simp) (by simp), h.row.kept ⟨hb.os, hb.tape, hb.output, hb.size, fun k hk _ => hb.block k hk⟩ (row := none) (by cases lv.ownBlock <;> simp), h.bel.trans (hb.mono h.bel.size)⟩
theorem CS.wr {w : World} {lv : Value} {ws : List (Nat × Nat)} {out out' : List UInt8} {W W' : World} (h : CS w lv ws out W) (hw : Wr w.heap.size (w.heap.size + 1) W W') (hb : ∃ p v, Bld w.heap.size (w.heap.size + 1) (Lib.byteCells out') W' p v) : CS w lv ws out' W' := by
  obtain ⟨p, v, hv⟩ := h.bl
  exact ⟨hb, row_wr hw h.row (fun vs e => by rw [hv.box] at e; cases e), hw.below (Nat.le_refl _) (by omega) (Nat.le_refl _) h.bel⟩
theorem CS.cells {w : World} {lv : Value} {ws : List (Nat × Nat)} {out : List UInt8} {W : World} (h : CS w lv ws out W) {k : Nat} {p : Nat × Nat} (hk : ws[k]? = some p) : ∃ g cap, lv = .slice (some ⟨g, 0, none⟩) ws.length cap ∧ W.cell? ⟨g, k * 2, none⟩ = some (.int .i64 p.1) ∧ W.cell? ⟨g, k * 2 + 1, none⟩ = some (.int .i64 p.2) := by
  have hkl := (List.getElem?_eq_some_iff.1 hk).1
  have hl := spc_len ws
  obtain ⟨e0, e1⟩ := spc_get ws k p hk
  rcases h.row.2 with ⟨_, h1⟩ | ⟨g, cap, cur, hv, _⟩
  · omega
  · subst hv
    exact ⟨g, cap, rfl, (h.row.cellAt (k * 2) (by omega)).trans e0, (h.row.cellAt (k * 2 + 1) (by omega)).trans e1⟩
theorem CS.len {w : World} {lv : Value} {ws : List (Nat × Nat)} {out : List UInt8} {W : World} (h : CS w lv ws out W) : ∃ a cap, lv = .slice a ws.length cap := by
  rcases h.row.2 with ⟨h0, h1⟩ | ⟨g, cap, cur, hv, _⟩
  · exact ⟨_, _, by rw [h0, h1]⟩
  · exact ⟨_, _, hv⟩
theorem CS.write {w : World} {lv : Value} {ws : List (Nat × Nat)} {out : List UInt8} {W : World} (h : CS w lv ws out W) (t : ByteArray) (hl : out.length + t.size ≤ 140737488355328) (hW : w.heap.size + 1 ≤ W.heap.size) :
    Calls Tryz.prog 88 #[.pointer (some ⟨w.heap.size, 0, none⟩), .string t] W fun e w' => (∃ u, e = .returned u) ∧ CS w lv ws (out ++ t.data.toList) w' ∧ Wr w.heap.size (w.heap.size + 1) W w' := by
  obtain ⟨p, v, hv⟩ := h.bl
  refine (wstr_any t hv (by omega) hW (by rw [Lib.byteCells_length]; exact hl)).mono ?_
  rintro e w' ⟨h1, h2, h3⟩
  refine ⟨h1, h.wr h3 ?_, h3⟩
  rw [byteCells_app, ← strCells_eq]
  exact h2
/-- .. and the word that is looked at, at Bx -/
structure CX (w : World) (lv : Value) (ws : List (Nat × Nat)) (Bx : Nat) (p : Nat × Nat) (out : List UInt8) (W : World) : Prop where
  cs : CS w lv ws out W
  bx : W.heap[Bx]? = some (.cells #[.int .i64 p.1, .int .i64 p.2] 53 (0, 0))
  lt : w.heap.size < Bx
theorem CX.cell {w : World} {lv : Value} {ws : List (Nat × Nat)} {Bx : Nat} {p : Nat × Nat} {out : List UInt8} {W : World} (h : CX w lv ws Bx p out W) : W.cell? ⟨Bx, 0, none⟩ = some (.int .i64 p.1) := by simp [World.cell?, h.bx]
theorem CX.size {w : World} {lv : Value} {ws : List (Nat × Nat)} {Bx : Nat} {p : Nat × Nat} {out : List UInt8} {W : World} (h : CX w lv ws Bx p out W) : w.heap.size + 1 ≤ W.heap.size := by
  have := (Array.getElem?_eq_some_iff.1 h.bx).1
  have := h.lt
  omega
theorem CX.below {w : World} {lv : Value} {ws : List (Nat × Nat)} {Bx : Nat} {p : Nat × Nat} {out : List UInt8} {W W' : World} (h : CX w lv ws Bx p out W) (hb : Below W.heap.size W W') : CX w lv ws Bx p out W' :=
  ⟨h.cs.below hb, (hb.block _ (Array.getElem?_eq_some_iff.1 h.bx).1).trans h.bx, h.lt⟩
theorem CX.write {w : World} {lv : Value} {ws : List (Nat × Nat)} {Bx : Nat} {p : Nat × Nat} {out : List UInt8} {W : World} (h : CX w lv ws Bx p out W) (t : ByteArray) (hl : out.length + t.size ≤ 140737488355328) :
    Calls Tryz.prog 88 #[.pointer (some ⟨w.heap.size, 0, none⟩), .string t] W fun e w' => (∃ u, e = .returned u) ∧ CX w lv ws Bx p (out ++ t.data.toList) w' := by
  refine (h.cs.write t hl h.size).mono ?_
  rintro e w' ⟨h1, h2, h3⟩
  exact ⟨h1, h2, h3.2.2.2.2 _ _ h.bx (by have := h.lt; omega) (fun _ vs fz e => by cases e), h.lt⟩
theorem CS.str {w : World} {lv : Value} {ws : List (Nat × Nat)} {out : List UInt8} {W : World} (h : CS w lv ws out W) :
    Calls Tryz.prog 89 #[.pointer (some ⟨w.heap.size, 0, none⟩)] W fun e w' => e = .returned (.string ⟨out.toArray⟩) ∧ Below w.heap.size w w' := by
  obtain ⟨p, v, hv⟩ := h.bl
  have hbl : Lib.IsBuilderF 106 5 w.heap.size w.heap.size (Lib.byteCells out) W := by
    have row := row_lower hv.row (show w.heap.size ≤ w.heap.size + 1 by omega)
    have hne : v.ownBlock ≠ some w.heap.size := fun e => by have := hv.far e; omega
    have hbox := hv.box
    refine Lib.IsBuilderF.of ?_
    rcases hv.adr with rfl | rfl
    · exact .inl ⟨Nat.le_refl _, v, hbox, row, hne⟩
    · exact .inr ⟨Nat.le_refl _, v, hbox, row, hne⟩
  refine (Tryz.Builder_String_any_k w.heap.size w.heap.size out W hbl h.bel.size).mono ?_
  rintro e w' ⟨h1, _, h2, _⟩
  exact ⟨h1, h.bel.trans h2⟩
theorem ret_str {a b : ByteArray} (h : a = b) : Ending.returned (.string a) = .returned (.string b) := by rw [h]
theorem sub_size {s : ByteArray} {a b : Nat} : (s.extract a b).size ≤ s.size := by simp; omega

set_option maxRecDepth 100000 in
set_option maxHeartbeats 2000000 in
theorem capital_any (s : ByteArray) (hs : s.size ≤ maxLen) (hm : s.size ≤ 4398046511104) (w : World) (hT : Lib.Utf8Tabs 1 2 w) (hlo0 : 1 < w.heap.size) (hlo1 : 2 < w.heap.size) :
    Calls Tryz.prog 51 #[.string s] w fun e W' => e = .returned (.string (fm (capG (words s)) s)) ∧ Below w.heap.size w W' := by
  have hsm : s.size ≤ 9223372036854775807 := by unfold maxLen at hs; omega
  have cS := spans_any s hs hm (w.alloc (.cells #[.pointer none, .slice none 0 0] 106)) (tabs_below hT ((Below.refl _ w).alloc (Nat.le_refl _) _)) (Nat.lt_of_lt_of_le hlo0 (by simp)) (Nat.lt_of_lt_of_le hlo1 (by simp))
  have H0 : Hid (∀ W v, W.ownsRow (w.alloc (.cells #[.pointer none, .slice none 0 0] 106)).heap.size 53 2 v (words s).length (spc (words s)) → Below (w.alloc (.cells #[.pointer none, .slice none 0 0] 106)).heap.size (w.alloc (.cells #[.pointer none, .slice none 0 0] 106)) W → CS w v (words s) [] W) := fun W v hr hb => by
    have hbx := (hb.block w.heap.size (by simp)).trans (World.alloc_heap_new w _)
    exact ⟨⟨_, _, hbx, World.ownsRow_nil _ _ _ _, .inl rfl⟩, by simpa using hr, ((Below.refl _ w).alloc (Nat.le_refl _) _).trans (hb.mono (by simp))⟩
  -- what the calls answer wherever they are made
  have CL : Hid (∀ (t : ByteArray) W, t.size ≤ s.size → Below w.heap.size w W → Calls Tryz.prog 50 #[.string t] W fun e W' => e = .returned (.string (fm (fun _ => lowc) t)) ∧ Below W.heap.size W W') := fun t W ht hW => lower_any t (Nat.le_trans ht hs) (by omega) W (tabs_below hT hW) (Nat.lt_of_lt_of_le hlo0 hW.size) (Nat.lt_of_lt_of_le hlo1 hW.size)
  have CU : Hid (∀ (t : ByteArray) W, t.size ≤ s.size → Below w.heap.size w W → Calls Tryz.prog 49 #[.string t] W fun e W' => e = .returned (.string (fm (fun _ => upc) t)) ∧ Below W.heap.size W W') := fun t W ht hW => upper_any t (Nat.le_trans ht hs) (by omega) W (tabs_below hT hW) (Nat.lt_of_lt_of_le hlo0 hW.size) (Nat.lt_of_lt_of_le hlo1 hW.size)
  have CN : Hid (∀ (a : Nat) W, B s a → a < s.size → Below w.heap.size w W → Calls Tryz.prog 56 #[.string s, .int .i64 a] W fun e W' => e = .returned (.int .i64 ((a + sz s a : Nat) : Int)) ∧ Below W.heap.size W W') := fun a W hB ha hW => by
    have := next_any s a hs W (tabs_below hT hW)
    rwa [next_B hB ha] at this
  have HLN : Hid (∀ d, B s d → (fs (capG (words s)) s 0 d).length = d) := fun d hd => by rw [fs_len (gd_cap _) hd d 0 (by omega) (Nat.zero_le _)]; omega
  go_enter Tryz.func51, Tryz.ntmps51
  go_wp2_with (go_at_call 87; refine cS.mono ?_; clear cS; rintro e w1 ⟨lv, rfl, hr1, hb1⟩; have h1 := H0.out w1 lv hr1 hb1; clear hr1 hb1 H0; obtain ⟨la, lc, rfl⟩ := h1.len; have HC1 : Hid (CS w (.slice la (words s).length lc) (words s) [] w1) := h1; clear h1)
  go_loopw [11, 4] (fun t11 t4 wr => ∃ (k d : Nat), t11 = .int .i64 k ∧ t4 = .int .i64 d ∧ k ≤ (words s).length ∧ CapI s k d ∧ CS w (.slice la (words s).length lc) (words s) (fs (capG (words s)) s 0 d) wr) (fun t11 _ _ => (words s).length - (intOf t11).toNat)
  case atStart => exact ⟨0, 0, rfl, rfl, Nat.zero_le _, capI_zero s, by rw [fs_nil (Nat.le_refl _)]; exact HC1.out⟩
  case round =>
    clear HC1
    obtain ⟨k, d, rfl, rfl, hk, hI, hC⟩ := hrel
    have hdl := HLN.out d hI.b
    have hds := hI.b.1
    have hwl := words_len s
    by_cases hlt : k < (words s).length
    · obtain ⟨p, hp⟩ : ∃ p, (words s)[k]? = some p := ⟨_, List.getElem?_eq_getElem hlt⟩
      obtain ⟨g, cap, hv, c0, c1⟩ := hC.cells hp
      cases hv
      obtain ⟨e1, e2, e3, e4, e5⟩ := word_B (List.mem_of_getElem? hp)
      obtain ⟨hdp, hI2⟩ := hI.next hp
      have hzi := sz_in e2
      have hpq : p.1 ≤ p.1 + sz s p.1 := by omega
      have HI2 : Hid (CapI s (k + 1) (p.1 + sz s p.1)) := hI2
      have HST : Hid (fs (capG (words s)) s 0 (p.1 + sz s p.1) = fs (capG (words s)) s 0 d ++ (fm (fun _ => lowc) (s.extract d p.1)).data.toList ++ (fm (fun _ => upc) (s.extract p.1 (p.1 + sz s p.1))).data.toList) := by
        show _ = _
        rw [fm_sub e1 hdp, fm_sub (B_next e1 e2) (by omega)]
        exact cap_step hI hp
      have HX0 : Hid (CX w (.slice (some ⟨g, 0, none⟩) (words s).length lc) (words s) wr.heap.size p (fs (capG (words s)) s 0 d) (wr.alloc (.cells #[.int .i64 p.1, .int .i64 p.2] 53))) := by
        obtain ⟨_, _, hbv⟩ := hC.bl
        exact ⟨hC.below ((Below.refl _ wr).alloc (Nat.le_refl _) _), World.alloc_heap_new wr _, (Array.getElem?_eq_some_iff.1 hbv.box).1⟩
      have HL1 : Hid ((fm (fun _ => lowc) (s.extract d p.1)).size ≤ s.size) := by show _ ≤ _; rw [fm_size gd_low]; exact sub_size
      have HL2 : Hid ((fm (fun _ => upc) (s.extract p.1 (p.1 + sz s p.1))).size ≤ s.size) := by show _ ≤ _; rw [fm_size gd_up]; exact sub_size
      have cN := CN.out p.1 _ e1 e2 HX0.out.cs.bel
      have CL1 : Hid (∀ W, Below w.heap.size w W → Calls Tryz.prog 50 #[.string (s.extract d p.1)] W fun e W' => e = .returned (.string (fm (fun _ => lowc) (s.extract d p.1))) ∧ Below W.heap.size W W') := fun W hW => CL.out _ W sub_size hW
      have CU1 : Hid (∀ W, Below w.heap.size w W → Calls Tryz.prog 49 #[.string (s.extract p.1 (p.1 + sz s p.1))] W fun e W' => e = .returned (.string (fm (fun _ => upc) (s.extract p.1 (p.1 + sz s p.1)))) ∧ Below W.heap.size W W') := fun W hW => CU.out _ W sub_size hW
      have HDL : Hid ((fs (capG (words s)) s 0 d).length = d) := hdl
      generalize fm (fun _ => lowc) (s.extract d p.1) = t1 at HST HL1 CL1
      generalize fm (fun _ => upc) (s.extract p.1 (p.1 + sz s p.1)) = t2 at HST HL2 CU1
      generalize hout : fs (capG (words s)) s 0 d = out at HST HX0 HDL
      clear hC hI hI2 CL CU CN hp e1 e3 e5 hdl hout HLN
      generalize p.1 + sz s p.1 = q at hzi hpq HI2 HST HL2 CU1 cN
      go_wp2_with (first | (go_at_call 56; refine cN.mono ?_; clear cN; rintro e w2 ⟨rfl, hb2⟩; have HX2 := HX0.out.below hb2; have x2 := HX2.cell; clear hb2 HX0) | (go_at_call 50; refine (CL1.out _ HX2.cs.bel).mono ?_; clear CL1; rintro e w3 ⟨rfl, hb3⟩; have HX3 := HX2.below hb3; have cW := HX3.write t1 (by have h1 := HL1.out; have h2 := HDL.out; omega); clear hb3 x2 HX2) | (go_at_call 88; refine cW.mono ?_; clear cW; rintro e w4 ⟨⟨u4, rfl⟩, HX4⟩; have x4 := HX4.cell; clear HX3) | (go_at_call 49; refine (CU1.out _ HX4.cs.bel).mono ?_; clear CU1; rintro e w5 ⟨rfl, hb5⟩; have HX5 := HX4.below hb5; have cV := HX5.write t2 (by have h1 := HL1.out; have h2 := HDL.out; have h3 := HL2.out; rw [List.length_append, ← Lib.size_eq]; omega); clear hb5 x4 HX4) | (go_at_call 88; refine cV.mono ?_; clear cV; rintro e w6 ⟨⟨u6, rfl⟩, HX6⟩; clear HX5))
      exact ⟨⟨k + 1, q, by first | rfl | simp, rfl, by omega, HI2.out, by rw [HST.out]; exact HX6.cs⟩, by simp [intOf]; omega⟩
    · have hke : k = (words s).length := by omega
      have hI' : CapI s (words s).length d := hke ▸ hI
      have hnl : ¬ ((k : Int) < ((words s).length : Int)) := by omega
      clear hke
      have cL := CL.out (s.extract d s.size) wr sub_size hC.bel
      have HEN : Hid (fm (capG (words s)) s = ⟨(fs (capG (words s)) s 0 d ++ (fm (fun _ => lowc) (s.extract d s.size)).data.toList).toArray⟩) := by
        show _ = _
        rw [fm_sub (B_end s) hds, ← cap_end hI']
      have HL1 : Hid ((fm (fun _ => lowc) (s.extract d s.size)).size ≤ s.size) := by show _ ≤ _; rw [fm_size gd_low]; exact sub_size
      have HDL : Hid ((fs (capG (words s)) s 0 d).length = d) := hdl
      have HC : Hid (CS w (.slice la (words s).length lc) (words s) (fs (capG (words s)) s 0 d) wr) := hC
      have HSZ : Hid (w.heap.size + 1 ≤ wr.heap.size) := by obtain ⟨_, _, hbv⟩ := hC.bl; exact (Array.getElem?_eq_some_iff.1 hbv.box).1
      have hle : (d : Int) ≤ s.size := by omega
      generalize fm (fun _ => lowc) (s.extract d s.size) = t1 at HEN HL1 cL
      generalize fs (capG (words s)) s 0 d = out at HEN HDL HC
      clear hC hI hI' CL CU CN hdl HLN hlt
      go_wp2_with (first | (go_at_call 50; refine cL.mono ?_; clear cL; rintro e w2 ⟨rfl, hb2⟩; have hC2 := HC.out.below hb2; have cW := hC2.write t1 (by have h1 := HL1.out; have h2 := HDL.out; omega) (Nat.le_trans HSZ.out hb2.size); clear hb2 hC2) | (go_at_call 88; refine cW.mono ?_; clear cW; rintro e w3 ⟨⟨u, rfl⟩, hC3, _⟩; have cS := hC3.str; clear hC3) | (go_at_call 89; refine cS.mono ?_; clear cS; rintro e w4 ⟨rfl, hb4⟩))
      go_ret
      exact ⟨ret_str HEN.out.symm, hb4⟩
end Go.Proofs.YtdggbnkhbmffoaaGreatDoor
