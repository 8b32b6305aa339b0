/-
  A strings.Builder that a call has made: copyCheck, WriteByte, WriteString: what it holds grows by what is written. Conditions: it holds no more than 2^47 bytes.
-/
import Derived.Maps.OwnIn
import Derived.Deep.AppendLies
import Derived.Test.YtfjoklbiocniiaaDoorPkI
import Derived.Test.YtfjoklbiocniiaaDoorCRd
namespace Go.Proofs.YtfjoklbiocniiaaDoor
open Go.RowKit Go.Shelf Bod

theorem sizeT : (Tryd.prog.info? 74).map (·.size) = some 2 := by kernel_rfl
theorem liesT : liesAt Tryd.prog Tryd.prog.depth 74 (2 / Tryd.prog.cellsOf 74) 0 74 1 = true := by kernel_rfl
theorem info5 : (Tryd.prog.info? 5).map (fun i => (i.zero, i.size, i.bytes)) = some (some (.int .u8 0), 1, 1) := by kernel_rfl

/-- the block b is a builder (p: its own address, if it was written) that holds bs; its row lies at hi or beyond -/
structure Bld (b hi : Nat) (bs : List Value) (W : World) (p v : Value) : Prop where
  box : W.heap[b]? = some (.cells #[p, v] 74 (0, 0))
  row : W.ownsRow hi 5 1 v bs.length bs
  adr : p = .pointer none ∨ p = .pointer (some ⟨b, 0, none⟩)
theorem Bld.far {b hi : Nat} {bs : List Value} {W : World} {p v : Value} (h : Bld b hi bs W p v) {g : Nat} (hg : v.ownBlock = some g) : hi ≤ g := (h.row.lt g hg).1
theorem Bld.block {b hi : Nat} {bs : List Value} {W : World} {p v : Value} (h : Bld b hi bs W p v) {g : Nat} (hg : v.ownBlock = some g) : ∃ vs, W.heap[g]? = some (.cells vs 5 (0, 0)) := by
  rcases h.row.2 with ⟨h0, _⟩ | ⟨g', cap', cur, hv, _, hgb, _⟩
  · rw [h0] at hg; cases hg
  · rw [hv] at hg; cases hg; exact ⟨_, hgb⟩
theorem Bld.kept {b hi : Nat} {bs : List Value} {W W' : World} {p v : Value} {row : Option Nat} (h : Bld b hi bs W p v) (hg : W.grownBy W' row) (h1 : row ≠ some b) (h2 : ∀ g, v.ownBlock = some g → row ≠ some g) : Bld b hi bs W' p v :=
  ⟨(hg.block b (Array.getElem?_eq_some_iff.1 h.box).1 (fun e => h1 e.symm)).trans h.box, h.row.kept hg (by cases hb : v.ownBlock with
    | none => exact .inl rfl
    | some g => exact .inr (fun e => h2 g hb e.symm)), h.adr⟩
theorem bld_ab {b B lo hi : Nat} {f : List Clu → List Value} (hb : b < B) : Ab B lo hi (fun l W => ∃ p v, Bld b hi (f l) W p v) := fun l X Y row h hg hr => h.imp fun p h => h.imp fun v hv =>
  hv.kept hg (fun e => by have := (hr b e).1; omega) (fun g hg' e => by
    obtain ⟨_, (h3 | ⟨o, ho, hc⟩)⟩ := hr g e
    · have := hv.far hg'; omega
    · obtain ⟨vs, hvs⟩ := hv.block hg'
      rw [hvs] at ho; cases ho; cases hc)

/-- what a write to the builder leaves as it was: all but its own block and rows of bytes at hi or beyond -/
def Wr (b hi : Nat) (W W' : World) : Prop := W'.os = W.os ∧ W'.tape = W.tape ∧ W'.output = W.output ∧ W.heap.size ≤ W'.heap.size ∧ ∀ k o, W.heap[k]? = some o → k ≠ b → (hi ≤ k → ∀ vs fz, o ≠ .cells vs 5 fz) → W'.heap[k]? = some o
theorem Wr.refl (b hi : Nat) (W : World) : Wr b hi W W := ⟨rfl, rfl, rfl, Nat.le_refl _, fun _ _ h _ _ => h⟩
theorem Wr.trans {b hi : Nat} {X Y Z : World} (h : Wr b hi X Y) (k : Wr b hi Y Z) : Wr b hi X Z :=
  ⟨k.1.trans h.1, k.2.1.trans h.2.1, k.2.2.1.trans h.2.2.1, Nat.le_trans h.2.2.2.1 k.2.2.2.1, fun i o a b c => k.2.2.2.2 i o (h.2.2.2.2 i o a b c) b c⟩
theorem Wr.set (b hi i : Nat) (W : World) (u : Value) : Wr b hi W (W.setCell ⟨b, i, none⟩ u) :=
  have g := gcell W b i u
  ⟨g.os, g.tape, g.output, g.size, fun k _ hk hne _ => (g.block k (Array.getElem?_eq_some_iff.1 hk).1 (fun e => hne (by cases e; rfl))).trans hk⟩

set_option maxRecDepth 100000 in
set_option maxHeartbeats 1000000 in
theorem check_used (b : Nat) (w : World) (h0 : w.cell? ⟨b, 0, none⟩ = some (.pointer (some ⟨b, 0, none⟩))) :
    Calls Tryd.prog 68 #[.pointer (some ⟨b, 0, none⟩)] w fun e w' => e = .returned (.tuple #[]) ∧ w' = w := by
  obtain ⟨j, hj, hjs⟩ := Option.map_eq_some_iff.1 sizeT
  have hq := Lib.run_neq_ptr_same (P := Tryd.prog) w ⟨b, 0, none⟩ Tryd.underlying71 hj
  go_enter Tryd.func68, Tryd.ntmps68
  go_wp2
  go_end0
  exact ⟨rfl, rfl⟩
set_option maxRecDepth 100000 in
set_option maxHeartbeats 1000000 in
theorem check_new (b : Nat) (v : Value) (w : World) (hb : w.heap[b]? = some (.cells #[.pointer none, v] 74 (0, 0))) :
    Calls Tryd.prog 68 #[.pointer (some ⟨b, 0, none⟩)] w fun e w' => e = .returned (.tuple #[]) ∧ w' = w.setCell ⟨b, 0, none⟩ (.pointer (some ⟨b, 0, none⟩)) := by
  obtain ⟨j, hj, hjs⟩ := Option.map_eq_some_iff.1 sizeT
  have h0 : w.cell? ⟨b, 0, none⟩ = some (.pointer none) := by simp [World.cell?, hb]
  have hf : w.frozen? ⟨b, 0, none⟩ = false := by simp [World.frozen?, hb]
  have hsh : w.shape? b = some (74, 2) := by simp [World.shape?, hb]
  have hto := Lib.run_to_unsafe (P := Tryd.prog) w ⟨b, 0, none⟩ Tryd.underlying71 Tryd.underlying126 hj (by rw [hjs]; decide) hsh (by decide : (0 : Nat) < 2)
  have hfr := Lib.run_from_unsafe (P := Tryd.prog) w ⟨b, 0, none⟩ Tryd.underlying126 Tryd.underlying71 hj hsh liesT
  have hq := Lib.run_neq_ptr_same (P := Tryd.prog) (w.setCell ⟨b, 0, none⟩ (.pointer (some ⟨b, 0, none⟩))) ⟨b, 0, none⟩ Tryd.underlying71 hj
  have hno : ∀ x : Value, (callFunc 80 #[x]).run Tryd.prog w = .ok (.value x) w := fun x => by
    rw [run_callFunc_extern Tryd.func80 (by kernel_rfl) (by kernel_rfl) (by kernel_rfl) (e := Extern.AbiNoEscape.same) (by kernel_rfl), Lib.run_noEscape]
    rfl
  go_enter Tryd.func68, Tryd.ntmps68
  go_wp2
  go_end0
  exact ⟨rfl, rfl⟩

theorem check_any {b hi : Nat} {bs : List Value} {w : World} {p v : Value} (h : Bld b hi bs w p v) (hb : b < hi) :
    Calls Tryd.prog 68 #[.pointer (some ⟨b, 0, none⟩)] w fun e w' => e = .returned (.tuple #[]) ∧ Bld b hi bs w' (.pointer (some ⟨b, 0, none⟩)) v ∧ Wr b hi w w' ∧ w'.heap.size = w.heap.size := by
  have hbox := h.box
  rcases h.adr with rfl | rfl
  · refine (check_new b v w hbox).mono ?_
    rintro e w' ⟨rfl, rfl⟩
    refine ⟨rfl, ⟨set1 (i := 0) (.pointer (some ⟨b, 0, none⟩)) hbox, h.row.kept (gcell w b 0 _) ?_, .inr rfl⟩, Wr.set _ _ _ _ _, by simp [World.setCell]⟩
    cases hv : v.ownBlock with
    | none => exact .inl rfl
    | some g => exact .inr (fun e => by cases e; have := h.far hv; omega)
  · refine (check_used b w (by simp [World.cell?, hbox])).mono ?_
    rintro e w' ⟨rfl, rfl⟩
    exact ⟨rfl, h, Wr.refl _ _ _, rfl⟩
/-- behind the append: what the new buffer leaves -/
theorem Bld.put {b hi : Nat} {bs bs' : List Value} {w1 w2 : World} {p v v' : Value} (h : Bld b hi bs w1 p v) (hb : b < hi) (hg : w1.grownBy w2 v.ownBlock) (hown : w2.ownsRow hi 5 1 v' bs'.length bs') :
    w2.heap[b]? = some (.cells #[p, v] 74 (0, 0)) ∧ Bld b hi bs' (w2.setCell ⟨b, 1, none⟩ v') p v' ∧ Wr b hi w1 (w2.setCell ⟨b, 1, none⟩ v') := by
  have h2 : w2.heap[b]? = some (.cells #[p, v] 74 (0, 0)) := (hg.block b (Array.getElem?_eq_some_iff.1 h.box).1 (fun e => by have := h.far e.symm; omega)).trans h.box
  refine ⟨h2, ⟨set1 (i := 1) v' h2, hown.kept (gcell w2 b 1 _) ?_, h.adr⟩, Wr.trans ⟨hg.os, hg.tape, hg.output, hg.size, fun k o hk hne hrow => (hg.block k (Array.getElem?_eq_some_iff.1 hk).1 (fun e => ?_)).trans hk⟩ (Wr.set _ _ _ _ _)⟩
  · cases hv : v'.ownBlock with
    | none => exact .inl rfl
    | some g => exact .inr (fun e => by cases e; have := (hown.lt _ hv).1; omega)
  · obtain ⟨vs, hvs⟩ := h.block e.symm
    rw [hvs] at hk; cases hk
    exact hrow (h.far e.symm) _ _ rfl
theorem row_slice {W : World} {base : Nat} {e : TypeId} {size : Nat} {v : Value} {n : Nat} {xs : List Value} (h : W.ownsRow base e size v n xs) : ∃ ao ln cp, v = .slice ao ln cp := by
  rcases h.2 with ⟨h0, _⟩ | ⟨g, cap, cur, hv, _⟩
  · exact ⟨_, _, _, h0⟩
  · exact ⟨_, _, _, hv⟩
theorem row_len {xs : List Value} {n : Nat} (h : xs.length = n * 1) : xs.length = n := by omega
theorem wr_alloc {b hi : Nat} (W : World) (o : Obj) : Wr b hi W (W.alloc o) := ⟨rfl, rfl, rfl, by simp, fun k _ hk _ _ => (Below.heap_alloc _ _ _ (Array.getElem?_eq_some_iff.1 hk).1).trans hk⟩

set_option maxRecDepth 100000 in
set_option maxHeartbeats 1000000 in
theorem wbyte_any {b hi : Nat} {bs : List Value} (c : Int) {w : World} {p v : Value} (h : Bld b hi bs w p v) (hb : b < hi) (hw : hi ≤ w.heap.size) (hl : bs.length + 1 ≤ 140737488355328) :
    Calls Tryd.prog 56 #[.pointer (some ⟨b, 0, none⟩), .int .u8 c] w fun e w' => e = .returned .nilIface ∧ (∃ p' v', Bld b hi (bs ++ [.int .u8 c]) w' p' v') ∧ Wr b hi w w' := by
  obtain ⟨i0, hi0, hz0, hz1, hz2⟩ := info_parts info5
  have cC := check_any h hb
  have hml : bs.length + 1 ≤ maxLen := by unfold maxLen; omega
  go_enter Tryd.func56, Tryd.ntmps56
  go_wp2_with (first | (go_at_call 68; refine cC.mono ?_; clear cC; rintro e w1 ⟨rfl, k1, HW1, hsz⟩; have HS : Hid (w1.heap.size = w.heap.size) := hsz; clear hsz; have c1 : w1.cell? ⟨b, 1, none⟩ = some v := (by simp [World.cell?, k1.box])) | (at_builtin; refine wpList_append_own_at _ rfl _ _ 72 rfl hi 5 i0 (.int .u8 0) 1 1 Tryd.underlying72 hi0 hz0 hz1 hz2 rfl (by decide) _ _ _ rfl (k1.row.alloc _) ⟨w1.heap.size, 0, none⟩ 1 1 [.int .u8 c] rfl rfl (World.news_of_block (World.alloc_heap_new w1 _)) (by simp [Value.oneCell']) hml (by omega) (by have := HS.out; simp; omega) ?_; intro v' w2 hown' hgrow _ _; obtain ⟨g', cap', rfl⟩ := ownsRow_succ hown'; obtain ⟨q1, q2, q3⟩ := (k1.kept (World.grownBy_alloc w1 _ none) (by simp) (by simp)).put (bs' := bs ++ [.int .u8 c]) hb hgrow (by simpa using hown'); have d1 : w2.cell? ⟨b, 1, none⟩ = some v := (by simp [World.cell?, q1]); have f1 : w2.frozen? ⟨b, 1, none⟩ = false := (by simp [World.frozen?, q1])))
  go_ret
  exact ⟨rfl, ⟨_, _, q2⟩, HW1.trans ((wr_alloc _ _).trans q3)⟩
set_option maxRecDepth 100000 in
set_option maxHeartbeats 1000000 in
theorem wstr_any {b hi : Nat} {bs : List Value} (s : ByteArray) {w : World} {p v : Value} (h : Bld b hi bs w p v) (hb : b < hi) (hw : hi ≤ w.heap.size) (hl : bs.length + s.size ≤ 140737488355328) :
    Calls Tryd.prog 57 #[.pointer (some ⟨b, 0, none⟩), .string s] w fun e w' => (∃ u, e = .returned u) ∧ (∃ p' v', Bld b hi (bs ++ Lib.strCells s) w' p' v') ∧ Wr b hi w w' := by
  obtain ⟨i0, hi0, hz0, hz1, hz2⟩ := info_parts info5
  have cC := check_any h hb
  have hml : bs.length + s.size ≤ maxLen := by unfold maxLen; omega
  go_enter Tryd.func57, Tryd.ntmps57
  go_wp2_with (first | (go_at_call 68; refine cC.mono ?_; clear cC; rintro e w1 ⟨rfl, k1, HW1, hsz⟩; have HS : Hid (w1.heap.size = w.heap.size) := hsz; clear hsz; have c1 : w1.cell? ⟨b, 1, none⟩ = some v := (by simp [World.cell?, k1.box])) | (at_builtin; refine Lib.wpList_append_own_string _ rfl _ _ 72 9 rfl hi 5 i0 Tryd.underlying72 Tryd.underlying9 hi0 hz0 hz1 hz2 _ _ _ rfl k1.row s rfl hml hl (by have := HS.out; omega) ?_; intro v' w2 hown' hgrow _; obtain ⟨ao, ln, cp, rfl⟩ := row_slice hown'; obtain ⟨q1, q2, q3⟩ := k1.put (bs' := bs ++ Lib.strCells s) hb hgrow (by rw [row_len hown'.1]; exact hown'); have d1 : w2.cell? ⟨b, 1, none⟩ = some v := (by simp [World.cell?, q1]); have f1 : w2.frozen? ⟨b, 1, none⟩ = false := (by simp [World.frozen?, q1])))
  exact bodyPost_ret (v := .tuple #[.int .i64 s.size, .nilIface]) (by simp [results, Tryd.results57, go_sem]) rfl ⟨⟨_, rfl⟩, ⟨_, _, q2⟩, HW1.trans q3⟩
end Go.Proofs.YtfjoklbiocniiaaDoor
