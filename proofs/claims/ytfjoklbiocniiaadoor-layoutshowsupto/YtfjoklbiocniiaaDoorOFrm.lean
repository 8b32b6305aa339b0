/-
  Frames (a width, rows of cells, a place), as arguments: how they read. No program is walked in this text; no conditions.
-/
import Derived.Test.YtfjoklbiocniiaaDoorUElf
import Derived.Test.YtfjoklbiocniiaaDoorOMath
namespace Go.Proofs.YtfjoklbiocniiaaDoor
open Go.ChangeShapes Go.WideShapes Go.ChangeAt Go.RowKit Go.Deep
/-- a frame in plain words -/
structure Fm where
  w : Int
  rows : List (List Cel)
  r : Int
  c : Int
/-- a slice that reads as the cells l -/
def RdCe (W : World) (v : Value) (l : List Cel) : Prop := ∃ a c, v = .slice a l.length c ∧ (l ≠ [] → l.length ≤ c ∧ ∃ g o, a = some ⟨g, o, none⟩ ∧ g < W.heap.size ∧ ∀ (k : Nat) x, l[k]? = some x → W.cell? ⟨g, o + k * 2, none⟩ = some (.string x.tx) ∧ W.cell? ⟨g, o + k * 2 + 1, none⟩ = some (.int .i64 x.sp))
/-- a slice that reads as the rows L -/
def RdRw (W : World) (v : Value) (L : List (List Cel)) : Prop := ∃ a c, v = .slice a L.length c ∧ (L ≠ [] → L.length ≤ c ∧ ∃ g o, a = some ⟨g, o, none⟩ ∧ g < W.heap.size ∧ ∀ (k : Nat) l, L[k]? = some l → ∃ rv, W.cell? ⟨g, o + k, none⟩ = some rv ∧ RdCe W rv l)
/-- a value that reads as the frame f -/
def RdFm (W : World) (v : Value) (f : Fm) : Prop := ∃ rv, v = .agg #[.int .i64 f.w, rv, .int .i64 f.r, .int .i64 f.c] ∧ RdRw W rv f.rows
theorem RdCe.below {W W' : World} {n : Nat} {v : Value} {l : List Cel} (h : RdCe W v l) (hn : W.heap.size ≤ n) (hb : Below n W W') : RdCe W' v l := by
  obtain ⟨a, cap, e, h⟩ := h
  refine ⟨a, cap, e, fun h0 => ?_⟩
  obtain ⟨hl, g, o, e, hg, hc⟩ := h h0
  exact ⟨hl, g, o, e, by have := hb.size; omega, fun k x hk => ⟨(hb.cell (p := ⟨g, o + k * 2, none⟩) (by simp; omega)).trans (hc k x hk).1, (hb.cell (p := ⟨g, o + k * 2 + 1, none⟩) (by simp; omega)).trans (hc k x hk).2⟩⟩
theorem RdRw.below {W W' : World} {n : Nat} {v : Value} {l : List (List Cel)} (h : RdRw W v l) (hn : W.heap.size ≤ n) (hb : Below n W W') : RdRw W' v l := by
  obtain ⟨a, cap, e, h⟩ := h
  refine ⟨a, cap, e, fun h0 => ?_⟩
  obtain ⟨hl, g, o, e, hg, hc⟩ := h h0
  refine ⟨hl, g, o, e, by have := hb.size; omega, fun k x hk => ?_⟩
  obtain ⟨rv, h1, h2⟩ := hc k x hk
  exact ⟨rv, (hb.cell (p := ⟨g, o + k, none⟩) (by simp; omega)).trans h1, h2.below hn hb⟩
theorem RdFm.below {W W' : World} {n : Nat} {v : Value} {f : Fm} (h : RdFm W v f) (hn : W.heap.size ≤ n) (hb : Below n W W') : RdFm W' v f := by
  obtain ⟨rv, e, h⟩ := h
  exact ⟨rv, e, h.below hn hb⟩
/-- all that a row holds, all that a frame holds -/
def rwt (l : List Cel) : Nat := (l.map fun c => c.tx.size + 1).sum + 1
def fwt (f : Fm) : Nat := (f.rows.map rwt).sum + 1
theorem rwt_mem {l : List Cel} {c : Cel} (h : c ∈ l) : c.tx.size + 1 ≤ rwt l := by have := sum_mem (wt := fun c : Cel => c.tx.size + 1) h; unfold rwt; omega
theorem rwt_len (l : List Cel) : l.length + 1 ≤ rwt l := by have := sum_len (wt := fun c : Cel => c.tx.size + 1) (fun _ => by omega) l; unfold rwt; omega
theorem fwt_mem {f : Fm} {l : List Cel} (h : l ∈ f.rows) : rwt l ≤ fwt f := by have := sum_mem (wt := rwt) h; unfold fwt; omega
theorem fwt_len (f : Fm) : f.rows.length + 1 ≤ fwt f := by have := sum_len (wt := rwt) (fun l => by have := rwt_len l; omega) f.rows; unfold fwt; omega
set_option maxRecDepth 100000 in
theorem cel_cells {H : Type} {enc : TypeId × Value → H} {W : World} {base : Nat} {sp : Nat → Bool} {hd : Bool} {n : Nat} {cs : List Value} {d : DataW H × List MemPlace} (hl : cs.length = 2)
    (h : DataW.trod enc Tryd.prog W base sp hd n 42 cs = some d) : ∃ x : Cel, cs = [.string x.tx, .int .i64 x.sp] ∧ x.tx.size + 1 ≤ Rows.uptoBulk d.1 ∧ True := by
  obtain ⟨xs, k, hk, hxy, _, hxl, hf⟩ := DataW.trod_struct Tryd.underlying42 h
  have c3 : Tryd.prog.cellsOf 3 = 1 := by kernel_rfl
  have c9 : Tryd.prog.cellsOf 9 = 1 := by kernel_rfl
  match xs, hxl, cs, hl with
  | [y0, y1], _, [v0, v1], _ =>
    have g0 := hf 0 _ rfl
    have g1 := hf 1 _ rfl
    simp [c9] at g0
    simp [c3] at g1
    obtain ⟨k0, e0, q0, _⟩ := DataW.trod_string Tryd.underlying9 g0
    obtain ⟨k1, e1, _, b1⟩ := DataW.trod_int Tryd.underlying3 g1
    simp at e0 e1
    subst e0 e1
    have hd1 : d.1 = .agg [y0.1, y1.1] := congrArg Prod.fst hxy
    refine ⟨⟨k0, k1⟩, rfl, ?_, trivial⟩
    have p0 : y0.1 = .lit (.string k0.data.toList) := congrArg Prod.fst q0
    rw [hd1]
    simp only [Rows.uptoBulk, Rows.uptoBulkAll, p0]
    rw [Lib.size_eq]
    omega
theorem cels_of {H : Type} {enc : TypeId × Value → H} {W : World} {base : Nat} {sp : Nat → Bool} {hd : Bool} {fuel : Nat} {cs0 : List Value} {d : DataW H × List MemPlace}
    (h : DataW.trod enc Tryd.prog W base sp hd fuel 40 cs0 = some d) : ∃ (v : Value) (l : List Cel), cs0 = [v] ∧ rwt l ≤ Rows.uptoBulk d.1 ∧ RdCe W v l := by
  have : Inhabited Cel := ⟨⟨⟨#[]⟩, 0⟩⟩
  obtain ⟨a, len, cap, rfl, l, h1, h2, h3, _⟩ := els_of (c := 2) Tryd.underlying40 (by kernel_rfl) (by omega) (fun q : Cel => [Value.string q.tx, .int .i64 q.sp]) (fun _ => rfl) (fun q => q.tx.size + 1) (fun _ => True) (fun n l d hl hd => cel_cells hl hd) (d := d.1) (p := d.2) h
  refine ⟨_, l, rfl, by unfold rwt; omega, ⟨a, cap, by rw [h1], fun h0 => ?_⟩⟩
  obtain ⟨hl, g, o, e, hg, hc⟩ := h2 h0
  refine ⟨by omega, g, o, e, hg, fun k x hk => ?_⟩
  have c0 := hc k x hk 0 (by omega)
  have c1 := hc k x hk 1 (by omega)
  exact ⟨c0, c1⟩
theorem rows_of {H : Type} {enc : TypeId × Value → H} {W : World} {base : Nat} {sp : Nat → Bool} {hd : Bool} {fuel : Nat} {cs0 : List Value} {d : DataW H × List MemPlace}
    (h : DataW.trod enc Tryd.prog W base sp hd fuel 26 cs0 = some d) : ∃ (v : Value) (L : List (List Cel)), cs0 = [v] ∧ (L.map rwt).sum + 1 ≤ Rows.uptoBulk d.1 ∧ RdRw W v L := by
  have : Inhabited (Value × List Cel) := ⟨(.int .i64 0, [])⟩
  obtain ⟨a, len, cap, rfl, l, h1, h2, h3, h4⟩ := els_of (c := 1) Tryd.underlying26 (by kernel_rfl) (by omega) (fun q : Value × List Cel => [q.1]) (fun _ => rfl) (fun q => rwt q.2) (fun q => RdCe W q.1 q.2) (fun n l d hl hd => by
    obtain ⟨v, l', e, hw, hr⟩ := cels_of hd
    exact ⟨(v, l'), e, hw, hr⟩) (d := d.1) (p := d.2) h
  refine ⟨_, l.map Prod.snd, rfl, by rw [List.map_map]; exact h3, ⟨a, cap, by rw [List.length_map, h1], fun h0 => ?_⟩⟩
  obtain ⟨hl, g, o, e, hg, hc⟩ := h2 (by rintro rfl; exact h0 rfl)
  refine ⟨by rw [List.length_map]; omega, g, o, e, hg, fun k x hk => ?_⟩
  rw [List.getElem?_map] at hk
  obtain ⟨q, hq, rfl⟩ := Option.map_eq_some_iff.1 hk
  have c0 := hc k q hq 0 (by omega)
  rw [Nat.mul_one, Nat.add_zero] at c0
  exact ⟨q.1, c0, h4 q (List.mem_of_getElem? hq)⟩
set_option maxRecDepth 100000 in
theorem fm_cells {H : Type} {enc : TypeId × Value → H} {W : World} {base : Nat} {sp : Nat → Bool} {hd : Bool} {n : Nat} {cs : List Value} {d : DataW H × List MemPlace} (hl : cs.length = 4)
    (h : DataW.trod enc Tryd.prog W base sp hd n 30 cs = some d) : ∃ (rv : Value) (f : Fm), cs = [.int .i64 f.w, rv, .int .i64 f.r, .int .i64 f.c] ∧ fwt f ≤ Rows.uptoBulk d.1 ∧ RdRw W rv f.rows ∧ (-9223372036854775808 ≤ f.w ∧ f.w ≤ 9223372036854775807) ∧ (-9223372036854775808 ≤ f.r ∧ f.r ≤ 9223372036854775807) ∧ (-9223372036854775808 ≤ f.c ∧ f.c ≤ 9223372036854775807) := by
  obtain ⟨xs, k, hk, hxy, _, hxl, hf⟩ := DataW.trod_struct Tryd.underlying30 h
  have c3 : Tryd.prog.cellsOf 3 = 1 := by kernel_rfl
  have cl : Tryd.prog.cellsOf 26 = 1 := by kernel_rfl
  have cp : Tryd.prog.cellsOf 28 = 2 := by kernel_rfl
  match xs, hxl, cs, hl with
  | [y0, y1, y2], _, [v0, v1, v2, v3], _ =>
    have g0 := hf 0 _ rfl
    have g1 := hf 1 _ rfl
    have g2 := hf 2 _ rfl
    simp [c3] at g0
    simp [cl] at g1
    simp [cp] at g2
    obtain ⟨k0, e0, _, b0⟩ := DataW.trod_int Tryd.underlying3 g0
    obtain ⟨rv, L, e1, hw, hr⟩ := rows_of g1
    obtain ⟨zs, k', hk', hzy, _, hzl, hz⟩ := DataW.trod_struct Tryd.underlying28 g2
    match zs, hzl with
    | [z0, z1], _ =>
      have q0 := hz 0 _ rfl
      have q1 := hz 1 _ rfl
      simp [c3] at q0 q1
      obtain ⟨k2, e2, _, b2⟩ := DataW.trod_int Tryd.underlying3 q0
      obtain ⟨k3, e3, _, b3⟩ := DataW.trod_int Tryd.underlying3 q1
      simp at e0 e1 e2 e3
      subst e0 e1 e2 e3
      have hd1 : d.1 = .agg [y0.1, y1.1, y2.1] := congrArg Prod.fst hxy
      refine ⟨v1, ⟨k0, L, k2, k3⟩, rfl, ?_, hr, bounds_i64 b0, bounds_i64 b2, bounds_i64 b3⟩
      rw [hd1]
      simp only [Rows.uptoBulk, Rows.uptoBulkAll, fwt]
      omega
set_option maxRecDepth 100000 in
theorem fm_open {H : Type} {enc : TypeId × Value → H} {W : World} {base b0 : Nat} {sp : Nat → Bool} {hd : Bool} {r : Reach} {v : Value} {d : DataW H} {p : List MemPlace}
    (hv : Value.okWide Tryd.prog W r b0 30 v) (h : DataW.Trod enc Tryd.prog W base sp hd 30 v d p) : ∃ f : Fm, RdFm W v f ∧ fwt f ≤ Rows.uptoBulk d ∧ (-9223372036854775808 ≤ f.w ∧ f.w ≤ 9223372036854775807) ∧ (-9223372036854775808 ≤ f.r ∧ f.r ≤ 9223372036854775807) ∧ (-9223372036854775808 ≤ f.c ∧ f.c ≤ 9223372036854775807) := by
  obtain ⟨cs, rfl, hsz⟩ := okWide_struct Tryd.underlying30 hv
  obtain ⟨n, h⟩ := h
  have ce : Tryd.prog.cellsOf 30 = 4 := by kernel_rfl
  rw [ce] at hsz
  obtain ⟨rv, f, e, h1, h2, h3⟩ := fm_cells (by simpa [Value.cells] using hsz) h
  refine ⟨f, ⟨rv, ?_, h2⟩, h1, h3⟩
  obtain ⟨l⟩ := cs
  simp [Value.cells] at e
  rw [e]
end Go.Proofs.YtfjoklbiocniiaaDoor
