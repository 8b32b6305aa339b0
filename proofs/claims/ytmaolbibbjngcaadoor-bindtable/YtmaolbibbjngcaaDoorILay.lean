/-
  Package bind's tables out of what the program's text lays; keys as arguments: how they read. No program is walked in this text; no conditions.
-/
import Derived.Test.YtmaolbibbjngcaaDoorIBds
import Derived.Test.YtmaolbibbjngcaaDoorUEls
import Derived.Test.YtmaolbibbjngcaaDoorRows
import Derived.Lib.LaidU8T
namespace Go.Proofs.YtmaolbibbjngcaaDoor
open Go.ChangeShapes Go.WideShapes Go.ChangeAt Go.RowKit Go.Deep

def bdD (r : Int × Bool × Int × Int) : DataW Unit := .agg [.lit (.int .i64 r.1), .lit (.bool r.2.1), .lit (.int .i32 r.2.2.1), .lit (.int .i64 r.2.2.2)]
def pxD (r : Int × Bool × Int × ByteArray) : DataW Unit := .agg [.lit (.int .i64 r.1), .lit (.bool r.2.1), .lit (.int .i32 r.2.2.1), .lit (.string r.2.2.2.data.toList)]
def nmD (r : Int × Int × Int) : DataW Unit := .agg [.lit (.int .i64 r.1), .lit (.int .i64 r.2.1), .lit (.int .i64 r.2.2)]
theorem flat_at {α : Type} {f : α → List Value} {c : Nat} (hf : ∀ x, (f x).length = c) : ∀ (l : List α) (i j : Nat), j < c → (l.flatMap f)[i * c + j]? = (l[i]?).bind fun x => (f x)[j]?
  | [], _, _, _ => by simp
  | x :: l, 0, j, hj => by
    rw [List.flatMap_cons, Nat.zero_mul, Nat.zero_add, List.getElem?_append_left (by rw [hf]; exact hj)]
    simp
  | x :: l, i + 1, j, hj => by
    rw [List.flatMap_cons, List.getElem?_append_right (by rw [hf, Nat.succ_mul]; omega), hf, show (i + 1) * c + j - c = i * c + j by rw [Nat.succ_mul]; omega, flat_at hf l i j hj]
    simp
theorem tab_at {α : Type} {W : World} {n : String} {G t e c : Nat} {L : List α} {D : α → DataW Unit} {f : α → List Value} (hG : Tryd.prog.globalNamed n = some G) (hty : (Tryd.prog.globals[G]?).map (·.type) = some t) (ht : Tryd.prog.underlying t = some (.array L.length e)) (hc : Tryd.prog.cellsOf e = c) (hf : ∀ x, (f x).length = c) (hc0 : 0 < c)
    (hopen : ∀ fuel cs x q, DataW.trod (fun _ => ()) Tryd.prog W 0 (fun _ => true) false fuel e cs = some (D x, q) → cs = f x)
    (h : Lib.VarReads Tryd.prog W n (.agg (L.map D))) : ∀ j v, (L.flatMap f)[j]? = some v → W.cell? ⟨G, j, none⟩ = some v := by
  intro j v hj
  obtain ⟨g, t', cs, fuel, p, hg, hty', hvar, hd⟩ := h
  obtain rfl := Option.some.inj (hG.symm.trans hg)
  obtain rfl := Option.some.inj (hty.symm.trans hty')
  have ej : j = j / c * c + j % c := by rw [Nat.mul_comm]; exact (Nat.div_add_mod j c).symm
  have hr : j % c < c := Nat.mod_lt _ hc0
  rw [ej, flat_at hf L _ _ hr] at hj
  cases hx : L[j / c]? with
  | none => rw [hx] at hj; cases hj
  | some x =>
    rw [hx] at hj
    have hi := (List.getElem?_eq_some_iff.1 hx).1
    obtain ⟨fuel', d, q, hdi, he⟩ := Lib.array_elem ht hd (j / c) hi
    rw [List.getElem?_map, hx] at hdi
    cases hdi
    have hcs := hopen _ _ _ _ he
    rw [hc] at hcs
    have e0 := congrArg (·[j % c]?) hcs
    simp only [List.getElem?_take, List.getElem?_drop, if_pos hr] at e0
    rw [World.var?_cell hg hvar j, ← Array.getElem?_toList]
    conv => lhs; rw [ej]
    rw [e0]
    exact hj
section
variable {W : World} {fuel : Nat} {cs : List Value} {q : List MemPlace}
theorem c_kk : Tryd.prog.cellsOf 28 = 1 := by kernel_rfl
theorem c_ck : Tryd.prog.cellsOf 32 = 1 := by kernel_rfl
theorem c_bo : Tryd.prog.cellsOf 4 = 1 := by kernel_rfl
theorem c_ru : Tryd.prog.cellsOf 21 = 1 := by kernel_rfl
theorem c_st : Tryd.prog.cellsOf 9 = 1 := by kernel_rfl
theorem bd_open {x : Int × Bool × Int × Int} (h : DataW.trod (fun _ => ()) Tryd.prog W 0 (fun _ => true) false fuel 76 cs = some (bdD x, q)) : cs = [.int .i64 x.1, .bool x.2.1, .int .i32 x.2.2.1, .int .i64 x.2.2.2] := by
  obtain ⟨y0, y1, y2, y3, n, hx, hl, g0, g1, g2, g3⟩ := Go.Joins.trod_struct4 Tryd.underlying76 h
  have ce : Tryd.prog.cellsOf 76 = 4 := by kernel_rfl
  rw [ce] at hl
  have hd := congrArg Prod.fst hx
  simp only [bdD, DataW.agg.injEq, List.cons.injEq, and_true] at hd
  obtain ⟨d0, d1, d2, d3⟩ := hd
  match cs, hl with
  | [v0, v1, v2, v3], _ =>
    simp [c_kk] at g0
    simp [c_bo] at g1
    simp [c_ru] at g2
    simp [c_ck] at g3
    obtain ⟨k0, e0, r0, _⟩ := DataW.trod_int Tryd.underlying28 g0
    obtain ⟨k1, e1, r1⟩ := DataW.trod_bool Tryd.underlying4 g1
    obtain ⟨k2, e2, r2, _⟩ := DataW.trod_int Tryd.underlying21 g2
    obtain ⟨k3, e3, r3, _⟩ := DataW.trod_int Tryd.underlying32 g3
    subst r0 r1 r2 r3
    simp at e0 e1 e2 e3 d0 d1 d2 d3
    subst e0 e1 e2 e3
    rw [d0, d1, d2, d3]
theorem px_open {x : Int × Bool × Int × ByteArray} (h : DataW.trod (fun _ => ()) Tryd.prog W 0 (fun _ => true) false fuel 69 cs = some (pxD x, q)) : cs = [.int .i64 x.1, .bool x.2.1, .int .i32 x.2.2.1, .string x.2.2.2] := by
  obtain ⟨y0, y1, y2, y3, n, hx, hl, g0, g1, g2, g3⟩ := Go.Joins.trod_struct4 Tryd.underlying69 h
  have ce : Tryd.prog.cellsOf 69 = 4 := by kernel_rfl
  rw [ce] at hl
  have hd := congrArg Prod.fst hx
  simp only [pxD, DataW.agg.injEq, List.cons.injEq, and_true] at hd
  obtain ⟨d0, d1, d2, d3⟩ := hd
  match cs, hl with
  | [v0, v1, v2, v3], _ =>
    simp [c_kk] at g0
    simp [c_bo] at g1
    simp [c_ru] at g2
    simp [c_st] at g3
    obtain ⟨k0, e0, r0, _⟩ := DataW.trod_int Tryd.underlying28 g0
    obtain ⟨k1, e1, r1⟩ := DataW.trod_bool Tryd.underlying4 g1
    obtain ⟨k2, e2, r2, _⟩ := DataW.trod_int Tryd.underlying21 g2
    obtain ⟨k3, e3, r3, _⟩ := DataW.trod_string Tryd.underlying9 g3
    subst r0 r1 r2 r3
    simp at e0 e1 e2 e3 d0 d1 d2 d3
    subst e0 e1 e2 e3
    rw [d0, d1, d2]
    have : x.2.2.2 = k3 := by apply ByteArray.ext; apply Array.ext'; simpa using d3
    rw [this]
theorem nm_open {x : Int × Int × Int} (h : DataW.trod (fun _ => ()) Tryd.prog W 0 (fun _ => true) false fuel 84 cs = some (nmD x, q)) : cs = [.int .i64 x.1, .int .i64 x.2.1, .int .i64 x.2.2] := by
  obtain ⟨y0, y1, y2, n, hx, hl, g0, g1, g2⟩ := trod_struct3 Tryd.underlying84 h
  have ce : Tryd.prog.cellsOf 84 = 3 := by kernel_rfl
  rw [ce] at hl
  have hd := congrArg Prod.fst hx
  simp only [nmD, DataW.agg.injEq, List.cons.injEq, and_true] at hd
  obtain ⟨d0, d1, d2⟩ := hd
  match cs, hl with
  | [v0, v1, v2], _ =>
    simp [c_kk] at g0
    simp [c_ck] at g1
    simp [c_ck] at g2
    obtain ⟨k0, e0, r0, _⟩ := DataW.trod_int Tryd.underlying28 g0
    obtain ⟨k1, e1, r1, _⟩ := DataW.trod_int Tryd.underlying32 g1
    obtain ⟨k2, e2, r2, _⟩ := DataW.trod_int Tryd.underlying32 g2
    subst r0 r1 r2
    simp at e0 e1 e2 d0 d1 d2
    subst e0 e1 e2
    rw [d0, d1, d2]
end
theorem tb_lt {W : World} {a : Addr} {v : Value} (h : W.cell? a = some v) : a.block < W.heap.size := by
  unfold World.cell? at h
  cases ho : W.heap[a.block]? with
  | none => simp [ho] at h
  | some o => exact (Array.getElem?_eq_some_iff.1 ho).1
theorem laid_tb {W : World} (hb : Lib.VarReads Tryd.prog W "bodkin/bind.bounds" Rows.laid_bodkin_bind_bounds) (hn : Lib.VarReads Tryd.prog W "bodkin/bind.nameds" Rows.laid_bodkin_bind_nameds) (hp : Lib.VarReads Tryd.prog W "bodkin/bind.prefixes" Rows.laid_bodkin_bind_prefixes) (he : Lib.VarReads Tryd.prog W "bodkin/bind.extendeds" Rows.laid_bodkin_bind_extendeds) : Tb W := by
  rw [show (Rows.laid_bodkin_bind_bounds : DataW Unit) = .agg (bdL.map bdD) by kernel_rfl] at hb
  rw [show (Rows.laid_bodkin_bind_nameds : DataW Unit) = .agg (nmL.map nmD) by kernel_rfl] at hn
  rw [show (Rows.laid_bodkin_bind_prefixes : DataW Unit) = .agg (pxL.map pxD) by kernel_rfl] at hp
  rw [show (Rows.laid_bodkin_bind_extendeds : DataW Unit) = .agg (exL.map bdD) by kernel_rfl] at he
  have b1 := tab_at (G := 1) (t := 77) (e := 76) (c := 4) (f := fun r : Int × Bool × Int × Int => [.int .i64 r.1, .bool r.2.1, .int .i32 r.2.2.1, .int .i64 r.2.2.2]) (by kernel_rfl) (by kernel_rfl) (by kernel_rfl) (by kernel_rfl) (fun _ => rfl) (by decide) (fun _ _ _ _ h => bd_open h) hb
  have b2 := tab_at (G := 3) (t := 86) (e := 76) (c := 4) (f := fun r : Int × Bool × Int × Int => [.int .i64 r.1, .bool r.2.1, .int .i32 r.2.2.1, .int .i64 r.2.2.2]) (by kernel_rfl) (by kernel_rfl) (by kernel_rfl) (by kernel_rfl) (fun _ => rfl) (by decide) (fun _ _ _ _ h => bd_open h) he
  have b3 := tab_at (G := 0) (t := 70) (e := 69) (c := 4) (f := fun r : Int × Bool × Int × ByteArray => [.int .i64 r.1, .bool r.2.1, .int .i32 r.2.2.1, .string r.2.2.2]) (by kernel_rfl) (by kernel_rfl) (by kernel_rfl) (by kernel_rfl) (fun _ => rfl) (by decide) (fun _ _ _ _ h => px_open h) hp
  have b4 := tab_at (G := 2) (t := 85) (e := 84) (c := 3) (f := fun r : Int × Int × Int => [.int .i64 r.1, .int .i64 r.2.1, .int .i64 r.2.2]) (by kernel_rfl) (by kernel_rfl) (by kernel_rfl) (by kernel_rfl) (fun _ => rfl) (by decide) (fun _ _ _ _ h => nm_open h) hn
  exact ⟨b1, b2, b3, b4, tb_lt (b3 0 _ rfl), tb_lt (b1 0 _ rfl), tb_lt (b4 0 _ rfl), tb_lt (b2 0 _ rfl)⟩
set_option maxRecDepth 100000 in
/-- a key's cells, read as a key -/
theorem ky_open {H : Type} {enc : TypeId × Value → H} {W : World} {base : Nat} {sp : Nat → Bool} {hd : Bool} {n : Nat} {cs : List Value} {d : DataW H × List MemPlace} (hl : cs.length = 6)
    (h : DataW.trod enc Tryd.prog W base sp hd n 30 cs = some d) :
    ∃ x : Ky, cs = (kyc x).toList ∧ x.tx.size + 1 ≤ Rows.uptoBulk d.1 ∧ (-2147483648 ≤ x.ch ∧ x.ch ≤ 2147483647) ∧ (-9223372036854775808 ≤ x.kd ∧ x.kd ≤ 9223372036854775807) := by
  obtain ⟨xs, k, hk, hxy, _, hxl, hf⟩ := DataW.trod_struct Tryd.underlying30 h
  match xs, hxl, cs, hl with
  | [y0, y1, y2, y3, y4, y5], _, [v0, v1, v2, v3, v4, v5], _ =>
    have g0 := hf 0 _ rfl
    have g1 := hf 1 _ rfl
    have g2 := hf 2 _ rfl
    have g3 := hf 3 _ rfl
    have g4 := hf 4 _ rfl
    have g5 := hf 5 _ rfl
    simp [c_kk] at g0
    simp [c_ru] at g1
    simp [c_bo] at g2
    simp [c_bo] at g3
    simp [c_bo] at g4
    simp [c_st] at g5
    obtain ⟨k0, e0, _, b0⟩ := DataW.trod_int Tryd.underlying28 g0
    obtain ⟨k1, e1, _, b1⟩ := DataW.trod_int Tryd.underlying21 g1
    obtain ⟨k2, e2, _⟩ := DataW.trod_bool Tryd.underlying4 g2
    obtain ⟨k3, e3, _⟩ := DataW.trod_bool Tryd.underlying4 g3
    obtain ⟨k4, e4, _⟩ := DataW.trod_bool Tryd.underlying4 g4
    obtain ⟨k5, e5, q5, _⟩ := DataW.trod_string Tryd.underlying9 g5
    simp at e0 e1 e2 e3 e4 e5
    subst e0 e1 e2 e3 e4 e5
    have hd1 : d.1 = .agg [y0.1, y1.1, y2.1, y3.1, y4.1, y5.1] := congrArg Prod.fst hxy
    refine ⟨⟨k0, k1, k2, k3, k4, k5⟩, rfl, ?_, ?_, bounds_i64 b0⟩
    · have q4 : y5.1 = .lit (.string k5.data.toList) := congrArg Prod.fst q5
      rw [hd1]
      simp only [Rows.uptoBulk, Rows.uptoBulkAll, q4]
      rw [Lib.size_eq]
      omega
    · simp [Lit.wf, IntKind.min, IntKind.max, IntKind.bits, IntKind.signed] at b1
      exact ⟨by show _ ≤ k1; omega, by show k1 ≤ _; omega⟩
/-- what keys hold -/
def kyb (l : List Ky) : Nat := (l.map fun k => k.tx.size + 1).sum
theorem kyb_mem {l : List Ky} {k : Ky} (h : k ∈ l) : k.tx.size + 1 ≤ kyb l := sum_mem (wt := fun k : Ky => k.tx.size + 1) h
theorem kyb_len (l : List Ky) : l.length ≤ kyb l := sum_len (fun _ => by omega) l
theorem kys_of {H : Type} {enc : TypeId × Value → H} {W : World} {base : Nat} {sp : Nat → Bool} {hd : Bool} {fuel : Nat} {a : Option Addr} {len cap : Nat} {d : DataW H} {p : List MemPlace}
    (h : DataW.trod enc Tryd.prog W base sp hd fuel 22 [.slice a len cap] = some (d, p)) :
    ∃ l : List Ky, RdKy W (.slice a len cap) l ∧ (kyb l ≤ Rows.uptoBulk d ∧ ∀ k ∈ l, (-2147483648 ≤ k.ch ∧ k.ch ≤ 2147483647) ∧ (-9223372036854775808 ≤ k.kd ∧ k.kd ≤ 9223372036854775807)) := by
  have : Inhabited Ky := ⟨⟨0, 0, false, false, false, ByteArray.empty⟩⟩
  obtain ⟨l, hl, hr, hb, hp⟩ := els_of (α := Ky) (c := 6) Tryd.underlying22 (by kernel_rfl) (by decide) (fun k => (kyc k).toList) (fun _ => rfl) (fun k => k.tx.size + 1) (fun k => (-2147483648 ≤ k.ch ∧ k.ch ≤ 2147483647) ∧ (-9223372036854775808 ≤ k.kd ∧ k.kd ≤ 9223372036854775807)) (fun n l d h1 h2 => ky_open h1 h2) h
  subst hl
  refine ⟨l, ⟨a, cap, rfl, ?_, fun h0 => ?_⟩, hb, hp⟩
  · cases l with
    | nil => exact Nat.zero_le _
    | cons x l => exact (hr (by simp)).1
  · obtain ⟨_, g, o, e, hg, hc⟩ := hr h0
    exact ⟨g, o, e, hg, fun k x hk j hj => by rw [hc k x hk j hj, Array.getElem?_toList]⟩
/-- keys that hold little -/
theorem kys_ok {l : List Ky} {m : Nat} (hm : m ≤ 1048576) (hb : kyb l ≤ m) (hp : ∀ k ∈ l, (-2147483648 ≤ k.ch ∧ k.ch ≤ 2147483647) ∧ (-9223372036854775808 ≤ k.kd ∧ k.kd ≤ 9223372036854775807)) : ∀ k ∈ l, k.Ok := fun k hk => by
  obtain ⟨⟨h1, h2⟩, h3, h4⟩ := hp k hk
  exact ⟨h1, h2, h3, h4, by have := kyb_mem hk; omega⟩
end Go.Proofs.YtmaolbibbjngcaaDoor
