/-
  The statement's own makers of stores, and Same. Conditions: those of each theorem.
-/
import Derived.Test.YtkmihnjmchfopaaGreatDoorKBase
import Derived.Deep.Slices
import Derived.Lib.SmallJoins
import Derived.OpenShut
import Derived.ProofKit
import Derived.SizedLaws
import Derived.Test.YtkmihnjmchfopaaGreatDoorTRefN
import Derived.Test.YtkmihnjmchfopaaGreatDoorPkTD
import Derived.Test.YtkmihnjmchfopaaGreatDoorPkTA
import Derived.Defers
import Derived.Recover
import Derived.Laws.Pointers
import Derived.BigQuiet
import Derived.Deep.QuietTactic
import Derived.Deep.RegionWith
namespace Go.Proofs.YtkmihnjmchfopaaGreatDoor.Sto
open Go.ChangeShapes Go.WideShapes Go.ChangeAt Go.RowKit Go.Deep

structure Oc where
  kd : Int
  a : Int
  c : Int
  p : ByteArray
/-- the numbers are of 64 bits -/
def Oc.fit (x : Oc) : Prop := (-9223372036854775808 ≤ x.kd ∧ x.kd ≤ 9223372036854775807) ∧ (-9223372036854775808 ≤ x.a ∧ x.a ≤ 9223372036854775807) ∧ (-9223372036854775808 ≤ x.c ∧ x.c ≤ 9223372036854775807)
def ocs (x : Oc) : List Value := [.int .i64 x.kd, .int .i64 x.a, .int .i64 x.c, .string x.p]
/-- the calls' letters, and one for each call -/
def obk : List Oc → Nat
  | [] => 0
  | x :: l => x.p.size + 1 + obk l
/-- a slice that reads as calls -/
def RdC (W : World) (v : Value) (l : List Oc) : Prop :=
  ∃ a cap, v = .slice a l.length cap ∧ (l ≠ [] → ∃ g o, a = some ⟨g, o, none⟩ ∧ g < W.heap.size ∧ ∀ k x, l[k]? = some x →
    W.cell? ⟨g, o + k * 4, none⟩ = some (.int .i64 x.kd) ∧ W.cell? ⟨g, o + k * 4 + 1, none⟩ = some (.int .i64 x.a) ∧ W.cell? ⟨g, o + k * 4 + 2, none⟩ = some (.int .i64 x.c) ∧ W.cell? ⟨g, o + k * 4 + 3, none⟩ = some (.string x.p))
theorem RdC.below {W W' : World} {n : Nat} {v : Value} {l : List Oc} (h : RdC W v l) (hn : W.heap.size ≤ n) (hb : Below n W W') : RdC W' v l := by
  obtain ⟨a, cap, e, h⟩ := h
  refine ⟨a, cap, e, fun h0 => ?_⟩
  obtain ⟨g, o, e, hg, hc⟩ := h h0
  refine ⟨g, o, e, by have := hb.size; omega, fun k x hk => ?_⟩
  obtain ⟨c0, c1, c2, c3⟩ := hc k x hk
  have kp : ∀ i v, W.cell? ⟨g, i, none⟩ = some v → W'.cell? ⟨g, i, none⟩ = some v := fun i v h => (hb.cell (p := ⟨g, i, none⟩) (by simp; omega)).trans h
  exact ⟨kp _ _ c0, kp _ _ c1, kp _ _ c2, kp _ _ c3⟩
theorem obk_range {H : Type} (f : Nat → Oc) (D : Nat → DataW H) : ∀ n, (∀ i, i < n → (f i).p.size + 1 ≤ Rows.uptoBulk (D i)) → ∀ k, k ≤ n → obk ((List.range k).map f) ≤ Rows.uptoBulkAll ((List.range k).map D) := by
  intro n h k hk
  have ea : ∀ a b : List Oc, obk (a ++ b) = obk a + obk b := fun a b => by
    induction a with
    | nil => simp [obk]
    | cons x a ih => simp only [List.cons_append, obk, ih]; omega
  have ba : ∀ a b : List (DataW H), Rows.uptoBulkAll (a ++ b) = Rows.uptoBulkAll a + Rows.uptoBulkAll b := fun a b => by
    induction a with
    | nil => simp [Rows.uptoBulkAll]
    | cons x a ih => simp only [List.cons_append, Rows.uptoBulkAll, ih]; omega
  induction k with
  | zero => simp [obk]
  | succ k ih =>
    rw [List.range_succ, List.map_append, List.map_append, ea, ba]
    have := ih (by omega)
    have := h k (by omega)
    simp only [List.map_cons, List.map_nil, obk, Rows.uptoBulkAll]
    omega
set_option maxRecDepth 100000 in
/-- one element's cells, read as a call -/
theorem oc_open {H : Type} {enc : TypeId × Value → H} {W : World} {base : Nat} {sp : Nat → Bool} {hd : Bool} {n : Nat} {cs : List Value} {d : DataW H × List MemPlace} {f0 f1 f2 f3 : Field}
    (hs : Tryz.prog.underlying 59 = some (.struct #[f0, f1, f2, f3])) (o0 : f0.offset = 0) (o1 : f1.offset = 1) (o2 : f2.offset = 2) (o3 : f3.offset = 3)
    (t0 : f0.type = 3) (t1 : f1.type = 3) (t2 : f2.type = 3) (t3 : f3.type = 9) (hl : cs.length = 4)
    (h : DataW.trod enc Tryz.prog W base sp hd n 59 cs = some d) :
    ∃ x : Oc, cs = ocs x ∧ x.p.size + 1 ≤ Rows.uptoBulk d.1 ∧ x.fit := by
  obtain ⟨xs, k, hk, hxy, _, hxl, hf⟩ := DataW.trod_struct hs h
  have c3 : Tryz.prog.cellsOf 3 = 1 := by kernel_rfl
  have c9 : Tryz.prog.cellsOf 9 = 1 := by kernel_rfl
  match xs, hxl, cs, hl with
  | [y0, y1, y2, y3], _, [v0, v1, v2, v3], _ =>
    have g0 := hf 0 f0 rfl
    have g1 := hf 1 f1 rfl
    have g2 := hf 2 f2 rfl
    have g3 := hf 3 f3 rfl
    simp [o0, t0, c3] at g0
    simp [o1, t1, c3] at g1
    simp [o2, t2, c3] at g2
    simp [o3, t3, c9] at g3
    obtain ⟨k0, e0, _, b0⟩ := DataW.trod_int Tryz.underlying3 g0
    obtain ⟨k1, e1, _, b1⟩ := DataW.trod_int Tryz.underlying3 g1
    obtain ⟨k2, e2, _, b2⟩ := DataW.trod_int Tryz.underlying3 g2
    obtain ⟨s3, e3, q3, _⟩ := DataW.trod_string Tryz.underlying9 g3
    simp at e0 e1 e2 e3
    subst e0 e1 e2 e3
    have hd1 : d.1 = .agg [y0.1, y1.1, y2.1, y3.1] := congrArg Prod.fst hxy
    refine ⟨⟨k0, k1, k2, s3⟩, rfl, ?_, bounds_i64 b0, bounds_i64 b1, bounds_i64 b2⟩
    have q4 : y3.1 = .lit (.string s3.data.toList) := congrArg Prod.fst q3
    rw [hd1]
    simp only [Rows.uptoBulk, Rows.uptoBulkAll, q4]
    rw [Lib.size_eq]
    omega
theorem ocs_of {H : Type} {enc : TypeId × Value → H} {W : World} {base : Nat} {sp : Nat → Bool} {hd : Bool} {fuel : Nat} {a : Option Addr} {len cap : Nat} {d : DataW H} {p : List MemPlace}
    (h : DataW.trod enc Tryz.prog W base sp hd fuel 45 [.slice a len cap] = some (d, p)) :
    ∃ l : List Oc, RdC W (.slice a len cap) l ∧ (obk l ≤ Rows.uptoBulk d ∧ ∀ x ∈ l, x.fit) := by
  rcases open_slice Tryz.underlying45 h with ⟨hcs, _⟩ | ⟨x, l, c, m, n, D, Pl, hcs, _, hl, hm, hmm, hx, hcell⟩
  · simp at hcs
    obtain ⟨rfl, rfl, rfl⟩ := hcs
    exact ⟨[], ⟨none, 0, rfl, fun h => absurd rfl h⟩, Nat.zero_le _, fun x h => by cases h⟩
  · simp at hcs
    obtain ⟨rfl, rfl, rfl⟩ := hcs
    have hlm : len ≤ m := by rw [hmm]; split <;> omega
    have ce : Tryz.prog.cellsOf 59 = 4 := by kernel_rfl
    have each : ∀ i, i < len → ∃ y : Oc, (∀ j, j < 4 → W.cell? (x.add (i * 4 + j)) = (ocs y)[j]?) ∧ y.p.size + 1 ≤ Rows.uptoBulk (D i) ∧ y.fit := fun i hi => by
      obtain ⟨cs', h1, h2⟩ := hcell i (by omega)
      rw [ce] at h1
      obtain ⟨_, hlen, hc⟩ := World.cells?_some h1
      obtain ⟨y, hy, hy2⟩ := oc_open Tryz.underlying59 rfl rfl rfl rfl rfl rfl rfl rfl hlen h2
      refine ⟨y, fun j hj => ?_, hy2⟩
      have := hc j hj
      rw [add_add, hy] at this
      exact this
    have : Inhabited Oc := ⟨⟨0, 0, 0, ByteArray.empty⟩⟩
    obtain ⟨f, hf⟩ := choose_lt each
    have hd : d = .slice ((List.range len).map D) ((List.range (m - len)).map fun j => D (len + j)) := congrArg Prod.fst hx
    refine ⟨(List.range len).map f, ⟨some x, cap, by simp, fun h0 => ?_⟩, ?_, fun y hy => ?_⟩
    · have hpos : 0 < len := by
        rcases Nat.eq_zero_or_pos len with e | e
        · rw [e] at h0; exact absurd rfl h0
        · exact e
      obtain ⟨b, off, spot⟩ := x
      have h00 := (hf 0 hpos).1 0 (by omega)
      have h00' : W.cell? (Addr.add ⟨b, off, spot⟩ (0 * 4 + 0)) = some (.int .i64 (f 0).kd) := h00
      have hspot : spot = none := by simpa [Addr.add] using World.cell?_spot h00'
      subst hspot
      refine ⟨b, off, rfl, ?_, fun k y hk => ?_⟩
      · rw [Go.WideShapes.add_plain] at h00'
        unfold World.cell? at h00'
        cases ho : W.heap[b]? with
        | none => simp [ho] at h00'
        | some o => exact (Array.getElem?_eq_some_iff.1 ho).1
      · have hkl : k < len := by have := (List.getElem?_eq_some_iff.1 hk).1; simpa using this
        have hy : y = f k := by
          rw [List.getElem?_map, List.getElem?_range hkl] at hk
          simpa using hk.symm
        subst hy
        have at' : ∀ j, j < 4 → W.cell? ⟨b, off + k * 4 + j, none⟩ = (ocs (f k))[j]? := fun j hj => by
          have := (hf k hkl).1 j hj
          rw [Go.WideShapes.add_plain, ← Nat.add_assoc] at this
          exact this
        exact ⟨at' 0 (by omega), at' 1 (by omega), at' 2 (by omega), at' 3 (by omega)⟩
    · rw [hd]
      have := obk_range f D len (fun i hi => (hf i hi).2.1) len (Nat.le_refl _)
      simp only [Rows.uptoBulk]
      omega
    · obtain ⟨i, hi, rfl⟩ := List.mem_map.1 hy
      exact (hf i (List.mem_range.1 hi)).2.2
/-- what a store is made of -/
structure Mk where
  kd : Int
  lo : Int
  hi : Int
  lm : Int
  s : ByteArray
def Mk.fit (x : Mk) : Prop := (-9223372036854775808 ≤ x.kd ∧ x.kd ≤ 9223372036854775807) ∧ (-9223372036854775808 ≤ x.lo ∧ x.lo ≤ 9223372036854775807) ∧ (-9223372036854775808 ≤ x.hi ∧ x.hi ≤ 9223372036854775807) ∧ (-9223372036854775808 ≤ x.lm ∧ x.lm ≤ 9223372036854775807)
def mkv (x : Mk) : Array Value := #[.int .i64 x.kd, .int .i64 x.lo, .int .i64 x.hi, .int .i64 x.lm, .string x.s]
set_option maxRecDepth 100000 in
theorem make_open {H : Type} {enc : TypeId × Value → H} {W : World} {base b0 : Nat} {sp : Nat → Bool} {hd : Bool} {r : Reach} {v : Value} {d : DataW H} {p : List MemPlace}
    (hv : Value.okWide Tryz.prog W r b0 44 v) (h : DataW.Trod enc Tryz.prog W base sp hd 44 v d p) : ∃ x : Mk, v = .agg (mkv x) ∧ x.s.size + 5 ≤ Rows.uptoBulk d ∧ x.fit := by
  obtain ⟨cs, rfl, hsz⟩ := okWide_struct Tryz.underlying44 hv
  obtain ⟨n, h⟩ := h
  have ce : Tryz.prog.cellsOf 44 = 5 := by kernel_rfl
  have c3 : Tryz.prog.cellsOf 3 = 1 := by kernel_rfl
  have c9 : Tryz.prog.cellsOf 9 = 1 := by kernel_rfl
  have cK : Tryz.prog.cellsOf 42 = 1 := by kernel_rfl
  rw [ce] at hsz
  obtain ⟨xs, k, hk, hxy, _, hxl, hf⟩ := DataW.trod_struct Tryz.underlying44 h
  have hl : cs.toList.length = 5 := by simpa using hsz
  obtain ⟨v0, v1, v2, v3, v4, rfl⟩ : ∃ v0 v1 v2 v3 v4, cs = #[v0, v1, v2, v3, v4] := by
    obtain ⟨l⟩ := cs
    match l, hl with
    | [v0, v1, v2, v3, v4], _ => exact ⟨v0, v1, v2, v3, v4, rfl⟩
  match xs, hxl with
  | [y0, y1, y2, y3, y4], _ =>
    have g0 := hf 0 _ rfl
    have g1 := hf 1 _ rfl
    have g2 := hf 2 _ rfl
    have g3 := hf 3 _ rfl
    have g4 := hf 4 _ rfl
    simp [cK, Value.cells] at g0
    simp [c3, Value.cells] at g1 g2 g3
    simp [c9, Value.cells] at g4
    obtain ⟨k0, e0, _, b0⟩ := DataW.trod_int Tryz.underlying42 g0
    obtain ⟨k1, e1, _, b1⟩ := DataW.trod_int Tryz.underlying3 g1
    obtain ⟨k2, e2, _, b2⟩ := DataW.trod_int Tryz.underlying3 g2
    obtain ⟨k3, e3, _, b3⟩ := DataW.trod_int Tryz.underlying3 g3
    obtain ⟨s4, e4, q4, _⟩ := DataW.trod_string Tryz.underlying9 g4
    simp at e0 e1 e2 e3 e4
    subst e0 e1 e2 e3 e4
    refine ⟨⟨k0, k1, k2, k3, s4⟩, rfl, ?_, bounds_i64 b0, bounds_i64 b1, bounds_i64 b2, bounds_i64 b3⟩
    have hd1 : d = .agg [y0.1, y1.1, y2.1, y3.1, y4.1] := congrArg Prod.fst hxy
    have q5 : y4.1 = .lit (.string s4.data.toList) := congrArg Prod.fst q4
    have u : ∀ x : DataW H, 1 ≤ Rows.uptoBulk x := fun x => by
      cases x with
      | lit l => cases l <;> simp [Rows.uptoBulk]
      | _ => simp [Rows.uptoBulk]
    have u0 := u y0.1
    have u1 := u y1.1
    have u2 := u y2.1
    have u3 := u y3.1
    rw [hd1]
    simp only [Rows.uptoBulk, Rows.uptoBulkAll, q5]
    rw [Lib.size_eq]
    omega
end Go.Proofs.YtkmihnjmchfopaaGreatDoor.Sto
namespace Go.Proofs.YtkmihnjmchfopaaGreatDoor.Sto
open Go.RowKit Go.Shelf Bod Wid
open Gap (Gp lim)

theorem box5 {W : World} {b : Nat} {v0 v1 v2 v3 v4 : Value} {t : TypeId} (h : W.heap[b]? = some (.cells #[v0, v1, v2, v3, v4] t (0, 0))) : W.cell? ⟨b, 0, none⟩ = some v0 ∧ W.cell? ⟨b, 1, none⟩ = some v1 ∧ W.cell? ⟨b, 2, none⟩ = some v2 ∧ W.cell? ⟨b, 3, none⟩ = some v3 ∧ W.cell? ⟨b, 4, none⟩ = some v4 := by
  refine ⟨?_, ?_, ?_, ?_, ?_⟩ <;> (unfold World.cell?; rw [h]; rfl)
/-- the backend of a new store -/
def nwB (kind lo hi : Int) (l z : Nat) : Int := if kind = 2 ∨ misK none (nwK kind lo hi l) z then 2 else 1
/-- what made leaves, where there is a store -/
def Md (w : World) (m : Mk) (b rb : Nat) (W : World) : Prop := Se w b m.s (nwB m.kd m.lo m.hi (lim m.lm) m.s.size) (nwK m.kd m.lo m.hi (lim m.lm)) W ∧ ∃ p, Rf W rb p ⟨m.s, m.s.size, lim m.lm⟩ (rnwK m.kd m.lo m.hi m.s.size) ∧ w.heap.size ≤ rb ∧ w.heap.size ≤ p
set_option maxRecDepth 100000 in
set_option maxHeartbeats 1000000 in
theorem made_any (w : World) (hE : Ev w) (m : Mk) (hm : m.fit) : (m.s.size ≤ lim m.lm → Calls Tryz.prog 21 #[.agg (mkv m)] w fun e W' => ∃ b rb, e = .returned (.tuple #[.pointer (some ⟨b, 0, none⟩), .pointer (some ⟨rb, 0, none⟩), .bool true]) ∧ Md w m b rb W') ∧ (¬ m.s.size ≤ lim m.lm → Calls Tryz.prog 21 #[.agg (mkv m)] w fun e W' => e = .returned (.tuple #[.pointer none, .pointer none, .bool true]) ∧ Below w.heap.size w W') := by
  obtain ⟨W0, hW0⟩ : ∃ W0, w.alloc (.cells (mkv m) 44) = W0 := ⟨_, rfl⟩
  have hb0 : Below w.heap.size w W0 ∧ W0.heap[w.heap.size]? = some (.cells (mkv m) 44 (0, 0)) := by rw [← hW0]; exact ⟨(Below.refl _ w).alloc (Nat.le_refl _) _, World.alloc_heap_new w _⟩
  have HX : Hid (∀ W, Below W0.heap.size W0 W → W.cell? ⟨w.heap.size, 0, none⟩ = some (.int .i64 m.kd) ∧ W.cell? ⟨w.heap.size, 1, none⟩ = some (.int .i64 m.lo) ∧ W.cell? ⟨w.heap.size, 2, none⟩ = some (.int .i64 m.hi) ∧ W.cell? ⟨w.heap.size, 3, none⟩ = some (.int .i64 m.lm) ∧ W.cell? ⟨w.heap.size, 4, none⟩ = some (.string m.s)) := fun W hW => box5 ((hW.block _ (Array.getElem?_eq_some_iff.1 hb0.2).1).trans hb0.2)
  obtain ⟨c0, c1, c2, c3, c4⟩ := HX.out W0 (Below.refl _ _)
  refine ⟨fun hs => ?_, fun hs => ?_⟩
  · skip
    have C1 : Hid (Calls Tryz.prog 26 #[.int .i64 m.kd, .int .i64 m.lo, .int .i64 m.hi, .int .i64 m.lm, .string m.s] W0 fun e W' => ∃ b, e = .returned (.tuple #[.pointer (some ⟨b, 0, none⟩), .int .i64 0]) ∧ Hid (Se w b m.s (nwB m.kd m.lo m.hi (lim m.lm) m.s.size) (nwK m.kd m.lo m.hi (lim m.lm)) W' ∧ Below W0.heap.size W0 W')) := by
      refine (snew_ok W0 m.kd m.lo m.hi m.lm m.s hs ⟨hm.2.2.1.2, hm.2.2.1.1, hm.2.1.2, hm.2.1.1⟩ (hE.below hb0.1)).mono ?_
      rintro e W' ⟨b, q1, q2⟩
      exact ⟨b, q1, q2.se.up hb0.1, q2.se.bel⟩
    have C2 : Hid (∀ W b, Hid (Se w b m.s (nwB m.kd m.lo m.hi (lim m.lm) m.s.size) (nwK m.kd m.lo m.hi (lim m.lm)) W ∧ Below W0.heap.size W0 W) → Calls Tryz.prog 60 #[.int .i64 m.kd, .int .i64 m.lo, .int .i64 m.hi, .int .i64 m.lm, .string m.s] W fun e W' => ∃ rb, e = .returned (.tuple #[.pointer (some ⟨rb, 0, none⟩), .int .i64 0]) ∧ Hid (Md w m b rb W')) := fun W b hW => by
      refine (rnew9_ok W m.kd m.lo m.hi m.lm m.s hs ⟨hm.2.1.1, hm.2.1.2, hm.2.2.1.1, hm.2.2.1.2⟩).mono ?_
      rintro e W' ⟨rb, p, q1, q2, q3, q4, q5⟩
      have hz := hW.out.1.bel.size
      exact ⟨rb, q1, hW.out.1.below q3, p, q2, by omega, by omega⟩
    unfold mkv at hW0 ⊢
    generalize Md w m = MD at C2 ⊢
    clear hb0 hE hm hs
    go_enter Tryz.func21, Tryz.ntmps21
    go_wp2_with (first
      | (go_at_call 26; refine C1.out.mono ?_; clear C1 c0 c1 c2 c3 c4 hW0; rintro e w1 ⟨b, rfl, H1⟩; obtain ⟨c0, c1, c2, c3, c4⟩ := HX.out _ H1.out.2)
      | (go_at_call 60; refine (C2.out _ _ H1).mono ?_; clear C2 H1; rintro e w2 ⟨rb, rfl, H2⟩))
    exact bodyPost_ret (v := .tuple #[.pointer (some ⟨b, 0, none⟩), .pointer (some ⟨rb, 0, none⟩), .bool true]) (by simp [results, Tryz.results21, go_sem]) rfl ⟨b, rb, rfl, H2.out⟩
  · skip
    have C1 : Hid (Calls Tryz.prog 26 #[.int .i64 m.kd, .int .i64 m.lo, .int .i64 m.hi, .int .i64 m.lm, .string m.s] W0 fun e W' => e = .returned (.tuple #[.pointer none, .int .i64 2]) ∧ Hid (Below W0.heap.size W0 W')) := snew_no W0 m.kd m.lo m.hi m.lm m.s hs
    have C2 : Hid (∀ W, Hid (Below W0.heap.size W0 W) → Calls Tryz.prog 60 #[.int .i64 m.kd, .int .i64 m.lo, .int .i64 m.hi, .int .i64 m.lm, .string m.s] W fun e W' => e = .returned (.tuple #[.pointer none, .int .i64 2]) ∧ Hid (Below w.heap.size w W')) := fun W hW => (rnew9_no W m.kd m.lo m.hi m.lm m.s hs).mono fun e W' ⟨q1, q2⟩ => ⟨q1, Below.on hb0.1 (Below.on hW.out q2)⟩
    unfold mkv at hW0 ⊢
    clear hb0 hE hm hs
    go_enter Tryz.func21, Tryz.ntmps21
    go_wp2_with (first
      | (go_at_call 26; refine C1.out.mono ?_; clear C1 c0 c1 c2 c3 c4 hW0; rintro e w1 ⟨rfl, H1⟩; obtain ⟨c0, c1, c2, c3, c4⟩ := HX.out _ H1.out)
      | (go_at_call 60; refine (C2.out _ H1).mono ?_; clear C2 H1; rintro e w2 ⟨rfl, H2⟩))
    exact bodyPost_ret (v := .tuple #[.pointer none, .pointer none, .bool true]) (by simp [results, Tryz.results21, go_sem]) rfl ⟨rfl, H2.out⟩
end Go.Proofs.YtkmihnjmchfopaaGreatDoor.Sto
namespace Go.Proofs.YtkmihnjmchfopaaGreatDoor.Sto
open Go.RowKit Go.Shelf Bod Wid
open Gap (Gp Is gSlice gRng ext_all)

theorem catch_idle (p q : Addr) (w : World) :
    CallsD Tryz.prog 130 #[.pointer (some p), .pointer (some q)] .returning w fun e u' w' => e = .returned (.tuple #[]) ∧ u' = .returning ∧ w' = w := by
  refine callsD_of_wpS Tryz.func130 rfl fun c₀ cs hu => ?_
  apply wpS_seq
  apply wpS_region
  simp [wpOpsS, go_sem, recoverD, hu, Tryz.ntmps130, Exit.thenS]
  refine wpS_cond (t := false) (by simp [Act.eval, Array.replicate]) ?_
  simp only [Bool.false_eq_true, if_false]
  refine wpS_of_wp (wp_skip ?_)
  cases c₀
  simp_all [bodyPostS, results, Tryz.results130]
/-- v is a text behind the interface that tells s, in later worlds too -/
structure Tl (w : World) (v : Value) (s : ByteArray) : Prop where
  ex : ∃ T u fl fs, v = .iface T u ∧ (∀ W, (binOp .eql 115 (.iface T u) .nilIface).run Tryz.prog W = .ok (.bool false) W) ∧ Mt T u "Len" fl ∧ Mt T u "Slice" fs ∧ (∀ W, Below w.heap.size w W → Calls Tryz.prog fl #[u] W fun e W' => e = .returned (.int .i64 s.size) ∧ Below W.heap.size W W') ∧ ∀ W, Below w.heap.size w W → Calls Tryz.prog fs #[u, .int .i64 0, .int .i64 s.size] W fun e W' => e = .returned (.tuple #[.string s, .int .i64 0]) ∧ Below W.heap.size W W'
theorem gSlice_whole (s : ByteArray) : gSlice s 0 s.size = (s, 0) := by
  have h : gRng 0 s.size s.size = false := by simp [gRng]
  unfold gSlice
  rw [h]
  exact congrArg (·, (0 : Int)) (ext_all s)
theorem mt_slen (v : Value) : Mt 46 v "Len" 67 := ⟨fun W => by kernel_rfl, enters_of Tryz.func67 (by kernel_rfl) rfl⟩
theorem mt_sslice (v : Value) : Mt 46 v "Slice" 79 := ⟨fun W => by kernel_rfl, enters_of Tryz.func79 (by kernel_rfl) rfl⟩
theorem tl_store {w : World} {v : Value} {x : Option Tx} {k : Sk} {K : Kp} (h : Spt w v x k) (hH : Hold w (Tx.or x) K) : Tl w (.iface 46 v) K.text :=
  ⟨_, _, _, _, rfl, fun W => by kernel_rfl, mt_slen v, mt_sslice v, fun W hb => slen_any (h.below hb) (hH.below hb), fun W hb => by
    have := sslice_any (h.below hb) (hH.below hb) 0 K.text.size
    rw [gSlice_whole] at this
    exact this⟩
theorem tl_gap {w : World} {v : Value} {o : Option (Nat × Option Nat)} {g : Gp} {n : Nat} (h : Is w v o g n) : Tl w (.iface 76 v) g.s :=
  ⟨_, _, _, _, rfl, fun W => by kernel_rfl, mt_glen v, mt_gslice v, fun W hb => Gap.len_is (Gap.Is.below h hb), fun W hb => by
    have := Gap.slice_is (Gap.Is.below h hb) 0 g.s.size
    rw [gSlice_whole] at this
    exact this⟩
theorem Tl.below {w W : World} {v : Value} {s : ByteArray} (h : Tl w v s) (hb : Below w.heap.size w W) : Tl W v s := by
  obtain ⟨T, u, fl, fs, h1, h2, h3, h4, h5, h6⟩ := h.ex
  exact ⟨T, u, fl, fs, h1, h2, h3, h4, fun X hX => h5 X (Below.on hb hX), fun X hX => h6 X (Below.on hb hX)⟩
set_option maxRecDepth 100000 in
theorem whole_nil (w : World) : Calls Tryz.prog 86 #[.nilIface] w fun e W' => e = .returned (.tuple #[.string ⟨#[]⟩, .bool true]) ∧ Below w.heap.size w W' := by
  go_enter_defers Tryz.func86, Tryz.ntmps86
  go_wp2
  have a1 := (Below.refl _ w).alloc (Nat.le_refl _) (.cells #[.string ⟨#[]⟩] 9)
  have a2 := (Below.refl _ (w.alloc (.cells #[.string ⟨#[]⟩] 9))).alloc (Nat.le_refl _) (.cells #[.bool true] 4)
  have HB : Hid (Below w.heap.size w ((w.alloc (.cells #[.string ⟨#[]⟩] 9)).alloc (.cells #[.bool true] 4))) := Below.on a1 a2
  clear a1 a2
  simp [bodyPostD, Leaves, results, Tryz.results86, go_sem]
  exact HB.out
/-- the two boxes of whole -/
def Bw (w W : World) : Prop := W.heap[w.heap.size]? = some (.cells #[.string ⟨#[]⟩] 9 (0, 0)) ∧ W.heap[w.heap.size + 1]? = some (.cells #[.bool false] 4 (0, 0)) ∧ Below w.heap.size w W
theorem Bw.below {w W X : World} (h : Bw w W) (hb : Below W.heap.size W X) : Bw w X := ⟨(hb.block _ (Array.getElem?_eq_some_iff.1 h.1).1).trans h.1, (hb.block _ (Array.getElem?_eq_some_iff.1 h.2.1).1).trans h.2.1, Below.on h.2.2 hb⟩
theorem wp_calm {P : Program} {s : Code} {K : Act → World → Prop} {Q' : Exit → Act → World → Prop} {a : Act} {w : World} (h : s.wp P (Exit.then K (fun _ _ _ => False)) a w) : s.wp P (Exit.then K Q') a w :=
  wp_mono h (fun e _ _ q => by cases e <;> first | exact q | exact False.elim q)
theorem drew_below (W : World) : Below W.heap.size W W.drew := ⟨rfl, rfl, rfl, Nat.le_refl _, fun _ _ => rfl⟩
set_option maxRecDepth 100000 in
set_option maxHeartbeats 1000000 in
theorem whole_any {w : World} {v : Value} {s : ByteArray} (h : Tl w v s) : Calls Tryz.prog 86 #[v] w fun e W' => e = .returned (.tuple #[.string s, .bool true]) ∧ Below w.heap.size w W' := by
  obtain ⟨T, u, fl, fs, rfl, he, ⟨m1, m2⟩, ⟨m3, m4⟩, h5, h6⟩ := h.ex
  have hmf : ∀ (fn : Fn) (first cap : Array Value) (w : World), (Instr.makeFunc fn first cap).run Tryz.prog w = .ok (.func fn first cap) w := fun _ _ _ _ => rfl
  obtain ⟨W0, hW0⟩ : ∃ W0, (w.alloc (.cells #[.string ⟨#[]⟩] 9)).alloc (.cells #[.bool false] 4) = W0 := ⟨_, rfl⟩
  have hb0 : Bw w W0 := by
    have a1 := (Below.refl _ w).alloc (Nat.le_refl _) (.cells #[.string ⟨#[]⟩] 9)
    have a2 := (Below.refl _ (w.alloc (.cells #[.string ⟨#[]⟩] 9))).alloc (Nat.le_refl _) (.cells #[.bool false] 4)
    rw [← hW0]
    refine ⟨(a2.block _ (by simp)).trans (World.alloc_heap_new w _), ?_, Below.on a1 a2⟩
    have := World.alloc_heap_new (w.alloc (.cells #[.string ⟨#[]⟩] 9)) (.cells #[.bool false] 4)
    simpa using this
  obtain ⟨n, hn⟩ : ∃ n, s.size = n := ⟨_, rfl⟩
  have C1 : Hid (∀ W, Hid (Bw w W) → Calls Tryz.prog fl #[u] W fun e W' => e = .returned (.int .i64 n) ∧ Hid (Bw w W')) := fun W hW => (h5 W hW.out.2.2).mono fun e W' ⟨q1, q2⟩ => ⟨by rw [q1, hn], hW.out.below q2⟩
  have C2 : Hid (∀ W, Hid (Bw w W) → Calls Tryz.prog fs #[u, .int .i64 0, .int .i64 n] W fun e W' => e = .returned (.tuple #[.string s, .int .i64 0]) ∧ Hid (Bw w W')) := fun W hW => by
    have := h6 W hW.out.2.2
    rw [hn] at this
    exact this.mono fun e W' ⟨q1, q2⟩ => ⟨q1, hW.out.below q2⟩
  have HB0 : Hid (Bw w W0) := hb0
  clear h h5 h6 hn hb0
  go_enter_defers Tryz.func86, Tryz.ntmps86
  go_upto_region 4 with fail
  clear hW0
  refine wp_calm ?_
  go_region_with (first
    | (go_at_fn fl; guard_target = Calls _ _ _ (World.drew _) _; refine (C1.out _ (HB0.out.below (drew_below _))).mono ?_; clear C1; rintro e w1 ⟨rfl, HB⟩)
    | (go_at_fn fs; refine (C2.out _ HB).mono ?_; clear C2 HB; rintro e w2 ⟨rfl, HB⟩; have z0 : w2.cell? ⟨w.heap.size, 0, none⟩ = some (.string ⟨#[]⟩) := (by unfold World.cell?; rw [HB.out.1]; rfl); have f0 : w2.frozen? ⟨w.heap.size, 0, none⟩ = false := (by unfold World.frozen?; rw [HB.out.1]; rfl); have z1 : w2.cell? ⟨w.heap.size + 1, 0, none⟩ = some (.bool false) := (by unfold World.cell?; rw [HB.out.2.1]; rfl); have f1 : w2.frozen? ⟨w.heap.size + 1, 0, none⟩ = false := (by unfold World.frozen?; rw [HB.out.2.1]; rfl); have l0 : w.heap.size < w2.heap.size := (Array.getElem?_eq_some_iff.1 HB.out.1).1; have l1 : w.heap.size + 1 < w2.heap.size := (Array.getElem?_eq_some_iff.1 HB.out.2.1).1))
  all_goals go_wp2
  all_goals
    refine leaves_cons (f := 130) (args := #[.pointer (some ⟨w.heap.size, 0, none⟩), .pointer (some ⟨w.heap.size + 1, 0, none⟩)]) (by simp) (by simp [go_sem]) ?_
    refine (catch_idle ⟨w.heap.size, 0, none⟩ ⟨w.heap.size + 1, 0, none⟩ _).mono ?_
    rintro e u' w'' ⟨rfl, rfl, rfl⟩
    have h0 := set1 (i := 0) (.string s) HB.out.1
    have h1 := ((gcell w2 w.heap.size 0 (.string s)).block (w.heap.size + 1) l1 (fun e => by have := Option.some.inj e; omega)).trans HB.out.2.1
    have h2 := set1 (i := 0) (.string s) h0
    have h3 := ((gcell (w2.setCell ⟨w.heap.size, 0, none⟩ (.string s)) w.heap.size 0 (.string s)).block (w.heap.size + 1) (by simpa using l1) (fun e => by have := Option.some.inj e; omega)).trans h1
    have h4 := set1 (i := 0) (.bool true) h3
    have h5 := ((gcell ((w2.setCell ⟨w.heap.size, 0, none⟩ (.string s)).setCell ⟨w.heap.size, 0, none⟩ (.string s)) (w.heap.size + 1) 0 (.bool true)).block w.heap.size (by simpa using l0) (fun e => by have := Option.some.inj e; omega)).trans h2
    have hbX : Below w.heap.size w (((w2.setCell ⟨w.heap.size, 0, none⟩ (.string s)).setCell ⟨w.heap.size, 0, none⟩ (.string s)).setCell ⟨w.heap.size + 1, 0, none⟩ (.bool true)) := ((HB.out.2.2.setCell (p := ⟨w.heap.size, 0, none⟩) (Nat.le_refl _) _).setCell (p := ⟨w.heap.size, 0, none⟩) (Nat.le_refl _) _).setCell (p := ⟨w.heap.size + 1, 0, none⟩) (Nat.le_succ _) _
    generalize ((w2.setCell ⟨w.heap.size, 0, none⟩ (.string s)).setCell ⟨w.heap.size, 0, none⟩ (.string s)).setCell ⟨w.heap.size + 1, 0, none⟩ (.bool true) = X at h4 h5 hbX ⊢
    have y0 : X.cell? ⟨w.heap.size, 0, none⟩ = some (.string s) := by unfold World.cell?; rw [h5]; rfl
    have y1 : X.cell? ⟨w.heap.size + 1, 0, none⟩ = some (.bool true) := by unfold World.cell?; rw [h4]; rfl
    simp [Leaves, settle, results, Tryz.results86, go_sem, y0, y1]
    exact hbX
/-- a text behind the interface, or none -/
def Tn0 (w : World) (v : Value) (s : ByteArray) : Prop := (v = .nilIface ∧ s = ⟨#[]⟩) ∨ Tl w v s
theorem Tn0.below {w W : World} {v : Value} {s : ByteArray} (h : Tn0 w v s) (hb : Below w.heap.size w W) : Tn0 W v s := h.imp id (·.below hb)
theorem whole_tn {w : World} {v : Value} {s : ByteArray} (h : Tn0 w v s) : Calls Tryz.prog 86 #[v] w fun e W' => e = .returned (.tuple #[.string s, .bool true]) ∧ Below w.heap.size w W' := by
  rcases h with ⟨rfl, rfl⟩ | h
  · exact whole_nil w
  · exact whole_any h
set_option maxRecDepth 100000 in
theorem same_any {w : World} {u v : Value} {s t : ByteArray} (hu : Tn0 w u s) (hv : Tn0 w v t) : Calls Tryz.prog 32 #[u, v] w fun e W' => e = .returned (.bool (s.toList == t.toList)) ∧ Below w.heap.size w W' := by
  have C1 : Hid (Calls Tryz.prog 86 #[u] w fun e W' => e = .returned (.tuple #[.string s, .bool true]) ∧ Hid (Below w.heap.size w W')) := whole_tn hu
  have C2 : Hid (∀ W, Hid (Below w.heap.size w W) → Calls Tryz.prog 86 #[v] W fun e W' => e = .returned (.tuple #[.string t, .bool true]) ∧ Below w.heap.size w W') := fun W hW => (whole_tn (hv.below hW.out)).mono fun e W' ⟨q1, q2⟩ => ⟨q1, Below.on hW.out q2⟩
  have T1 : True := trivial
  clear hu hv
  go_enter Tryz.func32, Tryz.ntmps32
  go_wp2_with (first | (go_at_call 86; clear T1; refine C1.out.mono ?_; clear C1; rintro e w1 ⟨rfl, HB⟩) | (go_at_call 86; refine (C2.out _ HB).mono ?_; clear C2 HB; rintro e w2 ⟨rfl, hb⟩; have HB : Hid (Below w.heap.size w w2) := hb; clear hb))
  go_ret
  exact ⟨rfl, HB.out⟩
end Go.Proofs.YtkmihnjmchfopaaGreatDoor.Sto
