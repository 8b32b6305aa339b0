/-
  The laws' helpers, two stores side by side and two pairs of them, text by text. Conditions: those of each theorem.
-/
import Derived.Test.YtkmihnjmchfopaaGreatDoorKBase
import Derived.Deep.Slices
import Derived.Lib.SmallJoins
import Derived.OpenShut
import Derived.ProofKit
import Derived.SizedLaws
import Derived.Test.YtkmihnjmchfopaaGreatDoorTRefN
import Derived.Test.YtkmihnjmchfopaaGreatDoorPkTD
import Derived.Test.YtkmihnjmchfopaaGreatDoorPkTA
import Derived.Defers
import Derived.Recover
import Derived.Laws.Pointers
import Derived.BigQuiet
import Derived.Deep.QuietTactic
import Derived.Deep.RegionWith
import Derived.Below
import Derived.Deep.RegionHeld3
import Derived.Test.YtkmihnjmchfopaaGreatDoorPkP
import Derived.Test.YtkmihnjmchfopaaGreatDoorPkB
import Derived.Test.YtkmihnjmchfopaaGreatDoorPkYL
import Derived.Test.YtkmihnjmchfopaaGreatDoorCPlaces
import Derived.Test.YtkmihnjmchfopaaGreatDoorPkR
import Derived.Test.YtkmihnjmchfopaaGreatDoorGPkD
import Derived.Test.YtkmihnjmchfopaaGreatDoorGPkE
import Derived.Lib.SlBuf
namespace Go.Proofs.YtkmihnjmchfopaaGreatDoor.Sto
open Go.ChangeShapes Go.WideShapes Go.ChangeAt Go.RowKit Go.Deep

structure Oc where
  kd : Int
  a : Int
  c : Int
  p : ByteArray
/-- the numbers are of 64 bits -/
def Oc.fit (x : Oc) : Prop := (-9223372036854775808 ≤ x.kd ∧ x.kd ≤ 9223372036854775807) ∧ (-9223372036854775808 ≤ x.a ∧ x.a ≤ 9223372036854775807) ∧ (-9223372036854775808 ≤ x.c ∧ x.c ≤ 9223372036854775807)
def ocs (x : Oc) : List Value := [.int .i64 x.kd, .int .i64 x.a, .int .i64 x.c, .string x.p]
/-- the calls' letters, and one for each call -/
def obk : List Oc → Nat
  | [] => 0
  | x :: l => x.p.size + 1 + obk l
/-- a slice that reads as calls -/
def RdC (W : World) (v : Value) (l : List Oc) : Prop :=
  ∃ a cap, v = .slice a l.length cap ∧ (l ≠ [] → ∃ g o, a = some ⟨g, o, none⟩ ∧ g < W.heap.size ∧ ∀ k x, l[k]? = some x →
    W.cell? ⟨g, o + k * 4, none⟩ = some (.int .i64 x.kd) ∧ W.cell? ⟨g, o + k * 4 + 1, none⟩ = some (.int .i64 x.a) ∧ W.cell? ⟨g, o + k * 4 + 2, none⟩ = some (.int .i64 x.c) ∧ W.cell? ⟨g, o + k * 4 + 3, none⟩ = some (.string x.p))
theorem RdC.below {W W' : World} {n : Nat} {v : Value} {l : List Oc} (h : RdC W v l) (hn : W.heap.size ≤ n) (hb : Below n W W') : RdC W' v l := by
  obtain ⟨a, cap, e, h⟩ := h
  refine ⟨a, cap, e, fun h0 => ?_⟩
  obtain ⟨g, o, e, hg, hc⟩ := h h0
  refine ⟨g, o, e, by have := hb.size; omega, fun k x hk => ?_⟩
  obtain ⟨c0, c1, c2, c3⟩ := hc k x hk
  have kp : ∀ i v, W.cell? ⟨g, i, none⟩ = some v → W'.cell? ⟨g, i, none⟩ = some v := fun i v h => (hb.cell (p := ⟨g, i, none⟩) (by simp; omega)).trans h
  exact ⟨kp _ _ c0, kp _ _ c1, kp _ _ c2, kp _ _ c3⟩
theorem obk_range {H : Type} (f : Nat → Oc) (D : Nat → DataW H) : ∀ n, (∀ i, i < n → (f i).p.size + 1 ≤ Rows.uptoBulk (D i)) → ∀ k, k ≤ n → obk ((List.range k).map f) ≤ Rows.uptoBulkAll ((List.range k).map D) := by
  intro n h k hk
  have ea : ∀ a b : List Oc, obk (a ++ b) = obk a + obk b := fun a b => by
    induction a with
    | nil => simp [obk]
    | cons x a ih => simp only [List.cons_append, obk, ih]; omega
  have ba : ∀ a b : List (DataW H), Rows.uptoBulkAll (a ++ b) = Rows.uptoBulkAll a + Rows.uptoBulkAll b := fun a b => by
    induction a with
    | nil => simp [Rows.uptoBulkAll]
    | cons x a ih => simp only [List.cons_append, Rows.uptoBulkAll, ih]; omega
  induction k with
  | zero => simp [obk]
  | succ k ih =>
    rw [List.range_succ, List.map_append, List.map_append, ea, ba]
    have := ih (by omega)
    have := h k (by omega)
    simp only [List.map_cons, List.map_nil, obk, Rows.uptoBulkAll]
    omega
set_option maxRecDepth 100000 in
/-- one element's cells, read as a call -/
theorem oc_open {H : Type} {enc : TypeId × Value → H} {W : World} {base : Nat} {sp : Nat → Bool} {hd : Bool} {n : Nat} {cs : List Value} {d : DataW H × List MemPlace} {f0 f1 f2 f3 : Field}
    (hs : Tryz.prog.underlying 59 = some (.struct #[f0, f1, f2, f3])) (o0 : f0.offset = 0) (o1 : f1.offset = 1) (o2 : f2.offset = 2) (o3 : f3.offset = 3)
    (t0 : f0.type = 3) (t1 : f1.type = 3) (t2 : f2.type = 3) (t3 : f3.type = 9) (hl : cs.length = 4)
    (h : DataW.trod enc Tryz.prog W base sp hd n 59 cs = some d) :
    ∃ x : Oc, cs = ocs x ∧ x.p.size + 1 ≤ Rows.uptoBulk d.1 ∧ x.fit := by
  obtain ⟨xs, k, hk, hxy, _, hxl, hf⟩ := DataW.trod_struct hs h
  have c3 : Tryz.prog.cellsOf 3 = 1 := by kernel_rfl
  have c9 : Tryz.prog.cellsOf 9 = 1 := by kernel_rfl
  match xs, hxl, cs, hl with
  | [y0, y1, y2, y3], _, [v0, v1, v2, v3], _ =>
    have g0 := hf 0 f0 rfl
    have g1 := hf 1 f1 rfl
    have g2 := hf 2 f2 rfl
    have g3 := hf 3 f3 rfl
    simp [o0, t0, c3] at g0
    simp [o1, t1, c3] at g1
    simp [o2, t2, c3] at g2
    simp [o3, t3, c9] at g3
    obtain ⟨k0, e0, _, b0⟩ := DataW.trod_int Tryz.underlying3 g0
    obtain ⟨k1, e1, _, b1⟩ := DataW.trod_int Tryz.underlying3 g1
    obtain ⟨k2, e2, _, b2⟩ := DataW.trod_int Tryz.underlying3 g2
    obtain ⟨s3, e3, q3, _⟩ := DataW.trod_string Tryz.underlying9 g3
    simp at e0 e1 e2 e3
    subst e0 e1 e2 e3
    have hd1 : d.1 = .agg [y0.1, y1.1, y2.1, y3.1] := congrArg Prod.fst hxy
    refine ⟨⟨k0, k1, k2, s3⟩, rfl, ?_, bounds_i64 b0, bounds_i64 b1, bounds_i64 b2⟩
    have q4 : y3.1 = .lit (.string s3.data.toList) := congrArg Prod.fst q3
    rw [hd1]
    simp only [Rows.uptoBulk, Rows.uptoBulkAll, q4]
    rw [Lib.size_eq]
    omega
theorem ocs_of {H : Type} {enc : TypeId × Value → H} {W : World} {base : Nat} {sp : Nat → Bool} {hd : Bool} {fuel : Nat} {a : Option Addr} {len cap : Nat} {d : DataW H} {p : List MemPlace}
    (h : DataW.trod enc Tryz.prog W base sp hd fuel 45 [.slice a len cap] = some (d, p)) :
    ∃ l : List Oc, RdC W (.slice a len cap) l ∧ (obk l ≤ Rows.uptoBulk d ∧ ∀ x ∈ l, x.fit) := by
  rcases open_slice Tryz.underlying45 h with ⟨hcs, _⟩ | ⟨x, l, c, m, n, D, Pl, hcs, _, hl, hm, hmm, hx, hcell⟩
  · simp at hcs
    obtain ⟨rfl, rfl, rfl⟩ := hcs
    exact ⟨[], ⟨none, 0, rfl, fun h => absurd rfl h⟩, Nat.zero_le _, fun x h => by cases h⟩
  · simp at hcs
    obtain ⟨rfl, rfl, rfl⟩ := hcs
    have hlm : len ≤ m := by rw [hmm]; split <;> omega
    have ce : Tryz.prog.cellsOf 59 = 4 := by kernel_rfl
    have each : ∀ i, i < len → ∃ y : Oc, (∀ j, j < 4 → W.cell? (x.add (i * 4 + j)) = (ocs y)[j]?) ∧ y.p.size + 1 ≤ Rows.uptoBulk (D i) ∧ y.fit := fun i hi => by
      obtain ⟨cs', h1, h2⟩ := hcell i (by omega)
      rw [ce] at h1
      obtain ⟨_, hlen, hc⟩ := World.cells?_some h1
      obtain ⟨y, hy, hy2⟩ := oc_open Tryz.underlying59 rfl rfl rfl rfl rfl rfl rfl rfl hlen h2
      refine ⟨y, fun j hj => ?_, hy2⟩
      have := hc j hj
      rw [add_add, hy] at this
      exact this
    have : Inhabited Oc := ⟨⟨0, 0, 0, ByteArray.empty⟩⟩
    obtain ⟨f, hf⟩ := choose_lt each
    have hd : d = .slice ((List.range len).map D) ((List.range (m - len)).map fun j => D (len + j)) := congrArg Prod.fst hx
    refine ⟨(List.range len).map f, ⟨some x, cap, by simp, fun h0 => ?_⟩, ?_, fun y hy => ?_⟩
    · have hpos : 0 < len := by
        rcases Nat.eq_zero_or_pos len with e | e
        · rw [e] at h0; exact absurd rfl h0
        · exact e
      obtain ⟨b, off, spot⟩ := x
      have h00 := (hf 0 hpos).1 0 (by omega)
      have h00' : W.cell? (Addr.add ⟨b, off, spot⟩ (0 * 4 + 0)) = some (.int .i64 (f 0).kd) := h00
      have hspot : spot = none := by simpa [Addr.add] using World.cell?_spot h00'
      subst hspot
      refine ⟨b, off, rfl, ?_, fun k y hk => ?_⟩
      · rw [Go.WideShapes.add_plain] at h00'
        unfold World.cell? at h00'
        cases ho : W.heap[b]? with
        | none => simp [ho] at h00'
        | some o => exact (Array.getElem?_eq_some_iff.1 ho).1
      · have hkl : k < len := by have := (List.getElem?_eq_some_iff.1 hk).1; simpa using this
        have hy : y = f k := by
          rw [List.getElem?_map, List.getElem?_range hkl] at hk
          simpa using hk.symm
        subst hy
        have at' : ∀ j, j < 4 → W.cell? ⟨b, off + k * 4 + j, none⟩ = (ocs (f k))[j]? := fun j hj => by
          have := (hf k hkl).1 j hj
          rw [Go.WideShapes.add_plain, ← Nat.add_assoc] at this
          exact this
        exact ⟨at' 0 (by omega), at' 1 (by omega), at' 2 (by omega), at' 3 (by omega)⟩
    · rw [hd]
      have := obk_range f D len (fun i hi => (hf i hi).2.1) len (Nat.le_refl _)
      simp only [Rows.uptoBulk]
      omega
    · obtain ⟨i, hi, rfl⟩ := List.mem_map.1 hy
      exact (hf i (List.mem_range.1 hi)).2.2
/-- what a store is made of -/
structure Mk where
  kd : Int
  lo : Int
  hi : Int
  lm : Int
  s : ByteArray
def Mk.fit (x : Mk) : Prop := (-9223372036854775808 ≤ x.kd ∧ x.kd ≤ 9223372036854775807) ∧ (-9223372036854775808 ≤ x.lo ∧ x.lo ≤ 9223372036854775807) ∧ (-9223372036854775808 ≤ x.hi ∧ x.hi ≤ 9223372036854775807) ∧ (-9223372036854775808 ≤ x.lm ∧ x.lm ≤ 9223372036854775807)
def mkv (x : Mk) : Array Value := #[.int .i64 x.kd, .int .i64 x.lo, .int .i64 x.hi, .int .i64 x.lm, .string x.s]
set_option maxRecDepth 100000 in
theorem make_open {H : Type} {enc : TypeId × Value → H} {W : World} {base b0 : Nat} {sp : Nat → Bool} {hd : Bool} {r : Reach} {v : Value} {d : DataW H} {p : List MemPlace}
    (hv : Value.okWide Tryz.prog W r b0 44 v) (h : DataW.Trod enc Tryz.prog W base sp hd 44 v d p) : ∃ x : Mk, v = .agg (mkv x) ∧ x.s.size + 5 ≤ Rows.uptoBulk d ∧ x.fit := by
  obtain ⟨cs, rfl, hsz⟩ := okWide_struct Tryz.underlying44 hv
  obtain ⟨n, h⟩ := h
  have ce : Tryz.prog.cellsOf 44 = 5 := by kernel_rfl
  have c3 : Tryz.prog.cellsOf 3 = 1 := by kernel_rfl
  have c9 : Tryz.prog.cellsOf 9 = 1 := by kernel_rfl
  have cK : Tryz.prog.cellsOf 42 = 1 := by kernel_rfl
  rw [ce] at hsz
  obtain ⟨xs, k, hk, hxy, _, hxl, hf⟩ := DataW.trod_struct Tryz.underlying44 h
  have hl : cs.toList.length = 5 := by simpa using hsz
  obtain ⟨v0, v1, v2, v3, v4, rfl⟩ : ∃ v0 v1 v2 v3 v4, cs = #[v0, v1, v2, v3, v4] := by
    obtain ⟨l⟩ := cs
    match l, hl with
    | [v0, v1, v2, v3, v4], _ => exact ⟨v0, v1, v2, v3, v4, rfl⟩
  match xs, hxl with
  | [y0, y1, y2, y3, y4], _ =>
    have g0 := hf 0 _ rfl
    have g1 := hf 1 _ rfl
    have g2 := hf 2 _ rfl
    have g3 := hf 3 _ rfl
    have g4 := hf 4 _ rfl
    simp [cK, Value.cells] at g0
    simp [c3, Value.cells] at g1 g2 g3
    simp [c9, Value.cells] at g4
    obtain ⟨k0, e0, _, b0⟩ := DataW.trod_int Tryz.underlying42 g0
    obtain ⟨k1, e1, _, b1⟩ := DataW.trod_int Tryz.underlying3 g1
    obtain ⟨k2, e2, _, b2⟩ := DataW.trod_int Tryz.underlying3 g2
    obtain ⟨k3, e3, _, b3⟩ := DataW.trod_int Tryz.underlying3 g3
    obtain ⟨s4, e4, q4, _⟩ := DataW.trod_string Tryz.underlying9 g4
    simp at e0 e1 e2 e3 e4
    subst e0 e1 e2 e3 e4
    refine ⟨⟨k0, k1, k2, k3, s4⟩, rfl, ?_, bounds_i64 b0, bounds_i64 b1, bounds_i64 b2, bounds_i64 b3⟩
    have hd1 : d = .agg [y0.1, y1.1, y2.1, y3.1, y4.1] := congrArg Prod.fst hxy
    have q5 : y4.1 = .lit (.string s4.data.toList) := congrArg Prod.fst q4
    have u : ∀ x : DataW H, 1 ≤ Rows.uptoBulk x := fun x => by
      cases x with
      | lit l => cases l <;> simp [Rows.uptoBulk]
      | _ => simp [Rows.uptoBulk]
    have u0 := u y0.1
    have u1 := u y1.1
    have u2 := u y2.1
    have u3 := u y3.1
    rw [hd1]
    simp only [Rows.uptoBulk, Rows.uptoBulkAll, q5]
    rw [Lib.size_eq]
    omega
end Go.Proofs.YtkmihnjmchfopaaGreatDoor.Sto
namespace Go.Proofs.YtkmihnjmchfopaaGreatDoor.Sto
open Go.RowKit Go.Shelf Bod Wid
open Gap (Gp lim)

theorem box5 {W : World} {b : Nat} {v0 v1 v2 v3 v4 : Value} {t : TypeId} (h : W.heap[b]? = some (.cells #[v0, v1, v2, v3, v4] t (0, 0))) : W.cell? ⟨b, 0, none⟩ = some v0 ∧ W.cell? ⟨b, 1, none⟩ = some v1 ∧ W.cell? ⟨b, 2, none⟩ = some v2 ∧ W.cell? ⟨b, 3, none⟩ = some v3 ∧ W.cell? ⟨b, 4, none⟩ = some v4 := by
  refine ⟨?_, ?_, ?_, ?_, ?_⟩ <;> (unfold World.cell?; rw [h]; rfl)
/-- the backend of a new store -/
def nwB (kind lo hi : Int) (l z : Nat) : Int := if kind = 2 ∨ misK none (nwK kind lo hi l) z then 2 else 1
/-- what made leaves, where there is a store -/
def Md (w : World) (m : Mk) (b rb : Nat) (W : World) : Prop := Se w b m.s (nwB m.kd m.lo m.hi (lim m.lm) m.s.size) (nwK m.kd m.lo m.hi (lim m.lm)) W ∧ ∃ p, Rf W rb p ⟨m.s, m.s.size, lim m.lm⟩ (rnwK m.kd m.lo m.hi m.s.size) ∧ w.heap.size ≤ rb ∧ w.heap.size ≤ p
set_option maxRecDepth 100000 in
set_option maxHeartbeats 1000000 in
theorem made_any (w : World) (hE : Ev w) (m : Mk) (hm : m.fit) : (m.s.size ≤ lim m.lm → Calls Tryz.prog 21 #[.agg (mkv m)] w fun e W' => ∃ b rb, e = .returned (.tuple #[.pointer (some ⟨b, 0, none⟩), .pointer (some ⟨rb, 0, none⟩), .bool true]) ∧ Md w m b rb W') ∧ (¬ m.s.size ≤ lim m.lm → Calls Tryz.prog 21 #[.agg (mkv m)] w fun e W' => e = .returned (.tuple #[.pointer none, .pointer none, .bool true]) ∧ Below w.heap.size w W') := by
  obtain ⟨W0, hW0⟩ : ∃ W0, w.alloc (.cells (mkv m) 44) = W0 := ⟨_, rfl⟩
  have hb0 : Below w.heap.size w W0 ∧ W0.heap[w.heap.size]? = some (.cells (mkv m) 44 (0, 0)) := by rw [← hW0]; exact ⟨(Below.refl _ w).alloc (Nat.le_refl _) _, World.alloc_heap_new w _⟩
  have HX : Hid (∀ W, Below W0.heap.size W0 W → W.cell? ⟨w.heap.size, 0, none⟩ = some (.int .i64 m.kd) ∧ W.cell? ⟨w.heap.size, 1, none⟩ = some (.int .i64 m.lo) ∧ W.cell? ⟨w.heap.size, 2, none⟩ = some (.int .i64 m.hi) ∧ W.cell? ⟨w.heap.size, 3, none⟩ = some (.int .i64 m.lm) ∧ W.cell? ⟨w.heap.size, 4, none⟩ = some (.string m.s)) := fun W hW => box5 ((hW.block _ (Array.getElem?_eq_some_iff.1 hb0.2).1).trans hb0.2)
  obtain ⟨c0, c1, c2, c3, c4⟩ := HX.out W0 (Below.refl _ _)
  refine ⟨fun hs => ?_, fun hs => ?_⟩
  · skip
    have C1 : Hid (Calls Tryz.prog 26 #[.int .i64 m.kd, .int .i64 m.lo, .int .i64 m.hi, .int .i64 m.lm, .string m.s] W0 fun e W' => ∃ b, e = .returned (.tuple #[.pointer (some ⟨b, 0, none⟩), .int .i64 0]) ∧ Hid (Se w b m.s (nwB m.kd m.lo m.hi (lim m.lm) m.s.size) (nwK m.kd m.lo m.hi (lim m.lm)) W' ∧ Below W0.heap.size W0 W')) := by
      refine (snew_ok W0 m.kd m.lo m.hi m.lm m.s hs ⟨hm.2.2.1.2, hm.2.2.1.1, hm.2.1.2, hm.2.1.1⟩ (hE.below hb0.1)).mono ?_
      rintro e W' ⟨b, q1, q2⟩
      exact ⟨b, q1, q2.se.up hb0.1, q2.se.bel⟩
    have C2 : Hid (∀ W b, Hid (Se w b m.s (nwB m.kd m.lo m.hi (lim m.lm) m.s.size) (nwK m.kd m.lo m.hi (lim m.lm)) W ∧ Below W0.heap.size W0 W) → Calls Tryz.prog 60 #[.int .i64 m.kd, .int .i64 m.lo, .int .i64 m.hi, .int .i64 m.lm, .string m.s] W fun e W' => ∃ rb, e = .returned (.tuple #[.pointer (some ⟨rb, 0, none⟩), .int .i64 0]) ∧ Hid (Md w m b rb W')) := fun W b hW => by
      refine (rnew9_ok W m.kd m.lo m.hi m.lm m.s hs ⟨hm.2.1.1, hm.2.1.2, hm.2.2.1.1, hm.2.2.1.2⟩).mono ?_
      rintro e W' ⟨rb, p, q1, q2, q3, q4, q5⟩
      have hz := hW.out.1.bel.size
      exact ⟨rb, q1, hW.out.1.below q3, p, q2, by omega, by omega⟩
    unfold mkv at hW0 ⊢
    generalize Md w m = MD at C2 ⊢
    clear hb0 hE hm hs
    go_enter Tryz.func21, Tryz.ntmps21
    go_wp2_with (first
      | (go_at_call 26; refine C1.out.mono ?_; clear C1 c0 c1 c2 c3 c4 hW0; rintro e w1 ⟨b, rfl, H1⟩; obtain ⟨c0, c1, c2, c3, c4⟩ := HX.out _ H1.out.2)
      | (go_at_call 60; refine (C2.out _ _ H1).mono ?_; clear C2 H1; rintro e w2 ⟨rb, rfl, H2⟩))
    exact bodyPost_ret (v := .tuple #[.pointer (some ⟨b, 0, none⟩), .pointer (some ⟨rb, 0, none⟩), .bool true]) (by simp [results, Tryz.results21, go_sem]) rfl ⟨b, rb, rfl, H2.out⟩
  · skip
    have C1 : Hid (Calls Tryz.prog 26 #[.int .i64 m.kd, .int .i64 m.lo, .int .i64 m.hi, .int .i64 m.lm, .string m.s] W0 fun e W' => e = .returned (.tuple #[.pointer none, .int .i64 2]) ∧ Hid (Below W0.heap.size W0 W')) := snew_no W0 m.kd m.lo m.hi m.lm m.s hs
    have C2 : Hid (∀ W, Hid (Below W0.heap.size W0 W) → Calls Tryz.prog 60 #[.int .i64 m.kd, .int .i64 m.lo, .int .i64 m.hi, .int .i64 m.lm, .string m.s] W fun e W' => e = .returned (.tuple #[.pointer none, .int .i64 2]) ∧ Hid (Below w.heap.size w W')) := fun W hW => (rnew9_no W m.kd m.lo m.hi m.lm m.s hs).mono fun e W' ⟨q1, q2⟩ => ⟨q1, Below.on hb0.1 (Below.on hW.out q2)⟩
    unfold mkv at hW0 ⊢
    clear hb0 hE hm hs
    go_enter Tryz.func21, Tryz.ntmps21
    go_wp2_with (first
      | (go_at_call 26; refine C1.out.mono ?_; clear C1 c0 c1 c2 c3 c4 hW0; rintro e w1 ⟨rfl, H1⟩; obtain ⟨c0, c1, c2, c3, c4⟩ := HX.out _ H1.out)
      | (go_at_call 60; refine (C2.out _ H1).mono ?_; clear C2 H1; rintro e w2 ⟨rfl, H2⟩))
    exact bodyPost_ret (v := .tuple #[.pointer none, .pointer none, .bool true]) (by simp [results, Tryz.results21, go_sem]) rfl ⟨rfl, H2.out⟩
end Go.Proofs.YtkmihnjmchfopaaGreatDoor.Sto
namespace Go.Proofs.YtkmihnjmchfopaaGreatDoor.Sto
open Go.RowKit Go.Shelf Bod Wid
open Gap (Gp Is gSlice gRng ext_all)

theorem catch_idle (p q : Addr) (w : World) :
    CallsD Tryz.prog 130 #[.pointer (some p), .pointer (some q)] .returning w fun e u' w' => e = .returned (.tuple #[]) ∧ u' = .returning ∧ w' = w := by
  refine callsD_of_wpS Tryz.func130 rfl fun c₀ cs hu => ?_
  apply wpS_seq
  apply wpS_region
  simp [wpOpsS, go_sem, recoverD, hu, Tryz.ntmps130, Exit.thenS]
  refine wpS_cond (t := false) (by simp [Act.eval, Array.replicate]) ?_
  simp only [Bool.false_eq_true, if_false]
  refine wpS_of_wp (wp_skip ?_)
  cases c₀
  simp_all [bodyPostS, results, Tryz.results130]
/-- v is a text behind the interface that tells s, in later worlds too -/
structure Tl (w : World) (v : Value) (s : ByteArray) : Prop where
  ex : ∃ T u fl fs, v = .iface T u ∧ (∀ W, (binOp .eql 115 (.iface T u) .nilIface).run Tryz.prog W = .ok (.bool false) W) ∧ Mt T u "Len" fl ∧ Mt T u "Slice" fs ∧ (∀ W, Below w.heap.size w W → Calls Tryz.prog fl #[u] W fun e W' => e = .returned (.int .i64 s.size) ∧ Below W.heap.size W W') ∧ ∀ W, Below w.heap.size w W → Calls Tryz.prog fs #[u, .int .i64 0, .int .i64 s.size] W fun e W' => e = .returned (.tuple #[.string s, .int .i64 0]) ∧ Below W.heap.size W W'
theorem gSlice_whole (s : ByteArray) : gSlice s 0 s.size = (s, 0) := by
  have h : gRng 0 s.size s.size = false := by simp [gRng]
  unfold gSlice
  rw [h]
  exact congrArg (·, (0 : Int)) (ext_all s)
theorem mt_slen (v : Value) : Mt 46 v "Len" 67 := ⟨fun W => by kernel_rfl, enters_of Tryz.func67 (by kernel_rfl) rfl⟩
theorem mt_sslice (v : Value) : Mt 46 v "Slice" 79 := ⟨fun W => by kernel_rfl, enters_of Tryz.func79 (by kernel_rfl) rfl⟩
theorem tl_store {w : World} {v : Value} {x : Option Tx} {k : Sk} {K : Kp} (h : Spt w v x k) (hH : Hold w (Tx.or x) K) : Tl w (.iface 46 v) K.text :=
  ⟨_, _, _, _, rfl, fun W => by kernel_rfl, mt_slen v, mt_sslice v, fun W hb => slen_any (h.below hb) (hH.below hb), fun W hb => by
    have := sslice_any (h.below hb) (hH.below hb) 0 K.text.size
    rw [gSlice_whole] at this
    exact this⟩
theorem tl_gap {w : World} {v : Value} {o : Option (Nat × Option Nat)} {g : Gp} {n : Nat} (h : Is w v o g n) : Tl w (.iface 76 v) g.s :=
  ⟨_, _, _, _, rfl, fun W => by kernel_rfl, mt_glen v, mt_gslice v, fun W hb => Gap.len_is (Gap.Is.below h hb), fun W hb => by
    have := Gap.slice_is (Gap.Is.below h hb) 0 g.s.size
    rw [gSlice_whole] at this
    exact this⟩
theorem Tl.below {w W : World} {v : Value} {s : ByteArray} (h : Tl w v s) (hb : Below w.heap.size w W) : Tl W v s := by
  obtain ⟨T, u, fl, fs, h1, h2, h3, h4, h5, h6⟩ := h.ex
  exact ⟨T, u, fl, fs, h1, h2, h3, h4, fun X hX => h5 X (Below.on hb hX), fun X hX => h6 X (Below.on hb hX)⟩
set_option maxRecDepth 100000 in
theorem whole_nil (w : World) : Calls Tryz.prog 86 #[.nilIface] w fun e W' => e = .returned (.tuple #[.string ⟨#[]⟩, .bool true]) ∧ Below w.heap.size w W' := by
  go_enter_defers Tryz.func86, Tryz.ntmps86
  go_wp2
  have a1 := (Below.refl _ w).alloc (Nat.le_refl _) (.cells #[.string ⟨#[]⟩] 9)
  have a2 := (Below.refl _ (w.alloc (.cells #[.string ⟨#[]⟩] 9))).alloc (Nat.le_refl _) (.cells #[.bool true] 4)
  have HB : Hid (Below w.heap.size w ((w.alloc (.cells #[.string ⟨#[]⟩] 9)).alloc (.cells #[.bool true] 4))) := Below.on a1 a2
  clear a1 a2
  simp [bodyPostD, Leaves, results, Tryz.results86, go_sem]
  exact HB.out
/-- the two boxes of whole -/
def Bw (w W : World) : Prop := W.heap[w.heap.size]? = some (.cells #[.string ⟨#[]⟩] 9 (0, 0)) ∧ W.heap[w.heap.size + 1]? = some (.cells #[.bool false] 4 (0, 0)) ∧ Below w.heap.size w W
theorem Bw.below {w W X : World} (h : Bw w W) (hb : Below W.heap.size W X) : Bw w X := ⟨(hb.block _ (Array.getElem?_eq_some_iff.1 h.1).1).trans h.1, (hb.block _ (Array.getElem?_eq_some_iff.1 h.2.1).1).trans h.2.1, Below.on h.2.2 hb⟩
theorem wp_calm {P : Program} {s : Code} {K : Act → World → Prop} {Q' : Exit → Act → World → Prop} {a : Act} {w : World} (h : s.wp P (Exit.then K (fun _ _ _ => False)) a w) : s.wp P (Exit.then K Q') a w :=
  wp_mono h (fun e _ _ q => by cases e <;> first | exact q | exact False.elim q)
theorem drew_below (W : World) : Below W.heap.size W W.drew := ⟨rfl, rfl, rfl, Nat.le_refl _, fun _ _ => rfl⟩
set_option maxRecDepth 100000 in
set_option maxHeartbeats 1000000 in
theorem whole_any {w : World} {v : Value} {s : ByteArray} (h : Tl w v s) : Calls Tryz.prog 86 #[v] w fun e W' => e = .returned (.tuple #[.string s, .bool true]) ∧ Below w.heap.size w W' := by
  obtain ⟨T, u, fl, fs, rfl, he, ⟨m1, m2⟩, ⟨m3, m4⟩, h5, h6⟩ := h.ex
  have hmf : ∀ (fn : Fn) (first cap : Array Value) (w : World), (Instr.makeFunc fn first cap).run Tryz.prog w = .ok (.func fn first cap) w := fun _ _ _ _ => rfl
  obtain ⟨W0, hW0⟩ : ∃ W0, (w.alloc (.cells #[.string ⟨#[]⟩] 9)).alloc (.cells #[.bool false] 4) = W0 := ⟨_, rfl⟩
  have hb0 : Bw w W0 := by
    have a1 := (Below.refl _ w).alloc (Nat.le_refl _) (.cells #[.string ⟨#[]⟩] 9)
    have a2 := (Below.refl _ (w.alloc (.cells #[.string ⟨#[]⟩] 9))).alloc (Nat.le_refl _) (.cells #[.bool false] 4)
    rw [← hW0]
    refine ⟨(a2.block _ (by simp)).trans (World.alloc_heap_new w _), ?_, Below.on a1 a2⟩
    have := World.alloc_heap_new (w.alloc (.cells #[.string ⟨#[]⟩] 9)) (.cells #[.bool false] 4)
    simpa using this
  obtain ⟨n, hn⟩ : ∃ n, s.size = n := ⟨_, rfl⟩
  have C1 : Hid (∀ W, Hid (Bw w W) → Calls Tryz.prog fl #[u] W fun e W' => e = .returned (.int .i64 n) ∧ Hid (Bw w W')) := fun W hW => (h5 W hW.out.2.2).mono fun e W' ⟨q1, q2⟩ => ⟨by rw [q1, hn], hW.out.below q2⟩
  have C2 : Hid (∀ W, Hid (Bw w W) → Calls Tryz.prog fs #[u, .int .i64 0, .int .i64 n] W fun e W' => e = .returned (.tuple #[.string s, .int .i64 0]) ∧ Hid (Bw w W')) := fun W hW => by
    have := h6 W hW.out.2.2
    rw [hn] at this
    exact this.mono fun e W' ⟨q1, q2⟩ => ⟨q1, hW.out.below q2⟩
  have HB0 : Hid (Bw w W0) := hb0
  clear h h5 h6 hn hb0
  go_enter_defers Tryz.func86, Tryz.ntmps86
  go_upto_region 4 with fail
  clear hW0
  refine wp_calm ?_
  go_region_with (first
    | (go_at_fn fl; guard_target = Calls _ _ _ (World.drew _) _; refine (C1.out _ (HB0.out.below (drew_below _))).mono ?_; clear C1; rintro e w1 ⟨rfl, HB⟩)
    | (go_at_fn fs; refine (C2.out _ HB).mono ?_; clear C2 HB; rintro e w2 ⟨rfl, HB⟩; have z0 : w2.cell? ⟨w.heap.size, 0, none⟩ = some (.string ⟨#[]⟩) := (by unfold World.cell?; rw [HB.out.1]; rfl); have f0 : w2.frozen? ⟨w.heap.size, 0, none⟩ = false := (by unfold World.frozen?; rw [HB.out.1]; rfl); have z1 : w2.cell? ⟨w.heap.size + 1, 0, none⟩ = some (.bool false) := (by unfold World.cell?; rw [HB.out.2.1]; rfl); have f1 : w2.frozen? ⟨w.heap.size + 1, 0, none⟩ = false := (by unfold World.frozen?; rw [HB.out.2.1]; rfl); have l0 : w.heap.size < w2.heap.size := (Array.getElem?_eq_some_iff.1 HB.out.1).1; have l1 : w.heap.size + 1 < w2.heap.size := (Array.getElem?_eq_some_iff.1 HB.out.2.1).1))
  all_goals go_wp2
  all_goals
    refine leaves_cons (f := 130) (args := #[.pointer (some ⟨w.heap.size, 0, none⟩), .pointer (some ⟨w.heap.size + 1, 0, none⟩)]) (by simp) (by simp [go_sem]) ?_
    refine (catch_idle ⟨w.heap.size, 0, none⟩ ⟨w.heap.size + 1, 0, none⟩ _).mono ?_
    rintro e u' w'' ⟨rfl, rfl, rfl⟩
    have h0 := set1 (i := 0) (.string s) HB.out.1
    have h1 := ((gcell w2 w.heap.size 0 (.string s)).block (w.heap.size + 1) l1 (fun e => by have := Option.some.inj e; omega)).trans HB.out.2.1
    have h2 := set1 (i := 0) (.string s) h0
    have h3 := ((gcell (w2.setCell ⟨w.heap.size, 0, none⟩ (.string s)) w.heap.size 0 (.string s)).block (w.heap.size + 1) (by simpa using l1) (fun e => by have := Option.some.inj e; omega)).trans h1
    have h4 := set1 (i := 0) (.bool true) h3
    have h5 := ((gcell ((w2.setCell ⟨w.heap.size, 0, none⟩ (.string s)).setCell ⟨w.heap.size, 0, none⟩ (.string s)) (w.heap.size + 1) 0 (.bool true)).block w.heap.size (by simpa using l0) (fun e => by have := Option.some.inj e; omega)).trans h2
    have hbX : Below w.heap.size w (((w2.setCell ⟨w.heap.size, 0, none⟩ (.string s)).setCell ⟨w.heap.size, 0, none⟩ (.string s)).setCell ⟨w.heap.size + 1, 0, none⟩ (.bool true)) := ((HB.out.2.2.setCell (p := ⟨w.heap.size, 0, none⟩) (Nat.le_refl _) _).setCell (p := ⟨w.heap.size, 0, none⟩) (Nat.le_refl _) _).setCell (p := ⟨w.heap.size + 1, 0, none⟩) (Nat.le_succ _) _
    generalize ((w2.setCell ⟨w.heap.size, 0, none⟩ (.string s)).setCell ⟨w.heap.size, 0, none⟩ (.string s)).setCell ⟨w.heap.size + 1, 0, none⟩ (.bool true) = X at h4 h5 hbX ⊢
    have y0 : X.cell? ⟨w.heap.size, 0, none⟩ = some (.string s) := by unfold World.cell?; rw [h5]; rfl
    have y1 : X.cell? ⟨w.heap.size + 1, 0, none⟩ = some (.bool true) := by unfold World.cell?; rw [h4]; rfl
    simp [Leaves, settle, results, Tryz.results86, go_sem, y0, y1]
    exact hbX
/-- a text behind the interface, or none -/
def Tn0 (w : World) (v : Value) (s : ByteArray) : Prop := (v = .nilIface ∧ s = ⟨#[]⟩) ∨ Tl w v s
theorem Tn0.below {w W : World} {v : Value} {s : ByteArray} (h : Tn0 w v s) (hb : Below w.heap.size w W) : Tn0 W v s := h.imp id (·.below hb)
theorem whole_tn {w : World} {v : Value} {s : ByteArray} (h : Tn0 w v s) : Calls Tryz.prog 86 #[v] w fun e W' => e = .returned (.tuple #[.string s, .bool true]) ∧ Below w.heap.size w W' := by
  rcases h with ⟨rfl, rfl⟩ | h
  · exact whole_nil w
  · exact whole_any h
set_option maxRecDepth 100000 in
theorem same_any {w : World} {u v : Value} {s t : ByteArray} (hu : Tn0 w u s) (hv : Tn0 w v t) : Calls Tryz.prog 32 #[u, v] w fun e W' => e = .returned (.bool (s.toList == t.toList)) ∧ Below w.heap.size w W' := by
  have C1 : Hid (Calls Tryz.prog 86 #[u] w fun e W' => e = .returned (.tuple #[.string s, .bool true]) ∧ Hid (Below w.heap.size w W')) := whole_tn hu
  have C2 : Hid (∀ W, Hid (Below w.heap.size w W) → Calls Tryz.prog 86 #[v] W fun e W' => e = .returned (.tuple #[.string t, .bool true]) ∧ Below w.heap.size w W') := fun W hW => (whole_tn (hv.below hW.out)).mono fun e W' ⟨q1, q2⟩ => ⟨q1, Below.on hW.out q2⟩
  have T1 : True := trivial
  clear hu hv
  go_enter Tryz.func32, Tryz.ntmps32
  go_wp2_with (first | (go_at_call 86; clear T1; refine C1.out.mono ?_; clear C1; rintro e w1 ⟨rfl, HB⟩) | (go_at_call 86; refine (C2.out _ HB).mono ?_; clear C2 HB; rintro e w2 ⟨rfl, hb⟩; have HB : Hid (Below w.heap.size w w2) := hb; clear hb))
  go_ret
  exact ⟨rfl, HB.out⟩
end Go.Proofs.YtkmihnjmchfopaaGreatDoor.Sto
namespace Go.Proofs.YtkmihnjmchfopaaGreatDoor.Sto
open Go.RowKit Go.Shelf

/-- the seven looks of either side, over any R that later worlds keep -/
structure Lo (b rb : Nat) (R : World → Prop) (lo hi kd bk lm mv fo ed z : Int) (s : ByteArray) : Prop where
  thr : ∀ W, R W → Calls Tryz.prog 30 #[.pointer (some ⟨b, 0, none⟩)] W fun e W' => e = .returned (.tuple #[.int .i64 lo, .int .i64 hi]) ∧ R W'
  rthr : ∀ W, R W → Calls Tryz.prog 61 #[.pointer (some ⟨rb, 0, none⟩)] W fun e W' => e = .returned (.tuple #[.int .i64 lo, .int .i64 hi]) ∧ R W'
  kind : ∀ W, R W → Calls Tryz.prog 31 #[.pointer (some ⟨b, 0, none⟩)] W fun e W' => e = .returned (.int .i64 kd) ∧ R W'
  rkind : ∀ W, R W → Calls Tryz.prog 62 #[.pointer (some ⟨rb, 0, none⟩)] W fun e W' => e = .returned (.int .i64 kd) ∧ R W'
  back : ∀ W, R W → Calls Tryz.prog 56 #[.pointer (some ⟨b, 0, none⟩)] W fun e W' => e = .returned (.int .i64 bk) ∧ R W'
  rback : ∀ W, R W → Calls Tryz.prog 63 #[.pointer (some ⟨rb, 0, none⟩)] W fun e W' => e = .returned (.int .i64 bk) ∧ R W'
  lim : ∀ W, R W → Calls Tryz.prog 64 #[.pointer (some ⟨b, 0, none⟩)] W fun e W' => e = .returned (.int .i64 lm) ∧ R W'
  rlim : ∀ W, R W → Calls Tryz.prog 65 #[.pointer (some ⟨rb, 0, none⟩)] W fun e W' => e = .returned (.int .i64 lm) ∧ R W'
  cnt : ∀ W, R W → Calls Tryz.prog 29 #[.pointer (some ⟨b, 0, none⟩)] W fun e W' => e = .returned (.agg #[.int .i64 mv, .int .i64 fo, .int .i64 ed]) ∧ R W'
  rcnt : ∀ W, R W → Calls Tryz.prog 66 #[.pointer (some ⟨rb, 0, none⟩)] W fun e W' => e = .returned (.agg #[.int .i64 mv, .int .i64 fo, .int .i64 ed]) ∧ R W'
  len : ∀ W, R W → Calls Tryz.prog 67 #[.pointer (some ⟨b, 0, none⟩)] W fun e W' => e = .returned (.int .i64 z) ∧ R W'
  rlen : ∀ W, R W → Calls Tryz.prog 68 #[.pointer (some ⟨rb, 0, none⟩)] W fun e W' => e = .returned (.int .i64 z) ∧ R W'
  text : ∀ W, R W → Calls Tryz.prog 58 #[.pointer (some ⟨b, 0, none⟩)] W fun e W' => e = .returned (.string s) ∧ R W'
  rtext : ∀ W, R W → Calls Tryz.prog 69 #[.pointer (some ⟨rb, 0, none⟩)] W fun e W' => e = .returned (.string s) ∧ R W'
set_option maxRecDepth 100000 in
set_option maxHeartbeats 4000000 in
theorem looks_of {b rb : Nat} {R : World → Prop} {lo hi kd bk lm mv fo ed z : Int} {s : ByteArray} (h : Lo b rb R lo hi kd bk lm mv fo ed z s) (W : World) (hW : R W) :
    Calls Tryz.prog 22 #[.pointer (some ⟨b, 0, none⟩), .pointer (some ⟨rb, 0, none⟩)] W fun e W' => e = .returned (.bool true) ∧ R W' := by
  have H : Hid (Lo b rb R lo hi kd bk lm mv fo ed z s) := h
  have HW : Hid (R W) := hW
  clear h hW
  go_enter Tryz.func22, Tryz.ntmps22
  go_wp2_with (first
    | (go_at_call 30; refine (H.out.thr _ HW.out).mono ?_; clear HW; rintro e w1 ⟨rfl, hq⟩; have HW : Hid (R w1) := hq; clear hq)
    | (go_at_call 61; refine (H.out.rthr _ HW.out).mono ?_; clear HW; rintro e w2 ⟨rfl, hq⟩; have HW : Hid (R w2) := hq; clear hq)
    | (go_at_call 31; refine (H.out.kind _ HW.out).mono ?_; clear HW; rintro e w3 ⟨rfl, hq⟩; have HW : Hid (R w3) := hq; clear hq)
    | (go_at_call 62; refine (H.out.rkind _ HW.out).mono ?_; clear HW; rintro e w4 ⟨rfl, hq⟩; have HW : Hid (R w4) := hq; clear hq)
    | (go_at_call 56; refine (H.out.back _ HW.out).mono ?_; clear HW; rintro e w5 ⟨rfl, hq⟩; have HW : Hid (R w5) := hq; clear hq)
    | (go_at_call 63; refine (H.out.rback _ HW.out).mono ?_; clear HW; rintro e w6 ⟨rfl, hq⟩; have HW : Hid (R w6) := hq; clear hq)
    | (go_at_call 64; refine (H.out.lim _ HW.out).mono ?_; clear HW; rintro e w7 ⟨rfl, hq⟩; have HW : Hid (R w7) := hq; clear hq)
    | (go_at_call 65; refine (H.out.rlim _ HW.out).mono ?_; clear HW; rintro e w8 ⟨rfl, hq⟩; have HW : Hid (R w8) := hq; clear hq)
    | (go_at_call 29; refine (H.out.cnt _ HW.out).mono ?_; clear HW; rintro e w9 ⟨rfl, hq⟩; have HW : Hid (R w9) := hq; clear hq)
    | (go_at_call 66; refine (H.out.rcnt _ HW.out).mono ?_; clear HW; rintro e w10 ⟨rfl, hq⟩; have HW : Hid (R w10) := hq; clear hq)
    | (go_at_call 67; refine (H.out.len _ HW.out).mono ?_; clear HW; rintro e w11 ⟨rfl, hq⟩; have HW : Hid (R w11) := hq; clear hq)
    | (go_at_call 68; refine (H.out.rlen _ HW.out).mono ?_; clear HW; rintro e w12 ⟨rfl, hq⟩; have HW : Hid (R w12) := hq; clear hq)
    | (go_at_call 58; refine (H.out.text _ HW.out).mono ?_; clear HW; rintro e w13 ⟨rfl, hq⟩; have HW : Hid (R w13) := hq; clear hq)
    | (go_at_call 69; refine (H.out.rtext _ HW.out).mono ?_; clear HW; rintro e w14 ⟨rfl, hq⟩; have HW : Hid (R w14) := hq; clear hq))
  go_ret
  exact ⟨rfl, HW.out⟩
end Go.Proofs.YtkmihnjmchfopaaGreatDoor.Sto
namespace Go.Proofs.YtkmihnjmchfopaaGreatDoor.Sto
open Go.RowKit Go.Shelf

/-- the call's own box reads so -/
def Obx (W : World) (i : Nat) (k a c : Int) (put : ByteArray) : Prop := W.cell? ⟨i, 0, none⟩ = some (.int .i64 k) ∧ W.cell? ⟨i, 1, none⟩ = some (.int .i64 a) ∧ W.cell? ⟨i, 2, none⟩ = some (.int .i64 c) ∧ W.cell? ⟨i, 3, none⟩ = some (.string put)
section
variable {W W0 : World} {R0 R1 R2 : World → Prop} {v u : Value} {a c r : Int} {put o : ByteArray}
set_option maxRecDepth 100000 in
set_option maxHeartbeats 4000000 in
theorem works_1 (hW0 : W.alloc (.cells #[.int .i64 1, .int .i64 a, .int .i64 c, .string put] 59) = W0) (h0 : R0 W0) (hd : ∀ W, R0 W → R0 W.drew) (hx : ∀ W1, R0 W1 ∨ R1 W1 ∨ R2 W1 → Obx W1 W.heap.size 1 a c put)
    (C1 : ∀ W, R0 W → Calls Tryz.prog 57 #[v, .int .i64 a, .string put] W fun e W' => e = .returned (.int .i64 r) ∧ R1 W') (C2 : ∀ W, R1 W → Calls Tryz.prog 115 #[u, .int .i64 a, .string put] W fun e W' => e = .returned (.int .i64 r) ∧ R2 W') :
    Calls Tryz.prog 70 #[v, u, .agg #[.int .i64 1, .int .i64 a, .int .i64 c, .string put]] W fun e W' => e = .returned (.bool true) ∧ R2 W' := by
  have HP : Hid (R0 W0) := h0
  have HX : Hid (∀ W1, R0 W1 ∨ R1 W1 ∨ R2 W1 → Obx W1 W.heap.size 1 a c put) := hx
  have D1 : Hid (∀ W, R0 W → Calls Tryz.prog 57 #[v, .int .i64 a, .string put] W fun e W' => e = .returned (.int .i64 r) ∧ R1 W') := C1
  have D2 : Hid (∀ W, R1 W → Calls Tryz.prog 115 #[u, .int .i64 a, .string put] W fun e W' => e = .returned (.int .i64 r) ∧ R2 W') := C2
  have HD : Hid (∀ W, R0 W → R0 W.drew) := hd
  obtain ⟨z0, z1, z2, z3⟩ := HX.out _ (.inl h0)
  clear C1 C2 h0 hd hx
  go_enter Tryz.func70, Tryz.ntmps70
  go_wp2
  go_region_held3 (fun w' => w'.cell? ⟨W.heap.size, 1, none⟩ = some (.int .i64 a) ∧ w'.cell? ⟨W.heap.size, 3, none⟩ = some (.string put)) (first | exact ⟨(HX.out _ (.inl HP.out)).2.1, (HX.out _ (.inl HP.out)).2.2.2⟩ | exact ⟨(HX.out _ (.inl (HD.out _ HP.out))).2.1, (HX.out _ (.inl (HD.out _ HP.out))).2.2.2⟩ | exact ⟨(HX.out _ (.inr (.inl HP.out))).2.1, (HX.out _ (.inr (.inl HP.out))).2.2.2⟩ | exact ⟨(HX.out _ (.inr (.inr HP.out))).2.1, (HX.out _ (.inr (.inr HP.out))).2.2.2⟩) (first | (go_at_call 57; refine (D1.out _ (HD.out _ HP.out)).mono ?_; clear D1; rintro e w2 ⟨rfl, hq⟩; have HP1 : Hid (R1 w2) := hq; clear hq HP; have HP := HP1; clear HP1) | (go_at_call 115; refine (D2.out _ HP.out).mono ?_; clear D2; rintro e w3 ⟨rfl, hq⟩; have HP1 : Hid (R2 w3) := hq; clear hq HP; have HP := HP1; clear HP1))
  go_wp2
  go_ret
  exact ⟨rfl, HP.out⟩
set_option maxRecDepth 100000 in
set_option maxHeartbeats 4000000 in
theorem works_2 (hW0 : W.alloc (.cells #[.int .i64 2, .int .i64 a, .int .i64 c, .string put] 59) = W0) (h0 : R0 W0) (hd : ∀ W, R0 W → R0 W.drew) (hx : ∀ W1, R0 W1 ∨ R1 W1 ∨ R2 W1 → Obx W1 W.heap.size 2 a c put)
    (C1 : ∀ W, R0 W → Calls Tryz.prog 59 #[v, .int .i64 a, .int .i64 c] W fun e W' => e = .returned (.tuple #[.string o, .int .i64 r]) ∧ R1 W') (C2 : ∀ W, R1 W → Calls Tryz.prog 116 #[u, .int .i64 a, .int .i64 c] W fun e W' => e = .returned (.tuple #[.string o, .int .i64 r]) ∧ R2 W') :
    Calls Tryz.prog 70 #[v, u, .agg #[.int .i64 2, .int .i64 a, .int .i64 c, .string put]] W fun e W' => e = .returned (.bool true) ∧ R2 W' := by
  have HP : Hid (R0 W0) := h0
  have HX : Hid (∀ W1, R0 W1 ∨ R1 W1 ∨ R2 W1 → Obx W1 W.heap.size 2 a c put) := hx
  have D1 : Hid (∀ W, R0 W → Calls Tryz.prog 59 #[v, .int .i64 a, .int .i64 c] W fun e W' => e = .returned (.tuple #[.string o, .int .i64 r]) ∧ R1 W') := C1
  have D2 : Hid (∀ W, R1 W → Calls Tryz.prog 116 #[u, .int .i64 a, .int .i64 c] W fun e W' => e = .returned (.tuple #[.string o, .int .i64 r]) ∧ R2 W') := C2
  have HD : Hid (∀ W, R0 W → R0 W.drew) := hd
  obtain ⟨z0, z1, z2, z3⟩ := HX.out _ (.inl h0)
  clear C1 C2 h0 hd hx
  go_enter Tryz.func70, Tryz.ntmps70
  go_wp2_with (first | (go_at_call 59; refine (D1.out _ HP.out).mono ?_; clear D1 HP z0 z1 z2 z3; rintro e w2 ⟨rfl, hq⟩; have HP : Hid (R1 w2) := hq; obtain ⟨z0, z1, z2, z3⟩ := HX.out _ (.inr (.inl hq)); clear hq) | (go_at_call 116; refine (D2.out _ HP.out).mono ?_; clear D2 HP; rintro e w3 ⟨rfl, hq⟩; have HP : Hid (R2 w3) := hq; clear hq))
  go_ret
  exact ⟨rfl, HP.out⟩
set_option maxRecDepth 100000 in
set_option maxHeartbeats 4000000 in
theorem works_3 (hW0 : W.alloc (.cells #[.int .i64 3, .int .i64 a, .int .i64 c, .string put] 59) = W0) (h0 : R0 W0) (hd : ∀ W, R0 W → R0 W.drew) (hx : ∀ W1, R0 W1 ∨ R1 W1 ∨ R2 W1 → Obx W1 W.heap.size 3 a c put)
    (C1 : ∀ W, R0 W → Calls Tryz.prog 78 #[v, .int .i64 a, .int .i64 c, .string put] W fun e W' => e = .returned (.tuple #[.string o, .int .i64 r]) ∧ R1 W') (C2 : ∀ W, R1 W → Calls Tryz.prog 117 #[u, .int .i64 a, .int .i64 c, .string put] W fun e W' => e = .returned (.tuple #[.string o, .int .i64 r]) ∧ R2 W') :
    Calls Tryz.prog 70 #[v, u, .agg #[.int .i64 3, .int .i64 a, .int .i64 c, .string put]] W fun e W' => e = .returned (.bool true) ∧ R2 W' := by
  have HP : Hid (R0 W0) := h0
  have HX : Hid (∀ W1, R0 W1 ∨ R1 W1 ∨ R2 W1 → Obx W1 W.heap.size 3 a c put) := hx
  have D1 : Hid (∀ W, R0 W → Calls Tryz.prog 78 #[v, .int .i64 a, .int .i64 c, .string put] W fun e W' => e = .returned (.tuple #[.string o, .int .i64 r]) ∧ R1 W') := C1
  have D2 : Hid (∀ W, R1 W → Calls Tryz.prog 117 #[u, .int .i64 a, .int .i64 c, .string put] W fun e W' => e = .returned (.tuple #[.string o, .int .i64 r]) ∧ R2 W') := C2
  have HD : Hid (∀ W, R0 W → R0 W.drew) := hd
  obtain ⟨z0, z1, z2, z3⟩ := HX.out _ (.inl h0)
  clear C1 C2 h0 hd hx
  go_enter Tryz.func70, Tryz.ntmps70
  go_wp2_with (first | (go_at_call 78; refine (D1.out _ HP.out).mono ?_; clear D1 HP z0 z1 z2 z3; rintro e w2 ⟨rfl, hq⟩; have HP : Hid (R1 w2) := hq; obtain ⟨z0, z1, z2, z3⟩ := HX.out _ (.inr (.inl hq)); clear hq) | (go_at_call 117; refine (D2.out _ HP.out).mono ?_; clear D2 HP; rintro e w3 ⟨rfl, hq⟩; have HP : Hid (R2 w3) := hq; clear hq))
  go_ret
  exact ⟨rfl, HP.out⟩
set_option maxRecDepth 100000 in
set_option maxHeartbeats 4000000 in
theorem works_4 (hW0 : W.alloc (.cells #[.int .i64 4, .int .i64 a, .int .i64 c, .string put] 59) = W0) (h0 : R0 W0) (hd : ∀ W, R0 W → R0 W.drew) (hx : ∀ W1, R0 W1 ∨ R1 W1 ∨ R2 W1 → Obx W1 W.heap.size 4 a c put)
    (C1 : ∀ W, R0 W → Calls Tryz.prog 34 #[v, .string put] W fun e W' => e = .returned (.int .i64 r) ∧ R1 W') (C2 : ∀ W, R1 W → Calls Tryz.prog 118 #[u, .string put] W fun e W' => e = .returned (.int .i64 r) ∧ R2 W') :
    Calls Tryz.prog 70 #[v, u, .agg #[.int .i64 4, .int .i64 a, .int .i64 c, .string put]] W fun e W' => e = .returned (.bool true) ∧ R2 W' := by
  have HP : Hid (R0 W0) := h0
  have HX : Hid (∀ W1, R0 W1 ∨ R1 W1 ∨ R2 W1 → Obx W1 W.heap.size 4 a c put) := hx
  have D1 : Hid (∀ W, R0 W → Calls Tryz.prog 34 #[v, .string put] W fun e W' => e = .returned (.int .i64 r) ∧ R1 W') := C1
  have D2 : Hid (∀ W, R1 W → Calls Tryz.prog 118 #[u, .string put] W fun e W' => e = .returned (.int .i64 r) ∧ R2 W') := C2
  have HD : Hid (∀ W, R0 W → R0 W.drew) := hd
  obtain ⟨z0, z1, z2, z3⟩ := HX.out _ (.inl h0)
  clear C1 C2 h0 hd hx
  go_enter Tryz.func70, Tryz.ntmps70
  go_wp2
  go_region_held3 (fun w' => w'.cell? ⟨W.heap.size, 3, none⟩ = some (.string put)) (first | exact (HX.out _ (.inl HP.out)).2.2.2 | exact (HX.out _ (.inl (HD.out _ HP.out))).2.2.2 | exact (HX.out _ (.inr (.inl HP.out))).2.2.2 | exact (HX.out _ (.inr (.inr HP.out))).2.2.2) (first | (go_at_call 34; refine (D1.out _ (HD.out _ HP.out)).mono ?_; clear D1; rintro e w2 ⟨rfl, hq⟩; have HP1 : Hid (R1 w2) := hq; clear hq HP; have HP := HP1; clear HP1) | (go_at_call 118; refine (D2.out _ HP.out).mono ?_; clear D2; rintro e w3 ⟨rfl, hq⟩; have HP1 : Hid (R2 w3) := hq; clear hq HP; have HP := HP1; clear HP1))
  go_wp2
  go_ret
  exact ⟨rfl, HP.out⟩
set_option maxRecDepth 100000 in
set_option maxHeartbeats 4000000 in
theorem works_5 (hW0 : W.alloc (.cells #[.int .i64 5, .int .i64 a, .int .i64 c, .string put] 59) = W0) (h0 : R0 W0) (hd : ∀ W, R0 W → R0 W.drew) (hx : ∀ W1, R0 W1 ∨ R1 W1 ∨ R2 W1 → Obx W1 W.heap.size 5 a c put)
    (C1 : ∀ W, R0 W → Calls Tryz.prog 27 #[v, .int .i64 a] W fun e W' => e = .returned (.int .i64 r) ∧ R1 W') (C2 : ∀ W, R1 W → Calls Tryz.prog 119 #[u, .int .i64 a] W fun e W' => e = .returned (.int .i64 r) ∧ R2 W') :
    Calls Tryz.prog 70 #[v, u, .agg #[.int .i64 5, .int .i64 a, .int .i64 c, .string put]] W fun e W' => e = .returned (.bool true) ∧ R2 W' := by
  have HP : Hid (R0 W0) := h0
  have HX : Hid (∀ W1, R0 W1 ∨ R1 W1 ∨ R2 W1 → Obx W1 W.heap.size 5 a c put) := hx
  have D1 : Hid (∀ W, R0 W → Calls Tryz.prog 27 #[v, .int .i64 a] W fun e W' => e = .returned (.int .i64 r) ∧ R1 W') := C1
  have D2 : Hid (∀ W, R1 W → Calls Tryz.prog 119 #[u, .int .i64 a] W fun e W' => e = .returned (.int .i64 r) ∧ R2 W') := C2
  have HD : Hid (∀ W, R0 W → R0 W.drew) := hd
  obtain ⟨z0, z1, z2, z3⟩ := HX.out _ (.inl h0)
  clear C1 C2 h0 hd hx
  go_enter Tryz.func70, Tryz.ntmps70
  go_wp2
  go_region_held3 (fun w' => w'.cell? ⟨W.heap.size, 1, none⟩ = some (.int .i64 a)) (first | exact (HX.out _ (.inl HP.out)).2.1 | exact (HX.out _ (.inl (HD.out _ HP.out))).2.1 | exact (HX.out _ (.inr (.inl HP.out))).2.1 | exact (HX.out _ (.inr (.inr HP.out))).2.1) (first | (go_at_call 27; refine (D1.out _ (HD.out _ HP.out)).mono ?_; clear D1; rintro e w2 ⟨rfl, hq⟩; have HP1 : Hid (R1 w2) := hq; clear hq HP; have HP := HP1; clear HP1) | (go_at_call 119; refine (D2.out _ HP.out).mono ?_; clear D2; rintro e w3 ⟨rfl, hq⟩; have HP1 : Hid (R2 w3) := hq; clear hq HP; have HP := HP1; clear HP1))
  go_wp2
  go_ret
  exact ⟨rfl, HP.out⟩
set_option maxRecDepth 100000 in
set_option maxHeartbeats 4000000 in
theorem works_0 {k : Int} (h1 : ¬ k = 1) (h2 : ¬ k = 2) (h3 : ¬ k = 3) (h4 : ¬ k = 4) (h5 : ¬ k = 5) (hW0 : W.alloc (.cells #[.int .i64 k, .int .i64 a, .int .i64 c, .string put] 59) = W0) (h0 : R0 W0) (hx : Obx W0 W.heap.size k a c put) :
    Calls Tryz.prog 70 #[v, u, .agg #[.int .i64 k, .int .i64 a, .int .i64 c, .string put]] W fun e W' => e = .returned (.bool true) ∧ R0 W' := by
  have HP : Hid (R0 W0) := h0
  obtain ⟨z0, z1, z2, z3⟩ := hx
  clear h0
  go_enter Tryz.func70, Tryz.ntmps70
  go_wp2
  go_ret
  exact ⟨rfl, HP.out⟩
end
end Go.Proofs.YtkmihnjmchfopaaGreatDoor.Sto
namespace Go.Proofs.YtkmihnjmchfopaaGreatDoor.Sto
open Go.RowKit Go.Shelf Bod Wid

/-- both answer alike, from X on -/
structure As (X : World) (v u : Value) (a c : Int) (s1 : ByteArray) (e1 : Int) (m1 : Sum) (e2 : Int) (bb : Bool) (mn mp ms : Nat) : Prop where
  sl : ∀ W, Below X.heap.size X W → Calls Tryz.prog 79 #[v, .int .i64 a, .int .i64 c] W fun e W' => e = .returned (.tuple #[.string s1, .int .i64 e1]) ∧ Below W.heap.size W W'
  rsl : ∀ W, Below X.heap.size X W → Calls Tryz.prog 120 #[u, .int .i64 a, .int .i64 c] W fun e W' => e = .returned (.tuple #[.string s1, .int .i64 e1]) ∧ Below W.heap.size W W'
  me : ∀ W, Below X.heap.size X W → Calls Tryz.prog 80 #[v, .int .i64 a, .int .i64 c] W fun e W' => e = .returned (.tuple #[sv m1, .int .i64 e2]) ∧ Below W.heap.size W W'
  rme : ∀ W, Below X.heap.size X W → Calls Tryz.prog 121 #[u, .int .i64 a, .int .i64 c] W fun e W' => e = .returned (.tuple #[sv m1, .int .i64 e2]) ∧ Below W.heap.size W W'
  bd : ∀ W, Below X.heap.size X W → Calls Tryz.prog 84 #[v, .int .i64 a] W fun e W' => e = .returned (.bool bb) ∧ Below W.heap.size W W'
  rbd : ∀ W, Below X.heap.size X W → Calls Tryz.prog 122 #[u, .int .i64 a] W fun e W' => e = .returned (.bool bb) ∧ Below W.heap.size W W'
  nx : ∀ W, Below X.heap.size X W → Calls Tryz.prog 81 #[v, .int .i64 a] W fun e W' => e = .returned (.int .i64 mn) ∧ Below W.heap.size W W'
  rnx : ∀ W, Below X.heap.size X W → Calls Tryz.prog 123 #[u, .int .i64 a] W fun e W' => e = .returned (.int .i64 mn) ∧ Below W.heap.size W W'
  pv : ∀ W, Below X.heap.size X W → Calls Tryz.prog 82 #[v, .int .i64 a] W fun e W' => e = .returned (.int .i64 mp) ∧ Below W.heap.size W W'
  rpv : ∀ W, Below X.heap.size X W → Calls Tryz.prog 124 #[u, .int .i64 a] W fun e W' => e = .returned (.int .i64 mp) ∧ Below W.heap.size W W'
  sn : ∀ W, Below X.heap.size X W → Calls Tryz.prog 83 #[v, .int .i64 a] W fun e W' => e = .returned (.int .i64 ms) ∧ Below W.heap.size W W'
  rsn : ∀ W, Below X.heap.size X W → Calls Tryz.prog 125 #[u, .int .i64 a] W fun e W' => e = .returned (.int .i64 ms) ∧ Below W.heap.size W W'
theorem cell_lt9 {W : World} {p : Addr} {v : Value} (h : W.cell? p = some v) : p.block < W.heap.size := by
  unfold World.cell? at h
  cases ho : W.heap[p.block]? with
  | none => simp [ho] at h
  | some o => exact (Array.getElem?_eq_some_iff.1 ho).1
set_option maxRecDepth 100000 in
set_option maxHeartbeats 4000000 in
theorem asks_of {W : World} {v u : Value} {a c : Int} {s1 : ByteArray} {e1 : Int} {m1 : Sum} {e2 : Int} {bb : Bool} {mn mp ms : Nat} (h : As W v u a c s1 e1 m1 e2 bb mn mp ms) (k : Int) (put : ByteArray) :
    Calls Tryz.prog 71 #[v, u, .agg #[.int .i64 k, .int .i64 a, .int .i64 c, .string put]] W fun e W' => e = .returned (.bool true) ∧ Below W.heap.size W W' := by
  obtain ⟨W0, hW0⟩ : ∃ W0, W.alloc (.cells #[.int .i64 k, .int .i64 a, .int .i64 c, .string put] 59) = W0 := ⟨_, rfl⟩
  have hB : Below W.heap.size W W0 := by rw [← hW0]; exact (Below.refl _ W).alloc (Nat.le_refl _) _
  have hbx : W0.heap[W.heap.size]? = some (.cells #[.int .i64 k, .int .i64 a, .int .i64 c, .string put] 59 (0, 0)) := by rw [← hW0]; exact World.alloc_heap_new W _
  have hbl : W.heap.size < W0.heap.size := (Array.getElem?_eq_some_iff.1 hbx).1
  have st : ∀ {W1 W2 : World}, Below W0.heap.size W0 W1 → Below W1.heap.size W1 W2 → Below W0.heap.size W0 W2 := fun a b => a.trans (b.mono a.size)
  have HX : Hid (∀ W1, Below W0.heap.size W0 W1 → W1.cell? ⟨W.heap.size, 0, none⟩ = some (.int .i64 k) ∧ W1.cell? ⟨W.heap.size, 1, none⟩ = some (.int .i64 a) ∧ W1.cell? ⟨W.heap.size, 2, none⟩ = some (.int .i64 c) ∧ W1.cell? ⟨W.heap.size, 3, none⟩ = some (.string put)) := fun W1 h1 => (box4 ((h1.block _ hbl).trans hbx)).1
  have HEnd : Hid (∀ W1, Below W0.heap.size W0 W1 → Below W.heap.size W W1) := fun W1 h1 => hB.trans (h1.mono hB.size)
  have HB0 : Hid (Below W0.heap.size W0 W0) := Below.refl _ _
  have HM : Hid (Tryz.prog.follows .mixedOrders = true) := by show _ = _; kernel_rfl
  obtain ⟨z0, z1, z2, z3⟩ := HX.out _ HB0.out
  by_cases h6 : k = 6
  · have C1 : Hid (∀ W1, Below W0.heap.size W0 W1 → Calls Tryz.prog 79 #[v, .int .i64 a, .int .i64 c] W1 fun e W' => e = .returned (.tuple #[.string s1, .int .i64 e1]) ∧ Below W0.heap.size W0 W') := fun W1 h1 => (h.sl W1 (HEnd.out _ h1)).mono fun e W' ⟨q1, q2⟩ => ⟨q1, st h1 q2⟩
    have C2 : Hid (∀ W1, Below W0.heap.size W0 W1 → Calls Tryz.prog 120 #[u, .int .i64 a, .int .i64 c] W1 fun e W' => e = .returned (.tuple #[.string s1, .int .i64 e1]) ∧ Below W0.heap.size W0 W') := fun W1 h1 => (h.rsl W1 (HEnd.out _ h1)).mono fun e W' ⟨q1, q2⟩ => ⟨q1, st h1 q2⟩
    subst h6
    clear h hB hbx hbl st
    go_enter Tryz.func71, Tryz.ntmps71
    go_wp2_with (first
      | (go_at_call 79; refine (C1.out _ HB0.out).mono ?_; clear C1 z0 z1 z2 z3 hW0; rintro e w2 ⟨rfl, hb⟩; have HB2 : Hid (Below W0.heap.size W0 w2) := hb; obtain ⟨z0, z1, z2, z3⟩ := HX.out _ hb; clear hb)
      | (go_at_call 120; refine (C2.out _ HB2.out).mono ?_; clear C2 HB2 z0 z1 z2 z3; rintro e w3 ⟨rfl, hb⟩; have HB3 : Hid (Below W0.heap.size W0 w3) := hb; clear hb))
    go_ret
    exact ⟨rfl, HEnd.out _ HB3.out⟩
  · by_cases h7 : k = 7
    · have C1 : Hid (∀ W1, Below W0.heap.size W0 W1 → Calls Tryz.prog 80 #[v, .int .i64 a, .int .i64 c] W1 fun e W' => e = .returned (.tuple #[sv m1, .int .i64 e2]) ∧ Below W0.heap.size W0 W') := fun W1 h1 => (h.me W1 (HEnd.out _ h1)).mono fun e W' ⟨q1, q2⟩ => ⟨q1, st h1 q2⟩
      have C2 : Hid (∀ W1, Below W0.heap.size W0 W1 → Calls Tryz.prog 121 #[u, .int .i64 a, .int .i64 c] W1 fun e W' => e = .returned (.tuple #[sv m1, .int .i64 e2]) ∧ Below W0.heap.size W0 W' ∧ Below W1.heap.size W1 W') := fun W1 h1 => (h.rme W1 (HEnd.out _ h1)).mono fun e W' ⟨q1, q2⟩ => ⟨q1, st h1 q2, q2⟩
      have HA : Hid (∀ W1 ob, Below W0.heap.size W0 W1 → Below W0.heap.size W0 (W1.alloc ob)) := fun W1 ob h1 => h1.alloc h1.size _
      have HBx : Hid (∀ W1 W2 : World, Below (W1.alloc (.cells #[.int .i64 m1.by', .int .i64 m1.un, .int .i64 m1.cl, .int .i64 m1.ce, .int .i64 m1.nl, .string m1.hd, .string m1.tl] 63)).heap.size (W1.alloc (.cells #[.int .i64 m1.by', .int .i64 m1.un, .int .i64 m1.cl, .int .i64 m1.ce, .int .i64 m1.nl, .string m1.hd, .string m1.tl] 63)) W2 → W2.heap[W1.heap.size]? = some (.cells #[.int .i64 m1.by', .int .i64 m1.un, .int .i64 m1.cl, .int .i64 m1.ce, .int .i64 m1.nl, .string m1.hd, .string m1.tl] 63 (0, 0))) := fun W1 W2 h2 => (h2.block _ (by simp)).trans (World.alloc_heap_new W1 _)
      subst h7
      clear h hB hbx hbl st
      go_enter Tryz.func71, Tryz.ntmps71
      go_wp2_with (first
        | (go_at_call 80; refine (C1.out _ HB0.out).mono ?_; clear C1 z0 z1 z2 z3 hW0; rintro e w2 ⟨rfl, hb⟩; have HB2 : Hid (Below W0.heap.size W0 w2) := hb; obtain ⟨z0, z1, z2, z3⟩ := HX.out _ (HA.out w2 (.cells #[.int .i64 m1.by', .int .i64 m1.un, .int .i64 m1.cl, .int .i64 m1.ce, .int .i64 m1.nl, .string m1.hd, .string m1.tl] 63) hb); obtain ⟨u0, u1, u2, u3⟩ := HX.out _ hb; have hz : W.heap.size < w2.heap.size := cell_lt9 u0; clear hb)
        | (go_at_call 121; refine (C2.out _ (HA.out _ _ HB2.out)).mono ?_; clear C2 z0 z1 z2 z3; rintro e w3 ⟨rfl, hb, hb3⟩; have HB3 : Hid (Below W0.heap.size W0 w3) := hb; have hbk := HBx.out _ _ hb3; have hl3 : w2.heap.size < w3.heap.size := (Array.getElem?_eq_some_iff.1 hbk).1; obtain ⟨⟨v0, v1, v2, v3, v4, v5, v6⟩, -⟩ := box7 hbk; clear hb hb3 hbk))
      go_ret
      exact ⟨rfl, HEnd.out _ (HA.out _ _ HB3.out)⟩
    · by_cases h8 : k = 8
      · have HQ : Hid (∀ W1, Below W0.heap.size W0 W1 →
            (∀ dd os, Calls Tryz.prog 84 #[v, .int .i64 a] (Go.Sort.grow (redrawn W1 dd) os) fun e w'' => e = .returned (.bool bb) ∧ ∃ p : Regrown, w'' = Go.Sort.grow (redrawn W1 p.d) p.os) ∧
            (∀ dd os, Calls Tryz.prog 122 #[u, .int .i64 a] (Go.Sort.grow (redrawn W1 dd) os) fun e w'' => e = .returned (.bool bb) ∧ ∃ p : Regrown, w'' = Go.Sort.grow (redrawn W1 p.d) p.os) ∧
            (∀ dd os, Calls Tryz.prog 81 #[v, .int .i64 a] (Go.Sort.grow (redrawn W1 dd) os) fun e w'' => e = .returned (.int .i64 mn) ∧ ∃ p : Regrown, w'' = Go.Sort.grow (redrawn W1 p.d) p.os) ∧
            (∀ dd os, Calls Tryz.prog 123 #[u, .int .i64 a] (Go.Sort.grow (redrawn W1 dd) os) fun e w'' => e = .returned (.int .i64 mn) ∧ ∃ p : Regrown, w'' = Go.Sort.grow (redrawn W1 p.d) p.os) ∧
            (∀ dd os, Calls Tryz.prog 82 #[v, .int .i64 a] (Go.Sort.grow (redrawn W1 dd) os) fun e w'' => e = .returned (.int .i64 mp) ∧ ∃ p : Regrown, w'' = Go.Sort.grow (redrawn W1 p.d) p.os) ∧
            (∀ dd os, Calls Tryz.prog 124 #[u, .int .i64 a] (Go.Sort.grow (redrawn W1 dd) os) fun e w'' => e = .returned (.int .i64 mp) ∧ ∃ p : Regrown, w'' = Go.Sort.grow (redrawn W1 p.d) p.os) ∧
            (∀ dd os, Calls Tryz.prog 83 #[v, .int .i64 a] (Go.Sort.grow (redrawn W1 dd) os) fun e w'' => e = .returned (.int .i64 ms) ∧ ∃ p : Regrown, w'' = Go.Sort.grow (redrawn W1 p.d) p.os) ∧
            (∀ dd os, Calls Tryz.prog 125 #[u, .int .i64 a] (Go.Sort.grow (redrawn W1 dd) os) fun e w'' => e = .returned (.int .i64 ms) ∧ ∃ p : Regrown, w'' = Go.Sort.grow (redrawn W1 p.d) p.os)) := fun W1 h1 => by
          have lo : ∀ dd os, Below W.heap.size W (Go.Sort.grow (redrawn W1 dd) os) := fun dd os => HEnd.out _ (st h1 (below_regrown W1 dd os))
          exact ⟨fun dd os => Calls.regrown_of (h.bd _ (lo dd os)), fun dd os => Calls.regrown_of (h.rbd _ (lo dd os)), fun dd os => Calls.regrown_of (h.nx _ (lo dd os)), fun dd os => Calls.regrown_of (h.rnx _ (lo dd os)), fun dd os => Calls.regrown_of (h.pv _ (lo dd os)), fun dd os => Calls.regrown_of (h.rpv _ (lo dd os)), fun dd os => Calls.regrown_of (h.sn _ (lo dd os)), fun dd os => Calls.regrown_of (h.rsn _ (lo dd os))⟩
        have HG : Hid (∀ W1 dd os, Below W0.heap.size W0 W1 → Below W0.heap.size W0 (Go.Sort.grow (redrawn W1 dd) os)) := fun W1 dd os h1 => st h1 (below_regrown W1 dd os)
        subst h8
        clear h hB hbx hbl st
        go_enter Tryz.func71, Tryz.ntmps71
        go_wp2
        obtain ⟨q1, q2, q3, q4, q5, q6, q7, q8⟩ := HQ.out _ HB0.out
        have y1 := fun dd os => cell_regrown z1 dd os
        refine wp_region_quiet_below HM.out (by kernel_rfl) ?_
        repeat (go_big_quiet_step (fail))
        go_big_quiet_step (exact q1 _ _)
        repeat (go_big_quiet_step (fail))
        go_big_quiet_step (exact q2 _ _)
        repeat (go_big_quiet_step (fail))
        go_big_quiet_step (exact q3 _ _)
        repeat (go_big_quiet_step (fail))
        go_big_quiet_step (exact q4 _ _)
        repeat (go_big_quiet_step (fail))
        go_big_quiet_step (exact q5 _ _)
        repeat (go_big_quiet_step (fail))
        go_big_quiet_step (exact q6 _ _)
        repeat (go_big_quiet_step (fail))
        go_big_quiet_step (exact q7 _ _)
        repeat (go_big_quiet_step (fail))
        go_big_quiet_step (exact q8 _ _)
        repeat (go_big_quiet_step (fail))
        refine wpQuiet_nil ?_
        intro _ hw'
        obtain ⟨⟨dq, osq⟩, hw''⟩ := hw'
        subst hw''
        dsimp only
        have HB3 : Hid (Below W0.heap.size W0 (Go.Sort.grow (redrawn W0 dq) osq)) := HG.out _ _ _ HB0.out
        go_wp2
        go_ret
        exact ⟨rfl, HEnd.out _ HB3.out⟩
      · clear h hB hbx hbl st
        go_enter Tryz.func71, Tryz.ntmps71
        go_wp2
        go_ret
        exact ⟨rfl, HEnd.out _ HB0.out⟩
end Go.Proofs.YtkmihnjmchfopaaGreatDoor.Sto
namespace Go.Proofs.YtkmihnjmchfopaaGreatDoor
open Bod Wid

/-- all boundaries of a text, rising -/
def bds (s : ByteArray) : List Nat := 0 :: (cl s).map (·.to)
theorem bds_len (s : ByteArray) : (bds s).length = (cl s).length + 1 := by simp [bds]
theorem tiled_rise : ∀ {l : List Clu} {i j : Nat}, tiled i l j → (i :: l.map (·.to)).Pairwise (· < ·) ∧ j ∈ i :: l.map (·.to)
  | [], i, j, h => by have h : i = j := h; subst h; simp
  | c :: r, i, j, h => by
    obtain ⟨h1, h2, h3⟩ := h
    obtain ⟨h4, h5⟩ := tiled_rise h3
    refine ⟨?_, by simp only [List.map_cons]; exact List.mem_cons_of_mem _ h5⟩
    simp only [List.map_cons]
    refine List.pairwise_cons.2 ⟨fun x hx => ?_, h4⟩
    rcases List.mem_cons.1 hx with rfl | hx
    · exact h2
    · have := (List.pairwise_cons.1 h4).1 x hx
      omega
theorem tiled_has {s : ByteArray} : ∀ {l : List Clu} {i j k : Nat}, tiled i l j → (∀ d ∈ l, Sp s d) → i ≤ k → k ≤ j → cbZ s k = true → k ∈ i :: l.map (·.to)
  | [], i, j, k, h, _, h1, h2, _ => by have h : i = j := h; simp; omega
  | c :: r, i, j, k, h, hs, h1, h2, hc => by
    obtain ⟨h3, h4, h5⟩ := h
    by_cases e : k = i
    · simp [e]
    · by_cases e2 : k < c.to
      · have := (hs c (by simp)).2 k (by omega) (by omega)
        rw [hc] at this; cases this
      · simp only [List.map_cons]
        exact List.mem_cons_of_mem _ (tiled_has h5 (fun d hd => hs d (by simp [hd])) (by omega) h2 hc)
theorem bds_cb {s : ByteArray} {k : Nat} (h : k ∈ bds s) : cbZ s k = true := by
  rcases List.mem_cons.1 h with rfl | h
  · exact cb_zero s
  · obtain ⟨c, hc, rfl⟩ := List.mem_map.1 h
    exact (cl_cb s c hc).1
theorem bds_of {s : ByteArray} {i : Int} (h : cbZ s i = true) : ∃ k : Nat, i = k ∧ k ∈ bds s := by
  obtain ⟨k, rfl, hb⟩ := cb_B h
  exact ⟨k, rfl, tiled_has (cl_tile s) (cl_cb s) (Nat.zero_le _) hb.1 h⟩
theorem bds_end (s : ByteArray) : s.size ∈ bds s := (tiled_rise (cl_tile s)).2
theorem bds_lt {s : ByteArray} {i j a b : Nat} (h : i < j) (ha : (bds s)[i]? = some a) (hb : (bds s)[j]? = some b) : a < b := by
  obtain ⟨h1, rfl⟩ := List.getElem?_eq_some_iff.1 ha
  obtain ⟨h2, rfl⟩ := List.getElem?_eq_some_iff.1 hb
  exact List.pairwise_iff_getElem.1 (tiled_rise (cl_tile s)).1 i j h1 h2 h
theorem bds_at {s : ByteArray} {k : Nat} (h : k ∈ bds s) : ∃ j : Nat, (bds s)[j]? = some k := List.getElem?_of_mem h
theorem bds_le {s : ByteArray} {k : Nat} (h : k ∈ bds s) : k ≤ s.size := by
  have h1 := bds_cb h
  by_cases e : k ≤ s.size
  · exact e
  · rw [cb_out (.inr (by omega))] at h1; cases h1

theorem bd_found {s : ByteArray} {i : Int} {n b : Nat} (hb : (bds s)[n]? = some b) (e : (b : Int) = i) : cbZ s i = true := by
  rw [← e]; exact bds_cb (List.mem_of_getElem? hb)
theorem bd_none {s : ByteArray} {i : Int} {n : Nat} (hn : (bds s).length ≤ n) (hall : ∀ j c, j < n → (bds s)[j]? = some c → (c : Int) ≠ i) : cbZ s i = false := by
  cases h : cbZ s i with
  | false => rfl
  | true =>
    obtain ⟨k, rfl, hk⟩ := bds_of h
    obtain ⟨j, hj⟩ := bds_at hk
    exact absurd rfl (hall j k (by have := (List.getElem?_eq_some_iff.1 hj).1; omega) hj)
theorem next_found {s : ByteArray} {i : Int} {n b : Nat} (hb : (bds s)[n]? = some b) (hlt : i < b) (hall : ∀ j c, j < n → (bds s)[j]? = some c → (c : Int) ≤ i) : IsNext s i b :=
  ⟨bds_cb (List.mem_of_getElem? hb), .inl hlt, fun j h1 h2 => by
    cases h : cbZ s j with
    | false => rfl
    | true =>
      obtain ⟨k, rfl, hk⟩ := bds_of h
      obtain ⟨q, hq⟩ := bds_at hk
      rcases Nat.lt_trichotomy q n with h3 | rfl | h3
      · have := hall q k h3 hq; omega
      · rw [hb] at hq; cases hq; omega
      · have := bds_lt h3 hb hq; omega⟩
theorem next_none {s : ByteArray} {i : Int} {n : Nat} (hn : (bds s).length ≤ n) (hall : ∀ j c, j < n → (bds s)[j]? = some c → (c : Int) ≤ i) : IsNext s i s.size := by
  obtain ⟨q, hq⟩ := bds_at (bds_end s)
  have := hall q _ (by have := (List.getElem?_eq_some_iff.1 hq).1; omega) hq
  exact ⟨cb_end s, .inr ⟨rfl, this⟩, fun j h1 h2 => by omega⟩
theorem snap_found {s : ByteArray} {i : Int} {n b : Nat} (hb : (bds s)[n]? = some b) (hlt : i ≤ b) (hall : ∀ j c, j < n → (bds s)[j]? = some c → (c : Int) < i) : IsSnap s i b :=
  ⟨bds_cb (List.mem_of_getElem? hb), .inl hlt, fun j h1 h2 => by
    cases h : cbZ s j with
    | false => rfl
    | true =>
      obtain ⟨k, rfl, hk⟩ := bds_of h
      obtain ⟨q, hq⟩ := bds_at hk
      rcases Nat.lt_trichotomy q n with h3 | rfl | h3
      · have := hall q k h3 hq; omega
      · rw [hb] at hq; cases hq; omega
      · have := bds_lt h3 hb hq; omega⟩
theorem snap_none {s : ByteArray} {i : Int} {n : Nat} (hn : (bds s).length ≤ n) (hall : ∀ j c, j < n → (bds s)[j]? = some c → (c : Int) < i) : IsSnap s i s.size := by
  obtain ⟨q, hq⟩ := bds_at (bds_end s)
  have := hall q _ (by have := (List.getElem?_eq_some_iff.1 hq).1; omega) hq
  exact ⟨cb_end s, .inr ⟨rfl, by omega⟩, fun j h1 h2 => by omega⟩
theorem prev_found {s : ByteArray} {i : Int} {n b : Nat} (hb : (bds s)[n]? = some b) (hlt : (b : Int) < i) (hall : ∀ j c, n < j → (bds s)[j]? = some c → i ≤ (c : Int)) : IsPrev s i b :=
  ⟨bds_cb (List.mem_of_getElem? hb), .inl hlt, fun j h1 h2 => by
    cases h : cbZ s j with
    | false => rfl
    | true =>
      obtain ⟨k, rfl, hk⟩ := bds_of h
      obtain ⟨q, hq⟩ := bds_at hk
      rcases Nat.lt_trichotomy q n with h3 | rfl | h3
      · have := bds_lt h3 hq hb; omega
      · rw [hb] at hq; cases hq; omega
      · have := hall q k h3 hq; omega⟩
theorem prev_none {s : ByteArray} {i : Int} (hall : ∀ j c : Nat, (bds s)[j]? = some c → i ≤ (c : Int)) : IsPrev s i 0 := by
  have := hall 0 0 rfl
  exact ⟨cb_zero s, .inr ⟨rfl, by omega⟩, fun j h1 h2 => by omega⟩
end Go.Proofs.YtkmihnjmchfopaaGreatDoor
namespace Go.Proofs.YtkmihnjmchfopaaGreatDoor
open Go.RowKit Bod Wid

theorem info3 : (Tryz.prog.info? 3).map (fun i => (i.zero, i.size, i.bytes)) = some (some (.int .i64 0), 1, 8) := by kernel_rfl
def icells (xs : List Nat) : List Value := xs.map fun (i : Nat) => Value.int .i64 (i : Int)
theorem icells_get {xs : List Nat} {j b : Nat} (h : xs[j]? = some b) : (icells xs)[j]? = some (.int .i64 b) := by
  unfold icells
  rw [List.getElem?_map, h]; rfl
theorem cell_one_new (w : World) (a : Value) (t : TypeId) : ∀ j u, [a][j]? = some u → (w.alloc (.cells #[a] t)).cell? ((⟨w.heap.size, 0, none⟩ : Addr).add j) = some u := by
  intro j u hj
  match j, hj with
  | 0, hj => simp at hj; subst hj; simp [Addr.add]
theorem own_one (w : World) (base : Nat) (hb : base ≤ w.heap.size) : (w.alloc (.cells #[.int .i64 0] 3)).ownsRow base 3 1 (.slice (some ⟨w.heap.size, 0, none⟩) 1 1) 1 [.int .i64 0] :=
  ⟨rfl, .inr ⟨w.heap.size, 1, #[.int .i64 0], rfl, hb, World.alloc_heap_new w _, by omega, by unfold maxLen; omega, rfl, rfl⟩⟩

/-- a slice that reads as all boundaries -/
def RdB (W : World) (g : Nat) (s : ByteArray) : Prop := ∀ j b : Nat, (bds s)[j]? = some b → W.cell? ⟨g, j, none⟩ = some (.int .i64 b)
/-- rows of two types are not one -/
theorem row_ne {W : World} {b1 b2 e1 e2 z1 z2 n1 n2 : Nat} {v1 v2 : Value} {x1 x2 : List Value} (h1 : W.ownsRow b1 e1 z1 v1 n1 x1) (h2 : W.ownsRow b2 e2 z2 v2 n2 x2) (he : e1 ≠ e2) : v1.ownBlock = none ∨ v1.ownBlock ≠ v2.ownBlock := by
  rcases h1.2 with ⟨h0, _⟩ | ⟨g', cap', cur, hv, _, hgb, _⟩
  · left; rw [h0]; rfl
  · right
    rcases h2.2 with ⟨h0, _⟩ | ⟨g2, cap2, cur2, hv2, _, hgb2, _⟩
    · rw [hv, h0]; intro h; cases h
    · rw [hv, hv2]
      intro h
      cases h
      rw [hgb] at hgb2
      cases hgb2
      exact he rfl
theorem row_sl {W : World} {b e z n : Nat} {v : Value} {xs : List Value} (h : W.ownsRow b e z v n xs) : ∃ a c, v = .slice a n c := by
  rcases h.2 with ⟨h0, h1⟩ | ⟨g', cap', cur, hv, _⟩
  · exact ⟨none, 0, by rw [h0, h1]⟩
  · exact ⟨_, _, hv⟩

set_option maxRecDepth 100000 in
set_option maxHeartbeats 2000000 in
theorem rbounds_any (s : ByteArray) (hs : s.size ≤ 2097152) (w : World) :
    Calls Tryz.prog 189 #[.string s] w fun e W' => ∃ g cap, e = .returned (.slice (some ⟨g, 0, none⟩) (bds s).length cap) ∧ RdB W' g s ∧ g < W'.heap.size ∧ Below w.heap.size w W' := by
  obtain ⟨i0, hi, hz0, hz1, hz2⟩ := info_parts info3
  obtain ⟨l, hl⟩ : ∃ l, cl s = l := ⟨_, rfl⟩
  obtain ⟨N, hN⟩ : ∃ N, l.length = N := ⟨_, rfl⟩
  have hNs : N ≤ s.size := by rw [← hN, ← hl]; exact cl_len s
  have HLE : Hid (∀ c ∈ l, c.to ≤ s.size) := by rw [← hl]; exact fun c hc => (cl_span hc).2
  obtain ⟨W1, hW1⟩ : ∃ W1, w.alloc (.cells #[.int .i64 0] 3) = W1 := ⟨_, rfl⟩
  have hsz1 : W1.heap.size = w.heap.size + 1 := by rw [← hW1]; simp
  have hB1 : Below w.heap.size w W1 := by rw [← hW1]; exact (Below.refl _ w).alloc (Nat.le_refl _) _
  have hR1 : W1.ownsRow w.heap.size 3 1 (.slice (some ⟨w.heap.size, 0, none⟩) 1 1) 1 [.int .i64 0] := by rw [← hW1]; exact own_one w w.heap.size (Nat.le_refl _)
  have CL : Hid (Calls Tryz.prog 106 #[.string s] W1 fun e W' => ∃ a cap, e = .returned (.slice a N cap) ∧ Hid (W'.ownsRow W1.heap.size 157 4 (.slice a N cap) N (ccl l) ∧ W'.ownsRow w.heap.size 3 1 (.slice (some ⟨w.heap.size, 0, none⟩) 1 1) 1 [.int .i64 0] ∧ Below w.heap.size w W')) := (rlist_any s (by omega) W1).mono fun e W' ⟨v, h1, h2, h3⟩ => by
    rw [hl, hN] at h2
    obtain ⟨a, c, rfl⟩ := row_sl h2
    exact ⟨a, c, h1, h2, row_below' hR1 h3, hB1.trans (h3.mono hB1.size)⟩
  have HN : Hid (l.length = N) := hN
  have HL : Hid (cl s = l) := hl
  have HB1 : Hid (w.heap.size ≤ W1.heap.size) := hB1.size
  clear hN hl hB1 hR1 hsz1
  go_enter Tryz.func189, Tryz.ntmps189
  go_wp2_with (go_at_call 106; refine (Hid.out CL).mono ?_; clear CL; rintro e W2 ⟨a0, c0, rfl, HR2⟩)
  go_loopw [3, 5] (fun v k wr => ∃ n : Nat, k = .int .i64 n ∧ n ≤ N ∧ Hid (wr.ownsRow W1.heap.size 157 4 (.slice a0 N c0) N (ccl l) ∧ wr.ownsRow w.heap.size 3 1 v (n + 1) (icells (0 :: (l.take n).map (·.to))) ∧ Below w.heap.size w wr)) (fun _ k _ => N - (intOf k).toNat)
  case atStart => exact ⟨0, rfl, Nat.zero_le _, HR2.out⟩
  case round =>
    obtain ⟨n, rfl, hn, HI⟩ := hrel
    have hBs := HI.out.2.2.size
    by_cases hlt : n < N
    · obtain ⟨c, hc⟩ : ∃ c, l[n]? = some c := ⟨l[n]'(by rw [HN.out]; exact hlt), List.getElem?_eq_getElem _⟩
      have hr4 := HI.out.1
      rw [← HN.out] at hr4
      obtain ⟨a1, c1, he, hr⟩ := Rd4.of_row hr4
      obtain ⟨g, hg, hgl, hcell⟩ := hr (fun e => by rw [e] at hc; simp at hc)
      cases he
      subst hg
      have d1 : wr.cell? ⟨g, n * 4 + 1, none⟩ = some (.int .i64 c.to) := (hcell n c hc).2.1
      have hct := HLE.out c (List.mem_of_getElem? hc)
      have HC1 : Hid (l[n]? = some c) := hc
      clear hcell hc hr hr4
      obtain ⟨ct, hct'⟩ : ∃ ct, c.to = ct := ⟨_, rfl⟩
      rw [hct'] at d1 hct
      have HCT : Hid (c.to = ct) := hct'
      clear hct'
      have HR : Hid ((wr.alloc (.cells #[.int .i64 ct] 3)).ownsRow w.heap.size 3 1 _ (n + 1) (icells (0 :: (l.take n).map (·.to)))) := HI.out.2.1.alloc _
      have HR4 : Hid ((wr.alloc (.cells #[.int .i64 ct] 3)).ownsRow W1.heap.size 157 4 _ N (ccl l)) := HI.out.1.alloc _
      go_wp2_with (at_builtin; refine wpList_append_own _ rfl _ _ 223 rfl w.heap.size 3 i0 _ 1 8 Tryz.underlying223 hi hz0 hz1 hz2 rfl (by decide) _ (n + 1) _ rfl HR.out ⟨wr.heap.size, 0, none⟩ 1 1 [.int .i64 ct] rfl rfl (cell_one_new _ _ _) (by simp [Value.oneCell']) (by unfold maxLen; omega) (by omega) (by simp; omega) ?_; intro v3 w3 hrow3 hg3 _)
      refine ⟨⟨n + 1, by go_num, by omega, HR4.out.kept hg3 (row_ne HR4.out HR.out (by decide)), ?_, (HI.out.2.2.alloc hBs _).grown hg3 (by simp; omega) (fun j e => (HI.out.2.1.lt j e).1)⟩, by simp [intOf]; omega⟩
      have e : icells (0 :: (l.take (n + 1)).map (·.to)) = icells (0 :: (l.take n).map (·.to)) ++ [.int .i64 ct] := by
        rw [List.take_add_one, HC1.out]
        simp [icells, HCT.out]
      rw [e]
      exact hrow3
    · have hnN : n = N := by omega
      subst hnN
      have e : (0 :: (l.take n).map (·.to)) = bds s := by
        rw [← HN.out, List.take_length, ← HL.out]; rfl
      have hrow := HI.out.2.1
      rw [e] at hrow
      have hlen : n + 1 = (bds s).length := by rw [bds_len, HL.out, HN.out]
      rcases hrow.2 with ⟨_, h0⟩ | ⟨g, cap, cur, hv, hbg, _⟩
      · omega
      subst hv
      have HF : Hid (RdB wr g s) := fun j b hj => (hrow.cellAt j (by have := (List.getElem?_eq_some_iff.1 hj).1; omega)).trans (icells_get hj)
      have HG : Hid (g < wr.heap.size) := (hrow.lt g rfl).2
      have HLN : Hid (n + 1 = (bds s).length) := hlen
      clear hrow hlen e hlt
      go_wp2
      go_ret
      exact ⟨g, cap, by rw [← HLN.out]; rfl, HF.out, HG.out, HI.out.2.2⟩

set_option maxRecDepth 100000 in
set_option maxHeartbeats 1000000 in
theorem rbound_any (s : ByteArray) (i : Int) (hs : s.size ≤ 2097152) (w : World) :
    Calls Tryz.prog 156 #[.string s, .int .i64 i] w fun e w' => e = .returned (.bool (cbZ s i)) ∧ Below w.heap.size w w' := by
  have cB := rbounds_any s hs w
  obtain ⟨M, hM⟩ : ∃ M, (bds s).length = M := ⟨_, rfl⟩
  have hMs : M ≤ s.size + 1 := by rw [← hM, bds_len]; have := cl_len s; omega
  have HM : Hid ((bds s).length = M) := hM
  rw [hM] at cB
  clear hM
  go_enter Tryz.func156, Tryz.ntmps156
  go_wp2_with (go_at_call 189; refine cB.mono ?_; clear cB; rintro e W2 ⟨g, cap, rfl, hc, hg, hb1⟩; have hB2 : Hid (Below w.heap.size w W2) := hb1; have HC : Hid (RdB W2 g s) := hc; clear hb1 hc)
  go_loopw [6] (fun k wr => ∃ (n : Nat), k = .int .i64 n ∧ n ≤ M ∧ wr = W2 ∧ Hid (∀ j c : Nat, j < n → (bds s)[j]? = some c → (c : Int) ≠ i)) (fun k _ => M - (intOf k).toNat)
  case atStart => exact ⟨0, rfl, by omega, rfl, fun j c h => by omega⟩
  case round =>
    obtain ⟨n, rfl, hn, rfl, HD⟩ := hrel
    by_cases hlt : n < M
    · obtain ⟨x, hx⟩ : ∃ x, (bds s)[n]? = some x := ⟨(bds s)[n]'(by rw [HM.out]; exact hlt), List.getElem?_eq_getElem _⟩
      have hcn := HC.out n x hx
      have HX : Hid ((bds s)[n]? = some x) := hx
      clear hx
      by_cases hle : (x : Int) = i
      · subst hle
        have HR : Hid (cbZ s x = true) := bd_found HX.out rfl
        go_wp2
        go_ret
        exact ⟨ret_bool HR.out.symm, hB2.out⟩
      · have hne : ((x : Int) == i) = false := by simpa using hle
        go_wp2
        go_roundw
        case rel =>
          refine ⟨n + 1, by go_num, by omega, trivial, fun j c hj hc => ?_⟩
          by_cases e : j = n
          · subst e
            have := HX.out.symm.trans hc
            cases this
            omega
          · exact HD.out j c (by omega) hc
        case measure => simp [intOf]; omega
    · have HR : Hid (cbZ s i = false) := bd_none (n := n) (by rw [HM.out]; omega) HD.out
      go_wp2
      go_ret
      exact ⟨ret_bool HR.out.symm, hB2.out⟩

set_option maxRecDepth 100000 in
set_option maxHeartbeats 1000000 in
theorem rnext_any (s : ByteArray) (i : Int) (hs : s.size ≤ 2097152) (w : World) :
    Calls Tryz.prog 166 #[.string s, .int .i64 i] w fun e w' => ∃ m : Nat, e = .returned (.int .i64 m) ∧ IsNext s i m ∧ Below w.heap.size w w' := by
  have cB := rbounds_any s hs w
  obtain ⟨M, hM⟩ : ∃ M, (bds s).length = M := ⟨_, rfl⟩
  have hMs : M ≤ s.size + 1 := by rw [← hM, bds_len]; have := cl_len s; omega
  have HM : Hid ((bds s).length = M) := hM
  rw [hM] at cB
  clear hM
  go_enter Tryz.func166, Tryz.ntmps166
  go_wp2_with (go_at_call 189; refine cB.mono ?_; clear cB; rintro e W2 ⟨g, cap, rfl, hc, hg, hb1⟩; have hB2 : Hid (Below w.heap.size w W2) := hb1; have HC : Hid (RdB W2 g s) := hc; clear hb1 hc)
  go_loopw [6] (fun k wr => ∃ (n : Nat), k = .int .i64 n ∧ n ≤ M ∧ wr = W2 ∧ Hid (∀ j c : Nat, j < n → (bds s)[j]? = some c → (c : Int) ≤ i)) (fun k _ => M - (intOf k).toNat)
  case atStart => exact ⟨0, rfl, by omega, rfl, fun j c h => by omega⟩
  case round =>
    obtain ⟨n, rfl, hn, rfl, HD⟩ := hrel
    by_cases hlt : n < M
    · obtain ⟨x, hx⟩ : ∃ x, (bds s)[n]? = some x := ⟨(bds s)[n]'(by rw [HM.out]; exact hlt), List.getElem?_eq_getElem _⟩
      have hcn := HC.out n x hx
      have HX : Hid ((bds s)[n]? = some x) := hx
      clear hx
      by_cases hle : i < (x : Int)
      · have HR : Hid (IsNext s i x) := next_found HX.out hle HD.out
        go_wp2
        go_ret
        exact ⟨x, rfl, HR.out, hB2.out⟩
      · go_wp2
        go_roundw
        case rel =>
          refine ⟨n + 1, by go_num, by omega, trivial, fun j c hj hc => ?_⟩
          by_cases e : j = n
          · subst e
            have := HX.out.symm.trans hc
            cases this
            omega
          · exact HD.out j c (by omega) hc
        case measure => simp [intOf]; omega
    · have HR : Hid (IsNext s i s.size) := next_none (n := n) (by rw [HM.out]; omega) HD.out
      go_wp2
      go_ret
      exact ⟨s.size, rfl, HR.out, hB2.out⟩

set_option maxRecDepth 100000 in
set_option maxHeartbeats 1000000 in
theorem rsnap_any (s : ByteArray) (i : Int) (hs : s.size ≤ 2097152) (w : World) :
    Calls Tryz.prog 168 #[.string s, .int .i64 i] w fun e w' => ∃ m : Nat, e = .returned (.int .i64 m) ∧ IsSnap s i m ∧ Below w.heap.size w w' := by
  have cB := rbounds_any s hs w
  obtain ⟨M, hM⟩ : ∃ M, (bds s).length = M := ⟨_, rfl⟩
  have hMs : M ≤ s.size + 1 := by rw [← hM, bds_len]; have := cl_len s; omega
  have HM : Hid ((bds s).length = M) := hM
  rw [hM] at cB
  clear hM
  go_enter Tryz.func168, Tryz.ntmps168
  go_wp2_with (go_at_call 189; refine cB.mono ?_; clear cB; rintro e W2 ⟨g, cap, rfl, hc, hg, hb1⟩; have hB2 : Hid (Below w.heap.size w W2) := hb1; have HC : Hid (RdB W2 g s) := hc; clear hb1 hc)
  go_loopw [6] (fun k wr => ∃ (n : Nat), k = .int .i64 n ∧ n ≤ M ∧ wr = W2 ∧ Hid (∀ j c : Nat, j < n → (bds s)[j]? = some c → (c : Int) < i)) (fun k _ => M - (intOf k).toNat)
  case atStart => exact ⟨0, rfl, by omega, rfl, fun j c h => by omega⟩
  case round =>
    obtain ⟨n, rfl, hn, rfl, HD⟩ := hrel
    by_cases hlt : n < M
    · obtain ⟨x, hx⟩ : ∃ x, (bds s)[n]? = some x := ⟨(bds s)[n]'(by rw [HM.out]; exact hlt), List.getElem?_eq_getElem _⟩
      have hcn := HC.out n x hx
      have HX : Hid ((bds s)[n]? = some x) := hx
      clear hx
      by_cases hle : i ≤ (x : Int)
      · have HR : Hid (IsSnap s i x) := snap_found HX.out hle HD.out
        go_wp2
        go_ret
        exact ⟨x, rfl, HR.out, hB2.out⟩
      · go_wp2
        go_roundw
        case rel =>
          refine ⟨n + 1, by go_num, by omega, trivial, fun j c hj hc => ?_⟩
          by_cases e : j = n
          · subst e
            have := HX.out.symm.trans hc
            cases this
            omega
          · exact HD.out j c (by omega) hc
        case measure => simp [intOf]; omega
    · have HR : Hid (IsSnap s i s.size) := snap_none (n := n) (by rw [HM.out]; omega) HD.out
      go_wp2
      go_ret
      exact ⟨s.size, rfl, HR.out, hB2.out⟩

set_option maxRecDepth 100000 in
set_option maxHeartbeats 1000000 in
theorem rprev_any (s : ByteArray) (i : Int) (hs : s.size ≤ 2097152) (w : World) :
    Calls Tryz.prog 167 #[.string s, .int .i64 i] w fun e w' => ∃ m : Nat, e = .returned (.int .i64 m) ∧ IsPrev s i m ∧ Below w.heap.size w w' := by
  have cB := rbounds_any s hs w
  obtain ⟨M, hM⟩ : ∃ M, (bds s).length = M := ⟨_, rfl⟩
  have hMs : M ≤ s.size + 1 := by rw [← hM, bds_len]; have := cl_len s; omega
  have HM : Hid ((bds s).length = M) := hM
  rw [hM] at cB
  clear hM
  go_enter Tryz.func167, Tryz.ntmps167
  go_wp2_with (go_at_call 189; refine cB.mono ?_; clear cB; rintro e W2 ⟨g, cap, rfl, hc, hg, hb1⟩; have hB2 : Hid (Below w.heap.size w W2) := hb1; have HC : Hid (RdB W2 g s) := hc; clear hb1 hc)
  go_loopw [6] (fun k wr => ∃ (n : Nat), k = .int .i64 ((n : Int) - 1) ∧ n ≤ M ∧ wr = W2 ∧ Hid (∀ j c : Nat, n ≤ j → (bds s)[j]? = some c → i ≤ (c : Int))) (fun k _ => (intOf k + 1).toNat)
  case atStart => exact ⟨M, by go_num, by omega, rfl, fun j c h hc => by have := (List.getElem?_eq_some_iff.1 hc).1; rw [HM.out] at this; omega⟩
  case round =>
    obtain ⟨n, rfl, hn, rfl, HD⟩ := hrel
    cases n with
    | succ n =>
      have e1 : ((n + 1 : Nat) : Int) - 1 = (n : Int) := by omega
      rw [e1]
      obtain ⟨x, hx⟩ : ∃ x, (bds s)[n]? = some x := ⟨(bds s)[n]'(by rw [HM.out]; omega), List.getElem?_eq_getElem _⟩
      have hcn := HC.out n x hx
      have HX : Hid ((bds s)[n]? = some x) := hx
      clear hx e1
      by_cases hle : (x : Int) < i
      · have HR : Hid (IsPrev s i x) := prev_found HX.out hle (fun j c h => HD.out j c (by omega))
        go_wp2
        go_ret
        exact ⟨x, rfl, HR.out, hB2.out⟩
      · go_wp2
        go_roundw
        case rel =>
          refine ⟨n, by go_num, by omega, trivial, fun j c hj hc => ?_⟩
          by_cases e : j = n
          · subst e
            have := HX.out.symm.trans hc
            cases this
            omega
          · exact HD.out j c (by omega) hc
        case measure => simp [intOf]
    | zero =>
      have HR : Hid (IsPrev s i 0) := prev_none (fun j c => HD.out j c (Nat.zero_le _))
      go_wp2
      go_ret
      exact ⟨0, rfl, HR.out, hB2.out⟩
end Go.Proofs.YtkmihnjmchfopaaGreatDoor
namespace Go.Proofs.YtkmihnjmchfopaaGreatDoor.Sto
open Go.RowKit Go.Shelf Bod Wid
open Gap (Gp)

section
variable {w : World} {b p : Nat} {g : Gp} {k : Rk}
set_option maxRecDepth 100000 in
theorem rbound9_any (h : Rf w b p g k) (hz : g.s.size ≤ 2097152) (i : Int) : Calls Tryz.prog 122 #[.pointer (some ⟨b, 0, none⟩), .int .i64 i] w fun e W' => e = .returned (.bool (cbZ g.s i)) ∧ Below w.heap.size w W' := by
  obtain ⟨⟨c0, c1, c2, c3, c4, c5, c6, c7⟩, hlt⟩ := rcells h.box
  obtain ⟨⟨d0, d1, d2⟩, _, _, hlp⟩ := h.buf.cells
  have C1 : Hid (Calls Tryz.prog 156 #[.string g.s, .int .i64 i] w fun e W' => e = .returned (.bool (cbZ g.s i)) ∧ Hid (Below w.heap.size w W')) := rbound_any g.s i hz w
  generalize cbZ g.s i = r at C1 ⊢
  clear h hz
  go_enter Tryz.func122, Tryz.ntmps122
  go_wp2_with (go_at_call 156; refine C1.out.mono ?_; clear C1; rintro e w1 ⟨rfl, HB⟩)
  go_ret
  exact ⟨rfl, HB.out⟩
set_option maxRecDepth 100000 in
theorem rnext9_any (h : Rf w b p g k) (hz : g.s.size ≤ 2097152) (i : Int) : Calls Tryz.prog 123 #[.pointer (some ⟨b, 0, none⟩), .int .i64 i] w fun e W' => ∃ m : Nat, e = .returned (.int .i64 m) ∧ IsNext g.s i m ∧ Below w.heap.size w W' := by
  obtain ⟨⟨c0, c1, c2, c3, c4, c5, c6, c7⟩, hlt⟩ := rcells h.box
  obtain ⟨⟨d0, d1, d2⟩, _, _, hlp⟩ := h.buf.cells
  have C1 : Hid (Calls Tryz.prog 166 #[.string g.s, .int .i64 i] w fun e W' => ∃ m : Nat, e = .returned (.int .i64 m) ∧ Hid (IsNext g.s i m ∧ Below w.heap.size w W')) := rnext_any g.s i hz w
  clear h hz
  go_enter Tryz.func123, Tryz.ntmps123
  go_wp2_with (go_at_call 166; refine C1.out.mono ?_; clear C1; rintro e w1 ⟨m, rfl, HB⟩)
  go_ret
  exact ⟨m, rfl, HB.out⟩
set_option maxRecDepth 100000 in
theorem rprev9_any (h : Rf w b p g k) (hz : g.s.size ≤ 2097152) (i : Int) : Calls Tryz.prog 124 #[.pointer (some ⟨b, 0, none⟩), .int .i64 i] w fun e W' => ∃ m : Nat, e = .returned (.int .i64 m) ∧ IsPrev g.s i m ∧ Below w.heap.size w W' := by
  obtain ⟨⟨c0, c1, c2, c3, c4, c5, c6, c7⟩, hlt⟩ := rcells h.box
  obtain ⟨⟨d0, d1, d2⟩, _, _, hlp⟩ := h.buf.cells
  have C1 : Hid (Calls Tryz.prog 167 #[.string g.s, .int .i64 i] w fun e W' => ∃ m : Nat, e = .returned (.int .i64 m) ∧ Hid (IsPrev g.s i m ∧ Below w.heap.size w W')) := rprev_any g.s i hz w
  clear h hz
  go_enter Tryz.func124, Tryz.ntmps124
  go_wp2_with (go_at_call 167; refine C1.out.mono ?_; clear C1; rintro e w1 ⟨m, rfl, HB⟩)
  go_ret
  exact ⟨m, rfl, HB.out⟩
set_option maxRecDepth 100000 in
theorem rsnap9_any (h : Rf w b p g k) (hz : g.s.size ≤ 2097152) (i : Int) : Calls Tryz.prog 125 #[.pointer (some ⟨b, 0, none⟩), .int .i64 i] w fun e W' => ∃ m : Nat, e = .returned (.int .i64 m) ∧ IsSnap g.s i m ∧ Below w.heap.size w W' := by
  obtain ⟨⟨c0, c1, c2, c3, c4, c5, c6, c7⟩, hlt⟩ := rcells h.box
  obtain ⟨⟨d0, d1, d2⟩, _, _, hlp⟩ := h.buf.cells
  have C1 : Hid (Calls Tryz.prog 168 #[.string g.s, .int .i64 i] w fun e W' => ∃ m : Nat, e = .returned (.int .i64 m) ∧ Hid (IsSnap g.s i m ∧ Below w.heap.size w W')) := rsnap_any g.s i hz w
  clear h hz
  go_enter Tryz.func125, Tryz.ntmps125
  go_wp2_with (go_at_call 168; refine C1.out.mono ?_; clear C1; rintro e w1 ⟨m, rfl, HB⟩)
  go_ret
  exact ⟨m, rfl, HB.out⟩
end
end Go.Proofs.YtkmihnjmchfopaaGreatDoor.Sto
namespace Go.Proofs.YtkmihnjmchfopaaGreatDoor.Sto
open Bod Wid

theorem cb_piece {s : ByteArray} {f t i : Nat} (hf : f < i) (ht : i < t) (hts : t ≤ s.size) (h1 : f = 0 ∨ f + 4 ≤ i) (h2 : t = s.size ∨ i + 4 ≤ t) : cbZ (s.extract f t) ((i - f : Nat) : Int) = cbZ s i := by
  have hs := size_extract s f t hts
  refine cb_near (by omega) (by rw [hs]; omega) (by omega) (by omega) (by omega) fun d h3 h4 => ?_
  rw [un_extract s f t (i - f - d) hts (by omega) (by omega)]
  congr 1
  omega
theorem next_piece {s : ByteArray} {a f t m : Nat} (ha : a < t) (hts : t ≤ s.size) (hfa : f ≤ a) (hf : f = 0 ∨ f + 4 ≤ a) (hm : IsNext (s.extract f t) ((a - f : Nat) : Int) m) (h : f + m + 4 ≤ t ∨ t = s.size) : IsNext s (a : Int) (f + m) := by
  have hz := size_extract s f t hts
  obtain ⟨_, e, b⟩ := cb_B hm.cb
  have hmz : m ≤ t - f := by have := b.1; omega
  have hup : a - f < m := by
    rcases hm.up with h | ⟨_, h⟩
    · omega
    · rw [hz] at h; omega
  refine ⟨?_, .inl (by omega), fun j h1 h2 => ?_⟩
  · by_cases e : f + m = s.size
    · rw [e]; exact cb_end s
    · have := cb_piece (s := s) (i := f + m) (f := f) (t := t) (by omega) (by omega) hts (by omega) (by omega)
      rw [show f + m - f = m by omega] at this
      rw [← this]
      exact hm.cb
  · obtain ⟨k, rfl⟩ := Int.eq_ofNat_of_zero_le (show 0 ≤ j by omega)
    have := cb_piece (s := s) (i := k) (f := f) (t := t) (by omega) (by omega) hts (by omega) (by omega)
    rw [← this]
    exact hm.no _ (by omega) (by omega)
theorem prev_piece {s : ByteArray} {a f t m : Nat} (hat : a ≤ t) (hts : t ≤ s.size) (hfa : f < a) (ht : t = s.size ∨ a + 4 ≤ t) (hm : IsPrev (s.extract f t) ((a - f : Nat) : Int) m) (h : 4 ≤ m ∨ f = 0) : IsPrev s (a : Int) (f + m) := by
  have hdn : m < a - f := by
    rcases hm.dn with h | ⟨h, h'⟩
    · omega
    · omega
  refine ⟨?_, .inl (by omega), fun j h1 h2 => ?_⟩
  · by_cases e : f + m = 0
    · rw [e]; exact cb_zero s
    · have := cb_piece (s := s) (i := f + m) (f := f) (t := t) (by omega) (by omega) hts (by omega) (by omega)
      rw [show f + m - f = m by omega] at this
      rw [← this]
      exact hm.cb
  · obtain ⟨k, rfl⟩ := Int.eq_ofNat_of_zero_le (show 0 ≤ j by omega)
    have := cb_piece (s := s) (i := k) (f := f) (t := t) (by omega) (by omega) hts (by omega) (by omega)
    rw [← this]
    exact hm.no _ (by omega) (by omega)
theorem bound_piece {s : ByteArray} {a : Nat} (ha : a ≤ s.size) : cbZ (s.extract (a - 4) (min (a + 4) s.size)) ((a - (a - 4) : Nat) : Int) = cbZ s a := by
  by_cases h0 : a = 0
  · subst h0
    rw [show ((0 - (0 - 4) : Nat) : Int) = 0 from rfl, cb_zero]
    exact (cb_zero s).symm
  · by_cases h1 : a = s.size
    · have hz := size_extract s (a - 4) (min (a + 4) s.size) (by omega)
      have e : ((a - (a - 4) : Nat) : Int) = ((s.extract (a - 4) (min (a + 4) s.size)).size : Nat) := by rw [hz]; omega
      rw [e, cb_end, h1, cb_end]
    · exact cb_piece (by omega) (by omega) (by omega) (by omega) (by omega)
theorem next_low {s : ByteArray} {i : Int} (h : i < 0) : IsNext s i 0 := ⟨cb_zero s, .inl h, fun _ _ h2 => cb_out (.inl h2)⟩
theorem next_high {s : ByteArray} {i : Int} (h : (s.size : Int) ≤ i) : IsNext s i s.size := ⟨cb_end s, .inr ⟨rfl, h⟩, fun j h1 h2 => by omega⟩
theorem prev_low {s : ByteArray} {i : Int} (h : i ≤ 0) : IsPrev s i 0 := ⟨cb_zero s, .inr ⟨rfl, h⟩, fun j h1 h2 => by omega⟩
theorem prev_high {s : ByteArray} {i : Int} (h : (s.size : Int) < i) : IsPrev s i s.size := ⟨cb_end s, .inl h, fun _ h1 _ => cb_out (.inr h1)⟩
end Go.Proofs.YtkmihnjmchfopaaGreatDoor.Sto
namespace Go.Proofs.YtkmihnjmchfopaaGreatDoor.Sto
open Go.RowKit Go.Shelf Bod Wid
open Gap (gSlice gRng)

theorem gSlice_nat {s : ByteArray} {f t : Nat} (h1 : f ≤ t) (h2 : t ≤ s.size) : (gSlice s (f : Int) (t : Int)).1 = s.extract f t := by
  have h : gRng (f : Int) (t : Int) s.size = false := by simp [gRng]; omega
  unfold gSlice
  rw [h]
  rfl
/-- the text's length, and a piece of it, in later worlds -/
structure Pcs (w : World) (v : Value) (s : ByteArray) (n : Nat) : Prop where
  len0 : ∀ W, Below w.heap.size w W → Calls Tryz.prog 67 #[v] W fun e W' => e = .returned (.int .i64 n) ∧ Below W.heap.size W W'
  piece0 : ∀ (W : World) (f t : Nat), Below w.heap.size w W → f ≤ t → t ≤ n → Calls Tryz.prog 113 #[v, .int .i64 f, .int .i64 t] W fun e W' => e = .returned (.string (s.extract f t)) ∧ Below W.heap.size W W'
  size : s.size = n
  le : n ≤ 1073741824
theorem Pcs.len {w : World} {v : Value} {s : ByteArray} {n : Nat} (h : Pcs w v s n) : Calls Tryz.prog 67 #[v] w fun e W' => e = .returned (.int .i64 n) ∧ Hid (Below w.heap.size w W') := h.len0 w (Below.refl _ w)
theorem Pcs.piece {w : World} {v : Value} {s : ByteArray} {n : Nat} (h : Pcs w v s n) (W : World) (f t : Nat) (hW : Hid (Below w.heap.size w W)) (h1 : f ≤ t) (h2 : t ≤ n) : Calls Tryz.prog 113 #[v, .int .i64 f, .int .i64 t] W fun e W' => e = .returned (.string (s.extract f t)) ∧ Hid (Below w.heap.size w W') :=
  (h.piece0 W f t hW.out h1 h2).mono fun _ _ ⟨q1, q2⟩ => ⟨q1, Below.on hW.out q2⟩
theorem Pcs.below {w W : World} {v : Value} {s : ByteArray} {n : Nat} (h : Pcs w v s n) (hb : Below w.heap.size w W) : Pcs W v s n := ⟨fun X hX => h.len0 X (Below.on hb hX), fun X f t hX => h.piece0 X f t (Below.on hb hX), h.size, h.le⟩
theorem pcs_of {w : World} {v : Value} {x : Option Tx} {k : Sk} {K : Kp} (h : Spt w v x k) (hH : Hold w (Tx.or x) K) : Pcs w v K.text K.text.size :=
  ⟨fun W hW => slen_any (h.below hW) (hH.below hW), fun W f t hW h1 h2 => (spiece_any (h.below hW) (hH.below hW) f t).mono fun e W' ⟨q1, q2⟩ => ⟨by rw [q1, gSlice_nat h1 h2], q2⟩, rfl, by have := hH.size; omega⟩
set_option maxRecDepth 100000 in
set_option maxHeartbeats 1000000 in
theorem bound_of {w : World} {v : Value} {s : ByteArray} {n : Nat} (h : Pcs w v s n) (hE : Ev w) (i : Int) (hi : i ≤ 9223372036854775807) : Calls Tryz.prog 84 #[v, .int .i64 i] w fun e W' => e = .returned (.bool (cbZ s i)) ∧ Below w.heap.size w W' := by
  have C1 : Hid (Calls Tryz.prog 67 #[v] w fun e W' => e = .returned (.int .i64 n) ∧ Hid (Below w.heap.size w W')) := h.len
  have hz := h.size
  have hn := h.le
  by_cases c1 : i < 0
  · rw [cb_out (.inl c1)]
    clear h hE hz
    go_enter Tryz.func84, Tryz.ntmps84
    go_wp2_with (go_at_call 67; refine C1.out.mono ?_; clear C1; rintro e w1 ⟨rfl, HB⟩)
    go_ret
    exact ⟨rfl, HB.out⟩
  by_cases c2 : (n : Int) < i
  · rw [cb_out (.inr (by rw [hz]; exact c2))]
    clear h hE hz
    go_enter Tryz.func84, Tryz.ntmps84
    go_wp2_with (go_at_call 67; refine C1.out.mono ?_; clear C1; rintro e w1 ⟨rfl, HB⟩)
    go_ret
    exact ⟨rfl, HB.out⟩
  obtain ⟨a, rfl⟩ := Int.eq_ofNat_of_zero_le (show 0 ≤ i by omega)
  obtain ⟨f, hf⟩ : ∃ f, a - 4 = f := ⟨_, rfl⟩
  obtain ⟨t, ht⟩ : ∃ t, min (a + 4) n = t := ⟨_, rfl⟩
  obtain ⟨d, hd⟩ : ∃ d, a - f = d := ⟨_, rfl⟩
  have e1 : max ((a : Int) - 4) 0 = f := by omega
  have e2 : min ((a : Int) + 4) n = t := by omega
  have e3 : (a : Int) - f = d := by omega
  have C2 : Hid (∀ W, Hid (Below w.heap.size w W) → Calls Tryz.prog 113 #[v, .int .i64 f, .int .i64 t] W fun e W' => e = .returned (.string (s.extract f t)) ∧ Hid (Below w.heap.size w W')) := fun W hW => h.piece W f t hW (by omega) (by omega)
  have hp := size_extract s f t (by omega)
  have C3 : Hid (∀ W, Hid (Below w.heap.size w W) → Calls Tryz.prog 14 #[.string (s.extract f t), .int .i64 d] W fun e W' => e = .returned (.bool (cbZ s a)) ∧ Below w.heap.size w W') := fun W hW => by
    have := cbound_any (s.extract f t) d (by unfold maxLen; omega) W (hE.below hW.out).t (by omega)
    have hb := bound_piece (s := s) (a := a) (by omega)
    rw [hz, hf, ht, hd] at hb
    rw [hb] at this
    exact this.mono fun e W' ⟨q1, q2⟩ => ⟨q1, Below.on hW.out q2⟩
  generalize cbZ s a = R at C3 ⊢
  generalize s.extract f t = p at C2 C3
  have b1 : (a : Int) ≤ 1073741824 := by omega
  clear h hE hz hp hf ht hd
  go_enter Tryz.func84, Tryz.ntmps84
  go_wp2_with (first
    | (go_at_call 67; refine C1.out.mono ?_; clear C1; rintro e w1 ⟨rfl, HB⟩)
    | (go_at_call 113; refine (C2.out _ HB).mono ?_; clear C2 HB; rintro e w2 ⟨rfl, HB⟩)
    | (go_at_call 14; refine (C3.out _ HB).mono ?_; clear C3 HB; rintro e w3 ⟨rfl, hb⟩; have HB : Hid (Below w.heap.size w w3) := hb; clear hb))
  go_ret
  exact ⟨rfl, HB.out⟩
set_option maxRecDepth 100000 in
set_option maxHeartbeats 1000000 in
theorem next_of {w : World} {v : Value} {s : ByteArray} {n : Nat} (h : Pcs w v s n) (hE : Ev w) (i : Int) : Calls Tryz.prog 81 #[v, .int .i64 i] w fun e W' => ∃ m : Nat, e = .returned (.int .i64 m) ∧ IsNext s i m ∧ Below w.heap.size w W' := by
  have C1 : Hid (Calls Tryz.prog 67 #[v] w fun e W' => e = .returned (.int .i64 n) ∧ Hid (Below w.heap.size w W')) := h.len
  have hz := h.size
  have hn := h.le
  by_cases c1 : i < 0
  · have HN : Hid (IsNext s i 0) := next_low c1
    clear h hE hz
    go_enter Tryz.func81, Tryz.ntmps81
    go_wp2_with (go_at_call 67; refine C1.out.mono ?_; clear C1; rintro e w1 ⟨rfl, HB⟩)
    go_ret
    exact ⟨0, rfl, HN.out, HB.out⟩
  by_cases c2 : (n : Int) ≤ i
  · have HN : Hid (IsNext s i n) := by have := next_high (s := s) (i := i) (by rw [hz]; exact c2); rw [hz] at this; exact this
    clear h hE hz
    go_enter Tryz.func81, Tryz.ntmps81
    go_wp2_with (go_at_call 67; refine C1.out.mono ?_; clear C1; rintro e w1 ⟨rfl, HB⟩)
    go_ret
    exact ⟨n, rfl, HN.out, HB.out⟩
  obtain ⟨a, rfl⟩ := Int.eq_ofNat_of_zero_le (show 0 ≤ i by omega)
  obtain ⟨f, hf⟩ : ∃ f, a - 4 = f := ⟨_, rfl⟩
  obtain ⟨d, hd⟩ : ∃ d, a - f = d := ⟨_, rfl⟩
  have e1 : max ((a : Int) - 4) 0 = f := by omega
  have e3 : (a : Int) - f = d := by omega
  have b1 : (a : Int) ≤ 1073741824 := by omega
  have HP : Hid (Pcs w v s n ∧ Ev w ∧ a - 4 = f ∧ a - f = d ∧ a < n) := ⟨h, hE, hf, hd, by omega⟩
  clear h hE hz hf hd
  obtain ⟨M, hM⟩ : ∃ M : Nat, 2147483648 ≤ M ∧ M ≤ 2147483648 := ⟨2147483648, by omega, by omega⟩
  have HMM : Hid (2147483648 ≤ M ∧ M ≤ 2147483648) := hM
  clear hM
  have t1 : decide ((a : Int) < 0) = false := by simp
  have t2 : decide (n ≤ a) = false := by simp; omega
  have t3 : decide ((n : Int) ≤ a) = false := by simp; omega
  go_enter Tryz.func81, Tryz.ntmps81
  go_wp2_with (go_at_call 67; refine C1.out.mono ?_; clear C1; rintro e w1 ⟨rfl, HB⟩)
  go_loopw [7] (fun t7 wr => ∃ r : Nat, t7 = .int .i64 r ∧ 32 ≤ r ∧ r ≤ M ∧ Hid (Below w.heap.size w wr)) (fun t7 _ => M - (intOf t7).toNat)
  case atStart => exact ⟨32, rfl, by omega, by have := HMM.out; omega, HB.out⟩
  case round =>
    clear HB
    obtain ⟨r, rfl, hr1, hr2, HB⟩ := hrel
    have hr4 : (r : Int) ≤ 2147483648 := by have := HMM.out; omega
    obtain ⟨t, ht⟩ : ∃ t, min (a + r) n = t := ⟨_, rfl⟩
    have e2 : min ((a : Int) + r) n = t := by omega
    have ht1 : f ≤ t := by have := HP.out.2.2; omega
    have ht2 : a < t ∧ t ≤ n := by have := HP.out.2.2; omega
    have hz := HP.out.1.size
    have hp := size_extract s f t (by omega)
    obtain ⟨m, hm⟩ : ∃ m, IsNext (s.extract f t) (d : Int) m := ⟨_, nxC_is (by have := HP.out.2.2; omega)⟩
    have hmz : m ≤ t := by obtain ⟨_, e, b⟩ := cb_B hm.cb; have := b.1; omega
    have C2 : Hid (∀ W, Hid (Below w.heap.size w W) → Calls Tryz.prog 113 #[v, .int .i64 f, .int .i64 t] W fun e W' => e = .returned (.string (s.extract f t)) ∧ Hid (Below w.heap.size w W')) := fun W hW => HP.out.1.piece W f t hW ht1 ht2.2
    have C3 : Hid (∀ W, Hid (Below w.heap.size w W) → Calls Tryz.prog 49 #[.string (s.extract f t), .int .i64 d] W fun e W' => e = .returned (.int .i64 m) ∧ Hid (Below w.heap.size w W')) := fun W hW =>
      (cnext_any (s.extract f t) d (by unfold maxLen; omega) W (HP.out.2.1.below hW.out).t).mono fun e W' ⟨m', q1, q2, q3⟩ => ⟨by rw [q1, q2.uniq hm], Below.on hW.out q3⟩
    have HM : Hid (f + m + 4 ≤ t ∨ t = n → IsNext s a (f + m)) := fun hc => by
      have h2 := HP.out.2.2
      refine next_piece (a := a) (f := f) (t := t) (m := m) ht2.1 (by omega) (by omega) (by omega) ?_ (by rw [hz]; exact hc)
      rw [h2.2.1]; exact hm
    have HR : Hid (t < n → r < n ∧ a + r = t) := fun h => by omega
    generalize s.extract f t = p at C2 C3 hm hp
    have b2 : (f : Int) ≤ 1073741824 ∧ (m : Int) ≤ 1073741824 ∧ (t : Int) ≤ 1073741824 := by omega
    clear hm hp hz ht ht1
    by_cases c3 : f + m + 4 ≤ t
    · have c4 : (f : Int) + m ≤ (t : Int) - 4 := by omega
      have HN : Hid (IsNext s a (f + m)) := HM.out (.inl c3)
      clear c3 HM HR HP
      go_wp2_with (first
        | (go_at_call 113; refine (C2.out _ HB).mono ?_; clear C2 HB; rintro e w2 ⟨rfl, HB⟩)
        | (go_at_call 49; refine (C3.out _ HB).mono ?_; clear C3 HB; rintro e w3 ⟨rfl, HB⟩))
      go_ret
      exact ⟨f + m, ret_int (by omega), HN.out, HB.out⟩
    · have c4 : ¬ ((f : Int) + m ≤ (t : Int) - 4) := by omega
      by_cases c5 : t = n
      · have HN : Hid (IsNext s a (f + m)) := HM.out (.inr c5)
        subst c5
        clear c3 HM HR HP
        go_wp2_with (first
          | (go_at_call 113; refine (C2.out _ HB).mono ?_; clear C2 HB; rintro e w2 ⟨rfl, HB⟩)
          | (go_at_call 49; refine (C3.out _ HB).mono ?_; clear C3 HB; rintro e w3 ⟨rfl, HB⟩))
        go_ret
        exact ⟨f + m, ret_int (by omega), HN.out, HB.out⟩
      · have c6 : ¬ ((t : Int) = n) := by omega
        have c7 : ((t : Int) == n) = false := by simp; omega
        have hrn := HR.out (by omega)
        have HR3 : Hid (r < 1073741824) := by show r < 1073741824; omega
        clear c3 HM HR hrn
        go_wp2_with (first
          | (go_at_call 113; refine (C2.out _ HB).mono ?_; clear C2 HB; rintro e w2 ⟨rfl, HB⟩)
          | (go_at_call 49; refine (C3.out _ HB).mono ?_; clear C3 HB; rintro e w3 ⟨rfl, HB⟩))
        have hm2 := HMM.out
        have hm3 := HR3.out
        exact ⟨⟨r * 2, by go_num, by omega, by omega, HB.out⟩, by simp [intOf]; omega⟩
set_option maxRecDepth 100000 in
set_option maxHeartbeats 1000000 in
theorem prev_of {w : World} {v : Value} {s : ByteArray} {n : Nat} (h : Pcs w v s n) (hE : Ev w) (i : Int) : Calls Tryz.prog 82 #[v, .int .i64 i] w fun e W' => ∃ m : Nat, e = .returned (.int .i64 m) ∧ IsPrev s i m ∧ Below w.heap.size w W' := by
  have C1 : Hid (Calls Tryz.prog 67 #[v] w fun e W' => e = .returned (.int .i64 n) ∧ Hid (Below w.heap.size w W')) := h.len
  have hz := h.size
  have hn := h.le
  by_cases c1 : (n : Int) < i
  · have HN : Hid (IsPrev s i n) := by have := prev_high (s := s) (i := i) (by rw [hz]; exact c1); rw [hz] at this; exact this
    clear h hE hz
    go_enter Tryz.func82, Tryz.ntmps82
    go_wp2_with (go_at_call 67; refine C1.out.mono ?_; clear C1; rintro e w1 ⟨rfl, HB⟩)
    go_ret
    exact ⟨n, rfl, HN.out, HB.out⟩
  by_cases c2 : i ≤ 0
  · have HN : Hid (IsPrev s i 0) := prev_low c2
    clear h hE hz
    go_enter Tryz.func82, Tryz.ntmps82
    go_wp2_with (go_at_call 67; refine C1.out.mono ?_; clear C1; rintro e w1 ⟨rfl, HB⟩)
    go_ret
    exact ⟨0, rfl, HN.out, HB.out⟩
  obtain ⟨a, rfl⟩ := Int.eq_ofNat_of_zero_le (show 0 ≤ i by omega)
  obtain ⟨t, ht⟩ : ∃ t, min (a + 4) n = t := ⟨_, rfl⟩
  have e1 : min ((a : Int) + 4) n = t := by omega
  have b1 : (a : Int) ≤ 1073741824 := by omega
  have HP : Hid (Pcs w v s n ∧ Ev w ∧ min (a + 4) n = t ∧ 0 < a ∧ a ≤ n) := ⟨h, hE, ht, by omega, by omega⟩
  clear h hE hz ht
  obtain ⟨M, hM⟩ : ∃ M : Nat, 2147483648 ≤ M ∧ M ≤ 2147483648 := ⟨2147483648, by omega, by omega⟩
  have HMM : Hid (2147483648 ≤ M ∧ M ≤ 2147483648) := hM
  clear hM
  have t1 : decide ((a : Int) ≤ 0) = false := by simp; omega
  have t2 : decide (n < a) = false := by simp; omega
  have t3 : decide ((n : Int) < a) = false := by simp; omega
  have t4 : decide (a = 0) = false := by simp; omega
  go_enter Tryz.func82, Tryz.ntmps82
  go_wp2_with (go_at_call 67; refine C1.out.mono ?_; clear C1; rintro e w1 ⟨rfl, HB⟩)
  go_loopw [7] (fun t7 wr => ∃ r : Nat, t7 = .int .i64 r ∧ 32 ≤ r ∧ r ≤ M ∧ Hid (Below w.heap.size w wr)) (fun t7 _ => M - (intOf t7).toNat)
  case atStart => exact ⟨32, rfl, by omega, by have := HMM.out; omega, HB.out⟩
  case round =>
    clear HB
    obtain ⟨r, rfl, hr1, hr2, HB⟩ := hrel
    have hr4 : (r : Int) ≤ 2147483648 := by have := HMM.out; omega
    obtain ⟨f, hf⟩ : ∃ f, a - r = f := ⟨_, rfl⟩
    obtain ⟨d, hd⟩ : ∃ d, a - f = d := ⟨_, rfl⟩
    have h2 := HP.out.2.2
    have e2 : max ((a : Int) - r) 0 = f := by omega
    have e3 : (a : Int) - f = d := by omega
    have hz := HP.out.1.size
    have ht1 : f ≤ t ∧ t ≤ n ∧ a ≤ t := by omega
    have hp := size_extract s f t (by omega)
    obtain ⟨m, hm⟩ : ∃ m, IsPrev (s.extract f t) (d : Int) m := ⟨_, pvC_is _ _⟩
    have hmz : m ≤ t := by obtain ⟨_, e, b⟩ := cb_B hm.cb; have := b.1; omega
    have C2 : Hid (∀ W, Hid (Below w.heap.size w W) → Calls Tryz.prog 113 #[v, .int .i64 f, .int .i64 t] W fun e W' => e = .returned (.string (s.extract f t)) ∧ Hid (Below w.heap.size w W')) := fun W hW => HP.out.1.piece W f t hW ht1.1 ht1.2.1
    have C3 : Hid (∀ W, Hid (Below w.heap.size w W) → Calls Tryz.prog 129 #[.string (s.extract f t), .int .i64 d] W fun e W' => e = .returned (.int .i64 m) ∧ Hid (Below w.heap.size w W')) := fun W hW =>
      (cprev_any (s.extract f t) d (by unfold maxLen; omega) W (HP.out.2.1.below hW.out).t (by omega)).mono fun e W' ⟨m', q1, q2, q3⟩ => ⟨by rw [q1, q2.uniq hm], Below.on hW.out q3⟩
    have HM : Hid (4 ≤ m ∨ f = 0 → IsPrev s a (f + m)) := fun hc => by
      refine prev_piece (a := a) (f := f) (t := t) (m := m) ht1.2.2 (by omega) (by omega) (by omega) ?_ hc
      rw [hd]; exact hm
    have HR : Hid (f ≠ 0 → r < n) := fun h => by omega
    generalize s.extract f t = p at C2 C3 hm hp
    have b2 : (f : Int) ≤ 1073741824 ∧ (m : Int) ≤ 1073741824 ∧ (t : Int) ≤ 1073741824 := by omega
    clear hm hp hz hf hd ht1 h2
    by_cases c3 : 4 ≤ m
    · have c4 : (f : Int) + 4 ≤ (f : Int) + m := by omega
      have HN : Hid (IsPrev s a (f + m)) := HM.out (.inl c3)
      clear HM HR HP
      go_wp2_with (first
        | (go_at_call 113; refine (C2.out _ HB).mono ?_; clear C2 HB; rintro e w2 ⟨rfl, HB⟩)
        | (go_at_call 129; refine (C3.out _ HB).mono ?_; clear C3 HB; rintro e w3 ⟨rfl, HB⟩))
      go_ret
      exact ⟨f + m, ret_int (by omega), HN.out, HB.out⟩
    · have c4 : ¬ ((f : Int) + 4 ≤ (f : Int) + m) := by omega
      have c8 : ¬ ((4 : Int) ≤ m) := by omega
      by_cases c5 : f = 0
      · have HN : Hid (IsPrev s a (f + m)) := HM.out (.inr c5)
        have C4 : Hid (∀ W, Hid (Below w.heap.size w W) → Calls Tryz.prog 113 #[v, .int .i64 0, .int .i64 t] W fun e W' => e = .returned (.string p) ∧ Hid (Below w.heap.size w W')) := fun W hW => by have := C2.out W hW; rw [c5] at this; exact this
        have C5 : Hid (∀ W, Hid (Below w.heap.size w W) → Calls Tryz.prog 129 #[.string p, .int .i64 a] W fun e W' => e = .returned (.int .i64 m) ∧ Hid (Below w.heap.size w W')) := fun W hW => by have := C3.out W hW; rw [show (d : Int) = a by omega] at this; exact this
        have e5 : max ((a : Int) - r) 0 = 0 := by omega
        clear C2 C3 e2 e3 c4
        clear HM HR HP
        go_wp2_with (first
          | (go_at_call 113; refine (C4.out _ HB).mono ?_; clear C4 HB; rintro e w2 ⟨rfl, HB⟩)
          | (go_at_call 129; refine (C5.out _ HB).mono ?_; clear C5 HB; rintro e w3 ⟨rfl, HB⟩))
        go_ret
        exact ⟨f + m, ret_int (by omega), HN.out, HB.out⟩
      · have c6 : ¬ ((f : Int) = 0) := by omega
        have c7 : ((f : Int) == 0) = false := by simp; omega
        have hrn := HR.out c5
        have HR3 : Hid (r < 1073741824) := by show r < 1073741824; omega
        clear HM HR hrn
        go_wp2_with (first
          | (go_at_call 113; refine (C2.out _ HB).mono ?_; clear C2 HB; rintro e w2 ⟨rfl, HB⟩)
          | (go_at_call 129; refine (C3.out _ HB).mono ?_; clear C3 HB; rintro e w3 ⟨rfl, HB⟩))
        have hm2 := HMM.out
        have hm3 := HR3.out
        exact ⟨⟨r * 2, by go_num, by omega, by omega, HB.out⟩, by simp [intOf]; omega⟩
set_option maxRecDepth 100000 in
theorem snap_of {w : World} {v : Value} {s : ByteArray} {n : Nat} (h : Pcs w v s n) (hE : Ev w) (i : Int) (hi : i ≤ 9223372036854775807) : Calls Tryz.prog 83 #[v, .int .i64 i] w fun e W' => ∃ m : Nat, e = .returned (.int .i64 m) ∧ IsSnap s i m ∧ Below w.heap.size w W' := by
  have C1 : Hid (Calls Tryz.prog 84 #[v, .int .i64 i] w fun e W' => e = .returned (.bool (cbZ s i)) ∧ Hid (Below w.heap.size w W')) := bound_of h hE i hi
  have C2 : Hid (∀ W, Hid (Below w.heap.size w W) → Calls Tryz.prog 81 #[v, .int .i64 i] W fun e W' => ∃ m : Nat, e = .returned (.int .i64 m) ∧ Hid (IsNext s i m ∧ Below w.heap.size w W')) := fun W hW =>
    (next_of (h.below hW.out) (hE.below hW.out) i).mono fun e W' ⟨m, q1, q2, q3⟩ => ⟨m, q1, q2, Below.on hW.out q3⟩
  cases hc : cbZ s i with
  | true =>
    obtain ⟨m, rfl, _⟩ := cb_B hc
    have HS : Hid (IsSnap s m m) := IsSnap.self hc
    rw [hc] at C1
    clear C2 h hE hc
    go_enter Tryz.func83, Tryz.ntmps83
    go_wp2_with (go_at_call 84; refine C1.out.mono ?_; clear C1; rintro e w1 ⟨rfl, HB⟩)
    go_ret
    exact ⟨m, rfl, HS.out, HB.out⟩
  | false =>
    have HC : Hid (cbZ s i = false) := hc
    rw [hc] at C1
    clear h hE hc
    go_enter Tryz.func83, Tryz.ntmps83
    go_wp2_with (first | (go_at_call 84; refine C1.out.mono ?_; clear C1; rintro e w1 ⟨rfl, HB⟩) | (go_at_call 81; refine (C2.out _ HB).mono ?_; clear C2 HB; rintro e w2 ⟨m, rfl, HB⟩))
    go_ret
    exact ⟨m, rfl, HB.out.1.snap HC.out, HB.out.2⟩
end Go.Proofs.YtkmihnjmchfopaaGreatDoor.Sto
namespace Go.Proofs.YtkmihnjmchfopaaGreatDoor.Sto
open Go.RowKit Go.Shelf Bod Wid
open Gap (Gp RB gRep gReset eBA)

set_option maxRecDepth 100000 in
theorem rins9_of {w : World} {v : Value} {a : Int} {put : ByteArray} {R : ByteArray → Int → World → Prop} (C : Calls Tryz.prog 117 #[v, .int .i64 a, .int .i64 0, .string put] w fun e W' => ∃ o r, e = .returned (.tuple #[.string o, .int .i64 r]) ∧ R o r W') :
    Calls Tryz.prog 115 #[v, .int .i64 a, .string put] w fun e W' => ∃ o r, e = .returned (.int .i64 r) ∧ R o r W' := by
  have C1 : Hid (Calls Tryz.prog 117 #[v, .int .i64 a, .int .i64 0, .string put] w fun e W' => ∃ o r, e = .returned (.tuple #[.string o, .int .i64 r]) ∧ Hid (R o r W')) := C
  clear C
  go_enter Tryz.func115, Tryz.ntmps115
  go_wp2_with (go_at_call 117; refine C1.out.mono ?_; clear C1; rintro e w1 ⟨o, r, rfl, HB⟩)
  go_ret
  exact ⟨o, r, rfl, HB.out⟩
set_option maxRecDepth 100000 in
theorem rdel9_of {w : World} {v : Value} {a n : Int} {R : ByteArray → Int → World → Prop} (C : Calls Tryz.prog 117 #[v, .int .i64 a, .int .i64 n, .string ⟨#[]⟩] w fun e W' => ∃ o r, e = .returned (.tuple #[.string o, .int .i64 r]) ∧ R o r W') :
    Calls Tryz.prog 116 #[v, .int .i64 a, .int .i64 n] w fun e W' => ∃ o r, e = .returned (.tuple #[.string o, .int .i64 r]) ∧ R o r W' := by
  have C1 : Hid (Calls Tryz.prog 117 #[v, .int .i64 a, .int .i64 n, .string ⟨#[]⟩] w fun e W' => ∃ o r, e = .returned (.tuple #[.string o, .int .i64 r]) ∧ Hid (R o r W')) := C
  clear C
  go_enter Tryz.func116, Tryz.ntmps116
  go_wp2_with (go_at_call 117; refine C1.out.mono ?_; clear C1; rintro e w1 ⟨o, r, rfl, HB⟩)
  exact bodyPost_ret (v := .tuple #[.string o, .int .i64 r]) (by simp [results, Tryz.results116, go_sem]) rfl ⟨o, r, rfl, HB.out⟩
set_option maxRecDepth 100000 in
set_option maxHeartbeats 1000000 in
theorem rreset9_any {w : World} {b p : Nat} {g : Gp} {k : Rk} (h : Rf w b p g k) (hlh : k.lo < k.hi) (put : ByteArray) (hp : put.size ≤ 140737488355328) (hk : 0 ≤ k.ed ∧ k.ed ≤ 2305843009213693952 ∧ 0 ≤ k.mv ∧ k.mv ≤ 4611686018427387904) :
    Calls Tryz.prog 118 #[.pointer (some ⟨b, 0, none⟩), .string put] w fun e W' => e = .returned (.int .i64 (gReset g put).2) ∧ Rf W' b p (gReset g put).1 (k.after (gReset g put).2 (g.s.size + put.size) (gReset g put).1.s.size) ∧ Tn (Rt b p) w W' := by
  obtain ⟨⟨c0, c1, c2, c3, c4, c5, c6, c7⟩, hlt⟩ := rcells h.box
  obtain ⟨⟨d0, d1, d2⟩, _, _, hlp⟩ := h.buf.cells
  obtain ⟨G, hG⟩ : ∃ G, (gReset g put).1 = G := ⟨_, rfl⟩
  obtain ⟨E, hE⟩ : ∃ E, (gReset g put).2 = E := ⟨_, rfl⟩
  have hz : (g.s.size : Int) ≤ 1073741824 := by obtain ⟨_, o2, o3⟩ := h.ok; omega
  have C1 : Hid (Calls Tryz.prog 163 #[.pointer (some ⟨p, 0, none⟩), .string put] w fun e W' => e = .returned (.int .i64 E) ∧ Hid (Rf W' b p G k ∧ w.grownBy W' (some p))) := by
    have := Gap.rreset_any put w h.buf
    rw [hG, hE] at this
    exact this.mono fun e W' ⟨q1, q2, q3⟩ => ⟨q1, rf_buf h q2 q3 (by rw [← hG]; exact gReset_ok h.ok put), q3⟩
  rw [hG, hE]
  have C2 : Hid (∀ W, Hid (Rf W b p G k ∧ w.grownBy W (some p)) → Calls Tryz.prog 162 #[.pointer (some ⟨b, 0, none⟩), .int .i64 (g.s.size + put.size)] W fun e W' => e = .returned (.tuple #[]) ∧ Hid (Rf W' b p G (k.edit (g.s.size + put.size) G.s.size) ∧ Tn (Rt b p) w W')) := fun W hW =>
    (redit_any hW.out.1 hlh (g.s.size + put.size) (by omega) (by omega)).mono fun e W' ⟨q1, q2, q3⟩ => ⟨q1, q2, (Tn.of_grown hW.out.2 (.inr rfl)).trans (.of_grown q3 (.inl (.inl rfl)))⟩
  have HT : Hid (∀ W, w.grownBy W (some p) → Tn (Rt b p) w W) := fun W hW => .of_grown hW (.inr rfl)
  unfold Rk.after
  by_cases e0 : E = 0
  · subst e0
    rw [if_pos rfl]
    clear h hlh hk hG hE
    go_enter Tryz.func118, Tryz.ntmps118
    go_wp2_with (first | (go_at_call 163; refine C1.out.mono ?_; clear C1; rintro e w1 ⟨rfl, HB⟩) | (go_at_call 162; refine (C2.out _ HB).mono ?_; clear C2 HB; rintro e w2 ⟨rfl, HB⟩))
    go_ret
    exact ⟨rfl, HB.out⟩
  · rw [if_neg e0]
    have e1 : (E == 0) = false := by simp [e0]
    clear h hlh hk hG hE
    go_enter Tryz.func118, Tryz.ntmps118
    go_wp2_with (first | (go_at_call 163; refine C1.out.mono ?_; clear C1; rintro e w1 ⟨rfl, HB⟩))
    go_ret
    exact ⟨rfl, HB.out.1, HT.out _ HB.out.2⟩
/-- Switch: the error and the numbers -/
def Rk.sw (k : Rk) (to : Int) : Int × Rk := if to = 1 ∨ to = 2 then (if to = k.now then (0, k) else (0, ⟨k.kind, to, k.lo, k.hi, k.mv, k.fo + 1, k.ed⟩)) else (13, k)
set_option maxRecDepth 100000 in
set_option maxHeartbeats 1000000 in
theorem rsw9_any {w : World} {b p : Nat} {g : Gp} {k : Rk} (h : Rf w b p g k) (to : Int) (hk : 0 ≤ k.fo ∧ k.fo ≤ 4611686018427387904) :
    Calls Tryz.prog 119 #[.pointer (some ⟨b, 0, none⟩), .int .i64 to] w fun e W' => e = .returned (.int .i64 (k.sw to).1) ∧ Rf W' b p g (k.sw to).2 ∧ Tn (Rt b p) w W' := by
  obtain ⟨kind, now, lo, hi, mv, fo, ed⟩ := k
  simp only at hk
  obtain ⟨⟨c0, c1, c2, c3, c4, c5, c6, c7⟩, hlt⟩ := rcells h.box
  simp only at c1 c2 c3 c4 c5 c6 c7
  have f2 := rfroz (i := 2) h.box
  have f6 := rfroz (i := 6) h.box
  have HR : Hid (Rf w b p g ⟨kind, now, lo, hi, mv, fo, ed⟩) := h
  have HM : Hid (Rf ((w.setCell ⟨b, 2, none⟩ (.int .i64 to)).setCell ⟨b, 6, none⟩ (.int .i64 (fo + 1))) b p g ⟨kind, to, lo, hi, mv, fo + 1, ed⟩ ∧ Tn (Rt b p) w ((w.setCell ⟨b, 2, none⟩ (.int .i64 to)).setCell ⟨b, 6, none⟩ (.int .i64 (fo + 1)))) := by
    obtain ⟨h1, g1⟩ := h.set (k' := ⟨kind, to, lo, hi, mv, fo, ed⟩) (i := 2) (u := .int .i64 to) rfl
    obtain ⟨h2, g2⟩ := h1.set (k' := ⟨kind, to, lo, hi, mv, fo + 1, ed⟩) (i := 6) (u := .int .i64 (fo + 1)) rfl
    exact ⟨h2, .of_grown (grown_two g1 g2) (.inl rfl)⟩
  have HT : Hid (Tn (Rt b p) w w) := .of_below (Below.refl _ w)
  unfold Rk.sw
  simp only
  clear h
  by_cases t1 : to = 1 ∨ to = 2
  · rw [if_pos t1]
    by_cases t2 : to = now
    · subst t2
      rw [if_pos rfl]
      rcases t1 with rfl | rfl
      · go_enter Tryz.func119, Tryz.ntmps119
        go_wp2
        go_ret
        exact ⟨rfl, HR.out, HT.out⟩
      · go_enter Tryz.func119, Tryz.ntmps119
        go_wp2
        go_ret
        exact ⟨rfl, HR.out, HT.out⟩
    · rw [if_neg t2]
      rcases t1 with rfl | rfl
      · have e1 : (now == 1) = false := by simp; omega
        have e2 : (now != 1) = true := by simp; omega
        go_enter Tryz.func119, Tryz.ntmps119
        go_wp2
        go_ret
        exact ⟨rfl, HM.out⟩
      · have e1 : (now == 2) = false := by simp; omega
        have e2 : (now != 2) = true := by simp; omega
        go_enter Tryz.func119, Tryz.ntmps119
        go_wp2
        go_ret
        exact ⟨rfl, HM.out⟩
  · rw [if_neg t1]
    have e1 : (to == 1) = false := by simp; omega
    have e2 : (to == 2) = false := by simp; omega
    have e3 : (to != 1) = true := by simp; omega
    have e4 : (to != 2) = true := by simp; omega
    go_enter Tryz.func119, Tryz.ntmps119
    go_wp2
    go_ret
    exact ⟨rfl, HR.out, HT.out⟩
end Go.Proofs.YtkmihnjmchfopaaGreatDoor.Sto
namespace Go.Proofs.YtkmihnjmchfopaaGreatDoor.Sto
open Go.RowKit Go.Shelf Bod Wid
open Gap (Gp RB gRep gReset eBA)

/-- the document's numbers, by the store's own -/
def rkOf (bk : Int) (k : Sk) : Rk := ⟨kdK k, bk, loK k, hiK k, k.mv, k.fo, k.ed⟩
theorem lo_hi (k : Sk) : loK k < hiK k := by unfold hiK; omega
theorem rk_edit {bk : Int} {k : Sk} (hb : bk = 1 ∨ bk = 2) (n : Int) (z : Nat) : (rkOf bk k).edit n z = rkOf (smN bk k n z).1 (smN bk k n z).2 := by
  have hlh := lo_hi k
  have e1 : kdK (k.edit n) = kdK k := rfl
  have e2 : loK (k.edit n) = loK k := rfl
  have e3 : hiK (k.edit n) = hiK k := rfl
  unfold Rk.edit smN misM
  rw [e1, e2, e3]
  have f1 : (rkOf bk k).kind = kdK k := rfl
  have f2 : (rkOf bk k).now = bk := rfl
  have f3 : (rkOf bk k).lo = loK k := rfl
  have f4 : (rkOf bk k).hi = hiK k := rfl
  rw [f1, f2, f3, f4]
  generalize hL : loK k = L at *
  generalize hH : hiK k = H at *
  by_cases c1 : kdK k = 3
  · rcases hb with rfl | rfl
    · by_cases c2 : H ≤ (z : Int)
      · rw [if_pos (by omega), if_neg (by omega), if_pos (by simp [c1, c2])]
        simp [rkOf, Sk.went, Sk.edit, kdK, loK, hiK] at hL hH ⊢
        omega
      · rw [if_neg (by omega), if_neg (by simp [c2])]
        simp [rkOf, Sk.edit, kdK, loK, hiK] at hL hH ⊢
        omega
    · by_cases c2 : (z : Int) ≤ L
      · rw [if_pos (by omega), if_pos c2, if_pos (by simp [c1, c2])]
        simp [rkOf, Sk.went, Sk.edit, kdK, loK, hiK] at hL hH ⊢
        omega
      · rw [if_neg (by omega), if_neg (by simp [c2])]
        simp [rkOf, Sk.edit, kdK, loK, hiK] at hL hH ⊢
        omega
  · rw [if_neg (by omega), if_neg (by simp [c1])]
    simp [rkOf, Sk.edit, kdK, loK, hiK] at hL hH ⊢
    omega
theorem rk_after {bk : Int} {k : Sk} (hb : bk = 1 ∨ bk = 2) (e n : Int) (z : Nat) : (rkOf bk k).after e n z = rkOf (smA bk k e n z).1 (smA bk k e n z).2 := by
  unfold Rk.after smA
  by_cases c : e = 0
  · rw [if_pos c, if_pos c]; exact rk_edit hb n z
  · rw [if_neg c, if_neg c]
theorem rk_sw (bk : Int) (k : Sk) (to : Int) : (rkOf bk k).sw to = ((smS bk k to).1, rkOf (smS bk k to).2.1 (smS bk k to).2.2) := by
  unfold Rk.sw smS
  have f2 : (rkOf bk k).now = bk := rfl
  rw [f2]
  by_cases c : to = 1 ∨ to = 2
  · rw [if_pos c, if_pos c]
    by_cases d : to = bk
    · rw [if_pos d, if_pos d]
    · rw [if_neg d, if_neg d]; rfl
  · rw [if_neg c, if_neg c]
/-- the numbers behind n calls -/
structure Bd (n : Nat) (k : Sk) : Prop where
  fit : k.fit
  ed0 : 0 ≤ k.ed
  ed : k.ed ≤ n * 4294967296
  mv0 : 0 ≤ k.mv
  mv : k.mv ≤ n
  fo0 : 0 ≤ k.fo
  fo : k.fo ≤ n
theorem Bd.few {n : Nat} {k : Sk} (h : Bd n k) (hn : n ≤ 16777216) : k.few := by
  obtain ⟨_, a, b, c, d, e, f⟩ := h
  refine ⟨a, ?_, c, ?_, e, ?_⟩ <;> omega
theorem Bd.up {n : Nat} {k : Sk} (h : Bd n k) : Bd (n + 1) k := by
  obtain ⟨f0, a, b, c, d, e, f⟩ := h
  refine ⟨f0, a, ?_, c, ?_, e, ?_⟩ <;> omega
theorem Bd.edit {n : Nat} {bk : Int} {k : Sk} (h : Bd n k) (e d : Int) (z : Nat) (hd : e = 0 → 0 ≤ d ∧ d ≤ 4294967296) : Bd (n + 1) (smA bk k e d z).2 ∧ (smA bk k e d z).2.limit = k.limit := by
  unfold smA
  by_cases c : e = 0
  · have hd := hd c
    rw [if_pos c]
    unfold smN
    obtain ⟨f0, a, b, cc, dd, ee, f⟩ := h
    split
    · refine ⟨⟨f0, ?_, ?_, ?_, ?_, ee, ?_⟩, rfl⟩ <;> simp only [Sk.went, Sk.edit] <;> omega
    · refine ⟨⟨f0, ?_, ?_, cc, ?_, ee, ?_⟩, rfl⟩ <;> simp only [Sk.edit] <;> omega
  · rw [if_neg c]; exact ⟨h.up, rfl⟩
theorem Bd.sw {n : Nat} {bk : Int} {k : Sk} (h : Bd n k) (to : Int) : Bd (n + 1) (smS bk k to).2.2 ∧ (smS bk k to).2.2.limit = k.limit := by
  unfold smS
  by_cases c : to = 1 ∨ to = 2
  · rw [if_pos c]
    by_cases d : to = bk
    · rw [if_pos d]; exact ⟨h.up, rfl⟩
    · rw [if_neg d]
      obtain ⟨f0, a, b, cc, dd, ee, f⟩ := h
      refine ⟨⟨f0, a, ?_, cc, ?_, ?_, ?_⟩, rfl⟩ <;> simp only [Sk.forced] <;> omega
  · rw [if_neg c]; exact ⟨h.up, rfl⟩
/-- only blocks of the two stores' kinds are turned -/
structure Fq (W W' : World) : Prop where
  size : W.heap.size ≤ W'.heap.size
  keep : ∀ (j : Nat) (cur : Array Value) (T : TypeId) (fz : Nat × Nat), W.heap[j]? = some (.cells cur T fz) → T ≠ 117 → T ≠ 133 → T ≠ 5 → T ≠ 171 → T ≠ 122 → T ≠ 167 → W'.heap[j]? = some (.cells cur T fz)
theorem Fq.refl (W : World) : Fq W W := ⟨Nat.le_refl _, fun _ _ _ _ h _ _ _ _ _ _ => h⟩
theorem Fq.trans {W X Y : World} (h : Fq W X) (g : Fq X Y) : Fq W Y := ⟨Nat.le_trans h.size g.size, fun j cur T fz hj a b c d e f => g.keep j cur T fz (h.keep j cur T fz hj a b c d e f) a b c d e f⟩
theorem Fq.of_fty {W X : World} (h : Fty W X) : Fq W X := ⟨h.size, fun j cur T fz hj a b c d _ _ => h.keep j cur T fz hj a b c d⟩
theorem Fq.below {W X : World} (h : Below W.heap.size W X) : Fq W X := .of_fty (.below h)
theorem Fq.of_rt {W X : World} {rb p : Nat} {g : Gp} {rk : Rk} (h : Rf W rb p g rk) (ht : Tn (Rt rb p) W X) : Fq W X :=
  ⟨ht.size, fun j cur T fz hj _ _ _ _ e f => (ht.block j (Array.getElem?_eq_some_iff.1 hj).1 (fun q => by
    rcases q with rfl | rfl
    · rw [h.box] at hj; injection hj with hj; injection hj with _ t _; exact e t.symm
    · have hb : W.heap[j]? = some (.cells _ 167 (0, 0)) := h.buf
      rw [hb] at hj; injection hj with hj; injection hj with _ t _; exact f t.symm)).trans hj⟩
/-- the two stores, and what else stays since W0 -/
structure P2 (w W0 : World) (b rb p : Nat) (s : ByteArray) (bk : Int) (k : Sk) (g : Gp) (rk : Rk) (W : World) : Prop where
  se : Se w b s bk k W
  rf : Rf W rb p g rk
  rb0 : w.heap.size ≤ rb
  p0 : w.heap.size ≤ p
  fq : Fq W0 W
section
variable {w W0 W W' : World} {b rb p : Nat} {s s' : ByteArray} {bk bk' : Int} {k k' : Sk} {g g' : Gp} {rk rk' : Rk}
theorem P2.low (h : P2 w W0 b rb p s bk k g rk W) (hb : Below W.heap.size W W') : P2 w W0 b rb p s bk k g rk W' := ⟨h.se.below hb, h.rf.below hb, h.rb0, h.p0, h.fq.trans (.below hb)⟩
theorem P2.drew (h : P2 w W0 b rb p s bk k g rk W) : P2 w W0 b rb p s bk k g rk W.drew := h.low ⟨rfl, rfl, rfl, Nat.le_refl _, fun _ _ => rfl⟩
theorem P2.st (h : P2 w W0 b rb p s bk k g rk W) (h1 : Se w b s' bk' k' W') (h2 : Fty W W') : P2 w W0 b rb p s' bk' k' g rk W' :=
  ⟨h1, ⟨h2.keep _ _ _ _ h.rf.box (by decide) (by decide) (by decide) (by decide), h2.keep _ _ _ _ h.rf.buf (by decide) (by decide) (by decide) (by decide), h.rf.ok⟩, h.rb0, h.p0, h.fq.trans (.of_fty h2)⟩
theorem P2.ref (h : P2 w W0 b rb p s bk k g rk W) (h1 : Rf W' rb p g' rk') (h2 : Tn (Rt rb p) W W') : P2 w W0 b rb p s bk k g' rk' W' := by
  refine ⟨?_, h1, h.rb0, h.p0, h.fq.trans (.of_rt h.rf h2)⟩
  obtain ⟨x, K, hs⟩ := h.se
  have nb : b ≠ rb := ne_type hs.st.box h.rf.box (by decide)
  have np : b ≠ p := ne_type hs.st.box h.rf.buf (by decide)
  have kb : W'.heap[b]? = W.heap[b]? := h2.block b (Array.getElem?_eq_some_iff.1 hs.st.box).1 (fun e => e.elim nb np)
  refine ⟨x, K, ⟨kb.trans hs.st.box, hs.st.hold.keep h2 (fun j hj => ?_) (fun j cur T fz hj hc => ?_), hs.st.lim⟩, hs.bk, hs.text, tn_bel hs.bel h2 (fun j e => ?_), hs.lo, hs.b0⟩
  · obtain ⟨cur, T, e1, e2⟩ := hs.st.hold.blk_ty hj
    have n1 : j ≠ rb := ne_type e1 h.rf.box (by rcases e2 with rfl | rfl | rfl <;> decide)
    have n2 : j ≠ p := ne_type e1 h.rf.buf (by rcases e2 with rfl | rfl | rfl <;> decide)
    exact fun e => e.elim n1 n2
  · rcases hj with rfl | rfl
    · rw [h.rf.box] at hc; injection hc with hc; injection hc with _ t _; subst t; decide
    · have hb : W.heap[j]? = some (.cells _ 167 (0, 0)) := h.rf.buf
      rw [hb] at hc; injection hc with hc; injection hc with _ t _; subst t; decide
  · rcases e with rfl | rfl
    · exact h.rb0
    · exact h.p0
theorem Se.bk12 (h : Se w b s bk k W) : bk = 1 ∨ bk = 2 := by
  obtain ⟨x, K, h⟩ := h
  rw [← h.bk]; cases Tx.or x <;> simp [Tx.bk]
theorem Se.lim (h : Se w b s bk k W) : ∃ l : Nat, k.limit = l ∧ k.limit.toNat = l ∧ s.size ≤ l ∧ l ≤ 1073741824 := by
  obtain ⟨x, K, h⟩ := h
  have := h.st.lim
  obtain ⟨h1, h2⟩ := h.st.hold.size
  rw [h.text] at h1
  exact ⟨K.lim, this, by omega, h1, h2⟩
end
/-- the two calls of one kind, one behind the other -/
structure Sep (w W0 : World) (b rb p : Nat) (s : ByteArray) (bk : Int) (k : Sk) (g : Gp) (rk : Rk) (s' : ByteArray) (bk' : Int) (k' : Sk) (g' : Gp) (rk' : Rk) (fp fr : FuncId) (ps : List Value) (rv : Value) : Prop where
  pg : ∀ W, P2 w W0 b rb p s bk k g rk W → Calls Tryz.prog fp (.pointer (some ⟨b, 0, none⟩) :: ps).toArray W fun e W' => e = .returned rv ∧ P2 w W0 b rb p s' bk' k' g rk W'
  rg : ∀ W, P2 w W0 b rb p s' bk' k' g rk W → Calls Tryz.prog fr (.pointer (some ⟨rb, 0, none⟩) :: ps).toArray W fun e W' => e = .returned rv ∧ P2 w W0 b rb p s' bk' k' g' rk' W'
/-- both behind the same call: alike again -/
def Lk (n z : Nat) (s : ByteArray) (bk : Int) (k : Sk) (g : Gp) (rk : Rk) : Prop := g.s = s ∧ g.l = k.limit.toNat ∧ rk = rkOf bk k ∧ Bd n k ∧ s.size ≤ z ∧ (bk = 1 ∨ bk = 2)
section
variable {w W0 : World} {b rb p : Nat} {s : ByteArray} {bk : Int} {k : Sk} {g : Gp} {rk : Rk} {n z : Nat}
/-- an edit by Replace, on both sides -/
theorem both_rep (hL : Lk n z s bk k g rk) (hok : g.ok) (hn : n ≤ 16777216) (hE : Ev w) (a c : Int) (put : ByteArray) (ha : -9223372036854775808 ≤ a ∧ a ≤ 9223372036854775807) (hc : c ≤ 9223372036854775807) (hp : put.size ≤ 1048576) :
    ∃ s' bk' k' g' rk' o r, Lk (n + 1) (z + put.size) s' bk' k' g' rk' ∧ g'.ok ∧
      (∀ W, P2 w W0 b rb p s bk k g rk W → Calls Tryz.prog 78 #[.pointer (some ⟨b, 0, none⟩), .int .i64 a, .int .i64 c, .string put] W fun e W' => ∃ o' r', e = .returned (.tuple #[.string o', .int .i64 r']) ∧ (o' = o ∧ r' = r) ∧ P2 w W0 b rb p s' bk' k' g rk W') ∧
      (∀ W, P2 w W0 b rb p s' bk' k' g rk W → Calls Tryz.prog 117 #[.pointer (some ⟨rb, 0, none⟩), .int .i64 a, .int .i64 c, .string put] W fun e W' => ∃ o' r', e = .returned (.tuple #[.string o', .int .i64 r']) ∧ (o' = o ∧ r' = r) ∧ P2 w W0 b rb p s' bk' k' g' rk' W') := by
  obtain ⟨h1, h2, h3, h4, h5, h6⟩ := hL
  obtain ⟨t1, t2, t3⟩ := gRep_tx g a c put
  obtain ⟨T, hT⟩ : ∃ T, txR s k.limit.toNat a c put = T := ⟨_, rfl⟩
  rw [h1, h2, hT] at t1 t3
  have hd : T.2.2 = 0 → 0 ≤ c + (put.size : Int) ∧ c + (put.size : Int) ≤ 4294967296 := fun e => by
    have := txR_zero (s := s) (l := k.limit.toNat) (a := a) (c := c) (put := put) (by rw [hT]; exact e)
    have := hok.2.1; have := hok.2.2
    rw [h1] at *
    omega
  have hs : T.1.size ≤ s.size + put.size := by
    rw [← hT]
    unfold txR
    split
    · simp
    · rename_i c1
      split
      · simp
      · simp only [size_app]
        rw [size_extract _ _ _ (by omega), size_extract _ _ _ (Nat.le_refl _)]
        omega
  obtain ⟨b1, b2⟩ := h4.edit (bk := bk) T.2.2 (c + put.size) T.1.size hd
  have hr := rk_after (k := k) h6 T.2.2 (c + put.size) T.1.size
  have hg := gRep_ok hok a c put
  have hr2 : (rk.after (gRep g a c put).2.2 (c + put.size) (gRep g a c put).1.s.size) = rkOf (smA bk k T.2.2 (c + put.size) T.1.size).1 (smA bk k T.2.2 (c + put.size) T.1.size).2 := by rw [h3, t1, t3]; exact hr
  have h6' : (smA bk k T.2.2 (c + put.size) T.1.size).1 = 1 ∨ (smA bk k T.2.2 (c + put.size) T.1.size).1 = 2 := by
    unfold smA smN
    split
    · split
      · simp only; omega
      · exact h6
    · exact h6
  refine ⟨T.1, _, _, (gRep g a c put).1, _, T.2.1, T.2.2, ⟨t1, by rw [t2, h2, b2], hr2, b1, by omega, h6'⟩, hg, fun W hW => ?_, fun W hW => ?_⟩
  · refine (se_rep hW.se hE h4.fit (h4.few hn) a c put ha hc (by omega) T hT _ rfl).mono ?_
    rintro e W' ⟨o, r, q1, q2, q3, q4⟩
    exact ⟨o, r, q1, q2, hW.st q3 q4⟩
  · have f := h4.few hn
    refine (rrep9_any hW.rf (by rw [h3]; exact lo_hi k) a c put (by omega) ⟨by rw [h3]; exact f.1, by rw [h3]; have := h4.ed; show k.ed ≤ _; omega, by rw [h3]; exact f.2.2.1, by rw [h3]; exact f.2.2.2.1⟩).mono ?_
    rintro e W' ⟨q1, q2, q3⟩
    refine ⟨_, _, q1, ⟨by rw [t3], by rw [t3]⟩, hW.ref q2 q3⟩
theorem reset_tx (s : ByteArray) (l : Nat) (put : ByteArray) : (txR s l 0 s.size put).2.2 = (if put.size ≤ l then 0 else 2) ∧ (txR s l 0 s.size put).1 = (if put.size ≤ l then put else s) := by
  unfold txR
  rw [if_neg (by omega)]
  by_cases c : put.size ≤ l
  · rw [if_neg (by omega), if_pos c, if_pos c]
    refine ⟨rfl, ?_⟩
    have e1 : s.extract 0 (0 : Int).toNat = ⟨#[]⟩ := by
      apply ByteArray.ext; simp
    have e2 : s.extract ((0 : Int).toNat + (s.size : Int).toNat) s.size = ⟨#[]⟩ := by
      apply ByteArray.ext; simp
    show s.extract 0 (0 : Int).toNat ++ put ++ s.extract ((0 : Int).toNat + (s.size : Int).toNat) s.size = put
    rw [e1, e2]
    apply ByteArray.ext
    simp
  · rw [if_pos (by omega), if_neg c, if_neg c]
    exact ⟨rfl, rfl⟩
theorem sep_rep (hL : Lk n z s bk k g rk) (hok : g.ok) (hn : n ≤ 16777216) (hE : Ev w) (a c : Int) (put : ByteArray) (ha : -9223372036854775808 ≤ a ∧ a ≤ 9223372036854775807) (hc : c ≤ 9223372036854775807) (hp : put.size ≤ 1048576) :
    ∃ s' bk' k' g' rk' o r, Lk (n + 1) (z + put.size) s' bk' k' g' rk' ∧ g'.ok ∧ Sep w W0 b rb p s bk k g rk s' bk' k' g' rk' 78 117 [.int .i64 a, .int .i64 c, .string put] (.tuple #[.string o, .int .i64 r]) := by
  obtain ⟨s', bk', k', g', rk', o, r, q1, q2, q3, q4⟩ := both_rep (W0 := W0) (b := b) (rb := rb) (p := p) hL hok hn hE a c put ha hc hp
  exact ⟨s', bk', k', g', rk', o, r, q1, q2, fun W hW => (q3 W hW).mono fun e W' ⟨o', r', e1, ⟨e2, e3⟩, e4⟩ => ⟨by rw [e1, e2, e3], e4⟩, fun W hW => (q4 W hW).mono fun e W' ⟨o', r', e1, ⟨e2, e3⟩, e4⟩ => ⟨by rw [e1, e2, e3], e4⟩⟩
theorem sep_ins (hL : Lk n z s bk k g rk) (hok : g.ok) (hn : n ≤ 16777216) (hE : Ev w) (a : Int) (put : ByteArray) (ha : -9223372036854775808 ≤ a ∧ a ≤ 9223372036854775807) (hp : put.size ≤ 1048576) :
    ∃ s' bk' k' g' rk' r, Lk (n + 1) (z + put.size) s' bk' k' g' rk' ∧ g'.ok ∧ Sep w W0 b rb p s bk k g rk s' bk' k' g' rk' 57 115 [.int .i64 a, .string put] (.int .i64 r) := by
  obtain ⟨s', bk', k', g', rk', o, r, q1, q2, q3, q4⟩ := both_rep (W0 := W0) (b := b) (rb := rb) (p := p) hL hok hn hE a 0 put ha (by omega) hp
  exact ⟨s', bk', k', g', rk', r, q1, q2, fun W hW => (sins_of (q3 W hW)).mono fun e W' ⟨o', r', e1, ⟨_, e3⟩, e4⟩ => ⟨by rw [e1, e3], e4⟩, fun W hW => (rins9_of (q4 W hW)).mono fun e W' ⟨o', r', e1, ⟨_, e3⟩, e4⟩ => ⟨by rw [e1, e3], e4⟩⟩
theorem sep_del (hL : Lk n z s bk k g rk) (hok : g.ok) (hn : n ≤ 16777216) (hE : Ev w) (a c : Int) (ha : -9223372036854775808 ≤ a ∧ a ≤ 9223372036854775807) (hc : c ≤ 9223372036854775807) :
    ∃ s' bk' k' g' rk' o r, Lk (n + 1) z s' bk' k' g' rk' ∧ g'.ok ∧ Sep w W0 b rb p s bk k g rk s' bk' k' g' rk' 59 116 [.int .i64 a, .int .i64 c] (.tuple #[.string o, .int .i64 r]) := by
  obtain ⟨s', bk', k', g', rk', o, r, q1, q2, q3, q4⟩ := both_rep (W0 := W0) (b := b) (rb := rb) (p := p) hL hok hn hE a c ⟨#[]⟩ ha hc (by decide)
  exact ⟨s', bk', k', g', rk', o, r, q1, q2, fun W hW => (sdel_of (q3 W hW)).mono fun e W' ⟨o', r', e1, ⟨e2, e3⟩, e4⟩ => ⟨by rw [e1, e2, e3], e4⟩, fun W hW => (rdel9_of (q4 W hW)).mono fun e W' ⟨o', r', e1, ⟨e2, e3⟩, e4⟩ => ⟨by rw [e1, e2, e3], e4⟩⟩
theorem sep_reset (hL : Lk n z s bk k g rk) (hok : g.ok) (hn : n ≤ 16777216) (hE : Ev w) (put : ByteArray) (hp : put.size ≤ 1048576) :
    ∃ s' bk' k' g' rk' r, Lk (n + 1) (z + put.size) s' bk' k' g' rk' ∧ g'.ok ∧ Sep w W0 b rb p s bk k g rk s' bk' k' g' rk' 34 118 [.string put] (.int .i64 r) := by
  obtain ⟨h1, h2, h3, h4, h5, h6⟩ := hL
  obtain ⟨u1, u2⟩ := reset_tx s k.limit.toNat put
  obtain ⟨T, hT⟩ : ∃ T, txR s k.limit.toNat 0 s.size put = T := ⟨_, rfl⟩
  rw [hT] at u1 u2
  have t1 : (gReset g put).1.s = T.1 ∧ (gReset g put).2 = T.2.2 ∧ (gReset g put).1.l = g.l := by
    rw [u1, u2]
    unfold gReset
    rw [h2]
    split
    · exact ⟨rfl, rfl, rfl⟩
    · exact ⟨h1, rfl, h2⟩
  obtain ⟨t1, t3, t2⟩ := t1
  have hok2 := hok.2
  rw [h1] at hok2
  have hd : T.2.2 = 0 → 0 ≤ (s.size : Int) + (put.size : Int) ∧ (s.size : Int) + (put.size : Int) ≤ 4294967296 := fun e => by omega
  have hs : T.1.size ≤ s.size + put.size := by rw [u2]; split <;> omega
  obtain ⟨b1, b2⟩ := h4.edit (bk := bk) T.2.2 (s.size + put.size) T.1.size hd
  have hr := rk_after (k := k) h6 T.2.2 (s.size + put.size) T.1.size
  have hg := gReset_ok hok put
  have hr2 : (rk.after (gReset g put).2 (g.s.size + put.size) (gReset g put).1.s.size) = rkOf (smA bk k T.2.2 (s.size + put.size) T.1.size).1 (smA bk k T.2.2 (s.size + put.size) T.1.size).2 := by rw [h3, t1, t3, h1]; exact hr
  have h6' : (smA bk k T.2.2 (s.size + put.size) T.1.size).1 = 1 ∨ (smA bk k T.2.2 (s.size + put.size) T.1.size).1 = 2 := by
    unfold smA smN
    split
    · split
      · simp only; omega
      · exact h6
    · exact h6
  refine ⟨T.1, _, _, (gReset g put).1, _, T.2.2, ⟨t1, by rw [t2, h2, b2], hr2, b1, by omega, h6'⟩, hg, fun W hW => ?_, fun W hW => ?_⟩
  · have hq : ∀ X, Below W.heap.size W X → P2 w W0 b rb p s bk k g rk X := fun X hX => hW.low hX
    refine (sreset_of (n := s.size) (put := put) (R := fun o r W' => (o = T.2.1 ∧ r = T.2.2) ∧ P2 w W0 b rb p T.1 (smA bk k T.2.2 (s.size + put.size) T.1.size).1 (smA bk k T.2.2 (s.size + put.size) T.1.size).2 g rk W') (se_len hW.se) (fun X hX => ?_)).mono ?_
    · refine (se_rep (hq X hX).se hE h4.fit (h4.few hn) 0 s.size put (by omega) (by omega) (by omega) T hT _ rfl).mono ?_
      rintro e W' ⟨o, r, q1, q2, q3, q4⟩
      exact ⟨o, r, q1, q2, (hq X hX).st q3 q4⟩
    · rintro e W' ⟨o, r, q1, ⟨_, q2⟩, q3⟩
      exact ⟨by rw [q1, q2], q3⟩
  · have f := h4.few hn
    refine (rreset9_any hW.rf (by rw [h3]; exact lo_hi k) put (by omega) ⟨by rw [h3]; exact f.1, by rw [h3]; have := h4.ed; show k.ed ≤ _; omega, by rw [h3]; exact f.2.2.1, by rw [h3]; exact f.2.2.2.1⟩).mono ?_
    rintro e W' ⟨q1, q2, q3⟩
    exact ⟨by rw [q1, t3], hW.ref q2 q3⟩
theorem sep_sw (hL : Lk n z s bk k g rk) (hok : g.ok) (hn : n ≤ 16777216) (hE : Ev w) (to : Int) :
    ∃ bk' k' rk' r, Lk (n + 1) z s bk' k' g rk' ∧ g.ok ∧ Sep w W0 b rb p s bk k g rk s bk' k' g rk' 27 119 [.int .i64 to] (.int .i64 r) := by
  obtain ⟨h1, h2, h3, h4, h5, h6⟩ := hL
  obtain ⟨b1, b2⟩ := h4.sw (bk := bk) to
  have hr := rk_sw bk k to
  rw [← h3] at hr
  have h6' : (smS bk k to).2.1 = 1 ∨ (smS bk k to).2.1 = 2 := by
    unfold smS
    split
    · split
      · exact h6
      · assumption
    · exact h6
  have f := h4.few hn
  refine ⟨(smS bk k to).2.1, (smS bk k to).2.2, (rk.sw to).2, (smS bk k to).1, ⟨h1, by rw [h2, b2], by rw [hr], b1, h5, h6'⟩, hok, fun W hW => ?_, fun W hW => ?_⟩
  · refine (se_sw hW.se hE f to _ rfl).mono ?_
    rintro e W' ⟨q1, q2, q3⟩
    exact ⟨q1, hW.st q2 q3⟩
  · refine (rsw9_any hW.rf to ⟨by rw [h3]; exact f.2.2.2.2.1, by rw [h3]; exact f.2.2.2.2.2⟩).mono ?_
    rintro e W' ⟨q1, q2, q3⟩
    exact ⟨by rw [q1, hr], hW.ref q2 q3⟩
end
end Go.Proofs.YtkmihnjmchfopaaGreatDoor.Sto
namespace Go.Proofs.YtkmihnjmchfopaaGreatDoor.Sto
open Go.RowKit Go.Shelf Bod Wid
open Gap (Gp)

theorem p2_lo {w W0 : World} {b rb p : Nat} {s : ByteArray} {bk : Int} {k : Sk} {g : Gp} {rk : Rk} {n z : Nat} (hL : Lk n z s bk k g rk) : Lo b rb (P2 w W0 b rb p s bk k g rk) (loK k) (hiK k) (kdK k) bk k.limit k.mv k.fo k.ed s.size s := by
  obtain ⟨h1, h2, h3, h4, h5, h6⟩ := hL
  subst h3
  have lw : ∀ {W W' : World}, P2 w W0 b rb p s bk k g (rkOf bk k) W → Below W.heap.size W W' → P2 w W0 b rb p s bk k g (rkOf bk k) W' := fun h hb => h.low hb
  refine ⟨?_, ?_, ?_, ?_, ?_, ?_, ?_, ?_, ?_, ?_, ?_, ?_, ?_, ?_⟩ <;> intro W hW
  · obtain ⟨x, K, hs⟩ := hW.se
    exact (thr_any hs.st.spt h4.fit).mono fun e W' ⟨q1, q2⟩ => ⟨q1, lw hW q2⟩
  · exact (rthr_any hW.rf).mono fun e W' ⟨q1, q2⟩ => ⟨q1, lw hW q2⟩
  · obtain ⟨x, K, hs⟩ := hW.se
    exact (kind_any hs.st.spt).mono fun e W' ⟨q1, q2⟩ => ⟨q1, lw hW q2⟩
  · exact (rkind_any hW.rf).mono fun e W' ⟨q1, q2⟩ => ⟨q1, by rw [q2]; exact hW⟩
  · exact (se_back hW.se).mono fun e W' ⟨q1, q2⟩ => ⟨q1, by rw [q2]; exact hW⟩
  · exact (rback_any hW.rf).mono fun e W' ⟨q1, q2⟩ => ⟨q1, by rw [q2]; exact hW⟩
  · obtain ⟨x, K, hs⟩ := hW.se
    exact (limit_any hs.st.spt).mono fun e W' ⟨q1, q2⟩ => ⟨q1, lw hW q2⟩
  · obtain ⟨l, e1, e2, _, _⟩ := hW.se.lim
    have := rlim_any hW.rf
    rw [h2, e2, ← e1] at this
    exact this.mono fun e W' ⟨q1, q2⟩ => ⟨q1, by rw [q2]; exact hW⟩
  · obtain ⟨x, K, hs⟩ := hW.se
    exact (counts_any hs.st.spt).mono fun e W' ⟨q1, q2⟩ => ⟨q1, lw hW q2⟩
  · exact (rcnt_any hW.rf).mono fun e W' ⟨q1, q2⟩ => ⟨q1, lw hW q2⟩
  · exact (se_len hW.se).mono fun e W' ⟨q1, q2⟩ => ⟨q1, lw hW q2⟩
  · have := rlen9_any hW.rf
    rw [h1] at this
    exact this.mono fun e W' ⟨q1, q2⟩ => ⟨q1, by rw [q2]; exact hW⟩
  · obtain ⟨x, K, hs⟩ := hW.se
    have := stext_any hs.st.spt hs.st.hold
    rw [hs.text] at this
    exact this.mono fun e W' ⟨q1, q2⟩ => ⟨q1, lw hW q2⟩
  · have := rtext9_any hW.rf
    rw [h1] at this
    exact this.mono fun e W' ⟨q1, q2⟩ => ⟨q1, by rw [q2]; exact hW⟩
theorem looks_p2 {w W0 W : World} {b rb p : Nat} {s : ByteArray} {bk : Int} {k : Sk} {g : Gp} {rk : Rk} {n z : Nat} (hL : Lk n z s bk k g rk) (h : P2 w W0 b rb p s bk k g rk W) :
    Calls Tryz.prog 22 #[.pointer (some ⟨b, 0, none⟩), .pointer (some ⟨rb, 0, none⟩)] W fun e W' => e = .returned (.bool true) ∧ P2 w W0 b rb p s bk k g rk W' := looks_of (p2_lo hL) W h
end Go.Proofs.YtkmihnjmchfopaaGreatDoor.Sto
namespace Go.Proofs.YtkmihnjmchfopaaGreatDoor.Sto
open Go.RowKit Go.Shelf Bod Wid
open Gap (Gp gSlice gMea)

/-- the two stores, alike, behind n calls, with a text of at most z -/
def Pq (w : World) (b rb p n z : Nat) (W : World) : Prop := ∃ s bk k g rk, Lk n z s bk k g rk ∧ g.ok ∧ P2 w W b rb p s bk k g rk W
def opv (x : Oc) : Value := .agg #[.int .i64 x.kd, .int .i64 x.a, .int .i64 x.c, .string x.p]
section
variable {w W : World} {b rb p n z : Nat}
theorem P2.again {W0 X : World} {s : ByteArray} {bk : Int} {k : Sk} {g : Gp} {rk : Rk} (h : P2 w W0 b rb p s bk k g rk X) : P2 w X b rb p s bk k g rk X := ⟨h.se, h.rf, h.rb0, h.p0, .refl X⟩
theorem Pq.bel (h : Pq w b rb p n z W) : Below w.heap.size w W := by obtain ⟨s, bk, k, g, rk, _, _, h⟩ := h; exact h.se.bel
theorem Pq.up {z' : Nat} (h : Pq w b rb p n z W) (hz : z ≤ z') : Pq w b rb p n z' W := by
  obtain ⟨s, bk, k, g, rk, ⟨l1, l2, l3, l4, l5, l6⟩, ho, h⟩ := h
  exact ⟨s, bk, k, g, rk, ⟨l1, l2, l3, l4, by omega, l6⟩, ho, h⟩
theorem works_pq (h : Pq w b rb p n z W) (hE : Ev w) (hn : n ≤ 16777216) (x : Oc) (hx : x.fit) (hp : x.p.size ≤ 1048576) :
    Calls Tryz.prog 70 #[.pointer (some ⟨b, 0, none⟩), .pointer (some ⟨rb, 0, none⟩), opv x] W fun e W' => e = .returned (.bool true) ∧ Pq w b rb p (n + 1) (z + x.p.size) W' := by
  obtain ⟨s, bk, k, g, rk, hL, ho, h⟩ := h
  obtain ⟨kd, a, c, put⟩ := x
  obtain ⟨x1, x2, x3⟩ := hx
  dsimp only at x1 x2 x3 hp
  obtain ⟨W0, hW0⟩ : ∃ W0, W.alloc (.cells #[.int .i64 kd, .int .i64 a, .int .i64 c, .string put] 59) = W0 := ⟨_, rfl⟩
  have hB : Below W.heap.size W W0 := by rw [← hW0]; exact (Below.refl _ W).alloc (Nat.le_refl _) _
  have hbx : W0.heap[W.heap.size]? = some (.cells #[.int .i64 kd, .int .i64 a, .int .i64 c, .string put] 59 (0, 0)) := by rw [← hW0]; exact World.alloc_heap_new W _
  have h0 : P2 w W0 b rb p s bk k g rk W0 := (h.low hB).again
  have ob : ∀ {X : World} {s : ByteArray} {bk : Int} {k : Sk} {g : Gp} {rk : Rk}, P2 w W0 b rb p s bk k g rk X → Obx X W.heap.size kd a c put := fun hX =>
    (box4 (hX.fq.keep _ _ _ _ hbx (by decide) (by decide) (by decide) (by decide) (by decide) (by decide))).1
  have dr : ∀ X, P2 w W0 b rb p s bk k g rk X → P2 w W0 b rb p s bk k g rk X.drew := fun X hX => hX.drew
  unfold opv
  dsimp only
  by_cases k1 : kd = 1
  · subst k1
    obtain ⟨s', bk', k', g', rk', r, q1, q2, q3⟩ := sep_ins (W0 := W0) (b := b) (rb := rb) (p := p) hL ho hn hE a put x2 hp
    exact (works_1 hW0 h0 dr (fun X hX => hX.elim ob (·.elim ob ob)) q3.pg q3.rg).mono fun e W' ⟨e1, e2⟩ => ⟨e1, s', bk', k', g', rk', q1, q2, e2.again⟩
  · by_cases k2 : kd = 2
    · subst k2
      obtain ⟨s', bk', k', g', rk', o, r, q1, q2, q3⟩ := sep_del (W0 := W0) (b := b) (rb := rb) (p := p) hL ho hn hE a c x2 x3.2
      exact (works_2 hW0 h0 dr (fun X hX => hX.elim ob (·.elim ob ob)) q3.pg q3.rg).mono fun e W' ⟨e1, e2⟩ => ⟨e1, Pq.up (z := z) ⟨s', bk', k', g', rk', q1, q2, e2.again⟩ (by omega)⟩
    · by_cases k3 : kd = 3
      · subst k3
        obtain ⟨s', bk', k', g', rk', o, r, q1, q2, q3⟩ := sep_rep (W0 := W0) (b := b) (rb := rb) (p := p) hL ho hn hE a c put x2 x3.2 hp
        exact (works_3 hW0 h0 dr (fun X hX => hX.elim ob (·.elim ob ob)) q3.pg q3.rg).mono fun e W' ⟨e1, e2⟩ => ⟨e1, s', bk', k', g', rk', q1, q2, e2.again⟩
      · by_cases k4 : kd = 4
        · subst k4
          obtain ⟨s', bk', k', g', rk', r, q1, q2, q3⟩ := sep_reset (W0 := W0) (b := b) (rb := rb) (p := p) hL ho hn hE put hp
          exact (works_4 hW0 h0 dr (fun X hX => hX.elim ob (·.elim ob ob)) q3.pg q3.rg).mono fun e W' ⟨e1, e2⟩ => ⟨e1, s', bk', k', g', rk', q1, q2, e2.again⟩
        · by_cases k5 : kd = 5
          · subst k5
            obtain ⟨bk', k', rk', r, q1, q2, q3⟩ := sep_sw (W0 := W0) (b := b) (rb := rb) (p := p) hL ho hn hE a
            exact (works_5 hW0 h0 dr (fun X hX => hX.elim ob (·.elim ob ob)) q3.pg q3.rg).mono fun e W' ⟨e1, e2⟩ => ⟨e1, Pq.up (z := z) ⟨s, bk', k', g, rk', q1, q2, e2.again⟩ (by omega)⟩
          · refine (works_0 (R0 := P2 w W0 b rb p s bk k g rk) k1 k2 k3 k4 k5 hW0 h0 (ob h0)).mono fun e W' ⟨e1, e2⟩ => ⟨e1, Pq.up (z := z) ⟨s, bk, k, g, rk, ?_, ho, e2.again⟩ (by omega)⟩
            obtain ⟨l1, l2, l3, l4, l5, l6⟩ := hL
            exact ⟨l1, l2, l3, l4.up, l5, l6⟩
theorem looks_pq (h : Pq w b rb p n z W) : Calls Tryz.prog 22 #[.pointer (some ⟨b, 0, none⟩), .pointer (some ⟨rb, 0, none⟩)] W fun e W' => e = .returned (.bool true) ∧ Pq w b rb p n z W' := by
  obtain ⟨s, bk, k, g, rk, hL, ho, h⟩ := h
  exact (looks_p2 hL h).mono fun e W' ⟨q1, q2⟩ => ⟨q1, s, bk, k, g, rk, hL, ho, q2.again⟩
theorem next_ex (s : ByteArray) (i : Int) : ∃ m, IsNext s i m := by
  by_cases c1 : i < 0
  · exact ⟨0, next_low c1⟩
  · by_cases c2 : (s.size : Int) ≤ i
    · exact ⟨_, next_high c2⟩
    · have := nxC_is (s := s) (i := i.toNat) (by omega)
      rw [show ((i.toNat : Nat) : Int) = i by omega] at this
      exact ⟨_, this⟩
theorem prev_ex (s : ByteArray) (i : Int) : ∃ m, IsPrev s i m := by
  by_cases c1 : i ≤ 0
  · exact ⟨0, prev_low c1⟩
  · have := pvC_is s i.toNat
    rw [show ((i.toNat : Nat) : Int) = i by omega] at this
    exact ⟨_, this⟩
theorem snap_ex (s : ByteArray) (i : Int) : ∃ m, IsSnap s i m := by
  cases c : cbZ s i with
  | true =>
    have h0 : 0 ≤ i := by
      by_cases h : 0 ≤ i
      · exact h
      · rw [cb_out (.inl (by omega))] at c; cases c
    exact ⟨i.toNat, by have := IsSnap.self (s := s) (m := i.toNat) (by rw [show ((i.toNat : Nat) : Int) = i by omega]; exact c); rwa [show ((i.toNat : Nat) : Int) = i by omega] at this⟩
  | false => obtain ⟨m, hm⟩ := next_ex s i; exact ⟨m, hm.snap c⟩
theorem asks_pq (h : Pq w b rb p n z W) (hE : Ev w) (hz : z ≤ 1048576) (x : Oc) (hx : x.fit) :
    Calls Tryz.prog 71 #[.pointer (some ⟨b, 0, none⟩), .pointer (some ⟨rb, 0, none⟩), opv x] W fun e W' => e = .returned (.bool true) ∧ Pq w b rb p n z W' := by
  obtain ⟨s, bk, k, g, rk, hL, ho, h⟩ := h
  obtain ⟨kd, a, c, put⟩ := x
  obtain ⟨x1, x2, x3⟩ := hx
  dsimp only at x1 x2 x3
  obtain ⟨mn, hmn⟩ := next_ex s a
  obtain ⟨mp, hmp⟩ := prev_ex s a
  obtain ⟨ms, hms⟩ := snap_ex s a
  have hg : g.s = s := hL.1
  have hgz : g.s.size ≤ 2097152 := by rw [hg]; have := hL.2.2.2.2.1; omega
  have hp : ∀ X, Below W.heap.size W X → P2 w W b rb p s bk k g rk X := fun X hX => h.low hX
  have pc : ∀ X, Below W.heap.size W X → Pcs X (.pointer (some ⟨b, 0, none⟩)) s s.size ∧ Ev X := fun X hX => by
    obtain ⟨y, K, hs⟩ := (hp X hX).se
    have := pcs_of hs.st.spt hs.st.hold
    rw [hs.text] at this
    exact ⟨this, hE.below hs.bel⟩
  have A : As W (.pointer (some ⟨b, 0, none⟩)) (.pointer (some ⟨rb, 0, none⟩)) a c (gSlice s a c).1 (gSlice s a c).2 (gMea s a c).1 (gMea s a c).2 (cbZ s a) mn mp ms := by
    refine ⟨?_, ?_, ?_, ?_, ?_, ?_, ?_, ?_, ?_, ?_, ?_, ?_⟩ <;> intro X hX
    · obtain ⟨y, K, hs⟩ := (hp X hX).se
      have := sslice_any hs.st.spt hs.st.hold a c
      rw [hs.text] at this
      exact this
    · have := rslice9_any (hp X hX).rf a c
      rw [hg] at this
      exact this
    · obtain ⟨y, K, hs⟩ := (hp X hX).se
      have := smeas_any hs.st.spt hs.st.hold (hE.below hs.bel) a c
      rw [hs.text] at this
      exact this
    · have := rmeas9_any (hp X hX).rf a c
      rw [hg] at this
      exact this
    · exact bound_of (pc X hX).1 (pc X hX).2 a x2.2
    · have := rbound9_any (hp X hX).rf hgz a
      rw [hg] at this
      exact this
    · exact (next_of (pc X hX).1 (pc X hX).2 a).mono fun e W' ⟨m, q1, q2, q3⟩ => ⟨by rw [q1, q2.uniq hmn], q3⟩
    · have := rnext9_any (hp X hX).rf hgz a
      rw [hg] at this
      exact this.mono fun e W' ⟨m, q1, q2, q3⟩ => ⟨by rw [q1, q2.uniq hmn], q3⟩
    · exact (prev_of (pc X hX).1 (pc X hX).2 a).mono fun e W' ⟨m, q1, q2, q3⟩ => ⟨by rw [q1, q2.uniq hmp], q3⟩
    · have := rprev9_any (hp X hX).rf hgz a
      rw [hg] at this
      exact this.mono fun e W' ⟨m, q1, q2, q3⟩ => ⟨by rw [q1, q2.uniq hmp], q3⟩
    · exact (snap_of (pc X hX).1 (pc X hX).2 a x2.2).mono fun e W' ⟨m, q1, q2, q3⟩ => ⟨by rw [q1, q2.uniq hms], q3⟩
    · have := rsnap9_any (hp X hX).rf hgz a
      rw [hg] at this
      exact this.mono fun e W' ⟨m, q1, q2, q3⟩ => ⟨by rw [q1, q2.uniq hms], q3⟩
  exact (asks_of A kd put).mono fun e W' ⟨q1, q2⟩ => ⟨q1, s, bk, k, g, rk, hL, ho, (hp W' q2).again⟩
end
theorem obk_at {l : List Oc} {i : Nat} {x : Oc} (h : l[i]? = some x) : obk (l.drop i) = x.p.size + 1 + obk (l.drop (i + 1)) := by
  obtain ⟨hi, e⟩ := List.getElem?_eq_some_iff.1 h
  rw [List.drop_eq_getElem_cons hi, e]
  rfl
theorem obk_len (l : List Oc) : l.length ≤ obk l := by
  induction l with
  | nil => simp
  | cons x l ih => simp only [List.length_cons, obk]; omega
set_option maxRecDepth 100000 in
set_option maxHeartbeats 4000000 in
theorem play_pq {w W : World} {b rb p n z : Nat} (h : Pq w b rb p n z W) (hE : Ev w) (l : List Oc) (hn : n + l.length ≤ 16777216) (hz : z + obk l ≤ 1048576) (hl : ∀ x ∈ l, x.fit) (v : Value) (hr : RdC w v l) :
    Calls Tryz.prog 23 #[.pointer (some ⟨b, 0, none⟩), .pointer (some ⟨rb, 0, none⟩), v] W fun e W' => e = .returned (.bool true) ∧ Pq w b rb p (n + l.length) (z + obk l) W' := by
  obtain ⟨N, hN⟩ : ∃ N, l.length = N := ⟨_, rfl⟩
  obtain ⟨ad, cap, rfl, hr⟩ := hr
  have HP0 : Hid (Pq w b rb p n z W) := h
  have HE : Hid (Ev w) := hE
  have HN : Hid (l.length = N ∧ (∀ x ∈ l, x.fit) ∧ n + l.length ≤ 16777216 ∧ z + obk l ≤ 1048576) := ⟨hN, hl, hn, hz⟩
  have HR : Hid (l ≠ [] → ∃ g o, ad = some ⟨g, o, none⟩ ∧ g < w.heap.size ∧ ∀ k x, l[k]? = some x → w.cell? ⟨g, o + k * 4, none⟩ = some (.int .i64 x.kd) ∧ w.cell? ⟨g, o + k * 4 + 1, none⟩ = some (.int .i64 x.a) ∧ w.cell? ⟨g, o + k * 4 + 2, none⟩ = some (.int .i64 x.c) ∧ w.cell? ⟨g, o + k * 4 + 3, none⟩ = some (.string x.p)) := hr
  have hNb : N ≤ 1048576 := by have := obk_len l; omega
  rw [hN]
  obtain ⟨Z, hZ⟩ : ∃ Z, z + obk l = Z := ⟨_, rfl⟩
  have HZ : Hid (z + obk l = Z) := hZ
  rw [hZ]
  clear h hE hN hl hr hn hz hZ
  go_enter Tryz.func23, Tryz.ntmps23
  go_wp2
  go_loopw [7] (fun t wr => ∃ i : Nat, i ≤ N ∧ t = .int .i64 i ∧ ∃ z', Hid (z' + obk (l.drop i) ≤ Z ∧ Pq w b rb p (n + i) z' wr)) (fun t _ => N - (intOf t).toNat)
  case atStart => exact ⟨0, Nat.zero_le _, rfl, z, Nat.le_of_eq HZ.out, HP0.out⟩
  case round =>
    obtain ⟨i, hi, rfl, z', HP⟩ := hrel
    clear HP0
    by_cases hlt : i < N
    · obtain ⟨x, hxk⟩ : ∃ x, l[i]? = some x := ⟨l[i]'(by rw [HN.out.1]; exact hlt), List.getElem?_eq_getElem _⟩
      have hxf := HN.out.2.1 x (List.mem_of_getElem? hxk)
      obtain ⟨gs, os, rfl, hgs, hcx⟩ := HR.out (fun e => by rw [e] at hxk; simp at hxk)
      have hob := obk_at hxk
      have hb1 := HN.out
      have hb2 := HP.out.1
      have hb3 := HZ.out
      have HC : Hid (∀ X, Below w.heap.size w X → X.cell? ⟨gs, os + i * 4, none⟩ = some (.int .i64 x.kd) ∧ X.cell? ⟨gs, os + i * 4 + 1, none⟩ = some (.int .i64 x.a) ∧ X.cell? ⟨gs, os + i * 4 + 2, none⟩ = some (.int .i64 x.c) ∧ X.cell? ⟨gs, os + i * 4 + 3, none⟩ = some (.string x.p)) := fun X hX => by
        obtain ⟨c0, c1, c2, c3⟩ := hcx i x hxk
        have kp : ∀ j v, w.cell? ⟨gs, j, none⟩ = some v → X.cell? ⟨gs, j, none⟩ = some v := fun j v h => (hX.cell (p := ⟨gs, j, none⟩) (by simp; omega)).trans h
        exact ⟨kp _ _ c0, kp _ _ c1, kp _ _ c2, kp _ _ c3⟩
      have CW : Hid (Calls Tryz.prog 70 #[.pointer (some ⟨b, 0, none⟩), .pointer (some ⟨rb, 0, none⟩), .agg #[.int .i64 x.kd, .int .i64 x.a, .int .i64 x.c, .string x.p]] wr fun e W' => e = .returned (.bool true) ∧ Hid (Pq w b rb p (n + i + 1) (z' + x.p.size) W')) := works_pq HP.out.2 HE.out (by omega) x hxf (by omega)
      have CA : Hid (∀ X, Hid (Pq w b rb p (n + i + 1) (z' + x.p.size) X) → Calls Tryz.prog 71 #[.pointer (some ⟨b, 0, none⟩), .pointer (some ⟨rb, 0, none⟩), .agg #[.int .i64 x.kd, .int .i64 x.a, .int .i64 x.c, .string x.p]] X fun e W' => e = .returned (.bool true) ∧ Hid (Pq w b rb p (n + i + 1) (z' + x.p.size) W')) := fun X hX => asks_pq hX.out HE.out (by omega) x hxf
      have CK : Hid (∀ X, Hid (Pq w b rb p (n + i + 1) (z' + x.p.size) X) → Calls Tryz.prog 22 #[.pointer (some ⟨b, 0, none⟩), .pointer (some ⟨rb, 0, none⟩)] X fun e W' => e = .returned (.bool true) ∧ Hid (Pq w b rb p (n + i + 1) (z' + x.p.size) W')) := fun X hX => looks_pq hX.out
      have HF : Hid (∀ X, Pq w b rb p (n + i + 1) (z' + x.p.size) X → z' + x.p.size + obk (l.drop (i + 1)) ≤ Z ∧ Pq w b rb p (n + (i + 1)) (z' + x.p.size) X) := fun X hX => ⟨by omega, by rw [show n + (i + 1) = n + i + 1 by omega]; exact hX⟩
      obtain ⟨y0, y1, y2, y3⟩ := HC.out _ HP.out.2.bel
      clear hcx hxk hxf hob hb1 hb2 hb3
      go_wp2_with (first
        | (go_at_call 70; refine CW.out.mono ?_; clear CW HP y0 y1 y2 y3; rintro e w2 ⟨rfl, HP⟩; obtain ⟨y0, y1, y2, y3⟩ := HC.out _ HP.out.bel)
        | (go_at_call 71; refine (CA.out _ HP).mono ?_; clear CA HP y0 y1 y2 y3; rintro e w3 ⟨rfl, HP⟩)
        | (go_at_call 22; refine (CK.out _ HP).mono ?_; clear CK HP; rintro e w4 ⟨rfl, HP⟩))
      exact ⟨⟨i + 1, by omega, by go_num, z' + x.p.size, HF.out _ HP.out⟩, by simp [intOf]; omega⟩
    · have hiN : i = N := by omega
      subst hiN
      have HF : Hid (Pq w b rb p (n + i) Z wr) := HP.out.2.up (by have := HP.out.1; omega)
      clear HP
      go_wp2
      go_ret
      exact ⟨rfl, HF.out⟩
end Go.Proofs.YtkmihnjmchfopaaGreatDoor.Sto
namespace Go.Proofs.YtkmihnjmchfopaaGreatDoor.Sto
open Go.RowKit Go.Shelf Bod Wid
open Gap (Gp lim)

/-- the document's numbers of a new store are the store's own -/
theorem rnw_of (kd lo hi : Int) (l z : Nat) : rnwK kd lo hi z = rkOf (nwB kd lo hi l z) (nwK kd lo hi l) := by
  unfold rnwK rkOf nwB misK
  have e1 : kdK (nwK kd lo hi l) = if kd = 1 ∨ kd = 2 then kd else 3 := rfl
  have e2 : loK (nwK kd lo hi l) = min (max lo 0) 1073741824 := rfl
  have e3 : hiK (nwK kd lo hi l) = max hi (min (max lo 0) 1073741824 + 1) := rfl
  have e4 : (Tx.or none).bk = 1 := rfl
  rw [e1, e2, e3, e4, if_pos rfl]
  generalize max hi (min (max lo 0) 1073741824 + 1) = H
  by_cases c1 : kd = 1
  · subst c1; simp [nwK]
  · by_cases c2 : kd = 2
    · subst c2; simp [nwK]
    · have c3 : ¬ (kd = 1 ∨ kd = 2) := by omega
      rw [if_neg c3]
      by_cases c4 : H ≤ (z : Int)
      · simp [c1, c2, c4, nwK]
      · simp [c2, c4, nwK]
theorem md_pq {w W : World} {m : Mk} {b rb : Nat} (hm : m.fit) (h : Md w m b rb W) : ∃ p, Pq w b rb p 0 m.s.size W := by
  obtain ⟨h1, p, h2, h3, h4⟩ := h
  have e := rnw_of m.kd m.lo m.hi (lim m.lm) m.s.size
  refine ⟨p, m.s, _, _, _, _, ⟨rfl, by simp [nwK], e, ⟨⟨hm.2.2.1.2, hm.2.2.1.1, hm.2.1.2, hm.2.1.1⟩, Int.le_refl _, by simp [nwK], Int.le_refl _, by simp [nwK], Int.le_refl _, by simp [nwK]⟩, Nat.le_refl _, h1.bk12⟩, h2.ok, h1, h2, h3, h4, .refl W⟩
end Go.Proofs.YtkmihnjmchfopaaGreatDoor.Sto
namespace Go.Proofs.YtkmihnjmchfopaaGreatDoor.Gap
open Go.RowKit Bod

theorem cut_all (r : Option Nat) (N : Nat) : cutV (ad r) 0 N N = .slice (ad r) N N := by
  unfold cutV sliced
  cases r with
  | none => simp [ad]
  | some k => simp [ad, adr]

set_option maxRecDepth 100000 in
set_option maxHeartbeats 1000000 in
theorem clone_none (w : World) : Calls Tryz.prog 126 #[.pointer none] w fun x w' => x = .returned (.pointer none) ∧ w' = w := by
  go_enter Tryz.func126, Tryz.ntmps126
  go_wp2
  go_ret
  exact ⟨rfl, rfl⟩

set_option maxRecDepth 100000 in
set_option maxHeartbeats 4000000 in
theorem clone_pb {w : World} {b : Nat} {r : Option Nat} {g : Gp} {n : Nat} (h : PB w b r g n) :
    Calls Tryz.prog 126 #[.pointer (some ⟨b, 0, none⟩)] w fun x w' => x = .returned (.pointer (some ⟨w.heap.size + 1, 0, none⟩)) ∧ PB w' (w.heap.size + 1) (some w.heap.size) g n ∧ Below w.heap.size w w' := by
  obtain ⟨A, e, hP, hg, hA⟩ := h.ex
  have hsm := h.small
  have hb := h.lt
  obtain ⟨⟨c0, c1, c2, c3⟩, -⟩ := box4 hP.box
  rw [hA] at c0
  obtain ⟨j, hj⟩ : ∃ j, w.heap.size = j := ⟨_, rfl⟩
  obtain ⟨W0, hW0⟩ : ∃ W0, w.alloc (.cells (Lib.byteCells (List.replicate n 0)).toArray 5) = W0 := ⟨_, rfl⟩
  have hB0 : Below w.heap.size w W0 := by rw [← hW0]; exact (Below.refl _ w).alloc (Nat.le_refl _) _
  have hr0 : W0.heap[j]? = some (.cells (Lib.byteCells (List.replicate n 0)).toArray 5 (0, 0)) := by rw [← hW0, ← hj]; exact World.alloc_heap_new w _
  have hz0 : W0.heap.size = j + 1 := by rw [← hW0, ← hj]; simp
  have hmk : (Instr.makeSlice 131 (.int .i64 (n : Int)) (.int .i64 (n : Int))).run Tryz.prog w = .ok (.slice (some ⟨j, 0, none⟩) n n) W0 := by
    rw [run_make_row' 131 5 (.int .u8 0) 1 Tryz.underlying131 infoZ rfl .i64 .i64 n (by omega) (by omega) w, made_bc, hj, hW0]
  have hP0 := hP.below hB0
  obtain ⟨⟨v0, -⟩, -⟩ := box4 hP0.box
  rw [hA] at v0
  have hfull : splice (List.replicate n (0 : UInt8)) 0 ((A.drop 0).take n) = A := by
    rw [List.drop_zero, List.take_of_length_le (by omega)]
    unfold splice
    rw [List.take_zero, List.nil_append, List.drop_of_length_le (by simp; omega), List.append_nil]
  obtain ⟨W1, hW1⟩ : ∃ W1, W0.setRow j (Lib.byteCells A).toArray = W1 := ⟨_, rfl⟩
  have hcp : (Builtin.copy_ #[131, 131] 3 #[.slice (some ⟨j, 0, none⟩) n n, .slice (ad r) n n]).run Tryz.prog W0 = .ok (goInt n) W1 := by
    have := copy_to (j := j) (Z := List.replicate n 0) (A := A) (a := some ⟨j, 0, none⟩) (dl := n) (dc := n) (off := 0) (so := 0) (n := n) (r := r) hP.nil (fun _ => rfl) (Nat.le_refl _) (by simp) (by omega) 3 W0 hr0 (fun k hk => (hP0.row k hk).2)
    rw [hfull, hA, Nat.zero_add, cut_all, hW1] at this
    exact this
  have hbj : b ≠ j := by omega
  have hP1 : W1.heap[b]? = some (.cells #[.slice (ad r) A.length A.length, .int .i64 g.p, .int .i64 e, .int .i64 g.l] 133 (0, 0)) := by rw [← hW1]; exact (setRow_other _ _ _ _ hbj).trans hP0.box
  have hr1 : W1.heap[j]? = some (.cells (Lib.byteCells A).toArray 5 (0, 0)) := by rw [← hW1]; exact setRow_heap _ _ _ _ _ _ hr0
  have hz1 : W1.heap.size = j + 1 := by rw [← hW1, ← hz0]; simp [World.setRow]
  have hB1 : Below w.heap.size w W1 := by rw [← hW1]; exact hB0.trans ⟨rfl, rfl, rfl, by simp [World.setRow], fun k hk => setRow_other _ _ _ _ (by omega)⟩
  obtain ⟨⟨d0, d1, d2, d3⟩, -⟩ := box4 hP1
  have HC : Hid (W1.cell? ⟨b, 1, none⟩ = some (.int .i64 g.p) ∧ W1.cell? ⟨b, 2, none⟩ = some (.int .i64 e) ∧ W1.cell? ⟨b, 3, none⟩ = some (.int .i64 g.l)) := ⟨d1, d2, d3⟩
  have HF : Hid (PB (W1.alloc (.cells #[.slice (some ⟨j, 0, none⟩) n n, .int .i64 g.p, .int .i64 e, .int .i64 g.l] 133)).drew (j + 1) (some j) g n ∧ Below w.heap.size w (W1.alloc (.cells #[.slice (some ⟨j, 0, none⟩) n n, .int .i64 g.p, .int .i64 e, .int .i64 g.l] 133)).drew) := by
    have q1 := World.alloc_heap_new W1 (.cells #[.slice (some ⟨j, 0, none⟩) n n, .int .i64 g.p, .int .i64 e, .int .i64 g.l] 133)
    rw [hz1] at q1
    have q2 : PB (W1.alloc (.cells #[.slice (some ⟨j, 0, none⟩) n n, .int .i64 g.p, .int .i64 e, .int .i64 g.l] 133)) (j + 1) (some j) g n := by
      refine ⟨⟨A, e, ⟨by rw [hA]; exact q1, fun i hi => ?_, fun h0 => by cases h0⟩, hg, hA⟩, h.cap, h.lm, h.ok⟩
      cases hi
      exact ⟨by omega, (Below.heap_alloc _ _ _ (by rw [hz1]; omega)).trans hr1⟩
    refine ⟨q2.below ⟨rfl, rfl, rfl, Nat.le_refl _, fun _ _ => rfl⟩, ?_⟩
    have q3 := hB1.alloc hB1.size (.cells #[.slice (some ⟨j, 0, none⟩) n n, .int .i64 g.p, .int .i64 e, .int .i64 g.l] 133)
    exact ⟨q3.os, q3.tape, q3.output, q3.size, q3.block⟩
  have HZ : Hid (W1.heap.size = j + 1) := hz1
  have HCa : Hid ((W1.alloc (.cells #[.slice (some ⟨j, 0, none⟩) n n, .int .i64 g.p, .int .i64 e, .int .i64 g.l] 133)).drew.cell? ⟨b, 1, none⟩ = some (.int .i64 g.p) ∧ (W1.alloc (.cells #[.slice (some ⟨j, 0, none⟩) n n, .int .i64 g.p, .int .i64 e, .int .i64 g.l] 133)).drew.cell? ⟨b, 2, none⟩ = some (.int .i64 e) ∧ (W1.alloc (.cells #[.slice (some ⟨j, 0, none⟩) n n, .int .i64 g.p, .int .i64 e, .int .i64 g.l] 133)).drew.cell? ⟨b, 3, none⟩ = some (.int .i64 g.l)) := (box4 ((Below.heap_alloc W1 _ b (by rw [hz1]; omega)).trans hP1)).1.2
  rw [hj] at hB0 hB1 HF ⊢
  clear h hP hg hP0 hP1 hr0 hr1 hB0 hB1 hfull hW0 hW1 hj hz0 hz1 d0 d1 d2 d3 hA hbj
  go_enter Tryz.func126, Tryz.ntmps126
  go_wp2_with (at_builtin; refine Lib.wpList_copy_run _ rfl (.tmp 12) (.tmp 16) 131 131 rfl _ _ rfl rfl hcp ?_)
  go_region_held3 (fun w' => w'.cell? ⟨b, 1, none⟩ = some (.int .i64 g.p) ∧ w'.cell? ⟨b, 2, none⟩ = some (.int .i64 e) ∧ w'.cell? ⟨b, 3, none⟩ = some (.int .i64 g.l)) (first | exact HC.out | exact HCa.out) (fail)
  go_wp2
  go_ret
  exact ⟨by rw [HZ.out]; rfl, HF.out⟩

set_option maxRecDepth 100000 in
set_option maxHeartbeats 1000000 in
theorem rclone_any {b : Nat} {g : Gp} (w : World) (h : RB w b g) :
    Calls Tryz.prog 74 #[.pointer (some ⟨b, 0, none⟩)] w fun x w' => x = .returned (.pointer (some ⟨w.heap.size, 0, none⟩)) ∧ RB w' w.heap.size g ∧ Below w.heap.size w w' := by
  obtain ⟨⟨c0, c1, c2⟩, f0, f1, hb⟩ := h.cells
  have HC : Hid (w.cell? ⟨b, 0, none⟩ = some (.string g.s) ∧ w.cell? ⟨b, 1, none⟩ = some (.int .i64 g.p) ∧ w.cell? ⟨b, 2, none⟩ = some (.int .i64 g.l)) := ⟨c0, c1, c2⟩
  have HF : Hid (RB (w.alloc (.cells #[.string g.s, .int .i64 g.p, .int .i64 g.l] 167)).drew w.heap.size g ∧ Below w.heap.size w (w.alloc (.cells #[.string g.s, .int .i64 g.p, .int .i64 g.l] 167)).drew) := by
    have q3 := (Below.refl w.heap.size w).alloc (Nat.le_refl _) (.cells #[.string g.s, .int .i64 g.p, .int .i64 g.l] 167)
    exact ⟨rb_new w g, ⟨q3.os, q3.tape, q3.output, q3.size, q3.block⟩⟩
  have HCa : Hid ((w.alloc (.cells #[.string g.s, .int .i64 g.p, .int .i64 g.l] 167)).drew.cell? ⟨b, 0, none⟩ = some (.string g.s) ∧ (w.alloc (.cells #[.string g.s, .int .i64 g.p, .int .i64 g.l] 167)).drew.cell? ⟨b, 1, none⟩ = some (.int .i64 g.p) ∧ (w.alloc (.cells #[.string g.s, .int .i64 g.p, .int .i64 g.l] 167)).drew.cell? ⟨b, 2, none⟩ = some (.int .i64 g.l)) := by
    have hr : RB (w.alloc (.cells #[.string g.s, .int .i64 g.p, .int .i64 g.l] 167)).drew b g := (Below.heap_alloc w _ b hb).trans h
    exact hr.cells.1
  clear h f0 f1 c0 c1 c2
  go_enter Tryz.func74, Tryz.ntmps74
  go_wp2
  go_region_held3 (fun w' => w'.cell? ⟨b, 0, none⟩ = some (.string g.s) ∧ w'.cell? ⟨b, 1, none⟩ = some (.int .i64 g.p) ∧ w'.cell? ⟨b, 2, none⟩ = some (.int .i64 g.l)) (first | exact HC.out | exact HCa.out) (fail)
  go_wp2
  go_ret
  exact ⟨rfl, HF.out⟩
end Go.Proofs.YtkmihnjmchfopaaGreatDoor.Gap
namespace Go.Proofs.YtkmihnjmchfopaaGreatDoor.Sto
open Go.RowKit Go.Shelf Bod Wid

/-- a store, its text, its backend, its numbers; nothing but B and what is new was turned since w -/
structure Sx (B : Nat → Prop) (w : World) (b : Nat) (s : ByteArray) (bk : Int) (k : Sk) (x : Option Tx) (K : Kp) (W : World) : Prop where
  st : Pst W b x k K
  bk : (Tx.or x).bk = bk
  text : K.text = s
  tn : Tn B w W
  lo : ∀ j, K.blk j → B j ∨ w.heap.size ≤ j
  b0 : B b ∨ w.heap.size ≤ b
def Sp (B : Nat → Prop) (w : World) (b : Nat) (s : ByteArray) (bk : Int) (k : Sk) (W : World) : Prop := ∃ x K, Sx B w b s bk k x K W
/-- the two tables are none of B -/
structure Eb (B : Nat → Prop) (w : World) : Prop where
  ev : Ev w
  n0 : ¬ B 1
  n1 : ¬ B 2
section
variable {B : Nat → Prop} {w W W' : World} {b : Nat} {s : ByteArray} {bk : Int} {k : Sk}
theorem Eb.at (h : Eb B w) (ht : Tn B w W) : Ev W := ev_turn h.ev ht h.n0 h.n1
theorem Tn.low (h : Tn B w W) (hb : Below W.heap.size W W') : Tn B w W' := h.trans (.of_below hb)
theorem Sx.below {x : Option Tx} {K : Kp} (h : Sx B w b s bk k x K W) (hb : Below W.heap.size W W') : Sx B w b s bk k x K W' := ⟨h.st.below hb, h.bk, h.text, h.tn.low hb, h.lo, h.b0⟩
theorem Sp.below (h : Sp B w b s bk k W) (hb : Below W.heap.size W W') : Sp B w b s bk k W' := by obtain ⟨x, K, h⟩ := h; exact ⟨x, K, h.below hb⟩
theorem Sp.tn (h : Sp B w b s bk k W) : Tn B w W := by obtain ⟨x, K, h⟩ := h; exact h.tn
theorem Sp.bk12 (h : Sp B w b s bk k W) : bk = 1 ∨ bk = 2 := by
  obtain ⟨x, K, h⟩ := h
  rw [← h.bk]; cases Tx.or x <;> simp [Tx.bk]
theorem Sp.lim (h : Sp B w b s bk k W) : ∃ l : Nat, k.limit = l ∧ k.limit.toNat = l ∧ s.size ≤ l ∧ l ≤ 1073741824 := by
  obtain ⟨x, K, h⟩ := h
  have := h.st.lim
  obtain ⟨h1, h2⟩ := h.st.hold.size
  rw [h.text] at h1
  exact ⟨K.lim, this, by omega, h1, h2⟩
theorem sp_back (h : Sp B w b s bk k W) : Calls Tryz.prog 56 #[.pointer (some ⟨b, 0, none⟩)] W fun e W' => e = .returned (.int .i64 bk) ∧ W' = W := by
  obtain ⟨x, K, h⟩ := h
  have := Backend_any h.st.spt
  rw [h.bk] at this
  exact this
theorem sp_len (h : Sp B w b s bk k W) : Calls Tryz.prog 67 #[.pointer (some ⟨b, 0, none⟩)] W fun e W' => e = .returned (.int .i64 s.size) ∧ Below W.heap.size W W' := by
  obtain ⟨x, K, h⟩ := h
  exact (slen_any h.st.spt h.st.hold).mono fun e W' ⟨q1, q2⟩ => ⟨by rw [q1, h.text], q2⟩
theorem sp_rep (h : Sp B w b s bk k W) (hE : Eb B w) (hk : k.fit) (hn : k.few) (a c : Int) (put : ByteArray) (ha : -9223372036854775808 ≤ a ∧ a ≤ 9223372036854775807) (hc : c ≤ 9223372036854775807) (hp : put.size ≤ 9223372036854775807) (T : ByteArray × ByteArray × Int) (hT : txR s k.limit.toNat a c put = T) (N : Int × Sk) (hN : smA bk k T.2.2 (c + put.size) T.1.size = N) :
    Calls Tryz.prog 78 #[.pointer (some ⟨b, 0, none⟩), .int .i64 a, .int .i64 c, .string put] W fun e W' => ∃ o r, e = .returned (.tuple #[.string o, .int .i64 r]) ∧ (o = T.2.1 ∧ r = T.2.2) ∧ Sp B w b T.1 N.1 N.2 W' ∧ Fty W W' := by
  obtain ⟨x, K, h⟩ := h
  have hl : K.lim = k.limit.toNat := by have := h.st.lim; omega
  have hB : ∀ j, j = b ∨ K.blk j → B j ∨ w.heap.size ≤ j := fun j e => e.elim (fun e => by rw [e]; exact h.b0) (h.lo j)
  have hB2 : ∀ j, j = b ∨ K.blk j → j ≠ 1 ∧ j ≠ 2 := fun j e => by
    have l0 := hE.ev.l0
    have l1 := hE.ev.l1
    rcases hB j e with q | q
    · exact ⟨fun e => hE.n0 (by rw [← e]; exact q), fun e => hE.n1 (by rw [← e]; exact q)⟩
    · omega
  have nw : ∀ {K' : Kp}, (∀ j, K'.blk j → K.blk j ∨ W.heap.size ≤ j) → ∀ j, K'.blk j → B j ∨ w.heap.size ≤ j := fun hq j hj => (hq j hj).elim (h.lo j) (fun e => .inr (Nat.le_trans h.tn.size e))
  rw [← hT] at hN ⊢
  by_cases e0 : (txR s k.limit.toNat a c put).2.2 = 0
  · have hq : (txR K.text K.lim a c put).2.2 = 0 := by rw [h.text, hl]; exact e0
    refine (srep_ok h.st (hE.at h.tn) hB2 hk ⟨hn.1, hn.2.1, hn.2.2.1, hn.2.2.2.1⟩ a c put ha hc hp hq).mono ?_
    rintro e W' ⟨rfl, hr⟩
    rw [h.text, hl] at hr ⊢
    refine ⟨_, _, rfl, ⟨rfl, e0.symm⟩, ?_⟩
    have hN2 : smN bk k (c + put.size) (txR s k.limit.toNat a c put).1.size = N := by rw [← hN]; unfold smA; rw [if_pos e0]
    have hm : misK x (k.edit (c + put.size)) (txR s k.limit.toNat a c put).1.size = misM bk (k.edit (c + put.size)) (txR s k.limit.toNat a c put).1.size := by unfold misK misM; rw [h.bk]
    rw [hm] at hr
    unfold smN at hN2
    cases hc : misM bk (k.edit (c + put.size)) (txR s k.limit.toNat a c put).1.size with
    | true =>
      rw [hc, if_pos rfl] at hr hN2
      obtain ⟨y, K', e1, A⟩ := hr
      rw [← hN2]
      exact ⟨⟨some y, K', A.st, by rw [← h.bk]; exact e1, A.text, h.tn.trans (A.tn.mono hB), nw A.new, h.b0⟩, fty_of h.st A.tn⟩
    | false =>
      rw [hc, if_neg (by simp)] at hr hN2
      obtain ⟨K', A⟩ := hr
      rw [← hN2]
      exact ⟨⟨x, K', A.st, h.bk, A.text, h.tn.trans (A.tn.mono hB), nw A.new, h.b0⟩, fty_of h.st A.tn⟩
  · have hq : (txR K.text K.lim a c put).2.2 ≠ 0 := by rw [h.text, hl]; exact e0
    refine (srep_no h.st (hE.at h.tn) a c put ha hc hp hq).mono ?_
    rintro e W' ⟨rfl, K', q1, q2, q3, q4, q5⟩
    rw [h.text, hl] at q2 ⊢
    have hN2 : (bk, k) = N := by rw [← hN]; unfold smA; rw [if_neg e0]
    rw [← hN2]
    have A : Tn (fun j => j = b ∨ K.blk j) W W' := q4.mono (fun j e => .inr e)
    exact ⟨_, _, rfl, ⟨rfl, rfl⟩, ⟨x, K', q1, h.bk, q2, h.tn.trans (A.mono hB), nw q5, h.b0⟩, fty_of h.st A⟩
theorem sp_sw (h : Sp B w b s bk k W) (hE : Eb B w) (hn : k.few) (to : Int) (N : Int × Int × Sk) (hN : smS bk k to = N) :
    Calls Tryz.prog 27 #[.pointer (some ⟨b, 0, none⟩), .int .i64 to] W fun e W' => e = .returned (.int .i64 N.1) ∧ Sp B w b s N.2.1 N.2.2 W' ∧ Fty W W' := by
  obtain ⟨x, K, h⟩ := h
  have hB : ∀ j, j = b ∨ K.blk j → B j ∨ w.heap.size ≤ j := fun j e => e.elim (fun e => by rw [e]; exact h.b0) (h.lo j)
  rw [← hN]
  unfold smS
  by_cases c1 : to = 1 ∨ to = 2
  · rw [if_pos c1]
    by_cases c2 : to = bk
    · rw [if_pos c2]
      have := sw_same h.st
      rw [h.bk, ← c2] at this
      refine this.mono ?_
      rintro e W' ⟨rfl, rfl⟩
      exact ⟨rfl, ⟨x, K, h⟩, Fty.below (Below.refl _ _)⟩
    · rw [if_neg c2]
      have hb : bk = 1 ∨ bk = 2 := by rw [← h.bk]; cases Tx.or x <;> simp [Tx.bk]
      have ht : to = 3 - bk := by omega
      have := sw_other h.st (hE.at h.tn) ⟨hn.2.2.2.2.1, hn.2.2.2.2.2⟩
      rw [h.bk, ← ht] at this
      refine this.mono ?_
      rintro e W' ⟨rfl, y, K', q1, q2, q3, q4, q5, q6⟩
      have A : Tn (fun j => j = b ∨ K.blk j) W W' := .of_grown q5 (.inl rfl)
      exact ⟨rfl, ⟨some y, K', q1, by rw [ht, ← h.bk]; exact q2, q3.trans h.text, h.tn.trans (A.mono hB), fun j hj => .inr (Nat.le_trans h.tn.size (new_blk q6 hj)), h.b0⟩, fty_of h.st A⟩
  · rw [if_neg c1]
    refine (sw_bad W b to (fun e => c1 (.inl e)) (fun e => c1 (.inr e))).mono ?_
    rintro e W' ⟨rfl, rfl⟩
    exact ⟨rfl, ⟨x, K, h⟩, Fty.below (Below.refl _ _)⟩
end
end Go.Proofs.YtkmihnjmchfopaaGreatDoor.Sto
namespace Go.Proofs.YtkmihnjmchfopaaGreatDoor.Sto
open Go.RowKit Go.Shelf Bod Wid
open Gap (Gp RB)

/-- a text like x's, all new -/
def Cop (w : World) (x : Tx) (K : Kp) (e : Ending) (W' : World) : Prop := ∃ y K', e = .returned y.val ∧ Hold W' y K' ∧ y.bk = x.bk ∧ K'.text = K.text ∧ K'.lim = K.lim ∧ Below w.heap.size w W' ∧ ∀ j, K'.blk j → w.heap.size ≤ j
set_option maxRecDepth 100000 in
set_option maxHeartbeats 1000000 in
theorem copied_gap {w : World} {v : Value} {o : Option (Nat × Option Nat)} {g : Gp} {n : Nat} (h : Gap.Is w v o g n) : Calls Tryz.prog 72 #[.iface 76 v] w (Cop w (.gap v) (.gap o g n)) := by
  have C1 : Hid (Calls Tryz.prog 126 #[v] w fun e W' => ∃ u, e = .returned u ∧ Hid (∃ o', Gap.Is W' u o' g n ∧ Below w.heap.size w W' ∧ ∀ j, (Kp.gap o' g n).blk j → w.heap.size ≤ j)) := by
    cases o with
    | none =>
      obtain ⟨rfl, h2, h3⟩ := h
      refine (Gap.clone_none w).mono ?_
      rintro e W' ⟨rfl, rfl⟩
      exact ⟨_, rfl, none, ⟨rfl, h2, h3⟩, Below.refl _ _, fun j hj => by obtain ⟨b, r, e, _⟩ := hj; cases e⟩
    | some x =>
      obtain ⟨b, r⟩ := x
      obtain ⟨rfl, h2⟩ := h
      refine (Gap.clone_pb h2).mono ?_
      rintro e W' ⟨rfl, q1, q2⟩
      refine ⟨_, rfl, some (w.heap.size + 1, some w.heap.size), ⟨rfl, q1⟩, q2, fun j hj => ?_⟩
      obtain ⟨b', r', e, hj⟩ := hj
      cases e
      rcases hj with rfl | hj
      · omega
      · cases hj; omega
  have ha := fun W => as_gap1 W v
  clear h
  go_enter Tryz.func72, Tryz.ntmps72
  go_wp2_with (go_at_call 126; refine C1.out.mono ?_; clear C1; rintro e w1 ⟨u, rfl, HB⟩)
  go_ret
  obtain ⟨o', q1, q2, q3⟩ := HB.out
  exact ⟨.gap u, .gap o' g n, rfl, q1, rfl, rfl, rfl, q2, q3⟩
set_option maxRecDepth 100000 in
set_option maxHeartbeats 1000000 in
theorem copied_rope {w : World} {b : Nat} {v : Value} {t : Tr} {l : Nat} (h : Rq w b v t l) (hg : Good t) (hl : t.text.size ≤ l) (hl2 : l ≤ 1073741824) : Calls Tryz.prog 72 #[.iface 169 (.pointer (some ⟨b, 0, none⟩))] w (Cop w (.rope (.pointer (some ⟨b, 0, none⟩))) (.rope b v t l)) := by
  obtain ⟨c0, c1, _, hlt⟩ := qcells h.box
  have HF : Hid (∀ i, Cop w (.rope (.pointer (some ⟨b, 0, none⟩))) (.rope b v t l) (.returned (.iface 169 (.pointer (some ⟨w.heap.size, 0, none⟩)))) ((w.alloc (.cells #[v, .int .i64 (l : Int)] 171)).drewN i)) := fun i => by
    have hb0 := (Below.refl _ w).alloc (Nat.le_refl _) (.cells #[v, .int .i64 (l : Int)] 171)
    have hb : Below w.heap.size w ((w.alloc (.cells #[v, .int .i64 (l : Int)] 171)).drewN i) := ⟨hb0.os, hb0.tape, hb0.output, hb0.size, hb0.block⟩
    exact ⟨.rope (.pointer (some ⟨w.heap.size, 0, none⟩)), .rope w.heap.size v t l, rfl, ⟨rfl, ⟨World.alloc_heap_new w _, h.rp.below hb⟩, hg, hl, hl2⟩, rfl, rfl, rfl, hb, fun j hj => by have e : j = w.heap.size := hj; omega⟩
  have ha := fun W => as_rope1 W (.pointer (some ⟨b, 0, none⟩))
  have ha2 := fun W => as_rope W (.pointer (some ⟨b, 0, none⟩))
  obtain ⟨q, rfl⟩ : ∃ q, v = .pointer q := by
    rcases h.rp with ⟨e, _⟩ | ⟨b', _, e, _⟩
    · exact ⟨_, e⟩
    · exact ⟨_, e⟩
  clear h hg hl hl2
  go_enter Tryz.func72, Tryz.ntmps72
  go_wp2
  go_region
  go_wp2
  go_ret
  exact HF.out 1
theorem copied_any {w : World} {x : Tx} {K : Kp} (h : Hold w x K) : Calls Tryz.prog 72 #[x.val] w (Cop w x K) := by
  cases x <;> cases K <;> first | exact h.elim | skip
  · exact copied_gap h
  · obtain ⟨rfl, h1, h2, h3, h4⟩ := h
    exact copied_rope h1 h2 h3 h4
set_option maxRecDepth 100000 in
set_option maxHeartbeats 1000000 in
theorem sclone_any {w : World} {b : Nat} {x : Option Tx} {k : Sk} {K : Kp} (h : Pst w b x k K) : Calls Tryz.prog 24 #[.pointer (some ⟨b, 0, none⟩)] w fun e W' => e = .returned (.pointer (some ⟨w.heap.size, 0, none⟩)) ∧ ∃ y K', Pst W' w.heap.size (some y) k K' ∧ y.bk = (Tx.or x).bk ∧ K'.text = K.text ∧ Below w.heap.size w W' ∧ ∀ j, K'.blk j → w.heap.size ≤ j := by
  obtain ⟨c0, c1, c2, c3, c4, c5, c6, c7, hlt⟩ := scells h.box
  obtain ⟨W0, hW0⟩ : ∃ W0, w.alloc (.cells (scl (Tx.at x) k) 117) = W0 := ⟨_, rfl⟩
  have hb0 : Below w.heap.size w W0 := by rw [← hW0]; exact (Below.refl _ w).alloc (Nat.le_refl _) _
  have hr0 : W0.heap[w.heap.size]? = some (.cells (scl (Tx.at x) k) 117 (0, 0)) := by rw [← hW0]; exact World.alloc_heap_new w _
  have C1 : Hid (Calls Tryz.prog 73 #[.pointer (some ⟨b, 0, none⟩)] W0 fun e W' => e = .returned (Tx.or x).val ∧ W' = W0) := body_any (h.below hb0).spt
  have C2 : Hid (Calls Tryz.prog 72 #[(Tx.or x).val] W0 fun e W' => ∃ T q, e = .returned (.iface T q) ∧ Hid (∃ (y : Tx) (K' : Kp), y.val = .iface T q ∧ Hold W' y K' ∧ y.bk = (Tx.or x).bk ∧ K'.text = K.text ∧ K'.lim = K.lim ∧ Below W0.heap.size W0 W' ∧ ∀ j, K'.blk j → W0.heap.size ≤ j)) := by
    refine (copied_any (h.below hb0).hold).mono ?_
    rintro e W' ⟨y, K', q⟩
    obtain ⟨T, u, hu⟩ : ∃ T u, y.val = .iface T u := by cases y <;> exact ⟨_, _, rfl⟩
    exact ⟨T, u, by rw [q.1, hu], y, K', hu, q.2⟩
  have HL : Hid (k.limit = K.lim) := h.lim
  have HB0 : Hid (Below w.heap.size w W0 ∧ W0.heap[w.heap.size]? = some (.cells (scl (Tx.at x) k) 117 (0, 0))) := ⟨hb0, hr0⟩
  obtain ⟨V, hV⟩ : ∃ V, (Tx.or x).val = V := ⟨_, rfl⟩
  rw [hV] at C1 C2
  have HW : Hid (w.alloc (.cells (scl (Tx.at x) k) 117) = W0) := hW0
  have hlt0 : w.heap.size < W0.heap.size := (Array.getElem?_eq_some_iff.1 hr0).1
  unfold scl at hW0
  clear h hb0 hr0 hV
  have hu : Tx.at x = .nilIface ∨ ∃ T q, Tx.at x = .iface T q := by
    cases x with
    | none => exact .inl rfl
    | some y => cases y <;> exact .inr ⟨_, _, rfl⟩
  have HE2 : Hid (∀ w2 T q, w2.heap[w.heap.size]? = some (.cells (scl (Tx.at x) k) 117 (0, 0)) → Hid (∃ (y : Tx) (K' : Kp), y.val = .iface T q ∧ Hold w2 y K' ∧ y.bk = (Tx.or x).bk ∧ K'.text = K.text ∧ K'.lim = K.lim ∧ Below W0.heap.size W0 w2 ∧ ∀ j, K'.blk j → W0.heap.size ≤ j) → ∃ y K', Pst (w2.setCell ⟨w.heap.size, 0, none⟩ (.iface T q)) w.heap.size (some y) k K' ∧ y.bk = (Tx.or x).bk ∧ K'.text = K.text ∧ Below w.heap.size w (w2.setCell ⟨w.heap.size, 0, none⟩ (.iface T q)) ∧ ∀ j, K'.blk j → w.heap.size ≤ j) := fun w2 T q HR ⟨y, K', q0, q1, q2, q3, q4, q5, q6⟩ => by
    have hg := gcell w2 w.heap.size 0 (.iface T q)
    have hbx := set1 (i := 0) (.iface T q) HR
    rw [scl_set, ← q0] at hbx
    have hB2 : Below w.heap.size w w2 := Below.on HB0.out.1 q5
    exact ⟨y, K', ⟨by rw [← q0]; exact hbx, q1.turn HR hg, by rw [HL.out, q4]⟩, q2, q3, hB2.setCell (p := ⟨w.heap.size, 0, none⟩) (Nat.le_refl _) _, fun j hj => Nat.le_trans HB0.out.1.size (q6 j hj)⟩
  have HQ : Hid (∀ w2, Below W0.heap.size W0 w2 → w2.heap[w.heap.size]? = some (.cells (scl (Tx.at x) k) 117 (0, 0))) := fun w2 h2 => (h2.block _ hlt0).trans HB0.out.2
  clear HB0 HW HL
  rcases hu with hu | ⟨T0, q0, hu⟩
  · rw [hu] at c0 hW0
    go_enter Tryz.func24, Tryz.ntmps24
    go_wp2_with (first | (go_at_call 73; refine C1.out.mono ?_; clear C1; rintro e w1 ⟨rfl, rfl⟩) | (go_at_call 72; refine C2.out.mono ?_; clear C2; rintro e w2 ⟨T, q, rfl, HB⟩; have HR : Hid (w2.heap[w.heap.size]? = some (.cells (scl (Tx.at x) k) 117 (0, 0))) := HQ.out _ (by obtain ⟨_, _, _, _, _, _, _, h5, _⟩ := HB.out; exact h5); have f0 := sfroz (i := 0) HR.out; obtain ⟨z0, _⟩ := scells HR.out; have hl2 : w.heap.size < w2.heap.size := (Array.getElem?_eq_some_iff.1 HR.out).1))
    go_ret
    exact ⟨rfl, HE2.out _ _ _ HR.out HB⟩
  · rw [hu] at c0 hW0
    go_enter Tryz.func24, Tryz.ntmps24
    go_wp2_with (first | (go_at_call 73; refine C1.out.mono ?_; clear C1; rintro e w1 ⟨rfl, rfl⟩) | (go_at_call 72; refine C2.out.mono ?_; clear C2; rintro e w2 ⟨T, q, rfl, HB⟩; have HR : Hid (w2.heap[w.heap.size]? = some (.cells (scl (Tx.at x) k) 117 (0, 0))) := HQ.out _ (by obtain ⟨_, _, _, _, _, _, _, h5, _⟩ := HB.out; exact h5); have f0 := sfroz (i := 0) HR.out; obtain ⟨z0, _⟩ := scells HR.out; have hl2 : w.heap.size < w2.heap.size := (Array.getElem?_eq_some_iff.1 HR.out).1))
    go_ret
    exact ⟨rfl, HE2.out _ _ _ HR.out HB⟩
/-- the cells of the document's store, in one -/
def R8 (W : World) (b p : Nat) (k : Rk) : Prop := W.cell? ⟨b, 0, none⟩ = some (.pointer (some ⟨p, 0, none⟩)) ∧ W.cell? ⟨b, 1, none⟩ = some (.int .i64 k.kind) ∧ W.cell? ⟨b, 2, none⟩ = some (.int .i64 k.now) ∧ W.cell? ⟨b, 3, none⟩ = some (.int .i64 k.lo) ∧ W.cell? ⟨b, 4, none⟩ = some (.int .i64 k.hi) ∧ W.cell? ⟨b, 5, none⟩ = some (.int .i64 k.mv) ∧ W.cell? ⟨b, 6, none⟩ = some (.int .i64 k.fo) ∧ W.cell? ⟨b, 7, none⟩ = some (.int .i64 k.ed)
set_option maxRecDepth 100000 in
set_option maxHeartbeats 4000000 in
theorem rclone9_any {w : World} {b p : Nat} {g : Gp} {k : Rk} (h : Rf w b p g k) : Calls Tryz.prog 25 #[.pointer (some ⟨b, 0, none⟩)] w fun e W' => ∃ b' p', e = .returned (.pointer (some ⟨b', 0, none⟩)) ∧ Rf W' b' p' g k ∧ Below w.heap.size w W' ∧ w.heap.size ≤ b' ∧ w.heap.size ≤ p' := by
  have HC : Hid (∀ W, Below w.heap.size w W → R8 W b p k) := fun W hW => (rcells (h.below hW).box).1
  have HB0 : Hid (Below w.heap.size w w) := Below.refl _ w
  have HD : Hid (∀ W, Below w.heap.size w W → Below w.heap.size w W.drew) := fun W hW => hW.drew
  have HA : Hid (∀ W o, Below w.heap.size w W → Below w.heap.size w (W.alloc o)) := fun W o hW => hW.alloc hW.size o
  have C1 : Hid (∀ W, Below w.heap.size w W → Calls Tryz.prog 74 #[.pointer (some ⟨p, 0, none⟩)] W fun e W' => ∃ p', e = .returned (.pointer (some ⟨p', 0, none⟩)) ∧ Hid (RB W' p' g ∧ Below w.heap.size w W' ∧ w.heap.size ≤ p')) := fun W hW => (Gap.rclone_any W (h.below hW).buf).mono fun e W' ⟨q1, q2, q3⟩ => ⟨_, q1, q2, Below.on hW q3, hW.size⟩
  have HF : Hid (∀ W p', Hid (RB W p' g ∧ Below w.heap.size w W ∧ w.heap.size ≤ p') → Rf (W.alloc (.cells #[.pointer (some ⟨p', 0, none⟩), .int .i64 k.kind, .int .i64 k.now, .int .i64 k.lo, .int .i64 k.hi, .int .i64 k.mv, .int .i64 k.fo, .int .i64 k.ed] 122)) W.heap.size p' g k ∧ Below w.heap.size w (W.alloc (.cells #[.pointer (some ⟨p', 0, none⟩), .int .i64 k.kind, .int .i64 k.now, .int .i64 k.lo, .int .i64 k.hi, .int .i64 k.mv, .int .i64 k.fo, .int .i64 k.ed] 122)) ∧ w.heap.size ≤ W.heap.size ∧ w.heap.size ≤ p') := fun W p' ⟨q1, q2, q3⟩ =>
    have hb := (Below.refl _ W).alloc (Nat.le_refl _) (.cells #[.pointer (some ⟨p', 0, none⟩), .int .i64 k.kind, .int .i64 k.now, .int .i64 k.lo, .int .i64 k.hi, .int .i64 k.mv, .int .i64 k.fo, .int .i64 k.ed] 122)
    ⟨⟨World.alloc_heap_new W _, (hb.block _ (Array.getElem?_eq_some_iff.1 q1).1).trans q1, h.ok⟩, Below.on q2 hb, q2.size, q3⟩
  obtain ⟨c0, c1, c2, c3, c4, c5, c6, c7⟩ := HC.out _ HB0.out
  clear h
  go_enter Tryz.func25, Tryz.ntmps25
  go_wp2
  go_region_held3 (fun w' => w'.cell? ⟨b, 0, none⟩ = some (.pointer (some ⟨p, 0, none⟩)) ∧ w'.cell? ⟨b, 1, none⟩ = some (.int .i64 k.kind) ∧ w'.cell? ⟨b, 2, none⟩ = some (.int .i64 k.now) ∧ w'.cell? ⟨b, 3, none⟩ = some (.int .i64 k.lo) ∧ w'.cell? ⟨b, 4, none⟩ = some (.int .i64 k.hi) ∧ w'.cell? ⟨b, 5, none⟩ = some (.int .i64 k.mv) ∧ w'.cell? ⟨b, 6, none⟩ = some (.int .i64 k.fo) ∧ w'.cell? ⟨b, 7, none⟩ = some (.int .i64 k.ed)) (first | exact HC.out _ HB0.out | exact HC.out _ (HD.out _ HB0.out) | exact HC.out _ HP.out.2.1 | exact HC.out _ (HA.out _ _ HP.out.2.1)) (first | (go_at_call 74; refine (C1.out _ (HD.out _ HB0.out)).mono ?_; clear C1; rintro e w2 ⟨p', rfl, HP⟩))
  go_wp2
  go_ret
  exact ⟨_, p', rfl, HF.out _ _ HP⟩
end Go.Proofs.YtkmihnjmchfopaaGreatDoor.Sto
namespace Go.Proofs.YtkmihnjmchfopaaGreatDoor.Sto.Two
open Go.RowKit Go.Shelf Bod Wid Sto
open Gap (Gp RB gRep gReset eBA gSlice gMea)
variable {B : Nat → Prop}

theorem obk_drop (l : List Oc) (i : Nat) : obk (l.drop i) ≤ obk l := by
  induction l generalizing i with
  | nil => simp
  | cons x l ih =>
    cases i with
    | zero => exact Nat.le_refl _
    | succ i => simp only [List.drop_succ_cons, obk]; have := ih i; omega
/-- the script's cells, wherever only B was turned -/
def Scb (B : Nat → Prop) (w : World) (ad : Option Addr) (l : List Oc) : Prop :=
  ∀ i x, l[i]? = some x → ∃ gs os, ad = some ⟨gs, os, none⟩ ∧ ∀ X, Tn B w X → X.cell? ⟨gs, os + i * 4, none⟩ = some (.int .i64 x.kd) ∧ X.cell? ⟨gs, os + i * 4 + 1, none⟩ = some (.int .i64 x.a) ∧ X.cell? ⟨gs, os + i * 4 + 2, none⟩ = some (.int .i64 x.c) ∧ X.cell? ⟨gs, os + i * 4 + 3, none⟩ = some (.string x.p)
/-- the two stores, and what else stays since W0 -/
structure P2 (B : Nat → Prop) (w W0 : World) (b rb p : Nat) (s : ByteArray) (bk : Int) (k : Sk) (g : Gp) (rk : Rk) (W : World) : Prop where
  se : Sp B w b s bk k W
  rf : Rf W rb p g rk
  rb0 : B rb ∨ w.heap.size ≤ rb
  p0 : B p ∨ w.heap.size ≤ p
  fq : Fq W0 W
section
variable {w W0 W W' : World} {b rb p : Nat} {s s' : ByteArray} {bk bk' : Int} {k k' : Sk} {g g' : Gp} {rk rk' : Rk}
theorem P2.low (h : P2 B w W0 b rb p s bk k g rk W) (hb : Below W.heap.size W W') : P2 B w W0 b rb p s bk k g rk W' := ⟨h.se.below hb, h.rf.below hb, h.rb0, h.p0, h.fq.trans (.below hb)⟩
theorem P2.drew (h : P2 B w W0 b rb p s bk k g rk W) : P2 B w W0 b rb p s bk k g rk W.drew := h.low ⟨rfl, rfl, rfl, Nat.le_refl _, fun _ _ => rfl⟩
theorem P2.st (h : P2 B w W0 b rb p s bk k g rk W) (h1 : Sp B w b s' bk' k' W') (h2 : Fty W W') : P2 B w W0 b rb p s' bk' k' g rk W' :=
  ⟨h1, ⟨h2.keep _ _ _ _ h.rf.box (by decide) (by decide) (by decide) (by decide), h2.keep _ _ _ _ h.rf.buf (by decide) (by decide) (by decide) (by decide), h.rf.ok⟩, h.rb0, h.p0, h.fq.trans (.of_fty h2)⟩
theorem P2.ref (h : P2 B w W0 b rb p s bk k g rk W) (h1 : Rf W' rb p g' rk') (h2 : Tn (Rt rb p) W W') : P2 B w W0 b rb p s bk k g' rk' W' := by
  refine ⟨?_, h1, h.rb0, h.p0, h.fq.trans (.of_rt h.rf h2)⟩
  obtain ⟨x, K, hs⟩ := h.se
  have nb : b ≠ rb := ne_type hs.st.box h.rf.box (by decide)
  have np : b ≠ p := ne_type hs.st.box h.rf.buf (by decide)
  have kb : W'.heap[b]? = W.heap[b]? := h2.block b (Array.getElem?_eq_some_iff.1 hs.st.box).1 (fun e => e.elim nb np)
  refine ⟨x, K, ⟨kb.trans hs.st.box, hs.st.hold.keep h2 (fun j hj => ?_) (fun j cur T fz hj hc => ?_), hs.st.lim⟩, hs.bk, hs.text, hs.tn.trans (h2.mono (fun j e => ?_)), hs.lo, hs.b0⟩
  · obtain ⟨cur, T, e1, e2⟩ := hs.st.hold.blk_ty hj
    have n1 : j ≠ rb := ne_type e1 h.rf.box (by rcases e2 with rfl | rfl | rfl <;> decide)
    have n2 : j ≠ p := ne_type e1 h.rf.buf (by rcases e2 with rfl | rfl | rfl <;> decide)
    exact fun e => e.elim n1 n2
  · rcases hj with rfl | rfl
    · rw [h.rf.box] at hc; injection hc with hc; injection hc with _ t _; subst t; decide
    · have hb : W.heap[j]? = some (.cells _ 167 (0, 0)) := h.rf.buf
      rw [hb] at hc; injection hc with hc; injection hc with _ t _; subst t; decide
  · rcases e with rfl | rfl
    · exact h.rb0
    · exact h.p0
end
/-- the two calls of one kind, one behind the other -/
structure Sep (B : Nat → Prop) (w W0 : World) (b rb p : Nat) (s : ByteArray) (bk : Int) (k : Sk) (g : Gp) (rk : Rk) (s' : ByteArray) (bk' : Int) (k' : Sk) (g' : Gp) (rk' : Rk) (fp fr : FuncId) (ps : List Value) (rv : Value) : Prop where
  pg : ∀ W, P2 B w W0 b rb p s bk k g rk W → Calls Tryz.prog fp (.pointer (some ⟨b, 0, none⟩) :: ps).toArray W fun e W' => e = .returned rv ∧ P2 B w W0 b rb p s' bk' k' g rk W'
  rg : ∀ W, P2 B w W0 b rb p s' bk' k' g rk W → Calls Tryz.prog fr (.pointer (some ⟨rb, 0, none⟩) :: ps).toArray W fun e W' => e = .returned rv ∧ P2 B w W0 b rb p s' bk' k' g' rk' W'
section
variable {w W0 : World} {b rb p : Nat} {s : ByteArray} {bk : Int} {k : Sk} {g : Gp} {rk : Rk} {n z : Nat}
/-- an edit by Replace, on both sides -/
theorem both_rep (hL : Lk n z s bk k g rk) (hok : g.ok) (hn : n ≤ 16777216) (hE : Eb B w) (a c : Int) (put : ByteArray) (ha : -9223372036854775808 ≤ a ∧ a ≤ 9223372036854775807) (hc : c ≤ 9223372036854775807) (hp : put.size ≤ 1048576) :
    ∃ s' bk' k' g' rk' o r, Lk (n + 1) (z + put.size) s' bk' k' g' rk' ∧ g'.ok ∧
      (∀ W, P2 B w W0 b rb p s bk k g rk W → Calls Tryz.prog 78 #[.pointer (some ⟨b, 0, none⟩), .int .i64 a, .int .i64 c, .string put] W fun e W' => ∃ o' r', e = .returned (.tuple #[.string o', .int .i64 r']) ∧ (o' = o ∧ r' = r) ∧ P2 B w W0 b rb p s' bk' k' g rk W') ∧
      (∀ W, P2 B w W0 b rb p s' bk' k' g rk W → Calls Tryz.prog 117 #[.pointer (some ⟨rb, 0, none⟩), .int .i64 a, .int .i64 c, .string put] W fun e W' => ∃ o' r', e = .returned (.tuple #[.string o', .int .i64 r']) ∧ (o' = o ∧ r' = r) ∧ P2 B w W0 b rb p s' bk' k' g' rk' W') := by
  obtain ⟨h1, h2, h3, h4, h5, h6⟩ := hL
  obtain ⟨t1, t2, t3⟩ := gRep_tx g a c put
  obtain ⟨T, hT⟩ : ∃ T, txR s k.limit.toNat a c put = T := ⟨_, rfl⟩
  rw [h1, h2, hT] at t1 t3
  have hd : T.2.2 = 0 → 0 ≤ c + (put.size : Int) ∧ c + (put.size : Int) ≤ 4294967296 := fun e => by
    have := txR_zero (s := s) (l := k.limit.toNat) (a := a) (c := c) (put := put) (by rw [hT]; exact e)
    have := hok.2.1; have := hok.2.2
    rw [h1] at *
    omega
  have hs : T.1.size ≤ s.size + put.size := by
    rw [← hT]
    unfold txR
    split
    · simp
    · rename_i c1
      split
      · simp
      · simp only [size_app]
        rw [size_extract _ _ _ (by omega), size_extract _ _ _ (Nat.le_refl _)]
        omega
  obtain ⟨b1, b2⟩ := h4.edit (bk := bk) T.2.2 (c + put.size) T.1.size hd
  have hr := rk_after (k := k) h6 T.2.2 (c + put.size) T.1.size
  have hg := gRep_ok hok a c put
  have hr2 : (rk.after (gRep g a c put).2.2 (c + put.size) (gRep g a c put).1.s.size) = rkOf (smA bk k T.2.2 (c + put.size) T.1.size).1 (smA bk k T.2.2 (c + put.size) T.1.size).2 := by rw [h3, t1, t3]; exact hr
  have h6' : (smA bk k T.2.2 (c + put.size) T.1.size).1 = 1 ∨ (smA bk k T.2.2 (c + put.size) T.1.size).1 = 2 := by
    unfold smA smN
    split
    · split
      · simp only; omega
      · exact h6
    · exact h6
  refine ⟨T.1, _, _, (gRep g a c put).1, _, T.2.1, T.2.2, ⟨t1, by rw [t2, h2, b2], hr2, b1, by omega, h6'⟩, hg, fun W hW => ?_, fun W hW => ?_⟩
  · refine (sp_rep hW.se hE h4.fit (h4.few hn) a c put ha hc (by omega) T hT _ rfl).mono ?_
    rintro e W' ⟨o, r, q1, q2, q3, q4⟩
    exact ⟨o, r, q1, q2, hW.st q3 q4⟩
  · have f := h4.few hn
    refine (rrep9_any hW.rf (by rw [h3]; exact lo_hi k) a c put (by omega) ⟨by rw [h3]; exact f.1, by rw [h3]; have := h4.ed; show k.ed ≤ _; omega, by rw [h3]; exact f.2.2.1, by rw [h3]; exact f.2.2.2.1⟩).mono ?_
    rintro e W' ⟨q1, q2, q3⟩
    refine ⟨_, _, q1, ⟨by rw [t3], by rw [t3]⟩, hW.ref q2 q3⟩
theorem sep_rep (hL : Lk n z s bk k g rk) (hok : g.ok) (hn : n ≤ 16777216) (hE : Eb B w) (a c : Int) (put : ByteArray) (ha : -9223372036854775808 ≤ a ∧ a ≤ 9223372036854775807) (hc : c ≤ 9223372036854775807) (hp : put.size ≤ 1048576) :
    ∃ s' bk' k' g' rk' o r, Lk (n + 1) (z + put.size) s' bk' k' g' rk' ∧ g'.ok ∧ Sep B w W0 b rb p s bk k g rk s' bk' k' g' rk' 78 117 [.int .i64 a, .int .i64 c, .string put] (.tuple #[.string o, .int .i64 r]) := by
  obtain ⟨s', bk', k', g', rk', o, r, q1, q2, q3, q4⟩ := both_rep (W0 := W0) (b := b) (rb := rb) (p := p) hL hok hn hE a c put ha hc hp
  exact ⟨s', bk', k', g', rk', o, r, q1, q2, fun W hW => (q3 W hW).mono fun e W' ⟨o', r', e1, ⟨e2, e3⟩, e4⟩ => ⟨by rw [e1, e2, e3], e4⟩, fun W hW => (q4 W hW).mono fun e W' ⟨o', r', e1, ⟨e2, e3⟩, e4⟩ => ⟨by rw [e1, e2, e3], e4⟩⟩
theorem sep_ins (hL : Lk n z s bk k g rk) (hok : g.ok) (hn : n ≤ 16777216) (hE : Eb B w) (a : Int) (put : ByteArray) (ha : -9223372036854775808 ≤ a ∧ a ≤ 9223372036854775807) (hp : put.size ≤ 1048576) :
    ∃ s' bk' k' g' rk' r, Lk (n + 1) (z + put.size) s' bk' k' g' rk' ∧ g'.ok ∧ Sep B w W0 b rb p s bk k g rk s' bk' k' g' rk' 57 115 [.int .i64 a, .string put] (.int .i64 r) := by
  obtain ⟨s', bk', k', g', rk', o, r, q1, q2, q3, q4⟩ := both_rep (W0 := W0) (b := b) (rb := rb) (p := p) hL hok hn hE a 0 put ha (by omega) hp
  exact ⟨s', bk', k', g', rk', r, q1, q2, fun W hW => (sins_of (q3 W hW)).mono fun e W' ⟨o', r', e1, ⟨_, e3⟩, e4⟩ => ⟨by rw [e1, e3], e4⟩, fun W hW => (rins9_of (q4 W hW)).mono fun e W' ⟨o', r', e1, ⟨_, e3⟩, e4⟩ => ⟨by rw [e1, e3], e4⟩⟩
theorem sep_del (hL : Lk n z s bk k g rk) (hok : g.ok) (hn : n ≤ 16777216) (hE : Eb B w) (a c : Int) (ha : -9223372036854775808 ≤ a ∧ a ≤ 9223372036854775807) (hc : c ≤ 9223372036854775807) :
    ∃ s' bk' k' g' rk' o r, Lk (n + 1) z s' bk' k' g' rk' ∧ g'.ok ∧ Sep B w W0 b rb p s bk k g rk s' bk' k' g' rk' 59 116 [.int .i64 a, .int .i64 c] (.tuple #[.string o, .int .i64 r]) := by
  obtain ⟨s', bk', k', g', rk', o, r, q1, q2, q3, q4⟩ := both_rep (W0 := W0) (b := b) (rb := rb) (p := p) hL hok hn hE a c ⟨#[]⟩ ha hc (by decide)
  exact ⟨s', bk', k', g', rk', o, r, q1, q2, fun W hW => (sdel_of (q3 W hW)).mono fun e W' ⟨o', r', e1, ⟨e2, e3⟩, e4⟩ => ⟨by rw [e1, e2, e3], e4⟩, fun W hW => (rdel9_of (q4 W hW)).mono fun e W' ⟨o', r', e1, ⟨e2, e3⟩, e4⟩ => ⟨by rw [e1, e2, e3], e4⟩⟩
theorem sep_reset (hL : Lk n z s bk k g rk) (hok : g.ok) (hn : n ≤ 16777216) (hE : Eb B w) (put : ByteArray) (hp : put.size ≤ 1048576) :
    ∃ s' bk' k' g' rk' r, Lk (n + 1) (z + put.size) s' bk' k' g' rk' ∧ g'.ok ∧ Sep B w W0 b rb p s bk k g rk s' bk' k' g' rk' 34 118 [.string put] (.int .i64 r) := by
  obtain ⟨h1, h2, h3, h4, h5, h6⟩ := hL
  obtain ⟨u1, u2⟩ := reset_tx s k.limit.toNat put
  obtain ⟨T, hT⟩ : ∃ T, txR s k.limit.toNat 0 s.size put = T := ⟨_, rfl⟩
  rw [hT] at u1 u2
  have t1 : (gReset g put).1.s = T.1 ∧ (gReset g put).2 = T.2.2 ∧ (gReset g put).1.l = g.l := by
    rw [u1, u2]
    unfold gReset
    rw [h2]
    split
    · exact ⟨rfl, rfl, rfl⟩
    · exact ⟨h1, rfl, h2⟩
  obtain ⟨t1, t3, t2⟩ := t1
  have hok2 := hok.2
  rw [h1] at hok2
  have hd : T.2.2 = 0 → 0 ≤ (s.size : Int) + (put.size : Int) ∧ (s.size : Int) + (put.size : Int) ≤ 4294967296 := fun e => by omega
  have hs : T.1.size ≤ s.size + put.size := by rw [u2]; split <;> omega
  obtain ⟨b1, b2⟩ := h4.edit (bk := bk) T.2.2 (s.size + put.size) T.1.size hd
  have hr := rk_after (k := k) h6 T.2.2 (s.size + put.size) T.1.size
  have hg := gReset_ok hok put
  have hr2 : (rk.after (gReset g put).2 (g.s.size + put.size) (gReset g put).1.s.size) = rkOf (smA bk k T.2.2 (s.size + put.size) T.1.size).1 (smA bk k T.2.2 (s.size + put.size) T.1.size).2 := by rw [h3, t1, t3, h1]; exact hr
  have h6' : (smA bk k T.2.2 (s.size + put.size) T.1.size).1 = 1 ∨ (smA bk k T.2.2 (s.size + put.size) T.1.size).1 = 2 := by
    unfold smA smN
    split
    · split
      · simp only; omega
      · exact h6
    · exact h6
  refine ⟨T.1, _, _, (gReset g put).1, _, T.2.2, ⟨t1, by rw [t2, h2, b2], hr2, b1, by omega, h6'⟩, hg, fun W hW => ?_, fun W hW => ?_⟩
  · have hq : ∀ X, Below W.heap.size W X → P2 B w W0 b rb p s bk k g rk X := fun X hX => hW.low hX
    refine (sreset_of (n := s.size) (put := put) (R := fun o r W' => (o = T.2.1 ∧ r = T.2.2) ∧ P2 B w W0 b rb p T.1 (smA bk k T.2.2 (s.size + put.size) T.1.size).1 (smA bk k T.2.2 (s.size + put.size) T.1.size).2 g rk W') (sp_len hW.se) (fun X hX => ?_)).mono ?_
    · refine (sp_rep (hq X hX).se hE h4.fit (h4.few hn) 0 s.size put (by omega) (by omega) (by omega) T hT _ rfl).mono ?_
      rintro e W' ⟨o, r, q1, q2, q3, q4⟩
      exact ⟨o, r, q1, q2, (hq X hX).st q3 q4⟩
    · rintro e W' ⟨o, r, q1, ⟨_, q2⟩, q3⟩
      exact ⟨by rw [q1, q2], q3⟩
  · have f := h4.few hn
    refine (rreset9_any hW.rf (by rw [h3]; exact lo_hi k) put (by omega) ⟨by rw [h3]; exact f.1, by rw [h3]; have := h4.ed; show k.ed ≤ _; omega, by rw [h3]; exact f.2.2.1, by rw [h3]; exact f.2.2.2.1⟩).mono ?_
    rintro e W' ⟨q1, q2, q3⟩
    exact ⟨by rw [q1, t3], hW.ref q2 q3⟩
theorem sep_sw (hL : Lk n z s bk k g rk) (hok : g.ok) (hn : n ≤ 16777216) (hE : Eb B w) (to : Int) :
    ∃ bk' k' rk' r, Lk (n + 1) z s bk' k' g rk' ∧ g.ok ∧ Sep B w W0 b rb p s bk k g rk s bk' k' g rk' 27 119 [.int .i64 to] (.int .i64 r) := by
  obtain ⟨h1, h2, h3, h4, h5, h6⟩ := hL
  obtain ⟨b1, b2⟩ := h4.sw (bk := bk) to
  have hr := rk_sw bk k to
  rw [← h3] at hr
  have h6' : (smS bk k to).2.1 = 1 ∨ (smS bk k to).2.1 = 2 := by
    unfold smS
    split
    · split
      · exact h6
      · assumption
    · exact h6
  have f := h4.few hn
  refine ⟨(smS bk k to).2.1, (smS bk k to).2.2, (rk.sw to).2, (smS bk k to).1, ⟨h1, by rw [h2, b2], by rw [hr], b1, h5, h6'⟩, hok, fun W hW => ?_, fun W hW => ?_⟩
  · refine (sp_sw hW.se hE f to _ rfl).mono ?_
    rintro e W' ⟨q1, q2, q3⟩
    exact ⟨q1, hW.st q2 q3⟩
  · refine (rsw9_any hW.rf to ⟨by rw [h3]; exact f.2.2.2.2.1, by rw [h3]; exact f.2.2.2.2.2⟩).mono ?_
    rintro e W' ⟨q1, q2, q3⟩
    exact ⟨by rw [q1, hr], hW.ref q2 q3⟩
end
theorem p2_lo {w W0 : World} {b rb p : Nat} {s : ByteArray} {bk : Int} {k : Sk} {g : Gp} {rk : Rk} {n z : Nat} (hL : Lk n z s bk k g rk) : Lo b rb (P2 B w W0 b rb p s bk k g rk) (loK k) (hiK k) (kdK k) bk k.limit k.mv k.fo k.ed s.size s := by
  obtain ⟨h1, h2, h3, h4, h5, h6⟩ := hL
  subst h3
  have lw : ∀ {W W' : World}, P2 B w W0 b rb p s bk k g (rkOf bk k) W → Below W.heap.size W W' → P2 B w W0 b rb p s bk k g (rkOf bk k) W' := fun h hb => h.low hb
  refine ⟨?_, ?_, ?_, ?_, ?_, ?_, ?_, ?_, ?_, ?_, ?_, ?_, ?_, ?_⟩ <;> intro W hW
  · obtain ⟨x, K, hs⟩ := hW.se
    exact (thr_any hs.st.spt h4.fit).mono fun e W' ⟨q1, q2⟩ => ⟨q1, lw hW q2⟩
  · exact (rthr_any hW.rf).mono fun e W' ⟨q1, q2⟩ => ⟨q1, lw hW q2⟩
  · obtain ⟨x, K, hs⟩ := hW.se
    exact (kind_any hs.st.spt).mono fun e W' ⟨q1, q2⟩ => ⟨q1, lw hW q2⟩
  · exact (rkind_any hW.rf).mono fun e W' ⟨q1, q2⟩ => ⟨q1, by rw [q2]; exact hW⟩
  · exact (sp_back hW.se).mono fun e W' ⟨q1, q2⟩ => ⟨q1, by rw [q2]; exact hW⟩
  · exact (rback_any hW.rf).mono fun e W' ⟨q1, q2⟩ => ⟨q1, by rw [q2]; exact hW⟩
  · obtain ⟨x, K, hs⟩ := hW.se
    exact (limit_any hs.st.spt).mono fun e W' ⟨q1, q2⟩ => ⟨q1, lw hW q2⟩
  · obtain ⟨l, e1, e2, _, _⟩ := hW.se.lim
    have := rlim_any hW.rf
    rw [h2, e2, ← e1] at this
    exact this.mono fun e W' ⟨q1, q2⟩ => ⟨q1, by rw [q2]; exact hW⟩
  · obtain ⟨x, K, hs⟩ := hW.se
    exact (counts_any hs.st.spt).mono fun e W' ⟨q1, q2⟩ => ⟨q1, lw hW q2⟩
  · exact (rcnt_any hW.rf).mono fun e W' ⟨q1, q2⟩ => ⟨q1, lw hW q2⟩
  · exact (sp_len hW.se).mono fun e W' ⟨q1, q2⟩ => ⟨q1, lw hW q2⟩
  · have := rlen9_any hW.rf
    rw [h1] at this
    exact this.mono fun e W' ⟨q1, q2⟩ => ⟨q1, by rw [q2]; exact hW⟩
  · obtain ⟨x, K, hs⟩ := hW.se
    have := stext_any hs.st.spt hs.st.hold
    rw [hs.text] at this
    exact this.mono fun e W' ⟨q1, q2⟩ => ⟨q1, lw hW q2⟩
  · have := rtext9_any hW.rf
    rw [h1] at this
    exact this.mono fun e W' ⟨q1, q2⟩ => ⟨q1, by rw [q2]; exact hW⟩
theorem looks_p2 {w W0 W : World} {b rb p : Nat} {s : ByteArray} {bk : Int} {k : Sk} {g : Gp} {rk : Rk} {n z : Nat} (hL : Lk n z s bk k g rk) (h : P2 B w W0 b rb p s bk k g rk W) :
    Calls Tryz.prog 22 #[.pointer (some ⟨b, 0, none⟩), .pointer (some ⟨rb, 0, none⟩)] W fun e W' => e = .returned (.bool true) ∧ P2 B w W0 b rb p s bk k g rk W' := looks_of (p2_lo hL) W h
/-- the two stores, alike, behind n calls, with a text of at most z -/
def Pq (B : Nat → Prop) (w : World) (b rb p n z : Nat) (W : World) : Prop := ∃ s bk k g rk, Lk n z s bk k g rk ∧ g.ok ∧ P2 B w W b rb p s bk k g rk W
section
variable {w W : World} {b rb p n z : Nat}
theorem P2.again {W0 X : World} {s : ByteArray} {bk : Int} {k : Sk} {g : Gp} {rk : Rk} (h : P2 B w W0 b rb p s bk k g rk X) : P2 B w X b rb p s bk k g rk X := ⟨h.se, h.rf, h.rb0, h.p0, .refl X⟩
theorem Pq.tn (h : Pq B w b rb p n z W) : Tn B w W := by obtain ⟨s, bk, k, g, rk, _, _, h⟩ := h; exact h.se.tn
theorem Pq.up {z' : Nat} (h : Pq B w b rb p n z W) (hz : z ≤ z') : Pq B w b rb p n z' W := by
  obtain ⟨s, bk, k, g, rk, ⟨l1, l2, l3, l4, l5, l6⟩, ho, h⟩ := h
  exact ⟨s, bk, k, g, rk, ⟨l1, l2, l3, l4, by omega, l6⟩, ho, h⟩
theorem works_pq (h : Pq B w b rb p n z W) (hE : Eb B w) (hn : n ≤ 16777216) (x : Oc) (hx : x.fit) (hp : x.p.size ≤ 1048576) :
    Calls Tryz.prog 70 #[.pointer (some ⟨b, 0, none⟩), .pointer (some ⟨rb, 0, none⟩), opv x] W fun e W' => e = .returned (.bool true) ∧ Pq B w b rb p (n + 1) (z + x.p.size) W' := by
  obtain ⟨s, bk, k, g, rk, hL, ho, h⟩ := h
  obtain ⟨kd, a, c, put⟩ := x
  obtain ⟨x1, x2, x3⟩ := hx
  dsimp only at x1 x2 x3 hp
  obtain ⟨W0, hW0⟩ : ∃ W0, W.alloc (.cells #[.int .i64 kd, .int .i64 a, .int .i64 c, .string put] 59) = W0 := ⟨_, rfl⟩
  have hB : Below W.heap.size W W0 := by rw [← hW0]; exact (Below.refl _ W).alloc (Nat.le_refl _) _
  have hbx : W0.heap[W.heap.size]? = some (.cells #[.int .i64 kd, .int .i64 a, .int .i64 c, .string put] 59 (0, 0)) := by rw [← hW0]; exact World.alloc_heap_new W _
  have h0 : P2 B w W0 b rb p s bk k g rk W0 := (h.low hB).again
  have ob : ∀ {X : World} {s : ByteArray} {bk : Int} {k : Sk} {g : Gp} {rk : Rk}, P2 B w W0 b rb p s bk k g rk X → Obx X W.heap.size kd a c put := fun hX =>
    (box4 (hX.fq.keep _ _ _ _ hbx (by decide) (by decide) (by decide) (by decide) (by decide) (by decide))).1
  have dr : ∀ X, P2 B w W0 b rb p s bk k g rk X → P2 B w W0 b rb p s bk k g rk X.drew := fun X hX => hX.drew
  unfold opv
  dsimp only
  by_cases k1 : kd = 1
  · subst k1
    obtain ⟨s', bk', k', g', rk', r, q1, q2, q3⟩ := sep_ins (W0 := W0) (b := b) (rb := rb) (p := p) hL ho hn hE a put x2 hp
    exact (works_1 hW0 h0 dr (fun X hX => hX.elim ob (·.elim ob ob)) q3.pg q3.rg).mono fun e W' ⟨e1, e2⟩ => ⟨e1, s', bk', k', g', rk', q1, q2, e2.again⟩
  · by_cases k2 : kd = 2
    · subst k2
      obtain ⟨s', bk', k', g', rk', o, r, q1, q2, q3⟩ := sep_del (W0 := W0) (b := b) (rb := rb) (p := p) hL ho hn hE a c x2 x3.2
      exact (works_2 hW0 h0 dr (fun X hX => hX.elim ob (·.elim ob ob)) q3.pg q3.rg).mono fun e W' ⟨e1, e2⟩ => ⟨e1, Pq.up (z := z) ⟨s', bk', k', g', rk', q1, q2, e2.again⟩ (by omega)⟩
    · by_cases k3 : kd = 3
      · subst k3
        obtain ⟨s', bk', k', g', rk', o, r, q1, q2, q3⟩ := sep_rep (W0 := W0) (b := b) (rb := rb) (p := p) hL ho hn hE a c put x2 x3.2 hp
        exact (works_3 hW0 h0 dr (fun X hX => hX.elim ob (·.elim ob ob)) q3.pg q3.rg).mono fun e W' ⟨e1, e2⟩ => ⟨e1, s', bk', k', g', rk', q1, q2, e2.again⟩
      · by_cases k4 : kd = 4
        · subst k4
          obtain ⟨s', bk', k', g', rk', r, q1, q2, q3⟩ := sep_reset (W0 := W0) (b := b) (rb := rb) (p := p) hL ho hn hE put hp
          exact (works_4 hW0 h0 dr (fun X hX => hX.elim ob (·.elim ob ob)) q3.pg q3.rg).mono fun e W' ⟨e1, e2⟩ => ⟨e1, s', bk', k', g', rk', q1, q2, e2.again⟩
        · by_cases k5 : kd = 5
          · subst k5
            obtain ⟨bk', k', rk', r, q1, q2, q3⟩ := sep_sw (W0 := W0) (b := b) (rb := rb) (p := p) hL ho hn hE a
            exact (works_5 hW0 h0 dr (fun X hX => hX.elim ob (·.elim ob ob)) q3.pg q3.rg).mono fun e W' ⟨e1, e2⟩ => ⟨e1, Pq.up (z := z) ⟨s, bk', k', g, rk', q1, q2, e2.again⟩ (by omega)⟩
          · refine (works_0 (R0 := P2 B w W0 b rb p s bk k g rk) k1 k2 k3 k4 k5 hW0 h0 (ob h0)).mono fun e W' ⟨e1, e2⟩ => ⟨e1, Pq.up (z := z) ⟨s, bk, k, g, rk, ?_, ho, e2.again⟩ (by omega)⟩
            obtain ⟨l1, l2, l3, l4, l5, l6⟩ := hL
            exact ⟨l1, l2, l3, l4.up, l5, l6⟩
theorem looks_pq (h : Pq B w b rb p n z W) : Calls Tryz.prog 22 #[.pointer (some ⟨b, 0, none⟩), .pointer (some ⟨rb, 0, none⟩)] W fun e W' => e = .returned (.bool true) ∧ Pq B w b rb p n z W' := by
  obtain ⟨s, bk, k, g, rk, hL, ho, h⟩ := h
  exact (looks_p2 hL h).mono fun e W' ⟨q1, q2⟩ => ⟨q1, s, bk, k, g, rk, hL, ho, q2.again⟩
theorem asks_pq (h : Pq B w b rb p n z W) (hE : Eb B w) (hz : z ≤ 2097152) (x : Oc) (hx : x.fit) :
    Calls Tryz.prog 71 #[.pointer (some ⟨b, 0, none⟩), .pointer (some ⟨rb, 0, none⟩), opv x] W fun e W' => e = .returned (.bool true) ∧ Pq B w b rb p n z W' := by
  obtain ⟨s, bk, k, g, rk, hL, ho, h⟩ := h
  obtain ⟨kd, a, c, put⟩ := x
  obtain ⟨x1, x2, x3⟩ := hx
  dsimp only at x1 x2 x3
  obtain ⟨mn, hmn⟩ := next_ex s a
  obtain ⟨mp, hmp⟩ := prev_ex s a
  obtain ⟨ms, hms⟩ := snap_ex s a
  have hg : g.s = s := hL.1
  have hgz : g.s.size ≤ 2097152 := by rw [hg]; have := hL.2.2.2.2.1; omega
  have hp : ∀ X, Below W.heap.size W X → P2 B w W b rb p s bk k g rk X := fun X hX => h.low hX
  have pc : ∀ X, Below W.heap.size W X → Pcs X (.pointer (some ⟨b, 0, none⟩)) s s.size ∧ Ev X := fun X hX => by
    obtain ⟨y, K, hs⟩ := (hp X hX).se
    have := pcs_of hs.st.spt hs.st.hold
    rw [hs.text] at this
    exact ⟨this, hE.at hs.tn⟩
  have A : As W (.pointer (some ⟨b, 0, none⟩)) (.pointer (some ⟨rb, 0, none⟩)) a c (gSlice s a c).1 (gSlice s a c).2 (gMea s a c).1 (gMea s a c).2 (cbZ s a) mn mp ms := by
    refine ⟨?_, ?_, ?_, ?_, ?_, ?_, ?_, ?_, ?_, ?_, ?_, ?_⟩ <;> intro X hX
    · obtain ⟨y, K, hs⟩ := (hp X hX).se
      have := sslice_any hs.st.spt hs.st.hold a c
      rw [hs.text] at this
      exact this
    · have := rslice9_any (hp X hX).rf a c
      rw [hg] at this
      exact this
    · obtain ⟨y, K, hs⟩ := (hp X hX).se
      have := smeas_any hs.st.spt hs.st.hold (hE.at hs.tn) a c
      rw [hs.text] at this
      exact this
    · have := rmeas9_any (hp X hX).rf a c
      rw [hg] at this
      exact this
    · exact bound_of (pc X hX).1 (pc X hX).2 a x2.2
    · have := rbound9_any (hp X hX).rf hgz a
      rw [hg] at this
      exact this
    · exact (next_of (pc X hX).1 (pc X hX).2 a).mono fun e W' ⟨m, q1, q2, q3⟩ => ⟨by rw [q1, q2.uniq hmn], q3⟩
    · have := rnext9_any (hp X hX).rf hgz a
      rw [hg] at this
      exact this.mono fun e W' ⟨m, q1, q2, q3⟩ => ⟨by rw [q1, q2.uniq hmn], q3⟩
    · exact (prev_of (pc X hX).1 (pc X hX).2 a).mono fun e W' ⟨m, q1, q2, q3⟩ => ⟨by rw [q1, q2.uniq hmp], q3⟩
    · have := rprev9_any (hp X hX).rf hgz a
      rw [hg] at this
      exact this.mono fun e W' ⟨m, q1, q2, q3⟩ => ⟨by rw [q1, q2.uniq hmp], q3⟩
    · exact (snap_of (pc X hX).1 (pc X hX).2 a x2.2).mono fun e W' ⟨m, q1, q2, q3⟩ => ⟨by rw [q1, q2.uniq hms], q3⟩
    · have := rsnap9_any (hp X hX).rf hgz a
      rw [hg] at this
      exact this.mono fun e W' ⟨m, q1, q2, q3⟩ => ⟨by rw [q1, q2.uniq hms], q3⟩
  exact (asks_of A kd put).mono fun e W' ⟨q1, q2⟩ => ⟨q1, s, bk, k, g, rk, hL, ho, (hp W' q2).again⟩
end
set_option maxRecDepth 100000 in
set_option maxHeartbeats 4000000 in
theorem play_pq {w W : World} {b rb p n z : Nat} (h : Pq B w b rb p n z W) (hE : Eb B w) (l : List Oc) (hn : n + l.length ≤ 16777216) (hz : z + obk l ≤ 2097152) (hq : obk l ≤ 1048576) (hl : ∀ x ∈ l, x.fit) (ad : Option Addr) (N cap : Nat) (hN : l.length = N) (hr : Scb B w ad l) :
    Calls Tryz.prog 23 #[.pointer (some ⟨b, 0, none⟩), .pointer (some ⟨rb, 0, none⟩), .slice ad N cap] W fun e W' => e = .returned (.bool true) ∧ Pq B w b rb p (n + l.length) (z + obk l) W' := by
  have HP0 : Hid (Pq B w b rb p n z W) := h
  have HE : Hid (Eb B w) := hE
  have HN : Hid (l.length = N ∧ (∀ x ∈ l, x.fit) ∧ n + l.length ≤ 16777216 ∧ z + obk l ≤ 2097152 ∧ obk l ≤ 1048576) := ⟨hN, hl, hn, hz, hq⟩
  have HR : Hid (Scb B w ad l) := hr
  have hNb : N ≤ 1048576 := by have := obk_len l; omega
  rw [hN]
  obtain ⟨Z, hZ⟩ : ∃ Z, z + obk l = Z := ⟨_, rfl⟩
  have HZ : Hid (z + obk l = Z) := hZ
  rw [hZ]
  clear h hE hN hl hr hn hz hq hZ
  go_enter Tryz.func23, Tryz.ntmps23
  go_wp2
  go_loopw [7] (fun t wr => ∃ i : Nat, i ≤ N ∧ t = .int .i64 i ∧ ∃ z', Hid (z' + obk (l.drop i) ≤ Z ∧ Pq B w b rb p (n + i) z' wr)) (fun t _ => N - (intOf t).toNat)
  case atStart => exact ⟨0, Nat.zero_le _, rfl, z, Nat.le_of_eq HZ.out, HP0.out⟩
  case round =>
    obtain ⟨i, hi, rfl, z', HP⟩ := hrel
    clear HP0
    by_cases hlt : i < N
    · obtain ⟨x, hxk⟩ : ∃ x, l[i]? = some x := ⟨l[i]'(by rw [HN.out.1]; exact hlt), List.getElem?_eq_getElem _⟩
      have hxf := HN.out.2.1 x (List.mem_of_getElem? hxk)
      obtain ⟨gs, os, rfl, hcx⟩ := HR.out i x hxk
      have hob2 := obk_drop l i
      have hob := obk_at hxk
      have hb1 := HN.out
      have hb2 := HP.out.1
      have hb3 := HZ.out
      have HC : Hid (∀ X, Tn B w X → X.cell? ⟨gs, os + i * 4, none⟩ = some (.int .i64 x.kd) ∧ X.cell? ⟨gs, os + i * 4 + 1, none⟩ = some (.int .i64 x.a) ∧ X.cell? ⟨gs, os + i * 4 + 2, none⟩ = some (.int .i64 x.c) ∧ X.cell? ⟨gs, os + i * 4 + 3, none⟩ = some (.string x.p)) := hcx
      have CW : Hid (Calls Tryz.prog 70 #[.pointer (some ⟨b, 0, none⟩), .pointer (some ⟨rb, 0, none⟩), .agg #[.int .i64 x.kd, .int .i64 x.a, .int .i64 x.c, .string x.p]] wr fun e W' => e = .returned (.bool true) ∧ Hid (Pq B w b rb p (n + i + 1) (z' + x.p.size) W')) := works_pq HP.out.2 HE.out (by omega) x hxf (by omega)
      have CA : Hid (∀ X, Hid (Pq B w b rb p (n + i + 1) (z' + x.p.size) X) → Calls Tryz.prog 71 #[.pointer (some ⟨b, 0, none⟩), .pointer (some ⟨rb, 0, none⟩), .agg #[.int .i64 x.kd, .int .i64 x.a, .int .i64 x.c, .string x.p]] X fun e W' => e = .returned (.bool true) ∧ Hid (Pq B w b rb p (n + i + 1) (z' + x.p.size) W')) := fun X hX => asks_pq hX.out HE.out (by omega) x hxf
      have CK : Hid (∀ X, Hid (Pq B w b rb p (n + i + 1) (z' + x.p.size) X) → Calls Tryz.prog 22 #[.pointer (some ⟨b, 0, none⟩), .pointer (some ⟨rb, 0, none⟩)] X fun e W' => e = .returned (.bool true) ∧ Hid (Pq B w b rb p (n + i + 1) (z' + x.p.size) W')) := fun X hX => looks_pq hX.out
      have HF : Hid (∀ X, Pq B w b rb p (n + i + 1) (z' + x.p.size) X → z' + x.p.size + obk (l.drop (i + 1)) ≤ Z ∧ Pq B w b rb p (n + (i + 1)) (z' + x.p.size) X) := fun X hX => ⟨by omega, by rw [show n + (i + 1) = n + i + 1 by omega]; exact hX⟩
      obtain ⟨y0, y1, y2, y3⟩ := HC.out _ HP.out.2.tn
      clear hcx hxk hxf hob hob2 hb1 hb2 hb3
      go_wp2_with (first
        | (go_at_call 70; refine CW.out.mono ?_; clear CW HP y0 y1 y2 y3; rintro e w2 ⟨rfl, HP⟩; obtain ⟨y0, y1, y2, y3⟩ := HC.out _ HP.out.tn)
        | (go_at_call 71; refine (CA.out _ HP).mono ?_; clear CA HP y0 y1 y2 y3; rintro e w3 ⟨rfl, HP⟩)
        | (go_at_call 22; refine (CK.out _ HP).mono ?_; clear CK HP; rintro e w4 ⟨rfl, HP⟩))
      exact ⟨⟨i + 1, by omega, by go_num, z' + x.p.size, HF.out _ HP.out⟩, by simp [intOf]; omega⟩
    · have hiN : i = N := by omega
      subst hiN
      have HF : Hid (Pq B w b rb p (n + i) Z wr) := HP.out.2.up (by have := HP.out.1; omega)
      clear HP
      go_wp2
      go_ret
      exact ⟨rfl, HF.out⟩
end Go.Proofs.YtkmihnjmchfopaaGreatDoor.Sto.Two
namespace Go.Proofs.YtkmihnjmchfopaaGreatDoor.Sto
open Go.RowKit Go.Shelf Bod Wid
open Gap (Gp RB)

/-- a store, its text kept by K, and the document's own one, alike -/
def Pz (b rb p n z : Nat) (K : Kp) (X : World) : Prop := ∃ s bk k g rk x, Lk n z s bk k g rk ∧ g.ok ∧ Pst X b x k K ∧ (Tx.or x).bk = bk ∧ K.text = s ∧ Rf X rb p g rk
/-- the blocks of both -/
def ft (b rb p : Nat) (K : Kp) (j : Nat) : Prop := j = b ∨ j = rb ∨ j = p ∨ K.blk j
section
variable {b rb p n z : Nat} {K : Kp} {X W : World} {B : Nat → Prop}
theorem Pz.ty (h : Pz b rb p n z K X) {j : Nat} (hj : ft b rb p K j) : ∃ cur T, X.heap[j]? = some (.cells cur T (0, 0)) ∧ T ≠ 184 ∧ T ≠ 152 ∧ T ≠ 86 := by
  obtain ⟨s, bk, k, g, rk, x, _, _, h1, _, _, h2⟩ := h
  rcases hj with rfl | rfl | rfl | hj
  · exact ⟨_, _, h1.box, by decide⟩
  · exact ⟨_, _, h2.box, by decide⟩
  · exact ⟨_, _, h2.buf, by decide⟩
  · obtain ⟨cur, T, e1, e2⟩ := h1.hold.blk_ty hj
    exact ⟨cur, T, e1, by rcases e2 with rfl | rfl | rfl <;> decide⟩
theorem Pz.lt (h : Pz b rb p n z K X) {j : Nat} (hj : ft b rb p K j) : j < X.heap.size := by
  obtain ⟨_, _, e, _⟩ := h.ty hj
  exact (Array.getElem?_eq_some_iff.1 e).1
theorem Pz.below (h : Pz b rb p n z K X) (hb : Below X.heap.size X W) : Pz b rb p n z K W := by
  obtain ⟨s, bk, k, g, rk, x, h1, h2, h3, h4, h5, h6⟩ := h
  exact ⟨s, bk, k, g, rk, x, h1, h2, h3.below hb, h4, h5, h6.below hb⟩
theorem Pz.start (h : Pz b rb p n z K X) : Two.Pq (ft b rb p K) X b rb p n z X := by
  obtain ⟨s, bk, k, g, rk, x, h1, h2, h3, h4, h5, h6⟩ := h
  exact ⟨s, bk, k, g, rk, h1, h2, ⟨x, K, h3, h4, h5, .of_below (Below.refl _ X), fun j hj => .inl (.inr (.inr (.inr hj))), .inl (.inl rfl)⟩, h6, .inl (.inr (.inl rfl)), .inl (.inr (.inr (.inl rfl))), .refl X⟩
theorem Pz.of (h : Two.Pq B X b rb p n z W) : ∃ K', Pz b rb p n z K' W ∧ Tn B X W ∧ ∀ j, ft b rb p K' j → B j ∨ X.heap.size ≤ j := by
  obtain ⟨s, bk, k, g, rk, h1, h2, ⟨x, K, h3⟩, h4, h5, h6, _⟩ := h
  refine ⟨K, ⟨s, bk, k, g, rk, x, h1, h2, h3.st, h3.bk, h3.text, h4⟩, h3.tn, fun j hj => ?_⟩
  rcases hj with rfl | rfl | rfl | hj
  · exact h3.b0
  · exact h5
  · exact h6
  · exact h3.lo j hj
theorem Pz.keep (h : Pz b rb p n z K X) (ht : Tn B X W) (h1 : ∀ j, ft b rb p K j → ¬ B j) (h2 : ∀ j cur T fz, B j → X.heap[j]? = some (.cells cur T fz) → T ≠ 184 ∧ T ≠ 152 ∧ T ≠ 86) : Pz b rb p n z K W := by
  have kp : ∀ j, ft b rb p K j → W.heap[j]? = X.heap[j]? := fun j hj => ht.block j (h.lt hj) (h1 j hj)
  obtain ⟨s, bk, k, g, rk, x, q1, q2, q3, q4, q5, q6⟩ := h
  exact ⟨s, bk, k, g, rk, x, q1, q2, ⟨(kp b (.inl rfl)).trans q3.box, q3.hold.keep ht (fun j hj => h1 j (.inr (.inr (.inr hj)))) h2, q3.lim⟩, q4, q5, ⟨(kp rb (.inr (.inl rfl))).trans q6.box, (kp p (.inr (.inr (.inl rfl)))).trans q6.buf, q6.ok⟩⟩
end
/-- two pairs, apart, both new since w -/
def Dd (w : World) (b rb p n z b2 rb2 p2 n2 z2 : Nat) (W : World) : Prop := ∃ K K2, Pz b rb p n z K W ∧ Pz b2 rb2 p2 n2 z2 K2 W ∧ Below w.heap.size w W ∧ (∀ j, ft b rb p K j → w.heap.size ≤ j) ∧ (∀ j, ft b2 rb2 p2 K2 j → w.heap.size ≤ j) ∧ ∀ j, ft b rb p K j → ¬ ft b2 rb2 p2 K2 j
section
variable {w W : World} {b rb p n z b2 rb2 p2 n2 z2 : Nat}
theorem Dd.symm (h : Dd w b rb p n z b2 rb2 p2 n2 z2 W) : Dd w b2 rb2 p2 n2 z2 b rb p n z W := by
  obtain ⟨K, K2, h1, h2, h3, h4, h5, h6⟩ := h
  exact ⟨K2, K, h2, h1, h3, h5, h4, fun j a b => h6 j b a⟩
theorem Dd.bel (h : Dd w b rb p n z b2 rb2 p2 n2 z2 W) : Below w.heap.size w W := by
  obtain ⟨K, K2, h1, h2, h3, h4, h5, h6⟩ := h
  exact h3
/-- how the first pair of two works -/
theorem Dd.go {X : World} (h : Dd w b rb p n z b2 rb2 p2 n2 z2 X) (hE : Ev w) : ∃ B, Two.Pq B X b rb p n z X ∧ Eb B X ∧ (∀ Y, Tn B X Y → Below w.heap.size w Y) ∧ ∀ n' z' W, Two.Pq B X b rb p n' z' W → Dd w b rb p n' z' b2 rb2 p2 n2 z2 W := by
  obtain ⟨K, K2, h1, h2, h3, h4, h5, h6⟩ := h
  have hb : ∀ Y, Tn (ft b rb p K) X Y → Below w.heap.size w Y := fun Y hY => tn_bel h3 hY h4
  refine ⟨ft b rb p K, h1.start, ⟨hE.below h3, fun e => ?_, fun e => ?_⟩, hb, fun n' z' W hW => ?_⟩
  · have := h4 _ e; have := hE.l0; omega
  · have := h4 _ e; have := hE.l1; omega
  · obtain ⟨K', q1, q2, q3⟩ := Pz.of hW
    have hz := h3.size
    refine ⟨K', K2, q1, h2.keep q2 (fun j hj e => h6 j e hj) (fun j cur T fz hj hc => ?_), hb W q2, fun j hj => (q3 j hj).elim (h4 j) (fun e => by omega), h5, fun j hj e => ?_⟩
    · obtain ⟨cur', T', e1, e2⟩ := h1.ty hj
      rw [e1] at hc; injection hc with hc; injection hc with _ t _; subst t; exact e2
    · have := h2.lt e
      exact (q3 j hj).elim (fun q => h6 j q e) (fun q => by omega)
theorem looks_dd (h : Dd w b rb p n z b2 rb2 p2 n2 z2 W) (hE : Ev w) : Calls Tryz.prog 22 #[.pointer (some ⟨b, 0, none⟩), .pointer (some ⟨rb, 0, none⟩)] W fun e W' => e = .returned (.bool true) ∧ Dd w b rb p n z b2 rb2 p2 n2 z2 W' := by
  obtain ⟨B, q1, q2, q3, q4⟩ := h.go hE
  exact (Two.looks_pq q1).mono fun e W' ⟨e1, e2⟩ => ⟨e1, q4 _ _ _ e2⟩
theorem play_dd (h : Dd w b rb p n z b2 rb2 p2 n2 z2 W) (hE : Ev w) (l : List Oc) (hn : n + l.length ≤ 16777216) (hz : z + obk l ≤ 2097152) (hq : obk l ≤ 1048576) (hl : ∀ x ∈ l, x.fit) (v : Value) (hr : RdC w v l) :
    Calls Tryz.prog 23 #[.pointer (some ⟨b, 0, none⟩), .pointer (some ⟨rb, 0, none⟩), v] W fun e W' => e = .returned (.bool true) ∧ Dd w b rb p (n + l.length) (z + obk l) b2 rb2 p2 n2 z2 W' := by
  obtain ⟨B, q1, q2, q3, q4⟩ := h.go hE
  obtain ⟨ad, cap, rfl, hr⟩ := hr
  refine (Two.play_pq q1 q2 l hn hz hq hl ad l.length cap rfl (fun i x hx => ?_)).mono fun e W' ⟨e1, e2⟩ => ⟨e1, q4 _ _ _ e2⟩
  obtain ⟨gs, os, e, hgs, hc⟩ := hr (fun e => by rw [e] at hx; simp at hx)
  refine ⟨gs, os, e, fun Y hY => ?_⟩
  have hb := q3 Y hY
  obtain ⟨c0, c1, c2, c3⟩ := hc i x hx
  have kp : ∀ j v, w.cell? ⟨gs, j, none⟩ = some v → Y.cell? ⟨gs, j, none⟩ = some v := fun j v h => (hb.cell (p := ⟨gs, j, none⟩) (by simp; omega)).trans h
  exact ⟨kp _ _ c0, kp _ _ c1, kp _ _ c2, kp _ _ c3⟩
/-- behind the store's Clone, ahead of the document's -/
def Md2 (w : World) (b rb p n z b2 : Nat) (W : World) : Prop := ∃ s bk k g rk x K y K2 M, Lk n z s bk k g rk ∧ g.ok ∧ Pst W b x k K ∧ (Tx.or x).bk = bk ∧ K.text = s ∧ Rf W rb p g rk ∧ Pst W b2 (some y) k K2 ∧ y.bk = bk ∧ K2.text = s ∧ Below w.heap.size w W ∧ (∀ j, ft b rb p K j → w.heap.size ≤ j ∧ j < M) ∧ (∀ j, j = b2 ∨ K2.blk j → M ≤ j) ∧ w.heap.size ≤ M ∧ M ≤ W.heap.size
theorem clone_pq {X : World} (hX : Below w.heap.size w X) (h : Pq X b rb p n z W) : Calls Tryz.prog 24 #[.pointer (some ⟨b, 0, none⟩)] W fun e W' => ∃ b2, e = .returned (.pointer (some ⟨b2, 0, none⟩)) ∧ Md2 w b rb p n z b2 W' := by
  obtain ⟨s, bk, k, g, rk, h1, h2, ⟨x, K, h3⟩, h4, h5, h6, _⟩ := h
  have hB := Below.on hX h3.bel
  refine (sclone_any h3.st).mono ?_
  rintro e W' ⟨rfl, y, K2, q1, q2, q3, q4, q5⟩
  have hz : Pz b rb p n z K W := ⟨s, bk, k, g, rk, x, h1, h2, h3.st, h3.bk, h3.text, h4⟩
  refine ⟨_, rfl, s, bk, k, g, rk, x, K, y, K2, W.heap.size, h1, h2, h3.st.below q4, h3.bk, h3.text, h4.below q4, q1, q2.trans h3.bk, q3.trans h3.text, Below.on hB q4, fun j hj => ⟨?_, hz.lt hj⟩, fun j hj => ?_, hB.size, q4.size⟩
  · have := hX.size
    rcases hj with rfl | rfl | rfl | hj
    · have := h3.b0; omega
    · omega
    · omega
    · have := h3.lo j hj; omega
  · rcases hj with rfl | hj
    · exact Nat.le_refl _
    · exact q5 j hj
theorem clone_dd {b2 : Nat} (h : Md2 w b rb p n z b2 W) : Calls Tryz.prog 25 #[.pointer (some ⟨rb, 0, none⟩)] W fun e W' => ∃ rb2 p2, e = .returned (.pointer (some ⟨rb2, 0, none⟩)) ∧ Dd w b rb p n z b2 rb2 p2 n z W' := by
  obtain ⟨s, bk, k, g, rk, x, K, y, K2, M, h1, h2, h3, h4, h5, h6, h7, h8, h9, h10, h11, h12, h13, h14⟩ := h
  refine (rclone9_any h6).mono ?_
  rintro e W' ⟨rb2, p2, rfl, q1, q2, q3, q4⟩
  refine ⟨rb2, p2, rfl, K, K2, ⟨s, bk, k, g, rk, x, h1, h2, h3.below q2, h4, h5, h6.below q2⟩, ⟨s, bk, k, g, rk, some y, h1, h2, h7.below q2, h8, h9, q1⟩, Below.on h10 q2, fun j hj => (h11 j hj).1, ?_, ?_⟩
  · intro j hj
    rcases hj with rfl | rfl | rfl | hj
    · have := h12 _ (.inl rfl); omega
    · omega
    · omega
    · have := h12 j (.inr hj); omega
  · intro j hj e
    have := (h11 j hj).2
    rcases e with rfl | rfl | rfl | e
    · have := h12 _ (.inl rfl); omega
    · omega
    · omega
    · have := h12 j (.inr e); omega
end
end Go.Proofs.YtkmihnjmchfopaaGreatDoor.Sto
