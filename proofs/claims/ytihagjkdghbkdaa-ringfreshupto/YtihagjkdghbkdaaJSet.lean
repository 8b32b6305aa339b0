/-
  A ring of texts in plain words, and how package ring's and the document's own lie in memory; what stays while either is turned. No program is walked in this text; no conditions.
-/
import Derived.Test.YtihagjkdghbkdaaJRow
namespace Go.Proofs.Ytihagjkdghbkdaa
open Go.RowKit

/-- nothing but the block b and the row r is turned -/
def Ch (b : Nat) (r : Option Nat) (w w' : World) : Prop := w'.os = w.os ∧ w'.tape = w.tape ∧ w'.output = w.output ∧ w.heap.size ≤ w'.heap.size ∧ ∀ k, k < w.heap.size → k ≠ b → r ≠ some k → w'.heap[k]? = w.heap[k]?
theorem Ch.refl (b : Nat) (r : Option Nat) (w : World) : Ch b r w w := ⟨rfl, rfl, rfl, Nat.le_refl _, fun _ _ _ _ => rfl⟩
theorem Ch.below {b : Nat} {r : Option Nat} {w w' : World} (h : Below w.heap.size w w') : Ch b r w w' := ⟨h.os, h.tape, h.output, h.size, fun k hk _ _ => h.block k hk⟩
theorem Ch.grown {b : Nat} {r : Option Nat} {w w' : World} (h : w.grownBy w' r) : Ch b r w w' := ⟨h.os, h.tape, h.output, h.size, fun k hk _ hr => h.block k hk (fun e => hr e.symm)⟩
theorem Ch.cell {b i : Nat} {r : Option Nat} {w : World} {u : Value} : Ch b r w (w.setCell ⟨b, i, none⟩ u) := by
  have h := gcell w b i u
  exact ⟨h.os, h.tape, h.output, h.size, fun k hk hb _ => h.block k hk (fun e => hb (Option.some.inj e))⟩
theorem Ch.low {b n : Nat} {r : Option Nat} {w0 w w' : World} (h : Ch b r w w') (hb : Below n w0 w) (h0 : n ≤ w0.heap.size) (h1 : n ≤ b) (h2 : ∀ k, r = some k → n ≤ k) : Below n w0 w' :=
  ⟨h.1.trans hb.os, h.2.1.trans hb.tape, h.2.2.1.trans hb.output, Nat.le_trans hb.size h.2.2.2.1, fun k hk => (h.2.2.2.2 k (by have := hb.size; omega) (by omega) (fun e => by have := h2 k e; omega)).trans (hb.block k hk)⟩
/-- another row is the same, none, or a new one -/
def Nx (w : World) (r r' : Option Nat) : Prop := ∀ k, r' = some k → r = some k ∨ w.heap.size ≤ k
theorem Nx.refl (w : World) (r : Option Nat) : Nx w r r := fun _ h => .inl h
theorem Nx.none (w : World) (r : Option Nat) : Nx w r .none := fun _ h => by cases h
theorem Nx.trans {w w1 : World} {r r' r'' : Option Nat} (h : Nx w r r') (hs : w.heap.size ≤ w1.heap.size) (g : Nx w1 r' r'') : Nx w r r'' := fun k e => by
  rcases g k e with h1 | h1
  · exact h k h1
  · exact .inr (by omega)
theorem Nx.or {w : World} {r r' : Option Nat} (h : r' = r ∨ r' = some w.heap.size) : Nx w r r' := fun k e => by
  rcases h with rfl | rfl
  · exact .inl e
  · cases e; exact .inr (Nat.le_refl _)
theorem Ch.trans {b : Nat} {r r' : Option Nat} {w w1 w2 : World} (h : Ch b r w w1) (hr : Nx w r r') (g : Ch b r' w1 w2) : Ch b r w w2 :=
  ⟨g.1.trans h.1, g.2.1.trans h.2.1, g.2.2.1.trans h.2.2.1, Nat.le_trans h.2.2.2.1 g.2.2.2.1, fun k hk hb hn => by
    rw [g.2.2.2.2 k (Nat.lt_of_lt_of_le hk h.2.2.2.1) hb (fun e => ?_), h.2.2.2.2 k hk hb hn]
    rcases hr k e with h1 | h1
    · exact hn h1
    · omega⟩
theorem Ch.more {b : Nat} {r : Option Nat} {w w' : World} (h : Ch b none w w') : Ch b r w w' := ⟨h.1, h.2.1, h.2.2.1, h.2.2.2.1, fun k hk hb _ => h.2.2.2.2 k hk hb (by simp)⟩

/-- a ring: its bound, its texts, the newest first, its state (0 idle, 1 killing, 2 yanking), its place -/
structure Rg where
  b : Nat
  es : Tl
  st : Nat
  pl : Nat
structure Rg.Ok (r : Rg) : Prop where
  b : r.b ≤ 1000
  len : r.es.length ≤ r.b
  st : r.st ≤ 2
  pl : r.st = 2 → r.pl < r.es.length
/-- no text longer than K -/
def Rg.Fit (K : Nat) (r : Rg) : Prop := ∀ s ∈ r.es, s.size ≤ K
def Rg.new (b : Int) : Rg := ⟨if b < 0 then 0 else if 1000 < b then 1000 else b.toNat, [], 0, 0⟩
def Rg.stop (r : Rg) : Rg := ⟨r.b, r.es, 0, 0⟩
def Rg.push (t : ByteArray) (r : Rg) : Rg := ⟨r.b, (t :: r.es).take r.b, r.st, r.pl⟩
def Rg.joined (t : ByteArray) (a : Bool) : Tl → Tl
  | [] => []
  | x :: l => (if a then t ++ x else x ++ t) :: l
def Rg.kill (t : ByteArray) (a : Bool) (r : Rg) : Rg :=
  if t = ⟨#[]⟩ then r else if r.st = 1 ∧ r.es ≠ [] then ⟨r.b, Rg.joined t a r.es, 1, 0⟩ else ⟨r.b, (t :: r.es).take r.b, 1, 0⟩
def Rg.kept (t : ByteArray) (r : Rg) : Bool := decide (t ≠ ⟨#[]⟩) && decide (0 < r.b)
def Rg.copy (t : ByteArray) (r : Rg) : Rg := if t = ⟨#[]⟩ then r else ⟨r.b, (t :: r.es).take r.b, 0, 0⟩
def Rg.yank (r : Rg) : Rg := if r.es = [] then r.stop else ⟨r.b, r.es, 2, 0⟩
def Rg.yankT (r : Rg) : ByteArray := r.es.headD ⟨#[]⟩
def Rg.yankE (r : Rg) : Int := if r.es = [] then 5 else 0
def Rg.pop (r : Rg) : Rg := if r.st = 2 then ⟨r.b, r.es, 2, (r.pl + 1) % r.es.length⟩ else r.stop
def Rg.popA (r : Rg) : ByteArray := if r.st = 2 then r.es.getD r.pl ⟨#[]⟩ else ⟨#[]⟩
def Rg.popB (r : Rg) : ByteArray := if r.st = 2 then r.es.getD ((r.pl + 1) % r.es.length) ⟨#[]⟩ else ⟨#[]⟩
def Rg.popE (r : Rg) : Int := if r.st = 2 then 0 else 6

theorem Rg.Ok.new (b : Int) : (Rg.new b).Ok := by
  refine ⟨?_, Nat.zero_le _, Nat.zero_le _, fun h => by cases h⟩
  show (if b < 0 then 0 else if 1000 < b then 1000 else b.toNat) ≤ 1000
  split
  · omega
  · split <;> omega
theorem Rg.Ok.stop {r : Rg} (h : r.Ok) : r.stop.Ok := ⟨h.b, h.len, Nat.zero_le _, fun h => by cases h⟩
theorem Rg.Ok.push {r : Rg} (h : r.Ok) (t : ByteArray) : (r.push t).Ok := by
  have h1 : ((t :: r.es).take r.b).length = min r.b (r.es.length + 1) := by simp
  have := h.len
  refine ⟨h.b, ?_, h.st, fun h2 => ?_⟩
  · show ((t :: r.es).take r.b).length ≤ r.b
    omega
  · show r.pl < ((t :: r.es).take r.b).length
    have := h.pl h2
    omega
theorem Rg.Ok.pushed {r : Rg} (h : r.Ok) (t : ByteArray) {st : Nat} (hs : st ≤ 1) : (⟨r.b, (t :: r.es).take r.b, st, 0⟩ : Rg).Ok := by
  refine ⟨h.b, (h.push t).len, by simp only; omega, fun h => by simp only at h; omega⟩
theorem joined_len (t : ByteArray) (a : Bool) (l : Tl) : (Rg.joined t a l).length = l.length := by cases l <;> rfl
theorem Rg.Ok.kill {r : Rg} (h : r.Ok) (t : ByteArray) (a : Bool) : (r.kill t a).Ok := by
  unfold Rg.kill
  split
  · exact h
  · split
    · exact ⟨h.b, by simp only [joined_len]; exact h.len, by show 1 ≤ 2; omega, fun h => by cases h⟩
    · exact h.pushed t (by omega)
theorem Rg.Ok.copy {r : Rg} (h : r.Ok) (t : ByteArray) : (r.copy t).Ok := by
  unfold Rg.copy
  split
  · exact h
  · exact h.pushed t (by omega)
theorem Rg.Ok.yank {r : Rg} (h : r.Ok) : r.yank.Ok := by
  unfold Rg.yank
  split
  · exact h.stop
  · rename_i h0
    exact ⟨h.b, h.len, by show 2 ≤ 2; omega, fun _ => List.length_pos_iff.2 h0⟩
theorem Rg.Ok.pop {r : Rg} (h : r.Ok) : r.pop.Ok := by
  unfold Rg.pop
  split
  · rename_i h0
    have := h.pl h0
    exact ⟨h.b, h.len, by show 2 ≤ 2; omega, fun _ => Nat.mod_lt _ (by omega)⟩
  · exact h.stop
theorem Rg.Fit.mono {K K' : Nat} {r : Rg} (h : r.Fit K) (hk : K ≤ K') : r.Fit K' := fun s hs => Nat.le_trans (h s hs) hk
theorem fit_push {K M b : Nat} {t : ByteArray} {l : Tl} (h : ∀ s ∈ l, s.size ≤ K) (ht : t.size ≤ M) : ∀ s ∈ (t :: l).take b, s.size ≤ K + M := fun s hs => by
  rcases List.mem_cons.1 (List.mem_of_mem_take hs) with rfl | hs
  · omega
  · have := h s hs; omega
theorem bsize_app (a b : ByteArray) : (a ++ b).size = a.size + b.size := ByteArray.size_append
theorem Rg.Fit.kill {K M : Nat} {r : Rg} (h : r.Fit K) {t : ByteArray} {a : Bool} (ht : t.size ≤ M) : (r.kill t a).Fit (K + M) := by
  unfold Rg.kill
  split
  · exact h.mono (by omega)
  · split
    · intro s hs
      change s ∈ Rg.joined t a r.es at hs
      cases e : r.es with
      | nil => rw [e] at hs; cases hs
      | cons x l =>
        rw [e] at hs
        rcases List.mem_cons.1 hs with rfl | hs
        · have := h x (by rw [e]; exact List.mem_cons_self)
          split <;> rw [bsize_app] <;> omega
        · have := h s (by rw [e]; exact List.mem_cons_of_mem _ hs); omega
    · exact fit_push h ht
theorem Rg.Fit.copy {K M : Nat} {r : Rg} (h : r.Fit K) {t : ByteArray} (ht : t.size ≤ M) : (r.copy t).Fit (K + M) := by
  unfold Rg.copy
  split
  · exact h.mono (by omega)
  · exact fit_push h ht
theorem Rg.Fit.stop {K : Nat} {r : Rg} (h : r.Fit K) : r.stop.Fit K := h
theorem Rg.Fit.yank {K : Nat} {r : Rg} (h : r.Fit K) : r.yank.Fit K := by unfold Rg.yank; split <;> exact h
theorem Rg.Fit.pop {K : Nat} {r : Rg} (h : r.Fit K) : r.pop.Fit K := by unfold Rg.pop; split <;> exact h

/-- the block pb is a ring of package ring, whose texts lie in the row v -/
structure Pr (W : World) (base pb : Nat) (v : Value) (r : Rg) : Prop where
  box : ∃ p : Nat, (r.st = 2 → p = r.pl) ∧ W.heap[pb]? = some (.cells #[.int .i64 (r.b : Int), v, .int .i64 (r.st : Int), .int .i64 (p : Int)] 52 (0, 0))
  row : W.ownsRow base 9 1 v r.es.length (sv r.es)
  low : base ≤ pb
  ok : r.Ok
/-- the block rb is the document's own ring, whose texts lie in the row v -/
structure Rr (W : World) (base rb : Nat) (v : Value) (r : Rg) : Prop where
  box : W.heap[rb]? = some (.cells #[.int .i64 (r.b : Int), v, .int .i64 (r.st : Int), .int .i64 (r.pl : Int)] 56 (0, 0))
  row : W.ownsRow base 9 1 v r.es.length (sv r.es)
  low : base ≤ rb
  ok : r.Ok
theorem box4 {W : World} {b : Nat} {v0 v1 v2 v3 : Value} {t : TypeId} (h : W.heap[b]? = some (.cells #[v0, v1, v2, v3] t (0, 0))) :
    (W.cell? ⟨b, 0, none⟩ = some v0 ∧ W.cell? ⟨b, 1, none⟩ = some v1 ∧ W.cell? ⟨b, 2, none⟩ = some v2 ∧ W.cell? ⟨b, 3, none⟩ = some v3) ∧
    W.frozen? ⟨b, 0, none⟩ = false ∧ W.frozen? ⟨b, 1, none⟩ = false ∧ W.frozen? ⟨b, 2, none⟩ = false ∧ W.frozen? ⟨b, 3, none⟩ = false := by
  simp [World.cell?, World.frozen?, h]
theorem Pr.lt {W : World} {base pb : Nat} {v : Value} {r : Rg} (h : Pr W base pb v r) : pb < W.heap.size := by obtain ⟨p, _, h⟩ := h.box; exact (Array.getElem?_eq_some_iff.1 h).1
theorem Rr.lt {W : World} {base pb : Nat} {v : Value} {r : Rg} (h : Rr W base pb v r) : pb < W.heap.size := (Array.getElem?_eq_some_iff.1 h.box).1
theorem Pr.blk {W : World} {base pb g : Nat} {v : Value} {r : Rg} (h : Pr W base pb v r) (hg : v.ownBlock = some g) : g ≠ pb ∧ base ≤ g ∧ g < W.heap.size := by
  obtain ⟨⟨cur, hc⟩, h1, h2⟩ := row_blk h.row hg
  obtain ⟨p, _, hb⟩ := h.box
  refine ⟨fun e => ?_, h1, h2⟩
  rw [e, hb] at hc; injection hc with hc; injection hc with _ ht _; exact absurd ht (by decide)
theorem Rr.blk {W : World} {base pb g : Nat} {v : Value} {r : Rg} (h : Rr W base pb v r) (hg : v.ownBlock = some g) : g ≠ pb ∧ base ≤ g ∧ g < W.heap.size := by
  obtain ⟨⟨cur, hc⟩, h1, h2⟩ := row_blk h.row hg
  refine ⟨fun e => ?_, h1, h2⟩
  rw [e, h.box] at hc; injection hc with hc; injection hc with _ ht _; exact absurd ht (by decide)
theorem row_of_heap {W W' : World} {base c n : Nat} {e : TypeId} {v : Value} {xs : List Value} (h : W.ownsRow base e c v n xs) (e2 : ∀ g, v.ownBlock = some g → W'.heap[g]? = W.heap[g]?) : W'.ownsRow base e c v n xs := by
  refine ⟨h.1, ?_⟩
  rcases h.2 with ⟨h1, h2⟩ | ⟨g, cap, cur, h1, hb, hc, h3⟩
  · exact .inl ⟨h1, h2⟩
  · exact .inr ⟨g, cap, cur, h1, hb, (e2 g (by rw [h1]; rfl)).trans hc, h3⟩
theorem Pr.of_heap {W W' : World} {base pb : Nat} {v : Value} {r : Rg} (h : Pr W base pb v r) (e : W'.heap[pb]? = W.heap[pb]?) (e2 : ∀ g, v.ownBlock = some g → W'.heap[g]? = W.heap[g]?) : Pr W' base pb v r :=
  ⟨by obtain ⟨p, h1, h2⟩ := h.box; exact ⟨p, h1, e.trans h2⟩, row_of_heap h.row e2, h.low, h.ok⟩
theorem Rr.of_heap {W W' : World} {base pb : Nat} {v : Value} {r : Rg} (h : Rr W base pb v r) (e : W'.heap[pb]? = W.heap[pb]?) (e2 : ∀ g, v.ownBlock = some g → W'.heap[g]? = W.heap[g]?) : Rr W' base pb v r :=
  ⟨e.trans h.box, row_of_heap h.row e2, h.low, h.ok⟩
theorem Pr.below {W W' : World} {base pb : Nat} {v : Value} {r : Rg} (h : Pr W base pb v r) (hb : Below W.heap.size W W') : Pr W' base pb v r := h.of_heap (hb.block _ h.lt) (fun g hg => hb.block g (h.blk hg).2.2)
theorem Rr.below {W W' : World} {base pb : Nat} {v : Value} {r : Rg} (h : Rr W base pb v r) (hb : Below W.heap.size W W') : Rr W' base pb v r := h.of_heap (hb.block _ h.lt) (fun g hg => hb.block g (h.blk hg).2.2)
theorem Pr.base' {W : World} {base base' pb : Nat} {v : Value} {r : Rg} (h : Pr W base pb v r) (hb : base' ≤ base) : Pr W base' pb v r := ⟨h.box, row_base h.row hb, by have := h.low; omega, h.ok⟩
theorem Rr.base' {W : World} {base base' pb : Nat} {v : Value} {r : Rg} (h : Rr W base pb v r) (hb : base' ≤ base) : Rr W base' pb v r := ⟨h.box, row_base h.row hb, by have := h.low; omega, h.ok⟩
/-- the two rows lie apart -/
def Apart (v u : Value) : Prop := ∀ g, v.ownBlock = some g → u.ownBlock ≠ some g
theorem Pr.keptR {W W' : World} {base base' pb rb : Nat} {v u : Value} {r q : Rg} (h : Pr W base pb v r) (hr : Rr W base' rb u q) (ha : Apart v u) (hc : Ch rb u.ownBlock W W') : Pr W' base pb v r := by
  obtain ⟨p, _, hb⟩ := h.box
  have n1 : pb ≠ rb := fun e => by
    rw [e, hr.box] at hb; injection hb with hc; injection hc with _ ht _; exact absurd ht (by decide)
  refine h.of_heap (hc.2.2.2.2 pb h.lt n1 (fun e => ?_)) (fun g hg => hc.2.2.2.2 g (h.blk hg).2.2 (fun e => ?_) (ha g hg))
  · obtain ⟨⟨cur, hc2⟩, _⟩ := row_blk hr.row e
    rw [hb] at hc2; injection hc2 with hc; injection hc with _ ht _; exact absurd ht (by decide)
  · obtain ⟨⟨cur, hc2⟩, _⟩ := row_blk h.row hg
    rw [e, hr.box] at hc2; injection hc2 with hc; injection hc with _ ht _; exact absurd ht (by decide)
theorem Rr.keptP {W W' : World} {base base' pb rb : Nat} {v u : Value} {r q : Rg} (hr : Rr W base' rb u q) (h : Pr W base pb v r) (ha : Apart v u) (hc : Ch pb v.ownBlock W W') : Rr W' base' rb u q := by
  obtain ⟨p, _, hb⟩ := h.box
  have n1 : rb ≠ pb := fun e => by
    rw [← e, hr.box] at hb; injection hb with hc; injection hc with _ ht _; exact absurd ht (by decide)
  refine hr.of_heap (hc.2.2.2.2 rb hr.lt n1 (fun e => ?_)) (fun g hg => hc.2.2.2.2 g (hr.blk hg).2.2 (fun e => ?_) (fun e => ha g e hg))
  · obtain ⟨⟨cur, hc2⟩, _⟩ := row_blk h.row e
    rw [hr.box] at hc2; injection hc2 with hc; injection hc with _ ht _; exact absurd ht (by decide)
  · obtain ⟨⟨cur, hc2⟩, _⟩ := row_blk hr.row hg
    rw [e, hb] at hc2; injection hc2 with hc; injection hc with _ ht _; exact absurd ht (by decide)
/-- a text of a ring's row, where it lies -/
theorem row_at {W : World} {base : Nat} {a : Option Addr} {n c k : Nat} {l : Tl} {s : ByteArray} (h : W.ownsRow base 9 1 (.slice a n c) n (sv l)) (hk : l[k]? = some s) : ∃ g, a = some ⟨g, 0, none⟩ ∧ W.cell? ⟨g, k, none⟩ = some (.string s) := by
  rcases h.2 with ⟨h1, h2⟩ | ⟨g, cap, cur, h1, hb, hc, _, _, _, h3⟩
  · have := h.1
    rw [sv_len, h2] at this
    rw [show l = [] from List.eq_nil_of_length_eq_zero (by omega)] at hk; cases hk
  · obtain ⟨rfl, _, _⟩ := Value.slice.inj h1
    have := cells_of hc h3 k _ (sv_get hk)
    rw [Nat.zero_add] at this
    exact ⟨g, rfl, this⟩
theorem row_froz {W : World} {base n : Nat} {g k c : Nat} {xs : List Value} (h : W.ownsRow base 9 1 (.slice (some ⟨g, 0, none⟩) n c) n xs) : W.frozen? ⟨g, k, none⟩ = false := by
  rcases h.2 with ⟨h1, _⟩ | ⟨g', cap, cur, h1, hb, hc, _⟩
  · cases h1
  · obtain ⟨e, _, _⟩ := Value.slice.inj h1
    cases e
    exact frozen_of hc
end Go.Proofs.Ytihagjkdghbkdaa
