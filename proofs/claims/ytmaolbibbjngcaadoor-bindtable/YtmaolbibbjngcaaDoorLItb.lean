/-
  The walk of the law BindTable: every control key, every key of a character below 256, every named key, by itself and behind each prefix: the commands are the document's. Conditions: those of walk_of.
-/
import Derived.Test.YtmaolbibbjngcaaDoorIRcm
import Derived.Test.YtmaolbibbjngcaaDoorLIcs
import Derived.Deep.CutRange
namespace Bod
open Go
/-- the drawn line of BindTable: eight operations, of which the third, the seventh and the eighth wait for what is ahead -/
structure Dt (F : World → Prop) (P : Bool → Nat → Value → World → Prop) (M L : (Nat → Value) → World → Prop) (v : List Bool) (y : Nat → Value) (W : World) : Prop where
  a : v.getD 6 false = false → F W ∧ ∀ i, v.getD i false = true → P (v.getD 2 false) i (y i) W
  b : v.getD 6 false = true → (∀ j, j < 6 → v.getD j false = true) ∧ (v.getD 7 false = false → M y W) ∧ (v.getD 7 false = true → L y W)
  c : v.getD 7 false = true → v.getD 6 false = true
  d2 : v.getD 2 false = true → v.getD 0 false = true ∧ v.getD 1 false = true
  d5 : v.getD 5 false = true → v.getD 3 false = true ∧ v.getD 4 false = true
section
variable {F : World → Prop} {P : Bool → Nat → Value → World → Prop} {M L : (Nat → Value) → World → Prop} {v : List Bool} {y : Nat → Value} {W W' : World}
theorem Dt.no (h : Dt F P M L v y W) {i : Nat} (hi : i < 6) (hn : v.getD i true = false) : v.getD 6 false = false := by
  cases e : v.getD 6 false with
  | false => rfl
  | true =>
    have := (h.b e).1 i hi
    rw [dgl_no hn] at this
    cases this
theorem dt0 {m : Nat} (hF : F W) : Dt F P M L (List.replicate m false) y W := by
  have hno : ∀ i, (List.replicate m false).getD i false = false := fun i => by
    rw [List.getD_eq_getElem?_getD, List.getElem?_replicate]
    split <;> rfl
  exact ⟨fun _ => ⟨hF, fun i e => by rw [hno] at e; cases e⟩, fun e => (by rw [hno] at e; cases e), fun e => (by rw [hno] at e; cases e), fun e => (by rw [hno] at e; cases e), fun e => (by rw [hno] at e; cases e)⟩
theorem dgm {i j : Nat} (h : v.getD j false = true) : (v.set i true).getD j false = true := by
  by_cases k : j = i
  · subst k
    have : j < v.length := by
      rcases Nat.lt_or_ge j v.length with q | q
      · exact q
      · rw [List.getD_eq_getElem?_getD, List.getElem?_eq_none q] at h; cases h
    exact dgl_self this
  · rw [dgl (fun e => k e.symm)]; exact h
theorem Dt.set (h : Dt F P M L v y W) {i : Nat} (hi : i < 6) (h2 : i ≠ 2) (h5 : i = 5 → v.getD 3 false = true ∧ v.getD 4 false = true) (hn : v.getD i true = false) {z : Value} (hF : F W') (hP : ∀ d j u, P d j u W → P d j u W') (hy : ∀ d, P d i z W') : Dt F P M L (v.set i true) (updL y i z) W' := by
  have h0 := h.no hi hn
  have h6 : (v.set i true).getD 6 false = false := by rw [dgl (by omega)]; exact h0
  have h7 : v.getD 7 false = false := by
    cases e : v.getD 7 false with
    | false => rfl
    | true => rw [h.c e] at h0; cases h0
  have e2 : (v.set i true).getD 2 false = v.getD 2 false := dgl h2
  refine ⟨fun _ => ⟨hF, fun j e => ?_⟩, fun e => (by rw [h6] at e; cases e), fun e => (by rw [dgl (by omega), h7] at e; cases e), fun e => ?_, fun e => ?_⟩
  · rw [e2]
    by_cases k : j = i
    · subst k
      unfold updL
      rw [if_pos rfl]
      exact hy _
    · rw [dgl (fun e => k e.symm)] at e
      unfold updL
      rw [if_neg k]
      exact hP _ _ _ ((h.a h0).2 j e)
  · rw [e2] at e
    exact ⟨dgm (h.d2 e).1, dgm (h.d2 e).2⟩
  · by_cases k : i = 5
    · exact ⟨dgm (h5 k).1, dgm (h5 k).2⟩
    · rw [dgl k] at e
      exact ⟨dgm (h.d5 e).1, dgm (h.d5 e).2⟩
theorem Dt.set2 (h : Dt F P M L v y W) (hv : v.length = 8) (h0' : v.getD 0 false = true) (h1' : v.getD 1 false = true) (hn : v.getD 2 true = false) {z : Value} (hF : F W') (hP : ∀ j u, j ≠ 2 → P false j u W → P true j u W') (hy : P true 2 z W') : Dt F P M L (v.set 2 true) (updL y 2 z) W' := by
  have h0 := h.no (by decide) hn
  have h6 : (v.set 2 true).getD 6 false = false := by rw [dgl (by decide)]; exact h0
  have h7 : v.getD 7 false = false := by
    cases e : v.getD 7 false with
    | false => rfl
    | true => rw [h.c e] at h0; cases h0
  have e2 : (v.set 2 true).getD 2 false = true := dgl_self (by omega)
  refine ⟨fun _ => ⟨hF, fun j e => ?_⟩, fun e => (by rw [h6] at e; cases e), fun e => (by rw [dgl (by decide), h7] at e; cases e), fun _ => ⟨dgm h0', dgm h1'⟩, fun e => ?_⟩
  · rw [e2]
    by_cases k : j = 2
    · subst k
      unfold updL
      rw [if_pos rfl]
      exact hy
    · rw [dgl (fun e => k e.symm)] at e
      unfold updL
      rw [if_neg k]
      have := (h.a h0).2 j e
      rw [dgl_no hn] at this
      exact hP _ _ k this
  · rw [dgl (by decide)] at e
    exact ⟨dgm (h.d5 e).1, dgm (h.d5 e).2⟩
theorem Dt.mid (h : Dt F P M L v y W) (hv : v.length = 8) (hn : v.getD 6 true = false) (h2 : v.getD 2 false = true) (h5 : v.getD 5 false = true) {z : Value} (hM : F W → P true 2 (y 2) W → P true 5 (y 5) W → M (updL y 6 z) W') : Dt F P M L (v.set 6 true) (updL y 6 z) W' := by
  have h0 := dgl_no hn
  obtain ⟨hF, hP⟩ := h.a h0
  have p2 := hP 2 h2
  have p5 := hP 5 h5
  rw [h2] at p2 p5
  have hs : (v.set 6 true).getD 6 false = true := dgl_self (by omega)
  have h7 : (v.set 6 true).getD 7 false = false := by
    rw [dgl (by decide)]
    cases e : v.getD 7 false with
    | false => rfl
    | true => rw [h.c e] at h0; cases h0
  obtain ⟨q0, q1⟩ := h.d2 h2
  obtain ⟨q3, q4⟩ := h.d5 h5
  refine ⟨fun e => (by rw [hs] at e; cases e), fun _ => ⟨fun j hj => dgm ?_, fun _ => hM hF p2 p5, fun e => (by rw [h7] at e; cases e)⟩, fun _ => hs, fun _ => ⟨dgm q0, dgm q1⟩, fun _ => ⟨dgm q3, dgm q4⟩⟩
  have : j = 0 ∨ j = 1 ∨ j = 2 ∨ j = 3 ∨ j = 4 ∨ j = 5 := by omega
  rcases this with rfl | rfl | rfl | rfl | rfl | rfl <;> assumption
theorem Dt.m (h : Dt F P M L v y W) (hn : v.getD 7 true = false) (h6 : v.getD 6 false = true) : M y W := (h.b h6).2.1 (dgl_no hn)
theorem Dt.lst (h : Dt F P M L v y W) (hv : v.length = 8) (hn : v.getD 7 true = false) (h6 : v.getD 6 false = true) {z : Value} (hL : M y W → L (updL y 7 z) W') : Dt F P M L (v.set 7 true) (updL y 7 z) W' := by
  have hs : (v.set 7 true).getD 7 false = true := dgl_self (by omega)
  obtain ⟨p, q, -⟩ := h.b h6
  exact ⟨fun e => (by rw [dgm h6] at e; cases e), fun _ => ⟨fun j hj => dgm (p j hj), fun e => (by rw [hs] at e; cases e), fun _ => hL (q (dgl_no hn))⟩, fun _ => dgm h6, fun _ => ⟨dgm (p 0 (by decide)), dgm (p 1 (by decide))⟩, fun _ => ⟨dgm (p 3 (by decide)), dgm (p 4 (by decide))⟩⟩
theorem Dt.fin (h : Dt F P M L v y W) (hv : v.length = 8) (hall : v.all id = true) : L y W := by
  have g : ∀ i, i < 8 → v.getD i false = true := fun i hi => by
    rw [List.getD_eq_getElem?_getD, List.getElem?_eq_getElem (by omega)]
    exact List.all_eq_true.1 hall _ (List.getElem_mem _)
  exact (h.b (g 6 (by decide))).2.2 (g 7 (by decide))
end
end Bod
namespace Go.Proofs.YtmaolbibbjngcaaDoor.bindTable
open Go.RowKit Go.Shelf Bod
open Go.Proofs.YtmaolbibbjngcaaDoor.bindCommands (info_kyl kyl_len kyl_one kyl_app row_some row_kept news_ky)

/-- the heads' keys -/
def hk : Nat → Ky
  | 1 => ⟨2, 81, true, false, false, ⟨#[]⟩⟩
  | 2 => ⟨2, 88, true, false, false, ⟨#[]⟩⟩
  | 3 => ⟨1, 109, false, true, false, ⟨#[]⟩⟩
  | 4 => ⟨1, 39, false, true, false, ⟨#[]⟩⟩
  | _ => ⟨1, 55, false, true, false, ⟨#[]⟩⟩
def hvs (G : Nat → Nat) : Array Value := #[.slice none 0 0, .slice (some ⟨G 1, 0, none⟩) 1 1, .slice (some ⟨G 2, 0, none⟩) 1 1, .slice (some ⟨G 3, 0, none⟩) 1 1, .slice (some ⟨G 4, 0, none⟩) 1 1, .slice (some ⟨G 5, 0, none⟩) 1 1]
/-- the row of heads -/
structure Th (w : World) (gh : Nat) (G : Nat → Nat) (W : World) : Prop where
  bel : Below w.heap.size w W
  hb : W.heap[gh]? = some (.cells (hvs G) 22 (0, 0))
  hs : ∀ j, 1 ≤ j → j < 6 → W.heap[G j]? = some (.cells (kyc (hk j)) 30 (0, 0))
/-- and the key's box; the floor S, below which all of these lie -/
structure Tk (w : World) (gh : Nat) (G : Nat → Nat) (kb : Nat) (k : Ky) (S : Nat) (W : World) : Prop where
  t : Th w gh G W
  k : W.heap[kb]? = some (.cells (kyc k) 30 (0, 0))
  s0 : w.heap.size ≤ S
  s1 : gh < S
  s2 : kb < S
  s3 : ∀ j, 1 ≤ j → j < 6 → G j < S
  s4 : S ≤ W.heap.size
  s5 : w.heap.size ≤ kb
section
variable {w W X : World} {gh kb j S : Nat} {G : Nat → Nat} {k : Ky}
theorem Th.below (h : Th w gh G W) (hb : Below W.heap.size W X) : Th w gh G X := ⟨h.bel.trans (hb.mono h.bel.size), cells_below h.hb hb, fun j h1 h2 => cells_below (h.hs j h1 h2) hb⟩
theorem Tk.below (h : Tk w gh G kb k S W) (hb : Below W.heap.size W X) : Tk w gh G kb k S X := ⟨h.t.below hb, cells_below h.k hb, h.s0, h.s1, h.s2, h.s3, Nat.le_trans h.s4 hb.size, h.s5⟩
theorem Tk.grown {r : Option Nat} (h : Tk w gh G kb k S W) (hg : W.grownBy X r) (hr : ∀ b, r = some b → S ≤ b) : Tk w gh G kb k S X := by
  have kp : ∀ (i : Nat) {vs : Array Value} {T : TypeId}, i < S → W.heap[i]? = some (.cells vs T (0, 0)) → X.heap[i]? = some (.cells vs T (0, 0)) := fun i vs T hi e =>
    (hg.block i (Array.getElem?_eq_some_iff.1 e).1 (fun e2 => by have := hr i e2.symm; omega)).trans e
  exact ⟨⟨h.t.bel.grown hg h.t.bel.size (fun b e => Nat.le_trans h.s0 (hr b e)), kp gh h.s1 h.t.hb, fun j h1 h2 => kp _ (h.s3 j h1 h2) (h.t.hs j h1 h2)⟩, kp kb h.s2 h.k, h.s0, h.s1, h.s2, h.s3, Nat.le_trans h.s4 hg.size, h.s5⟩
theorem Tk.raise (h : Tk w gh G kb k S W) : Tk w gh G kb k W.heap.size W := ⟨h.t, h.k, Nat.le_trans h.s0 h.s4, Nat.lt_of_lt_of_le h.s1 h.s4, Nat.lt_of_lt_of_le h.s2 h.s4, fun j h1 h2 => Nat.lt_of_lt_of_le (h.s3 j h1 h2) h.s4, Nat.le_refl _, h.s5⟩
theorem Th.tk (h : Th w gh G W) (k : Ky) : Tk w gh G W.heap.size k (W.heap.size + 1) (W.alloc (.cells (kyc k) 30)) :=
  ⟨h.below ((Below.refl _ _).alloc (Nat.le_refl _) _), World.alloc_heap_new _ _, by have := h.bel.size; omega, by have := (Array.getElem?_eq_some_iff.1 h.hb).1; omega, by omega, fun j h1 h2 => by have := (Array.getElem?_eq_some_iff.1 (h.hs j h1 h2)).1; omega, by simp, h.bel.size⟩
theorem Tk.set5 (h : Tk w gh G kb k S W) (hn : ∀ j, 1 ≤ j → j < 6 → G j ≠ kb) (u : ByteArray) : Tk w gh G kb ⟨k.kd, k.ch, k.ct, k.me, k.sh, u⟩ S (W.setCell ⟨kb, 5, none⟩ (.string u)) := by
  have ng : gh ≠ kb := bk_ne h.t.hb h.k (by decide)
  have lw : w.heap.size ≤ kb := h.s5
  exact ⟨⟨h.t.bel.setCell (p := ⟨kb, 5, none⟩) lw _, (iset_ne (fun e => ng e.symm)).trans h.t.hb, fun j h1 h2 => (iset_ne (fun e => hn j h1 h2 e.symm)).trans (h.t.hs j h1 h2)⟩, set1 (.string u) h.k, h.s0, h.s1, h.s2, h.s3, by simpa using h.s4, h.s5⟩
theorem Th.at (h : Th w gh G W) (h1 : 1 ≤ j) (h2 : j < 6) : W.cell? ⟨gh, j, none⟩ = some (.slice (some ⟨G j, 0, none⟩) 1 1) := by
  have hc := Go.cell_of_row W gh j _ _ _ h.hb
  rw [hc]
  have : j = 1 ∨ j = 2 ∨ j = 3 ∨ j = 4 ∨ j = 5 := by omega
  rcases this with rfl | rfl | rfl | rfl | rfl <;> rfl
theorem Th.at0 (h : Th w gh G W) : W.cell? ⟨gh, 0, none⟩ = some (.slice none 0 0) := by
  rw [Go.cell_of_row W gh 0 _ _ _ h.hb]; rfl
end
theorem abv (W : World) (o : Obj) : Below W.heap.size W (W.alloc o) := (Below.refl _ _).alloc (Nat.le_refl _) o
theorem hk_ok (j : Nat) : (hk j).Ok := by
  unfold hk
  split <;> exact ⟨by decide, by decide, by decide, by decide, by decide⟩
def kz : Ky := ⟨1, 122, false, false, false, ⟨#[]⟩⟩
theorem kz_ok : kz.Ok := ⟨by decide, by decide, by decide, by decide, by decide⟩
/-- the frame of the drawn line -/
def frT (ts : Array Value) (y : Nat → Value) : Array Value :=
  (((((((ts.setIfInBounds 64 (y 0)).setIfInBounds 65 (y 1)).setIfInBounds 66 (y 2)).setIfInBounds 67 (y 3)).setIfInBounds 68 (y 4)).setIfInBounds 69 (y 5)).setIfInBounds 70 (y 6)).setIfInBounds 10 (y 7)
def PT (S : Nat) (hv : Value) (hl : List Ky) (k : Ky) (d : Bool) : Nat → Value → World → Prop
  | 0, y, W => ∃ b, y = .slice (some ⟨b, 0, none⟩) 0 0 ∧ S ≤ b ∧ (d = false → W.ownsRow S 30 6 y 0 [])
  | 1, y, _ => y = hv
  | 2, y, W => W.ownsRow S 30 6 y hl.length (kyl hl)
  | 3, y, _ => y = kyv k
  | 4, y, _ => y = kyv kz
  | 5, y, W => ∃ b, y = .slice (some ⟨b, 0, none⟩) 2 2 ∧ W.heap[b]? = some (.cells (kyc k ++ kyc kz) 30 (0, 0))
  | _, _, _ => True
theorem PT.below {S : Nat} {hv : Value} {hl : List Ky} {k : Ky} {W X : World} (hb : Below W.heap.size W X) : ∀ (d : Bool) (i : Nat) (z : Value), PT S hv hl k d i z W → PT S hv hl k d i z X
  | _, 0, _, ⟨b, h1, h2, h3⟩ => ⟨b, h1, h2, fun e => row_kept (h3 e) hb⟩
  | _, 1, _, h => h
  | _, 2, _, h => row_kept (e := 30) h hb
  | _, 3, _, h => h
  | _, 4, _, h => h
  | _, 5, _, ⟨b, h1, h2⟩ => ⟨b, h1, cells_below h2 hb⟩
  | _, _ + 6, _, _ => trivial
/-- the first append grows its own row alone -/
theorem PT.own {S b : Nat} {hv : Value} {hl : List Ky} {k : Ky} {W X : World} (hr : W.ownsRow S 30 6 (.slice (some ⟨b, 0, none⟩) 0 0) 0 []) (hg : W.grownBy X (some b)) : ∀ (i : Nat) (z : Value), i ≠ 2 → PT S hv hl k false i z W → PT S hv hl k true i z X
  | 0, _, _, ⟨b', h1, h2, _⟩ => ⟨b', h1, h2, fun e => by cases e⟩
  | 1, _, _, h => h
  | 2, _, h, _ => absurd rfl h
  | 3, _, _, h => h
  | 4, _, _, h => h
  | 5, _, _, ⟨b', h1, h2⟩ => by
    refine ⟨b', h1, cells_grown h2 hg (fun e => ?_)⟩
    subst e
    rcases hr.2 with ⟨e, -⟩ | ⟨g', c', cur, e, -, hb, -, -, hsz, -⟩
    · cases e
    · cases e
      rw [h2] at hb
      have := Option.some.inj hb
      injection this with e1 _ _
      have := congrArg Array.size e1
      simp [kyc] at this
      omega
  | _ + 6, _, _, _ => trivial
theorem PT.nil {S : Nat} {hv : Value} {hl : List Ky} {k : Ky} {W : World} : ∀ (i : Nat) (z : Value), i ≠ 2 → PT S hv hl k false i z W → PT S hv hl k true i z W
  | 0, _, _, ⟨b', h1, h2, _⟩ => ⟨b', h1, h2, fun e => by cases e⟩
  | 1, _, _, h => h
  | 2, _, h, _ => absurd rfl h
  | 3, _, _, h => h
  | 4, _, _, h => h
  | 5, _, _, h => h
  | _ + 6, _, _, _ => trivial
/-- what stands behind the line -/
def LT (w : World) (gh : Nat) (G : Nat → Nat) (kb : Nat) (k : Ky) (S : Nat) (hl : List Ky) (i : Nat) (y : Nat → Value) (W : World) : Prop := Tk w gh G kb k S W ∧ ∃ g c, y i = .slice (some ⟨g, 0, none⟩) (hl.length + 2) c ∧ RdKy W (.slice (some ⟨g, 0, none⟩) (hl.length + 2) c) (hl ++ [k, kz])

theorem th0 {w w1 w2 w3 w4 w5 w6 : World} (hb : Below w.heap.size w w1) (b2 : Below w1.heap.size w1 w2) (b3 : Below (w2.alloc (.cells #[.int .i64 2, .int .i32 81, .bool true, .bool false, .bool false, .string ⟨#[]⟩] 30)).heap.size (w2.alloc (.cells #[.int .i64 2, .int .i32 81, .bool true, .bool false, .bool false, .string ⟨#[]⟩] 30)) w3) (b4 : Below (w3.alloc (.cells #[.int .i64 2, .int .i32 88, .bool true, .bool false, .bool false, .string ⟨#[]⟩] 30)).heap.size (w3.alloc (.cells #[.int .i64 2, .int .i32 88, .bool true, .bool false, .bool false, .string ⟨#[]⟩] 30)) w4) (b5 : Below (w4.alloc (.cells #[.int .i64 1, .int .i32 109, .bool false, .bool true, .bool false, .string ⟨#[]⟩] 30)).heap.size (w4.alloc (.cells #[.int .i64 1, .int .i32 109, .bool false, .bool true, .bool false, .string ⟨#[]⟩] 30)) w5) (b6 : Below (w5.alloc (.cells #[.int .i64 1, .int .i32 39, .bool false, .bool true, .bool false, .string ⟨#[]⟩] 30)).heap.size (w5.alloc (.cells #[.int .i64 1, .int .i32 39, .bool false, .bool true, .bool false, .string ⟨#[]⟩] 30)) w6) : ∃ G, Th w (w6.heap.size + 1) G ((w6.alloc (.cells #[.int .i64 1, .int .i32 55, .bool false, .bool true, .bool false, .string ⟨#[]⟩] 30)).alloc (.cells #[.slice none 0 0, .slice (some ⟨w2.heap.size, 0, none⟩) 1 1, .slice (some ⟨w3.heap.size, 0, none⟩) 1 1, .slice (some ⟨w4.heap.size, 0, none⟩) 1 1, .slice (some ⟨w5.heap.size, 0, none⟩) 1 1, .slice (some ⟨w6.heap.size, 0, none⟩) 1 1] 22)) := by
  have c1 := World.alloc_heap_new w2 (.cells #[.int .i64 2, .int .i32 81, .bool true, .bool false, .bool false, .string ⟨#[]⟩] 30)
  have c2 := World.alloc_heap_new w3 (.cells #[.int .i64 2, .int .i32 88, .bool true, .bool false, .bool false, .string ⟨#[]⟩] 30)
  have c3 := World.alloc_heap_new w4 (.cells #[.int .i64 1, .int .i32 109, .bool false, .bool true, .bool false, .string ⟨#[]⟩] 30)
  have c4 := World.alloc_heap_new w5 (.cells #[.int .i64 1, .int .i32 39, .bool false, .bool true, .bool false, .string ⟨#[]⟩] 30)
  have c5 := World.alloc_heap_new w6 (.cells #[.int .i64 1, .int .i32 55, .bool false, .bool true, .bool false, .string ⟨#[]⟩] 30)
  have hx := World.alloc_heap_new (w6.alloc (.cells #[.int .i64 1, .int .i32 55, .bool false, .bool true, .bool false, .string ⟨#[]⟩] 30)) (.cells #[.slice none 0 0, .slice (some ⟨w2.heap.size, 0, none⟩) 1 1, .slice (some ⟨w3.heap.size, 0, none⟩) 1 1, .slice (some ⟨w4.heap.size, 0, none⟩) 1 1, .slice (some ⟨w5.heap.size, 0, none⟩) 1 1, .slice (some ⟨w6.heap.size, 0, none⟩) 1 1] 22)
  have e : (w6.alloc (.cells #[.int .i64 1, .int .i32 55, .bool false, .bool true, .bool false, .string ⟨#[]⟩] 30)).heap.size = w6.heap.size + 1 := by simp
  rw [e] at hx
  have f := abv (w6.alloc (.cells #[.int .i64 1, .int .i32 55, .bool false, .bool true, .bool false, .string ⟨#[]⟩] 30)) (.cells #[.slice none 0 0, .slice (some ⟨w2.heap.size, 0, none⟩) 1 1, .slice (some ⟨w3.heap.size, 0, none⟩) 1 1, .slice (some ⟨w4.heap.size, 0, none⟩) 1 1, .slice (some ⟨w5.heap.size, 0, none⟩) 1 1, .slice (some ⟨w6.heap.size, 0, none⟩) 1 1] 22)
  have s2 := hb.trans (b2.mono hb.size)
  have s2' := s2.alloc s2.size (.cells #[.int .i64 2, .int .i32 81, .bool true, .bool false, .bool false, .string ⟨#[]⟩] 30)
  have s3 := s2'.trans (b3.mono s2'.size)
  have s3' := s3.alloc s3.size (.cells #[.int .i64 2, .int .i32 88, .bool true, .bool false, .bool false, .string ⟨#[]⟩] 30)
  have s4 := s3'.trans (b4.mono s3'.size)
  have s4' := s4.alloc s4.size (.cells #[.int .i64 1, .int .i32 109, .bool false, .bool true, .bool false, .string ⟨#[]⟩] 30)
  have s5 := s4'.trans (b5.mono s4'.size)
  have s5' := s5.alloc s5.size (.cells #[.int .i64 1, .int .i32 39, .bool false, .bool true, .bool false, .string ⟨#[]⟩] 30)
  have s6 := s5'.trans (b6.mono s5'.size)
  have s6' := s6.alloc s6.size (.cells #[.int .i64 1, .int .i32 55, .bool false, .bool true, .bool false, .string ⟨#[]⟩] 30)
  have d5 := cells_below c5 f
  have d4 := cells_below (cells_below (cells_below c4 b6) (abv w6 (.cells #[.int .i64 1, .int .i32 55, .bool false, .bool true, .bool false, .string ⟨#[]⟩] 30))) f
  have d3 := cells_below (cells_below (cells_below (cells_below (cells_below c3 b5) (abv w5 (.cells #[.int .i64 1, .int .i32 39, .bool false, .bool true, .bool false, .string ⟨#[]⟩] 30))) b6) (abv w6 (.cells #[.int .i64 1, .int .i32 55, .bool false, .bool true, .bool false, .string ⟨#[]⟩] 30))) f
  have d2 := cells_below (cells_below (cells_below (cells_below (cells_below (cells_below (cells_below c2 b4) (abv w4 (.cells #[.int .i64 1, .int .i32 109, .bool false, .bool true, .bool false, .string ⟨#[]⟩] 30))) b5) (abv w5 (.cells #[.int .i64 1, .int .i32 39, .bool false, .bool true, .bool false, .string ⟨#[]⟩] 30))) b6) (abv w6 (.cells #[.int .i64 1, .int .i32 55, .bool false, .bool true, .bool false, .string ⟨#[]⟩] 30))) f
  have d1 := cells_below (cells_below (cells_below (cells_below (cells_below (cells_below (cells_below (cells_below (cells_below c1 b3) (abv w3 (.cells #[.int .i64 2, .int .i32 88, .bool true, .bool false, .bool false, .string ⟨#[]⟩] 30))) b4) (abv w4 (.cells #[.int .i64 1, .int .i32 109, .bool false, .bool true, .bool false, .string ⟨#[]⟩] 30))) b5) (abv w5 (.cells #[.int .i64 1, .int .i32 39, .bool false, .bool true, .bool false, .string ⟨#[]⟩] 30))) b6) (abv w6 (.cells #[.int .i64 1, .int .i32 55, .bool false, .bool true, .bool false, .string ⟨#[]⟩] 30))) f
  refine ⟨fun j => match j with | 1 => w2.heap.size | 2 => w3.heap.size | 3 => w4.heap.size | 4 => w5.heap.size | _ => w6.heap.size, s6'.alloc s6'.size _, hx, fun j h1 h2 => ?_⟩
  have : j = 1 ∨ j = 2 ∨ j = 3 ∨ j = 4 ∨ j = 5 := by omega
  rcases this with rfl | rfl | rfl | rfl | rfl
  · exact d1
  · exact d2
  · exact d3
  · exact d4
  · exact d5
set_option maxRecDepth 100000 in
set_option maxHeartbeats 40000000 in
theorem walk (hM : Tryd.prog.follows .mixedOrders = true) (mods : Int) (w : World) (hmods : 0 ≤ mods ∧ mods < 256) (hT : Tb w) :
    Calls Tryd.prog 5 #[.int .u8 mods] w fun e W' => e = .returned (.bool true) ∧ Below w.heap.size w W' := by
  obtain ⟨i0, hi, hz0, hz1, hz2⟩ := info_parts info_kyl
  have HM : Hid (Tryd.prog.follows .mixedOrders = true) := hM
  have CB : Hid (Calls Tryd.prog 9 #[] w fun e w' => e = .returned (.bool true) ∧ Hid (Below w.heap.size w w')) := bds_any hM w hT
  have CC : Hid (∀ (l : List Ky) (n c : Nat) (W : World) (g : Nat), l.length = n → n ≤ 9 → (∀ k ∈ l, k.Ok) → Below w.heap.size w W → RdKy W (.slice (some ⟨g, 0, none⟩) n c) l → Calls Tryd.prog 19 #[.slice (some ⟨g, 0, none⟩) n c] W fun e W' => ∃ v, e = .returned v ∧ Hid (W'.ownsRow W.heap.size 34 4 v (runP bsz l).1.length (ccl (runP bsz l).1) ∧ Below W.heap.size W W')) := fun l n c W g hn h9 hk hW hR => by
    subst hn
    exact (cms_any hM _ c l W hR (by omega) hk (hT.below hW)).mono fun e W' ⟨v, e1, r, b⟩ => ⟨v, e1, r, b⟩
  have CR : Hid (∀ (l : List Ky) (n c : Nat) (W : World) (g : Nat), l.length = n → n ≤ 9 → (∀ k ∈ l, k.Ok) → RdKy W (.slice (some ⟨g, 0, none⟩) n c) l → Calls Tryd.prog 23 #[.slice (some ⟨g, 0, none⟩) n c] W fun e W' => ∃ v, e = .returned v ∧ Hid (W'.ownsRow W.heap.size 34 4 v (runP bsz l).1.length (ccl (runP bsz l).1) ∧ Below W.heap.size W W')) := fun l n c W g hn h9 hk hR => by
    subst hn
    exact (rcms_any _ c l W hR (by omega) hk).mono fun e W' ⟨v, e1, r, b⟩ => ⟨v, e1, r, b⟩
  have CS : Hid (∀ (l : List Ky) (W : World) (v v' : Value) (p q : Nat), l.length ≤ 9 → W.ownsRow p 34 4 v (runP bsz l).1.length (ccl (runP bsz l).1) → W.ownsRow q 34 4 v' (runP bsz l).1.length (ccl (runP bsz l).1) → Calls Tryd.prog 22 #[v, v'] W fun e w' => e = .returned (.bool true) ∧ Below W.heap.size W w') := fun l W v v' p q h9 h h' => sam_any _ (by have := runP_len bsz l; omega) v v' p q W h h'
  have CT : Hid (∀ (c : Int) (W : World), Calls Tryd.prog 24 #[.int .i32 c] W fun e w' => e = .returned (kyv ⟨2, c, true, false, false, ⟨#[]⟩⟩) ∧ Below W.heap.size W w') := fun c W => ckey_any c W
  have CH : Hid (∀ (c : Int) (m : Bool) (W : World), Calls Tryd.prog 25 #[.int .i32 c, .bool m] W fun e w' => e = .returned (kyv ⟨1, c, false, m, false, ⟨#[]⟩⟩) ∧ Below W.heap.size W w') := fun c m W => hkey_any c m W
  obtain ⟨m0, m1⟩ := hmods
  have T1 : True := trivial
  have T2 : True := trivial
  have T3 : True := trivial
  have T4 : True := trivial
  have T5 : True := trivial
  clear hM hT
  simp only [kyv] at CT CH
  go_enter Tryd.func5, Tryd.ntmps5
  go_upto_region 3 with (go_at_call 9; refine CB.out.mono ?_; clear CB; rintro e w1 ⟨rfl, HB⟩)
  go_upto_region 4 with (first
    | (go_at_call 24; clear T1; refine (CT.out _ _).mono ?_; rintro e w2 ⟨rfl, b2⟩)
    | (go_at_call 24; clear T2; refine (CT.out _ _).mono ?_; rintro e w3 ⟨rfl, b3⟩)
    | (go_at_call 25; clear T3; refine (CH.out _ _ _).mono ?_; rintro e w4 ⟨rfl, b4⟩)
    | (go_at_call 25; clear T4; refine (CH.out _ _ _).mono ?_; rintro e w5 ⟨rfl, b5⟩)
    | (go_at_call 25; clear T5; refine (CH.out _ _ _).mono ?_; rintro e w6 ⟨rfl, b6⟩))
  obtain ⟨G, hG⟩ := th0 HB.out b2 b3 b4 b5 b6
  have HT0 : Hid (Th w (w6.heap.size + 1) G ((w6.alloc (.cells #[.int .i64 1, .int .i32 55, .bool false, .bool true, .bool false, .string ⟨#[]⟩] 30)).alloc (.cells #[.slice none 0 0, .slice (some ⟨w2.heap.size, 0, none⟩) 1 1, .slice (some ⟨w3.heap.size, 0, none⟩) 1 1, .slice (some ⟨w4.heap.size, 0, none⟩) 1 1, .slice (some ⟨w5.heap.size, 0, none⟩) 1 1, .slice (some ⟨w6.heap.size, 0, none⟩) 1 1] 22))) := hG
  clear hG
  generalize (w6.alloc (.cells #[.int .i64 1, .int .i32 55, .bool false, .bool true, .bool false, .string ⟨#[]⟩] 30)).alloc (.cells #[.slice none 0 0, .slice (some ⟨w2.heap.size, 0, none⟩) 1 1, .slice (some ⟨w3.heap.size, 0, none⟩) 1 1, .slice (some ⟨w4.heap.size, 0, none⟩) 1 1, .slice (some ⟨w5.heap.size, 0, none⟩) 1 1, .slice (some ⟨w6.heap.size, 0, none⟩) 1 1] 22) = W6 at HT0 ⊢
  obtain ⟨gh, hgh⟩ : ∃ gh, w6.heap.size + 1 = gh := ⟨_, rfl⟩
  rw [hgh] at HT0 ⊢
  clear hgh b2 b3 b4 b5 b6 HB
  go_upto_region 5 with (fail)
  go_loopw [4] (fun t4 wr => ∃ kd : Nat, t4 = .int .i64 kd ∧ kd ≤ 20 ∧ Hid (Th w gh G wr)) (fun t4 _ => 20 - (intOf t4).toNat)
  case atStart => exact ⟨0, rfl, Nat.zero_le _, HT0⟩
  case round =>
    clear HT0
    obtain ⟨kd, rfl, hkd, HL⟩ := hrel
    by_cases h19 : kd ≤ 19
    · have h19' : (kd : Int) ≤ 19 := by omega
      rcases (show kd = 1 ∨ kd = 2 ∨ kd = 4 ∨ 17 ≤ kd ∨ (kd ≠ 1 ∧ kd ≠ 2 ∧ kd ≠ 4 ∧ kd < 17) by omega) with hkc | hkc | hkc | hkc | hkc
      · have e1 : ((kd : Int) == 1) = true := by simp; omega
        have e2 : ((kd : Int) == 2) = false := by simp; omega
        have e4 : ((kd : Int) == 4) = false := by simp; omega
        have e17 : ¬ (17 : Int) ≤ kd := by omega
        clear hkc
        go_upto_region 11 with (fail)
        go_loopw [6] (fun t6 ws => ∃ c : Nat, t6 = .int .i32 c ∧ c ≤ 256 ∧ Hid (Th w gh G ws)) (fun t6 _ => 256 - (intOf t6).toNat)
        case atStart => exact ⟨0, rfl, Nat.zero_le _, HL⟩
        case round =>
          clear HL
          obtain ⟨c, rfl, hc, HC⟩ := hrel
          by_cases hcl : c ≤ 255
          · have hcl' : (c : Int) ≤ 255 := by omega
            go_upto_region 14 with (fail)
            generalize (bits BinOp.and IntKind.u8 mods 1 != 0) = ct
            generalize (bits BinOp.and IntKind.u8 mods 2 != 0) = me
            generalize (bits BinOp.and IntKind.u8 mods 4 != 0) = sh
            have HK0 : Hid (Tk w gh G wr.heap.size ⟨kd, c, ct, me, sh, ⟨#[]⟩⟩ (wr.heap.size + 1) (wr.alloc (.cells #[.int .i64 kd, .int .i32 c, .bool ct, .bool me, .bool sh, .string ⟨#[]⟩] 30))) := HC.out.tk ⟨kd, c, ct, me, sh, ⟨#[]⟩⟩
            have HGN : Hid (∀ j, 1 ≤ j → j < 6 → G j ≠ wr.heap.size) := fun j h1 h2 e => by have := (Array.getElem?_eq_some_iff.1 (HC.out.hs j h1 h2)).1; omega
            obtain ⟨kb, hkb⟩ : ∃ q, wr.heap.size = q := ⟨_, rfl⟩
            rw [hkb] at HK0 HGN ⊢
            generalize wr.alloc (.cells #[.int .i64 kd, .int .i32 c, .bool ct, .bool me, .bool sh, .string ⟨#[]⟩] 30) = V0 at HK0 ⊢
            clear hkb HC
            have KO : Hid (Ky.Ok ⟨kd, c, ct, me, sh, ⟨#[]⟩⟩) := ⟨by simp only; omega, by simp only; omega, by simp only; omega, by simp only; omega, by show 0 ≤ _; omega⟩
            go_upto_region 17 with (fail)
            have HK := HK0
            clear HK0 HGN
            go_loopw [60] (fun t60 wx => ∃ j : Nat, t60 = .int .i64 j ∧ j ≤ 6 ∧ Hid (Tk w gh G kb ⟨kd, c, ct, me, sh, ⟨#[]⟩⟩ (kb + 1) wx)) (fun t60 _ => 6 - (intOf t60).toNat)
            case atStart => exact ⟨0, rfl, by decide, HK⟩
            case round =>
              have HL0 := HK
              clear HK
              obtain ⟨j, rfl, hj6, HJ⟩ := hrel
              by_cases hj : j < 6
              · have hj' : (j : Int) < 6 := by omega
                by_cases j0 : j = 0
                · have q : wr.cell? ⟨gh, j, none⟩ = some (.slice none 0 0) := by rw [j0]; exact HJ.out.t.at0
                  have OKS : Hid (∀ k ∈ ([] : List Ky) ++ [⟨kd, c, ct, me, sh, ⟨#[]⟩⟩, kz], k.Ok) := fun k hk => by
                    simp only [List.nil_append, List.mem_cons, List.not_mem_nil, or_false] at hk
                    rcases hk with rfl | rfl
                    · exact KO.out
                    · exact kz_ok
                  clear j0
                  go_upto_region 19 with (fail)
                  go_cut [10] from 64 to 70 (fun v10 wx => ∃ g1 c1, v10 = .slice (some ⟨g1, 0, none⟩) 2 c1 ∧ Hid (Tk w gh G kb ⟨kd, c, ct, me, sh, ⟨#[]⟩⟩ (kb + 1) wx ∧ RdKy wx (.slice (some ⟨g1, 0, none⟩) 2 c1) ([] ++ [⟨kd, c, ct, me, sh, ⟨#[]⟩⟩, kz])))
                  case first =>
                    refine nameL fun A hA => ?_
                    refine region_inv HM.out (by kernel_rfl) (fun v a' w' => ∃ y : Nat → Value, a' = ⟨frT A.tmps y, []⟩ ∧ Hid (Dt (Tk w gh G kb ⟨kd, c, ct, me, sh, ⟨#[]⟩⟩ wr.heap.size) (PT wr.heap.size (.slice none 0 0) ([]) ⟨kd, c, ct, me, sh, ⟨#[]⟩⟩) (LT w gh G kb ⟨kd, c, ct, me, sh, ⟨#[]⟩⟩ wr.heap.size ([]) 6) (LT w gh G kb ⟨kd, c, ct, me, sh, ⟨#[]⟩⟩ wr.heap.size ([]) 7) v y w')) ?start ?step ?fin
                    case start =>
                      refine ⟨fun i => A.tmps.getD (([64, 65, 66, 67, 68, 69, 70, 10] : List Nat).getD i 0) undef, ?_, dt0 (HJ.out.raise.below (Below.refl _ _).drew)⟩
                      subst hA
                      simp [frT]
                    case step =>
                      intro i o v a' w' ho hv hni hop hI
                      obtain ⟨y, rfl, HI⟩ := hI
                      have hv : v.length = 8 := hv
                      have hsz := HJ.out.t.bel.size
                      clear HL0
                      rcases i with _ | _ | _ | _ | _ | _ | _ | _ | i
                      · obtain rfl := Option.some.inj ho
                        have hF := (HI.out.a (HI.out.no (by decide) hni)).1
                        subst hA
                        simp only [frT, List.setIfInBounds_toArray, List.set_cons_succ, List.set_cons_zero]
                        go_wp2
                        have hb2 : ∀ o, Below w'.heap.size w' (w'.alloc o) := fun o => (Below.refl _ w').alloc (Nat.le_refl _) o
                        exact ⟨updL y 0 (.slice (some ⟨w'.heap.size, 0, none⟩) 0 0), by simp [updL], HI.out.set (by decide) (by decide) (fun e => by cases e) hni (hF.below (hb2 _)) (PT.below (hb2 _)) (fun d => ⟨_, rfl, hF.s4, fun _ => World.ownsRow_lit (base := wr.heap.size) (e := 30) (size := 6) w' #[] 0 hF.s4 (by unfold maxLen; omega) rfl⟩)⟩
                      · obtain rfl := Option.some.inj ho
                        have hF := (HI.out.a (HI.out.no (by decide) hni)).1
                        subst hA
                        simp only [frT, List.setIfInBounds_toArray, List.set_cons_succ, List.set_cons_zero]
                        go_wp2
                        exact ⟨updL y 1 (.slice none 0 0), by simp [updL], HI.out.set (by decide) (by decide) (fun e => by cases e) hni hF (fun _ _ _ h => h) (fun d => rfl)⟩
                      · obtain rfl := Option.some.inj ho
                        obtain ⟨hF, hP⟩ := HI.out.a (HI.out.no (by decide) hni)
                        have v0 : v.getD 0 false = true := open_waits hop (by kernel_rfl)
                        have v1 : v.getD 1 false = true := open_waits hop (by kernel_rfl)
                        obtain ⟨b0, e0, hb0, hr0⟩ := hP 0 v0
                        have e1 : y 1 = _ := hP 1 v1
                        have hr := hr0 (dgl_no hni)
                        rw [e0] at hr
                        clear hP hr0
                        subst hA
                        simp only [frT, List.setIfInBounds_toArray, List.set_cons_succ, List.set_cons_zero]
                        simp only [e0, e1]
                        go_wp2_with (at_builtin; refine wpList_append_own_none rfl _ _ 22 rfl wr.heap.size 30 i0 6 Tryd.underlying22 hi (.slice (some ⟨b0, 0, none⟩) 0 0) 0 _ rfl hr rfl ?_)
                        exact ⟨updL y 2 (.slice (some ⟨b0, 0, none⟩) 0 0), by simp [updL, e0, e1, Act.put], HI.out.set2 hv v0 v1 hni hF PT.nil hr⟩
                      · obtain rfl := Option.some.inj ho
                        have hF := (HI.out.a (HI.out.no (by decide) hni)).1
                        obtain ⟨z0, z1, z2, z3, z4, z5, -⟩ := box6 hF.k
                        subst hA
                        simp only [frT, List.setIfInBounds_toArray, List.set_cons_succ, List.set_cons_zero]
                        go_wp2
                        exact ⟨updL y 3 (kyv ⟨kd, c, ct, me, sh, ⟨#[]⟩⟩), by simp [updL, kyv], HI.out.set (by decide) (by decide) (fun e => by cases e) hni hF (fun _ _ _ h => h) (fun d => rfl)⟩
                      · obtain rfl := Option.some.inj ho
                        have hF := (HI.out.a (HI.out.no (by decide) hni)).1
                        subst hA
                        simp only [frT, List.setIfInBounds_toArray, List.set_cons_succ, List.set_cons_zero]
                        go_wp2_with (go_at_call 25; refine (CH.out _ _ _).mono ?_; rintro e w5 ⟨rfl, hb5⟩)
                        exact ⟨updL y 4 (kyv kz), by simp [updL, kyv, kz], HI.out.set (by decide) (by decide) (fun e => by cases e) hni (hF.below hb5) (PT.below hb5) (fun d => rfl)⟩
                      · obtain rfl := Option.some.inj ho
                        obtain ⟨hF, hP⟩ := HI.out.a (HI.out.no (by decide) hni)
                        have v3 : v.getD 3 false = true := open_waits hop (by kernel_rfl)
                        have v4 : v.getD 4 false = true := open_waits hop (by kernel_rfl)
                        have e3 : y 3 = _ := hP 3 v3
                        have e4 : y 4 = _ := hP 4 v4
                        clear hP
                        unfold kyv at e3 e4
                        unfold kz at e4
                        subst hA
                        simp only [frT, List.setIfInBounds_toArray, List.set_cons_succ, List.set_cons_zero]
                        simp only [e3, e4]
                        go_wp2
                        have hb2 : ∀ o, Below w'.heap.size w' (w'.alloc o) := fun o => (Below.refl _ w').alloc (Nat.le_refl _) o
                        exact ⟨updL y 5 (.slice (some ⟨w'.heap.size, 0, none⟩) 2 2), by simp [updL, e3, e4], HI.out.set (by decide) (by decide) (fun _ => ⟨v3, v4⟩) hni (hF.below (hb2 _)) (PT.below (hb2 _)) (fun d => ⟨_, rfl, World.alloc_heap_new _ _⟩)⟩
                      · obtain rfl := Option.some.inj ho
                        obtain ⟨hF, hP⟩ := HI.out.a (dgl_no hni)
                        have v2 : v.getD 2 false = true := open_waits hop (by kernel_rfl)
                        have v5 : v.getD 5 false = true := open_waits hop (by kernel_rfl)
                        have p2 := hP 2 v2
                        have p5 := hP 5 v5
                        obtain ⟨b5, e5, h5⟩ := p5
                        have p2 : w'.ownsRow wr.heap.size 30 6 (y 2) 0 (kyl ([])) := p2
                        clear hP
                        obtain ⟨Y2, hY2⟩ : ∃ q, y 2 = q := ⟨_, rfl⟩
                        rw [hY2] at p2
                        subst hA
                        simp only [frT, List.setIfInBounds_toArray, List.set_cons_succ, List.set_cons_zero]
                        simp only [e5, hY2]
                        go_wp2_with (at_builtin; refine wpList_append_own_at _ rfl _ _ 22 rfl wr.heap.size 30 i0 _ 6 32 Tryd.underlying22 hi hz0 hz1 hz2 rfl (by decide) _ _ _ rfl p2 ⟨b5, 0, none⟩ 2 2 [.int .i64 kd, .int .i32 c, .bool ct, .bool me, .bool sh, .string ⟨#[]⟩, .int .i64 1, .int .i32 122, .bool false, .bool false, .bool false, .string ⟨#[]⟩] rfl rfl (World.news_of_block h5) (by simp [Value.oneCell']) (by unfold maxLen; omega) (by omega) hF.s4 ?_; intro v6 w6 hown hgrow _ _)
                        obtain ⟨g6, c6, rfl, hc6⟩ := row_some hown (by omega)
                        have hrow : w6.ownsRow wr.heap.size 30 6 (.slice (some ⟨g6, 0, none⟩) 2 c6) 2 (kyl ([] ++ [⟨kd, c, ct, me, sh, ⟨#[]⟩⟩, kz])) := by rw [kyl_app]; exact hown
                        exact ⟨updL y 6 (.slice (some ⟨g6, 0, none⟩) 2 c6), by simp [updL, e5, hY2, Act.put], HI.out.mid hv hni v2 v5 (fun _ _ _ => ⟨hF.grown hgrow (fun b e => (p2.lt b e).1), g6, c6, rfl, rdky_row hrow rfl⟩)⟩
                      · obtain rfl := Option.some.inj ho
                        have v6 : v.getD 6 false = true := open_waits hop (by kernel_rfl)
                        obtain ⟨hF, g6, c6, e6, hr6⟩ := HI.out.m hni v6
                        subst hA
                        simp only [frT, List.setIfInBounds_toArray, List.set_cons_succ, List.set_cons_zero]
                        simp only [e6]
                        go_wp2
                        exact ⟨updL y 7 (.slice (some ⟨g6, 0, none⟩) 2 c6), by simp [updL, e6], HI.out.lst hv hni v6 (fun _ => ⟨hF, g6, c6, rfl, hr6⟩)⟩
                      · cases ho
                    case fin =>
                      intro v a' w' hv hall hI
                      obtain ⟨y, rfl, HI⟩ := hI
                      obtain ⟨hF, g6, c6, e7, hr6⟩ := HI.out.fin hv hall
                      subst hA
                      simp only [frT, List.setIfInBounds_toArray, List.set_cons_succ, List.set_cons_zero, e7]
                      go_wp2_with fail
                      go_meet
                      exact ⟨g6, c6, rfl, ⟨hF.t, hF.k, HJ.out.s0, HJ.out.s1, HJ.out.s2, HJ.out.s3, Nat.le_trans HJ.out.s4 hF.s4, hF.s5⟩, hr6⟩
                  case rest =>
                    obtain ⟨g1, c1, rfl, HR1⟩ := hcut
                    clear HJ q
                    go_wp2_with (first
                      | (go_at_call 19; refine (CC.out ([] ++ [⟨kd, c, ct, me, sh, ⟨#[]⟩⟩, kz]) 2 _ _ _ rfl (by omega) OKS.out HR1.out.1.t.bel HR1.out.2).mono ?_; rintro e w7 ⟨v7, rfl, H7⟩)
                      | (go_at_call 23; refine (CR.out ([] ++ [⟨kd, c, ct, me, sh, ⟨#[]⟩⟩, kz]) 2 _ _ _ rfl (by omega) OKS.out (HR1.out.2.below (Nat.le_refl _) H7.out.2)).mono ?_; rintro e w8 ⟨v8, rfl, H8⟩)
                      | (go_at_call 22; refine (CS.out ([] ++ [⟨kd, c, ct, me, sh, ⟨#[]⟩⟩, kz]) _ _ _ _ _ (by simp) (row_kept H7.out.1 H8.out.2) H8.out.1).mono ?_; rintro e w9 ⟨rfl, hb9⟩))
                    exact ⟨⟨j + 1, by go_num, by omega, ((HR1.out.1.below H7.out.2).below H8.out.2).below hb9⟩, by simp [intOf]; omega⟩
                · have q : wr.cell? ⟨gh, j, none⟩ = some (.slice (some ⟨G j, 0, none⟩) 1 1) := HJ.out.t.at (by omega) hj
                  have HN : Hid (∀ W, Tk w gh G kb ⟨kd, c, ct, me, sh, ⟨#[]⟩⟩ wr.heap.size W → W.heap[G j]? = some (.cells (kyc (hk j)) 30 (0, 0))) := fun W hW => hW.t.hs j (by omega) hj
                  have OKS : Hid (∀ k ∈ [hk j] ++ [⟨kd, c, ct, me, sh, ⟨#[]⟩⟩, kz], k.Ok) := fun k hk => by
                    simp only [List.cons_append, List.nil_append, List.mem_cons, List.not_mem_nil, or_false] at hk
                    rcases hk with rfl | rfl | rfl
                    · exact hk_ok j
                    · exact KO.out
                    · exact kz_ok
                  clear j0
                  go_upto_region 19 with (fail)
                  go_cut [10] from 64 to 70 (fun v10 wx => ∃ g1 c1, v10 = .slice (some ⟨g1, 0, none⟩) 3 c1 ∧ Hid (Tk w gh G kb ⟨kd, c, ct, me, sh, ⟨#[]⟩⟩ (kb + 1) wx ∧ RdKy wx (.slice (some ⟨g1, 0, none⟩) 3 c1) ([hk j] ++ [⟨kd, c, ct, me, sh, ⟨#[]⟩⟩, kz])))
                  case first =>
                    refine nameL fun A hA => ?_
                    refine region_inv HM.out (by kernel_rfl) (fun v a' w' => ∃ y : Nat → Value, a' = ⟨frT A.tmps y, []⟩ ∧ Hid (Dt (Tk w gh G kb ⟨kd, c, ct, me, sh, ⟨#[]⟩⟩ wr.heap.size) (PT wr.heap.size (.slice (some ⟨G j, 0, none⟩) 1 1) ([hk j]) ⟨kd, c, ct, me, sh, ⟨#[]⟩⟩) (LT w gh G kb ⟨kd, c, ct, me, sh, ⟨#[]⟩⟩ wr.heap.size ([hk j]) 6) (LT w gh G kb ⟨kd, c, ct, me, sh, ⟨#[]⟩⟩ wr.heap.size ([hk j]) 7) v y w')) ?start ?step ?fin
                    case start =>
                      refine ⟨fun i => A.tmps.getD (([64, 65, 66, 67, 68, 69, 70, 10] : List Nat).getD i 0) undef, ?_, dt0 (HJ.out.raise.below (Below.refl _ _).drew)⟩
                      subst hA
                      simp [frT]
                    case step =>
                      intro i o v a' w' ho hv hni hop hI
                      obtain ⟨y, rfl, HI⟩ := hI
                      have hv : v.length = 8 := hv
                      have hsz := HJ.out.t.bel.size
                      clear HL0
                      rcases i with _ | _ | _ | _ | _ | _ | _ | _ | i
                      · obtain rfl := Option.some.inj ho
                        have hF := (HI.out.a (HI.out.no (by decide) hni)).1
                        subst hA
                        simp only [frT, List.setIfInBounds_toArray, List.set_cons_succ, List.set_cons_zero]
                        go_wp2
                        have hb2 : ∀ o, Below w'.heap.size w' (w'.alloc o) := fun o => (Below.refl _ w').alloc (Nat.le_refl _) o
                        exact ⟨updL y 0 (.slice (some ⟨w'.heap.size, 0, none⟩) 0 0), by simp [updL], HI.out.set (by decide) (by decide) (fun e => by cases e) hni (hF.below (hb2 _)) (PT.below (hb2 _)) (fun d => ⟨_, rfl, hF.s4, fun _ => World.ownsRow_lit (base := wr.heap.size) (e := 30) (size := 6) w' #[] 0 hF.s4 (by unfold maxLen; omega) rfl⟩)⟩
                      · obtain rfl := Option.some.inj ho
                        have hF := (HI.out.a (HI.out.no (by decide) hni)).1
                        subst hA
                        simp only [frT, List.setIfInBounds_toArray, List.set_cons_succ, List.set_cons_zero]
                        go_wp2
                        exact ⟨updL y 1 (.slice (some ⟨G j, 0, none⟩) 1 1), by simp [updL], HI.out.set (by decide) (by decide) (fun e => by cases e) hni hF (fun _ _ _ h => h) (fun d => rfl)⟩
                      · obtain rfl := Option.some.inj ho
                        obtain ⟨hF, hP⟩ := HI.out.a (HI.out.no (by decide) hni)
                        have v0 : v.getD 0 false = true := open_waits hop (by kernel_rfl)
                        have v1 : v.getD 1 false = true := open_waits hop (by kernel_rfl)
                        obtain ⟨b0, e0, hb0, hr0⟩ := hP 0 v0
                        have e1 : y 1 = _ := hP 1 v1
                        have hr := hr0 (dgl_no hni)
                        rw [e0] at hr
                        clear hP hr0
                        subst hA
                        simp only [frT, List.setIfInBounds_toArray, List.set_cons_succ, List.set_cons_zero]
                        simp only [e0, e1]
                        have hgj := HN.out _ hF
                        go_wp2_with (at_builtin; refine wpList_append_own_at _ rfl _ _ 22 rfl wr.heap.size 30 i0 _ 6 32 Tryd.underlying22 hi hz0 hz1 hz2 rfl (by decide) _ _ _ rfl hr ⟨G j, 0, none⟩ 1 1 [.int .i64 (hk j).kd, .int .i32 (hk j).ch, .bool (hk j).ct, .bool (hk j).me, .bool (hk j).sh, .string (hk j).tx] rfl rfl (World.news_of_block hgj) (by simp [Value.oneCell']) (by unfold maxLen; omega) (by omega) hF.s4 ?_; intro v2 w2 hown hgrow _ _)
                        exact ⟨updL y 2 v2, by simp [updL, e0, e1, Act.put], HI.out.set2 hv v0 v1 hni (hF.grown hgrow (fun b e => by cases e; exact hb0)) (PT.own hr hgrow) hown⟩
                      · obtain rfl := Option.some.inj ho
                        have hF := (HI.out.a (HI.out.no (by decide) hni)).1
                        obtain ⟨z0, z1, z2, z3, z4, z5, -⟩ := box6 hF.k
                        subst hA
                        simp only [frT, List.setIfInBounds_toArray, List.set_cons_succ, List.set_cons_zero]
                        go_wp2
                        exact ⟨updL y 3 (kyv ⟨kd, c, ct, me, sh, ⟨#[]⟩⟩), by simp [updL, kyv], HI.out.set (by decide) (by decide) (fun e => by cases e) hni hF (fun _ _ _ h => h) (fun d => rfl)⟩
                      · obtain rfl := Option.some.inj ho
                        have hF := (HI.out.a (HI.out.no (by decide) hni)).1
                        subst hA
                        simp only [frT, List.setIfInBounds_toArray, List.set_cons_succ, List.set_cons_zero]
                        go_wp2_with (go_at_call 25; refine (CH.out _ _ _).mono ?_; rintro e w5 ⟨rfl, hb5⟩)
                        exact ⟨updL y 4 (kyv kz), by simp [updL, kyv, kz], HI.out.set (by decide) (by decide) (fun e => by cases e) hni (hF.below hb5) (PT.below hb5) (fun d => rfl)⟩
                      · obtain rfl := Option.some.inj ho
                        obtain ⟨hF, hP⟩ := HI.out.a (HI.out.no (by decide) hni)
                        have v3 : v.getD 3 false = true := open_waits hop (by kernel_rfl)
                        have v4 : v.getD 4 false = true := open_waits hop (by kernel_rfl)
                        have e3 : y 3 = _ := hP 3 v3
                        have e4 : y 4 = _ := hP 4 v4
                        clear hP
                        unfold kyv at e3 e4
                        unfold kz at e4
                        subst hA
                        simp only [frT, List.setIfInBounds_toArray, List.set_cons_succ, List.set_cons_zero]
                        simp only [e3, e4]
                        go_wp2
                        have hb2 : ∀ o, Below w'.heap.size w' (w'.alloc o) := fun o => (Below.refl _ w').alloc (Nat.le_refl _) o
                        exact ⟨updL y 5 (.slice (some ⟨w'.heap.size, 0, none⟩) 2 2), by simp [updL, e3, e4], HI.out.set (by decide) (by decide) (fun _ => ⟨v3, v4⟩) hni (hF.below (hb2 _)) (PT.below (hb2 _)) (fun d => ⟨_, rfl, World.alloc_heap_new _ _⟩)⟩
                      · obtain rfl := Option.some.inj ho
                        obtain ⟨hF, hP⟩ := HI.out.a (dgl_no hni)
                        have v2 : v.getD 2 false = true := open_waits hop (by kernel_rfl)
                        have v5 : v.getD 5 false = true := open_waits hop (by kernel_rfl)
                        have p2 := hP 2 v2
                        have p5 := hP 5 v5
                        obtain ⟨b5, e5, h5⟩ := p5
                        have p2 : w'.ownsRow wr.heap.size 30 6 (y 2) 1 (kyl ([hk j])) := p2
                        clear hP
                        obtain ⟨Y2, hY2⟩ : ∃ q, y 2 = q := ⟨_, rfl⟩
                        rw [hY2] at p2
                        subst hA
                        simp only [frT, List.setIfInBounds_toArray, List.set_cons_succ, List.set_cons_zero]
                        simp only [e5, hY2]
                        go_wp2_with (at_builtin; refine wpList_append_own_at _ rfl _ _ 22 rfl wr.heap.size 30 i0 _ 6 32 Tryd.underlying22 hi hz0 hz1 hz2 rfl (by decide) _ _ _ rfl p2 ⟨b5, 0, none⟩ 2 2 [.int .i64 kd, .int .i32 c, .bool ct, .bool me, .bool sh, .string ⟨#[]⟩, .int .i64 1, .int .i32 122, .bool false, .bool false, .bool false, .string ⟨#[]⟩] rfl rfl (World.news_of_block h5) (by simp [Value.oneCell']) (by unfold maxLen; omega) (by omega) hF.s4 ?_; intro v6 w6 hown hgrow _ _)
                        obtain ⟨g6, c6, rfl, hc6⟩ := row_some hown (by omega)
                        have hrow : w6.ownsRow wr.heap.size 30 6 (.slice (some ⟨g6, 0, none⟩) 3 c6) 3 (kyl ([hk j] ++ [⟨kd, c, ct, me, sh, ⟨#[]⟩⟩, kz])) := by rw [kyl_app]; exact hown
                        exact ⟨updL y 6 (.slice (some ⟨g6, 0, none⟩) 3 c6), by simp [updL, e5, hY2, Act.put], HI.out.mid hv hni v2 v5 (fun _ _ _ => ⟨hF.grown hgrow (fun b e => (p2.lt b e).1), g6, c6, rfl, rdky_row hrow rfl⟩)⟩
                      · obtain rfl := Option.some.inj ho
                        have v6 : v.getD 6 false = true := open_waits hop (by kernel_rfl)
                        obtain ⟨hF, g6, c6, e6, hr6⟩ := HI.out.m hni v6
                        subst hA
                        simp only [frT, List.setIfInBounds_toArray, List.set_cons_succ, List.set_cons_zero]
                        simp only [e6]
                        go_wp2
                        exact ⟨updL y 7 (.slice (some ⟨g6, 0, none⟩) 3 c6), by simp [updL, e6], HI.out.lst hv hni v6 (fun _ => ⟨hF, g6, c6, rfl, hr6⟩)⟩
                      · cases ho
                    case fin =>
                      intro v a' w' hv hall hI
                      obtain ⟨y, rfl, HI⟩ := hI
                      obtain ⟨hF, g6, c6, e7, hr6⟩ := HI.out.fin hv hall
                      subst hA
                      simp only [frT, List.setIfInBounds_toArray, List.set_cons_succ, List.set_cons_zero, e7]
                      go_wp2_with fail
                      go_meet
                      exact ⟨g6, c6, rfl, ⟨hF.t, hF.k, HJ.out.s0, HJ.out.s1, HJ.out.s2, HJ.out.s3, Nat.le_trans HJ.out.s4 hF.s4, hF.s5⟩, hr6⟩
                  case rest =>
                    obtain ⟨g1, c1, rfl, HR1⟩ := hcut
                    clear HJ q
                    go_wp2_with (first
                      | (go_at_call 19; refine (CC.out ([hk j] ++ [⟨kd, c, ct, me, sh, ⟨#[]⟩⟩, kz]) 3 _ _ _ rfl (by omega) OKS.out HR1.out.1.t.bel HR1.out.2).mono ?_; rintro e w7 ⟨v7, rfl, H7⟩)
                      | (go_at_call 23; refine (CR.out ([hk j] ++ [⟨kd, c, ct, me, sh, ⟨#[]⟩⟩, kz]) 3 _ _ _ rfl (by omega) OKS.out (HR1.out.2.below (Nat.le_refl _) H7.out.2)).mono ?_; rintro e w8 ⟨v8, rfl, H8⟩)
                      | (go_at_call 22; refine (CS.out ([hk j] ++ [⟨kd, c, ct, me, sh, ⟨#[]⟩⟩, kz]) _ _ _ _ _ (by simp) (row_kept H7.out.1 H8.out.2) H8.out.1).mono ?_; rintro e w9 ⟨rfl, hb9⟩))
                    exact ⟨⟨j + 1, by go_num, by omega, ((HR1.out.1.below H7.out.2).below H8.out.2).below hb9⟩, by simp [intOf]; omega⟩
              · have hjg : ¬ ((j : Int) < 6) := by omega
                go_wp2
                exact ⟨⟨c + 1, by go_num, by omega, HJ.out.t⟩, by simp [intOf]; omega⟩
          · have hcg : ¬ ((c : Int) ≤ 255) := by omega
            go_wp2
            exact ⟨⟨kd + 1, by go_num, by omega, HC⟩, by simp [intOf]; omega⟩
      · have e1 : ((kd : Int) == 1) = false := by simp; omega
        have e2 : ((kd : Int) == 2) = true := by simp; omega
        have e4 : ((kd : Int) == 4) = false := by simp; omega
        have e17 : ¬ (17 : Int) ≤ kd := by omega
        clear hkc
        go_upto_region 11 with (fail)
        go_loopw [6] (fun t6 ws => ∃ c : Nat, t6 = .int .i32 c ∧ c ≤ 256 ∧ Hid (Th w gh G ws)) (fun t6 _ => 256 - (intOf t6).toNat)
        case atStart => exact ⟨0, rfl, Nat.zero_le _, HL⟩
        case round =>
          clear HL
          obtain ⟨c, rfl, hc, HC⟩ := hrel
          by_cases hcl : c ≤ 255
          · have hcl' : (c : Int) ≤ 255 := by omega
            go_upto_region 14 with (fail)
            generalize (bits BinOp.and IntKind.u8 mods 1 != 0) = ct
            generalize (bits BinOp.and IntKind.u8 mods 2 != 0) = me
            generalize (bits BinOp.and IntKind.u8 mods 4 != 0) = sh
            have HK0 : Hid (Tk w gh G wr.heap.size ⟨kd, c, ct, me, sh, ⟨#[]⟩⟩ (wr.heap.size + 1) (wr.alloc (.cells #[.int .i64 kd, .int .i32 c, .bool ct, .bool me, .bool sh, .string ⟨#[]⟩] 30))) := HC.out.tk ⟨kd, c, ct, me, sh, ⟨#[]⟩⟩
            have HGN : Hid (∀ j, 1 ≤ j → j < 6 → G j ≠ wr.heap.size) := fun j h1 h2 e => by have := (Array.getElem?_eq_some_iff.1 (HC.out.hs j h1 h2)).1; omega
            obtain ⟨kb, hkb⟩ : ∃ q, wr.heap.size = q := ⟨_, rfl⟩
            rw [hkb] at HK0 HGN ⊢
            generalize wr.alloc (.cells #[.int .i64 kd, .int .i32 c, .bool ct, .bool me, .bool sh, .string ⟨#[]⟩] 30) = V0 at HK0 ⊢
            clear hkb HC
            have KO : Hid (Ky.Ok ⟨kd, c, ct, me, sh, ⟨#[]⟩⟩) := ⟨by simp only; omega, by simp only; omega, by simp only; omega, by simp only; omega, by show 0 ≤ _; omega⟩
            go_upto_region 17 with (fail)
            have HK := HK0
            clear HK0 HGN
            go_loopw [60] (fun t60 wx => ∃ j : Nat, t60 = .int .i64 j ∧ j ≤ 6 ∧ Hid (Tk w gh G kb ⟨kd, c, ct, me, sh, ⟨#[]⟩⟩ (kb + 1) wx)) (fun t60 _ => 6 - (intOf t60).toNat)
            case atStart => exact ⟨0, rfl, by decide, HK⟩
            case round =>
              have HL0 := HK
              clear HK
              obtain ⟨j, rfl, hj6, HJ⟩ := hrel
              by_cases hj : j < 6
              · have hj' : (j : Int) < 6 := by omega
                by_cases j0 : j = 0
                · have q : wr.cell? ⟨gh, j, none⟩ = some (.slice none 0 0) := by rw [j0]; exact HJ.out.t.at0
                  have OKS : Hid (∀ k ∈ ([] : List Ky) ++ [⟨kd, c, ct, me, sh, ⟨#[]⟩⟩, kz], k.Ok) := fun k hk => by
                    simp only [List.nil_append, List.mem_cons, List.not_mem_nil, or_false] at hk
                    rcases hk with rfl | rfl
                    · exact KO.out
                    · exact kz_ok
                  clear j0
                  go_upto_region 19 with (fail)
                  go_cut [10] from 64 to 70 (fun v10 wx => ∃ g1 c1, v10 = .slice (some ⟨g1, 0, none⟩) 2 c1 ∧ Hid (Tk w gh G kb ⟨kd, c, ct, me, sh, ⟨#[]⟩⟩ (kb + 1) wx ∧ RdKy wx (.slice (some ⟨g1, 0, none⟩) 2 c1) ([] ++ [⟨kd, c, ct, me, sh, ⟨#[]⟩⟩, kz])))
                  case first =>
                    refine nameL fun A hA => ?_
                    refine region_inv HM.out (by kernel_rfl) (fun v a' w' => ∃ y : Nat → Value, a' = ⟨frT A.tmps y, []⟩ ∧ Hid (Dt (Tk w gh G kb ⟨kd, c, ct, me, sh, ⟨#[]⟩⟩ wr.heap.size) (PT wr.heap.size (.slice none 0 0) ([]) ⟨kd, c, ct, me, sh, ⟨#[]⟩⟩) (LT w gh G kb ⟨kd, c, ct, me, sh, ⟨#[]⟩⟩ wr.heap.size ([]) 6) (LT w gh G kb ⟨kd, c, ct, me, sh, ⟨#[]⟩⟩ wr.heap.size ([]) 7) v y w')) ?start ?step ?fin
                    case start =>
                      refine ⟨fun i => A.tmps.getD (([64, 65, 66, 67, 68, 69, 70, 10] : List Nat).getD i 0) undef, ?_, dt0 (HJ.out.raise.below (Below.refl _ _).drew)⟩
                      subst hA
                      simp [frT]
                    case step =>
                      intro i o v a' w' ho hv hni hop hI
                      obtain ⟨y, rfl, HI⟩ := hI
                      have hv : v.length = 8 := hv
                      have hsz := HJ.out.t.bel.size
                      clear HL0
                      rcases i with _ | _ | _ | _ | _ | _ | _ | _ | i
                      · obtain rfl := Option.some.inj ho
                        have hF := (HI.out.a (HI.out.no (by decide) hni)).1
                        subst hA
                        simp only [frT, List.setIfInBounds_toArray, List.set_cons_succ, List.set_cons_zero]
                        go_wp2
                        have hb2 : ∀ o, Below w'.heap.size w' (w'.alloc o) := fun o => (Below.refl _ w').alloc (Nat.le_refl _) o
                        exact ⟨updL y 0 (.slice (some ⟨w'.heap.size, 0, none⟩) 0 0), by simp [updL], HI.out.set (by decide) (by decide) (fun e => by cases e) hni (hF.below (hb2 _)) (PT.below (hb2 _)) (fun d => ⟨_, rfl, hF.s4, fun _ => World.ownsRow_lit (base := wr.heap.size) (e := 30) (size := 6) w' #[] 0 hF.s4 (by unfold maxLen; omega) rfl⟩)⟩
                      · obtain rfl := Option.some.inj ho
                        have hF := (HI.out.a (HI.out.no (by decide) hni)).1
                        subst hA
                        simp only [frT, List.setIfInBounds_toArray, List.set_cons_succ, List.set_cons_zero]
                        go_wp2
                        exact ⟨updL y 1 (.slice none 0 0), by simp [updL], HI.out.set (by decide) (by decide) (fun e => by cases e) hni hF (fun _ _ _ h => h) (fun d => rfl)⟩
                      · obtain rfl := Option.some.inj ho
                        obtain ⟨hF, hP⟩ := HI.out.a (HI.out.no (by decide) hni)
                        have v0 : v.getD 0 false = true := open_waits hop (by kernel_rfl)
                        have v1 : v.getD 1 false = true := open_waits hop (by kernel_rfl)
                        obtain ⟨b0, e0, hb0, hr0⟩ := hP 0 v0
                        have e1 : y 1 = _ := hP 1 v1
                        have hr := hr0 (dgl_no hni)
                        rw [e0] at hr
                        clear hP hr0
                        subst hA
                        simp only [frT, List.setIfInBounds_toArray, List.set_cons_succ, List.set_cons_zero]
                        simp only [e0, e1]
                        go_wp2_with (at_builtin; refine wpList_append_own_none rfl _ _ 22 rfl wr.heap.size 30 i0 6 Tryd.underlying22 hi (.slice (some ⟨b0, 0, none⟩) 0 0) 0 _ rfl hr rfl ?_)
                        exact ⟨updL y 2 (.slice (some ⟨b0, 0, none⟩) 0 0), by simp [updL, e0, e1, Act.put], HI.out.set2 hv v0 v1 hni hF PT.nil hr⟩
                      · obtain rfl := Option.some.inj ho
                        have hF := (HI.out.a (HI.out.no (by decide) hni)).1
                        obtain ⟨z0, z1, z2, z3, z4, z5, -⟩ := box6 hF.k
                        subst hA
                        simp only [frT, List.setIfInBounds_toArray, List.set_cons_succ, List.set_cons_zero]
                        go_wp2
                        exact ⟨updL y 3 (kyv ⟨kd, c, ct, me, sh, ⟨#[]⟩⟩), by simp [updL, kyv], HI.out.set (by decide) (by decide) (fun e => by cases e) hni hF (fun _ _ _ h => h) (fun d => rfl)⟩
                      · obtain rfl := Option.some.inj ho
                        have hF := (HI.out.a (HI.out.no (by decide) hni)).1
                        subst hA
                        simp only [frT, List.setIfInBounds_toArray, List.set_cons_succ, List.set_cons_zero]
                        go_wp2_with (go_at_call 25; refine (CH.out _ _ _).mono ?_; rintro e w5 ⟨rfl, hb5⟩)
                        exact ⟨updL y 4 (kyv kz), by simp [updL, kyv, kz], HI.out.set (by decide) (by decide) (fun e => by cases e) hni (hF.below hb5) (PT.below hb5) (fun d => rfl)⟩
                      · obtain rfl := Option.some.inj ho
                        obtain ⟨hF, hP⟩ := HI.out.a (HI.out.no (by decide) hni)
                        have v3 : v.getD 3 false = true := open_waits hop (by kernel_rfl)
                        have v4 : v.getD 4 false = true := open_waits hop (by kernel_rfl)
                        have e3 : y 3 = _ := hP 3 v3
                        have e4 : y 4 = _ := hP 4 v4
                        clear hP
                        unfold kyv at e3 e4
                        unfold kz at e4
                        subst hA
                        simp only [frT, List.setIfInBounds_toArray, List.set_cons_succ, List.set_cons_zero]
                        simp only [e3, e4]
                        go_wp2
                        have hb2 : ∀ o, Below w'.heap.size w' (w'.alloc o) := fun o => (Below.refl _ w').alloc (Nat.le_refl _) o
                        exact ⟨updL y 5 (.slice (some ⟨w'.heap.size, 0, none⟩) 2 2), by simp [updL, e3, e4], HI.out.set (by decide) (by decide) (fun _ => ⟨v3, v4⟩) hni (hF.below (hb2 _)) (PT.below (hb2 _)) (fun d => ⟨_, rfl, World.alloc_heap_new _ _⟩)⟩
                      · obtain rfl := Option.some.inj ho
                        obtain ⟨hF, hP⟩ := HI.out.a (dgl_no hni)
                        have v2 : v.getD 2 false = true := open_waits hop (by kernel_rfl)
                        have v5 : v.getD 5 false = true := open_waits hop (by kernel_rfl)
                        have p2 := hP 2 v2
                        have p5 := hP 5 v5
                        obtain ⟨b5, e5, h5⟩ := p5
                        have p2 : w'.ownsRow wr.heap.size 30 6 (y 2) 0 (kyl ([])) := p2
                        clear hP
                        obtain ⟨Y2, hY2⟩ : ∃ q, y 2 = q := ⟨_, rfl⟩
                        rw [hY2] at p2
                        subst hA
                        simp only [frT, List.setIfInBounds_toArray, List.set_cons_succ, List.set_cons_zero]
                        simp only [e5, hY2]
                        go_wp2_with (at_builtin; refine wpList_append_own_at _ rfl _ _ 22 rfl wr.heap.size 30 i0 _ 6 32 Tryd.underlying22 hi hz0 hz1 hz2 rfl (by decide) _ _ _ rfl p2 ⟨b5, 0, none⟩ 2 2 [.int .i64 kd, .int .i32 c, .bool ct, .bool me, .bool sh, .string ⟨#[]⟩, .int .i64 1, .int .i32 122, .bool false, .bool false, .bool false, .string ⟨#[]⟩] rfl rfl (World.news_of_block h5) (by simp [Value.oneCell']) (by unfold maxLen; omega) (by omega) hF.s4 ?_; intro v6 w6 hown hgrow _ _)
                        obtain ⟨g6, c6, rfl, hc6⟩ := row_some hown (by omega)
                        have hrow : w6.ownsRow wr.heap.size 30 6 (.slice (some ⟨g6, 0, none⟩) 2 c6) 2 (kyl ([] ++ [⟨kd, c, ct, me, sh, ⟨#[]⟩⟩, kz])) := by rw [kyl_app]; exact hown
                        exact ⟨updL y 6 (.slice (some ⟨g6, 0, none⟩) 2 c6), by simp [updL, e5, hY2, Act.put], HI.out.mid hv hni v2 v5 (fun _ _ _ => ⟨hF.grown hgrow (fun b e => (p2.lt b e).1), g6, c6, rfl, rdky_row hrow rfl⟩)⟩
                      · obtain rfl := Option.some.inj ho
                        have v6 : v.getD 6 false = true := open_waits hop (by kernel_rfl)
                        obtain ⟨hF, g6, c6, e6, hr6⟩ := HI.out.m hni v6
                        subst hA
                        simp only [frT, List.setIfInBounds_toArray, List.set_cons_succ, List.set_cons_zero]
                        simp only [e6]
                        go_wp2
                        exact ⟨updL y 7 (.slice (some ⟨g6, 0, none⟩) 2 c6), by simp [updL, e6], HI.out.lst hv hni v6 (fun _ => ⟨hF, g6, c6, rfl, hr6⟩)⟩
                      · cases ho
                    case fin =>
                      intro v a' w' hv hall hI
                      obtain ⟨y, rfl, HI⟩ := hI
                      obtain ⟨hF, g6, c6, e7, hr6⟩ := HI.out.fin hv hall
                      subst hA
                      simp only [frT, List.setIfInBounds_toArray, List.set_cons_succ, List.set_cons_zero, e7]
                      go_wp2_with fail
                      go_meet
                      exact ⟨g6, c6, rfl, ⟨hF.t, hF.k, HJ.out.s0, HJ.out.s1, HJ.out.s2, HJ.out.s3, Nat.le_trans HJ.out.s4 hF.s4, hF.s5⟩, hr6⟩
                  case rest =>
                    obtain ⟨g1, c1, rfl, HR1⟩ := hcut
                    clear HJ q
                    go_wp2_with (first
                      | (go_at_call 19; refine (CC.out ([] ++ [⟨kd, c, ct, me, sh, ⟨#[]⟩⟩, kz]) 2 _ _ _ rfl (by omega) OKS.out HR1.out.1.t.bel HR1.out.2).mono ?_; rintro e w7 ⟨v7, rfl, H7⟩)
                      | (go_at_call 23; refine (CR.out ([] ++ [⟨kd, c, ct, me, sh, ⟨#[]⟩⟩, kz]) 2 _ _ _ rfl (by omega) OKS.out (HR1.out.2.below (Nat.le_refl _) H7.out.2)).mono ?_; rintro e w8 ⟨v8, rfl, H8⟩)
                      | (go_at_call 22; refine (CS.out ([] ++ [⟨kd, c, ct, me, sh, ⟨#[]⟩⟩, kz]) _ _ _ _ _ (by simp) (row_kept H7.out.1 H8.out.2) H8.out.1).mono ?_; rintro e w9 ⟨rfl, hb9⟩))
                    exact ⟨⟨j + 1, by go_num, by omega, ((HR1.out.1.below H7.out.2).below H8.out.2).below hb9⟩, by simp [intOf]; omega⟩
                · have q : wr.cell? ⟨gh, j, none⟩ = some (.slice (some ⟨G j, 0, none⟩) 1 1) := HJ.out.t.at (by omega) hj
                  have HN : Hid (∀ W, Tk w gh G kb ⟨kd, c, ct, me, sh, ⟨#[]⟩⟩ wr.heap.size W → W.heap[G j]? = some (.cells (kyc (hk j)) 30 (0, 0))) := fun W hW => hW.t.hs j (by omega) hj
                  have OKS : Hid (∀ k ∈ [hk j] ++ [⟨kd, c, ct, me, sh, ⟨#[]⟩⟩, kz], k.Ok) := fun k hk => by
                    simp only [List.cons_append, List.nil_append, List.mem_cons, List.not_mem_nil, or_false] at hk
                    rcases hk with rfl | rfl | rfl
                    · exact hk_ok j
                    · exact KO.out
                    · exact kz_ok
                  clear j0
                  go_upto_region 19 with (fail)
                  go_cut [10] from 64 to 70 (fun v10 wx => ∃ g1 c1, v10 = .slice (some ⟨g1, 0, none⟩) 3 c1 ∧ Hid (Tk w gh G kb ⟨kd, c, ct, me, sh, ⟨#[]⟩⟩ (kb + 1) wx ∧ RdKy wx (.slice (some ⟨g1, 0, none⟩) 3 c1) ([hk j] ++ [⟨kd, c, ct, me, sh, ⟨#[]⟩⟩, kz])))
                  case first =>
                    refine nameL fun A hA => ?_
                    refine region_inv HM.out (by kernel_rfl) (fun v a' w' => ∃ y : Nat → Value, a' = ⟨frT A.tmps y, []⟩ ∧ Hid (Dt (Tk w gh G kb ⟨kd, c, ct, me, sh, ⟨#[]⟩⟩ wr.heap.size) (PT wr.heap.size (.slice (some ⟨G j, 0, none⟩) 1 1) ([hk j]) ⟨kd, c, ct, me, sh, ⟨#[]⟩⟩) (LT w gh G kb ⟨kd, c, ct, me, sh, ⟨#[]⟩⟩ wr.heap.size ([hk j]) 6) (LT w gh G kb ⟨kd, c, ct, me, sh, ⟨#[]⟩⟩ wr.heap.size ([hk j]) 7) v y w')) ?start ?step ?fin
                    case start =>
                      refine ⟨fun i => A.tmps.getD (([64, 65, 66, 67, 68, 69, 70, 10] : List Nat).getD i 0) undef, ?_, dt0 (HJ.out.raise.below (Below.refl _ _).drew)⟩
                      subst hA
                      simp [frT]
                    case step =>
                      intro i o v a' w' ho hv hni hop hI
                      obtain ⟨y, rfl, HI⟩ := hI
                      have hv : v.length = 8 := hv
                      have hsz := HJ.out.t.bel.size
                      clear HL0
                      rcases i with _ | _ | _ | _ | _ | _ | _ | _ | i
                      · obtain rfl := Option.some.inj ho
                        have hF := (HI.out.a (HI.out.no (by decide) hni)).1
                        subst hA
                        simp only [frT, List.setIfInBounds_toArray, List.set_cons_succ, List.set_cons_zero]
                        go_wp2
                        have hb2 : ∀ o, Below w'.heap.size w' (w'.alloc o) := fun o => (Below.refl _ w').alloc (Nat.le_refl _) o
                        exact ⟨updL y 0 (.slice (some ⟨w'.heap.size, 0, none⟩) 0 0), by simp [updL], HI.out.set (by decide) (by decide) (fun e => by cases e) hni (hF.below (hb2 _)) (PT.below (hb2 _)) (fun d => ⟨_, rfl, hF.s4, fun _ => World.ownsRow_lit (base := wr.heap.size) (e := 30) (size := 6) w' #[] 0 hF.s4 (by unfold maxLen; omega) rfl⟩)⟩
                      · obtain rfl := Option.some.inj ho
                        have hF := (HI.out.a (HI.out.no (by decide) hni)).1
                        subst hA
                        simp only [frT, List.setIfInBounds_toArray, List.set_cons_succ, List.set_cons_zero]
                        go_wp2
                        exact ⟨updL y 1 (.slice (some ⟨G j, 0, none⟩) 1 1), by simp [updL], HI.out.set (by decide) (by decide) (fun e => by cases e) hni hF (fun _ _ _ h => h) (fun d => rfl)⟩
                      · obtain rfl := Option.some.inj ho
                        obtain ⟨hF, hP⟩ := HI.out.a (HI.out.no (by decide) hni)
                        have v0 : v.getD 0 false = true := open_waits hop (by kernel_rfl)
                        have v1 : v.getD 1 false = true := open_waits hop (by kernel_rfl)
                        obtain ⟨b0, e0, hb0, hr0⟩ := hP 0 v0
                        have e1 : y 1 = _ := hP 1 v1
                        have hr := hr0 (dgl_no hni)
                        rw [e0] at hr
                        clear hP hr0
                        subst hA
                        simp only [frT, List.setIfInBounds_toArray, List.set_cons_succ, List.set_cons_zero]
                        simp only [e0, e1]
                        have hgj := HN.out _ hF
                        go_wp2_with (at_builtin; refine wpList_append_own_at _ rfl _ _ 22 rfl wr.heap.size 30 i0 _ 6 32 Tryd.underlying22 hi hz0 hz1 hz2 rfl (by decide) _ _ _ rfl hr ⟨G j, 0, none⟩ 1 1 [.int .i64 (hk j).kd, .int .i32 (hk j).ch, .bool (hk j).ct, .bool (hk j).me, .bool (hk j).sh, .string (hk j).tx] rfl rfl (World.news_of_block hgj) (by simp [Value.oneCell']) (by unfold maxLen; omega) (by omega) hF.s4 ?_; intro v2 w2 hown hgrow _ _)
                        exact ⟨updL y 2 v2, by simp [updL, e0, e1, Act.put], HI.out.set2 hv v0 v1 hni (hF.grown hgrow (fun b e => by cases e; exact hb0)) (PT.own hr hgrow) hown⟩
                      · obtain rfl := Option.some.inj ho
                        have hF := (HI.out.a (HI.out.no (by decide) hni)).1
                        obtain ⟨z0, z1, z2, z3, z4, z5, -⟩ := box6 hF.k
                        subst hA
                        simp only [frT, List.setIfInBounds_toArray, List.set_cons_succ, List.set_cons_zero]
                        go_wp2
                        exact ⟨updL y 3 (kyv ⟨kd, c, ct, me, sh, ⟨#[]⟩⟩), by simp [updL, kyv], HI.out.set (by decide) (by decide) (fun e => by cases e) hni hF (fun _ _ _ h => h) (fun d => rfl)⟩
                      · obtain rfl := Option.some.inj ho
                        have hF := (HI.out.a (HI.out.no (by decide) hni)).1
                        subst hA
                        simp only [frT, List.setIfInBounds_toArray, List.set_cons_succ, List.set_cons_zero]
                        go_wp2_with (go_at_call 25; refine (CH.out _ _ _).mono ?_; rintro e w5 ⟨rfl, hb5⟩)
                        exact ⟨updL y 4 (kyv kz), by simp [updL, kyv, kz], HI.out.set (by decide) (by decide) (fun e => by cases e) hni (hF.below hb5) (PT.below hb5) (fun d => rfl)⟩
                      · obtain rfl := Option.some.inj ho
                        obtain ⟨hF, hP⟩ := HI.out.a (HI.out.no (by decide) hni)
                        have v3 : v.getD 3 false = true := open_waits hop (by kernel_rfl)
                        have v4 : v.getD 4 false = true := open_waits hop (by kernel_rfl)
                        have e3 : y 3 = _ := hP 3 v3
                        have e4 : y 4 = _ := hP 4 v4
                        clear hP
                        unfold kyv at e3 e4
                        unfold kz at e4
                        subst hA
                        simp only [frT, List.setIfInBounds_toArray, List.set_cons_succ, List.set_cons_zero]
                        simp only [e3, e4]
                        go_wp2
                        have hb2 : ∀ o, Below w'.heap.size w' (w'.alloc o) := fun o => (Below.refl _ w').alloc (Nat.le_refl _) o
                        exact ⟨updL y 5 (.slice (some ⟨w'.heap.size, 0, none⟩) 2 2), by simp [updL, e3, e4], HI.out.set (by decide) (by decide) (fun _ => ⟨v3, v4⟩) hni (hF.below (hb2 _)) (PT.below (hb2 _)) (fun d => ⟨_, rfl, World.alloc_heap_new _ _⟩)⟩
                      · obtain rfl := Option.some.inj ho
                        obtain ⟨hF, hP⟩ := HI.out.a (dgl_no hni)
                        have v2 : v.getD 2 false = true := open_waits hop (by kernel_rfl)
                        have v5 : v.getD 5 false = true := open_waits hop (by kernel_rfl)
                        have p2 := hP 2 v2
                        have p5 := hP 5 v5
                        obtain ⟨b5, e5, h5⟩ := p5
                        have p2 : w'.ownsRow wr.heap.size 30 6 (y 2) 1 (kyl ([hk j])) := p2
                        clear hP
                        obtain ⟨Y2, hY2⟩ : ∃ q, y 2 = q := ⟨_, rfl⟩
                        rw [hY2] at p2
                        subst hA
                        simp only [frT, List.setIfInBounds_toArray, List.set_cons_succ, List.set_cons_zero]
                        simp only [e5, hY2]
                        go_wp2_with (at_builtin; refine wpList_append_own_at _ rfl _ _ 22 rfl wr.heap.size 30 i0 _ 6 32 Tryd.underlying22 hi hz0 hz1 hz2 rfl (by decide) _ _ _ rfl p2 ⟨b5, 0, none⟩ 2 2 [.int .i64 kd, .int .i32 c, .bool ct, .bool me, .bool sh, .string ⟨#[]⟩, .int .i64 1, .int .i32 122, .bool false, .bool false, .bool false, .string ⟨#[]⟩] rfl rfl (World.news_of_block h5) (by simp [Value.oneCell']) (by unfold maxLen; omega) (by omega) hF.s4 ?_; intro v6 w6 hown hgrow _ _)
                        obtain ⟨g6, c6, rfl, hc6⟩ := row_some hown (by omega)
                        have hrow : w6.ownsRow wr.heap.size 30 6 (.slice (some ⟨g6, 0, none⟩) 3 c6) 3 (kyl ([hk j] ++ [⟨kd, c, ct, me, sh, ⟨#[]⟩⟩, kz])) := by rw [kyl_app]; exact hown
                        exact ⟨updL y 6 (.slice (some ⟨g6, 0, none⟩) 3 c6), by simp [updL, e5, hY2, Act.put], HI.out.mid hv hni v2 v5 (fun _ _ _ => ⟨hF.grown hgrow (fun b e => (p2.lt b e).1), g6, c6, rfl, rdky_row hrow rfl⟩)⟩
                      · obtain rfl := Option.some.inj ho
                        have v6 : v.getD 6 false = true := open_waits hop (by kernel_rfl)
                        obtain ⟨hF, g6, c6, e6, hr6⟩ := HI.out.m hni v6
                        subst hA
                        simp only [frT, List.setIfInBounds_toArray, List.set_cons_succ, List.set_cons_zero]
                        simp only [e6]
                        go_wp2
                        exact ⟨updL y 7 (.slice (some ⟨g6, 0, none⟩) 3 c6), by simp [updL, e6], HI.out.lst hv hni v6 (fun _ => ⟨hF, g6, c6, rfl, hr6⟩)⟩
                      · cases ho
                    case fin =>
                      intro v a' w' hv hall hI
                      obtain ⟨y, rfl, HI⟩ := hI
                      obtain ⟨hF, g6, c6, e7, hr6⟩ := HI.out.fin hv hall
                      subst hA
                      simp only [frT, List.setIfInBounds_toArray, List.set_cons_succ, List.set_cons_zero, e7]
                      go_wp2_with fail
                      go_meet
                      exact ⟨g6, c6, rfl, ⟨hF.t, hF.k, HJ.out.s0, HJ.out.s1, HJ.out.s2, HJ.out.s3, Nat.le_trans HJ.out.s4 hF.s4, hF.s5⟩, hr6⟩
                  case rest =>
                    obtain ⟨g1, c1, rfl, HR1⟩ := hcut
                    clear HJ q
                    go_wp2_with (first
                      | (go_at_call 19; refine (CC.out ([hk j] ++ [⟨kd, c, ct, me, sh, ⟨#[]⟩⟩, kz]) 3 _ _ _ rfl (by omega) OKS.out HR1.out.1.t.bel HR1.out.2).mono ?_; rintro e w7 ⟨v7, rfl, H7⟩)
                      | (go_at_call 23; refine (CR.out ([hk j] ++ [⟨kd, c, ct, me, sh, ⟨#[]⟩⟩, kz]) 3 _ _ _ rfl (by omega) OKS.out (HR1.out.2.below (Nat.le_refl _) H7.out.2)).mono ?_; rintro e w8 ⟨v8, rfl, H8⟩)
                      | (go_at_call 22; refine (CS.out ([hk j] ++ [⟨kd, c, ct, me, sh, ⟨#[]⟩⟩, kz]) _ _ _ _ _ (by simp) (row_kept H7.out.1 H8.out.2) H8.out.1).mono ?_; rintro e w9 ⟨rfl, hb9⟩))
                    exact ⟨⟨j + 1, by go_num, by omega, ((HR1.out.1.below H7.out.2).below H8.out.2).below hb9⟩, by simp [intOf]; omega⟩
              · have hjg : ¬ ((j : Int) < 6) := by omega
                go_wp2
                exact ⟨⟨c + 1, by go_num, by omega, HJ.out.t⟩, by simp [intOf]; omega⟩
          · have hcg : ¬ ((c : Int) ≤ 255) := by omega
            go_wp2
            exact ⟨⟨kd + 1, by go_num, by omega, HC⟩, by simp [intOf]; omega⟩
      · have e1 : ((kd : Int) == 1) = false := by simp; omega
        have e2 : ((kd : Int) == 2) = false := by simp; omega
        have e4 : ((kd : Int) == 4) = true := by simp; omega
        have e17 : ¬ (17 : Int) ≤ kd := by omega
        clear hkc
        go_upto_region 11 with (fail)
        go_loopw [6] (fun t6 ws => ∃ c : Nat, t6 = .int .i32 c ∧ c ≤ 2 ∧ Hid (Th w gh G ws)) (fun t6 _ => 2 - (intOf t6).toNat)
        case atStart => exact ⟨0, rfl, Nat.zero_le _, HL⟩
        case round =>
          clear HL
          obtain ⟨c, rfl, hc, HC⟩ := hrel
          by_cases hcl : c ≤ 1
          · have hcl' : (c : Int) ≤ 1 := by omega
            go_upto_region 14 with (fail)
            generalize (bits BinOp.and IntKind.u8 mods 1 != 0) = ct
            generalize (bits BinOp.and IntKind.u8 mods 2 != 0) = me
            generalize (bits BinOp.and IntKind.u8 mods 4 != 0) = sh
            have HK0 : Hid (Tk w gh G wr.heap.size ⟨kd, c, ct, me, sh, ⟨#[]⟩⟩ (wr.heap.size + 1) (wr.alloc (.cells #[.int .i64 kd, .int .i32 c, .bool ct, .bool me, .bool sh, .string ⟨#[]⟩] 30))) := HC.out.tk ⟨kd, c, ct, me, sh, ⟨#[]⟩⟩
            have HGN : Hid (∀ j, 1 ≤ j → j < 6 → G j ≠ wr.heap.size) := fun j h1 h2 e => by have := (Array.getElem?_eq_some_iff.1 (HC.out.hs j h1 h2)).1; omega
            obtain ⟨kb, hkb⟩ : ∃ q, wr.heap.size = q := ⟨_, rfl⟩
            rw [hkb] at HK0 HGN ⊢
            generalize wr.alloc (.cells #[.int .i64 kd, .int .i32 c, .bool ct, .bool me, .bool sh, .string ⟨#[]⟩] 30) = V0 at HK0 ⊢
            clear hkb HC
            have KO : Hid (Ky.Ok ⟨kd, c, ct, me, sh, ⟨#[255]⟩⟩) := ⟨by simp only; omega, by simp only; omega, by simp only; omega, by simp only; omega, by show 1 ≤ _; omega⟩
            obtain ⟨k0, k1, k2, k3, k4, k5, -⟩ := box6 HK0.out.k
            have fz : V0.frozen? ⟨kb, 5, none⟩ = false := by simp [World.frozen?, HK0.out.k]
            go_upto_region 17 with (fail)
            have HK : Hid (Tk w gh G kb ⟨kd, c, ct, me, sh, ⟨#[255]⟩⟩ (kb + 1) (V0.setCell ⟨kb, 5, none⟩ (.string ⟨#[255]⟩))) := HK0.out.set5 HGN.out ⟨#[255]⟩
            generalize V0.setCell ⟨kb, 5, none⟩ (.string ⟨#[255]⟩) = V1 at HK ⊢
            clear HK0 HGN k0 k1 k2 k3 k4 k5 fz
            go_loopw [60] (fun t60 wx => ∃ j : Nat, t60 = .int .i64 j ∧ j ≤ 6 ∧ Hid (Tk w gh G kb ⟨kd, c, ct, me, sh, ⟨#[255]⟩⟩ (kb + 1) wx)) (fun t60 _ => 6 - (intOf t60).toNat)
            case atStart => exact ⟨0, rfl, by decide, HK⟩
            case round =>
              have HL0 := HK
              clear HK
              obtain ⟨j, rfl, hj6, HJ⟩ := hrel
              by_cases hj : j < 6
              · have hj' : (j : Int) < 6 := by omega
                by_cases j0 : j = 0
                · have q : wr.cell? ⟨gh, j, none⟩ = some (.slice none 0 0) := by rw [j0]; exact HJ.out.t.at0
                  have OKS : Hid (∀ k ∈ ([] : List Ky) ++ [⟨kd, c, ct, me, sh, ⟨#[255]⟩⟩, kz], k.Ok) := fun k hk => by
                    simp only [List.nil_append, List.mem_cons, List.not_mem_nil, or_false] at hk
                    rcases hk with rfl | rfl
                    · exact KO.out
                    · exact kz_ok
                  clear j0
                  go_upto_region 19 with (fail)
                  go_cut [10] from 64 to 70 (fun v10 wx => ∃ g1 c1, v10 = .slice (some ⟨g1, 0, none⟩) 2 c1 ∧ Hid (Tk w gh G kb ⟨kd, c, ct, me, sh, ⟨#[255]⟩⟩ (kb + 1) wx ∧ RdKy wx (.slice (some ⟨g1, 0, none⟩) 2 c1) ([] ++ [⟨kd, c, ct, me, sh, ⟨#[255]⟩⟩, kz])))
                  case first =>
                    refine nameL fun A hA => ?_
                    refine region_inv HM.out (by kernel_rfl) (fun v a' w' => ∃ y : Nat → Value, a' = ⟨frT A.tmps y, []⟩ ∧ Hid (Dt (Tk w gh G kb ⟨kd, c, ct, me, sh, ⟨#[255]⟩⟩ wr.heap.size) (PT wr.heap.size (.slice none 0 0) ([]) ⟨kd, c, ct, me, sh, ⟨#[255]⟩⟩) (LT w gh G kb ⟨kd, c, ct, me, sh, ⟨#[255]⟩⟩ wr.heap.size ([]) 6) (LT w gh G kb ⟨kd, c, ct, me, sh, ⟨#[255]⟩⟩ wr.heap.size ([]) 7) v y w')) ?start ?step ?fin
                    case start =>
                      refine ⟨fun i => A.tmps.getD (([64, 65, 66, 67, 68, 69, 70, 10] : List Nat).getD i 0) undef, ?_, dt0 (HJ.out.raise.below (Below.refl _ _).drew)⟩
                      subst hA
                      simp [frT]
                    case step =>
                      intro i o v a' w' ho hv hni hop hI
                      obtain ⟨y, rfl, HI⟩ := hI
                      have hv : v.length = 8 := hv
                      have hsz := HJ.out.t.bel.size
                      clear HL0
                      rcases i with _ | _ | _ | _ | _ | _ | _ | _ | i
                      · obtain rfl := Option.some.inj ho
                        have hF := (HI.out.a (HI.out.no (by decide) hni)).1
                        subst hA
                        simp only [frT, List.setIfInBounds_toArray, List.set_cons_succ, List.set_cons_zero]
                        go_wp2
                        have hb2 : ∀ o, Below w'.heap.size w' (w'.alloc o) := fun o => (Below.refl _ w').alloc (Nat.le_refl _) o
                        exact ⟨updL y 0 (.slice (some ⟨w'.heap.size, 0, none⟩) 0 0), by simp [updL], HI.out.set (by decide) (by decide) (fun e => by cases e) hni (hF.below (hb2 _)) (PT.below (hb2 _)) (fun d => ⟨_, rfl, hF.s4, fun _ => World.ownsRow_lit (base := wr.heap.size) (e := 30) (size := 6) w' #[] 0 hF.s4 (by unfold maxLen; omega) rfl⟩)⟩
                      · obtain rfl := Option.some.inj ho
                        have hF := (HI.out.a (HI.out.no (by decide) hni)).1
                        subst hA
                        simp only [frT, List.setIfInBounds_toArray, List.set_cons_succ, List.set_cons_zero]
                        go_wp2
                        exact ⟨updL y 1 (.slice none 0 0), by simp [updL], HI.out.set (by decide) (by decide) (fun e => by cases e) hni hF (fun _ _ _ h => h) (fun d => rfl)⟩
                      · obtain rfl := Option.some.inj ho
                        obtain ⟨hF, hP⟩ := HI.out.a (HI.out.no (by decide) hni)
                        have v0 : v.getD 0 false = true := open_waits hop (by kernel_rfl)
                        have v1 : v.getD 1 false = true := open_waits hop (by kernel_rfl)
                        obtain ⟨b0, e0, hb0, hr0⟩ := hP 0 v0
                        have e1 : y 1 = _ := hP 1 v1
                        have hr := hr0 (dgl_no hni)
                        rw [e0] at hr
                        clear hP hr0
                        subst hA
                        simp only [frT, List.setIfInBounds_toArray, List.set_cons_succ, List.set_cons_zero]
                        simp only [e0, e1]
                        go_wp2_with (at_builtin; refine wpList_append_own_none rfl _ _ 22 rfl wr.heap.size 30 i0 6 Tryd.underlying22 hi (.slice (some ⟨b0, 0, none⟩) 0 0) 0 _ rfl hr rfl ?_)
                        exact ⟨updL y 2 (.slice (some ⟨b0, 0, none⟩) 0 0), by simp [updL, e0, e1, Act.put], HI.out.set2 hv v0 v1 hni hF PT.nil hr⟩
                      · obtain rfl := Option.some.inj ho
                        have hF := (HI.out.a (HI.out.no (by decide) hni)).1
                        obtain ⟨z0, z1, z2, z3, z4, z5, -⟩ := box6 hF.k
                        subst hA
                        simp only [frT, List.setIfInBounds_toArray, List.set_cons_succ, List.set_cons_zero]
                        go_wp2
                        exact ⟨updL y 3 (kyv ⟨kd, c, ct, me, sh, ⟨#[255]⟩⟩), by simp [updL, kyv], HI.out.set (by decide) (by decide) (fun e => by cases e) hni hF (fun _ _ _ h => h) (fun d => rfl)⟩
                      · obtain rfl := Option.some.inj ho
                        have hF := (HI.out.a (HI.out.no (by decide) hni)).1
                        subst hA
                        simp only [frT, List.setIfInBounds_toArray, List.set_cons_succ, List.set_cons_zero]
                        go_wp2_with (go_at_call 25; refine (CH.out _ _ _).mono ?_; rintro e w5 ⟨rfl, hb5⟩)
                        exact ⟨updL y 4 (kyv kz), by simp [updL, kyv, kz], HI.out.set (by decide) (by decide) (fun e => by cases e) hni (hF.below hb5) (PT.below hb5) (fun d => rfl)⟩
                      · obtain rfl := Option.some.inj ho
                        obtain ⟨hF, hP⟩ := HI.out.a (HI.out.no (by decide) hni)
                        have v3 : v.getD 3 false = true := open_waits hop (by kernel_rfl)
                        have v4 : v.getD 4 false = true := open_waits hop (by kernel_rfl)
                        have e3 : y 3 = _ := hP 3 v3
                        have e4 : y 4 = _ := hP 4 v4
                        clear hP
                        unfold kyv at e3 e4
                        unfold kz at e4
                        subst hA
                        simp only [frT, List.setIfInBounds_toArray, List.set_cons_succ, List.set_cons_zero]
                        simp only [e3, e4]
                        go_wp2
                        have hb2 : ∀ o, Below w'.heap.size w' (w'.alloc o) := fun o => (Below.refl _ w').alloc (Nat.le_refl _) o
                        exact ⟨updL y 5 (.slice (some ⟨w'.heap.size, 0, none⟩) 2 2), by simp [updL, e3, e4], HI.out.set (by decide) (by decide) (fun _ => ⟨v3, v4⟩) hni (hF.below (hb2 _)) (PT.below (hb2 _)) (fun d => ⟨_, rfl, World.alloc_heap_new _ _⟩)⟩
                      · obtain rfl := Option.some.inj ho
                        obtain ⟨hF, hP⟩ := HI.out.a (dgl_no hni)
                        have v2 : v.getD 2 false = true := open_waits hop (by kernel_rfl)
                        have v5 : v.getD 5 false = true := open_waits hop (by kernel_rfl)
                        have p2 := hP 2 v2
                        have p5 := hP 5 v5
                        obtain ⟨b5, e5, h5⟩ := p5
                        have p2 : w'.ownsRow wr.heap.size 30 6 (y 2) 0 (kyl ([])) := p2
                        clear hP
                        obtain ⟨Y2, hY2⟩ : ∃ q, y 2 = q := ⟨_, rfl⟩
                        rw [hY2] at p2
                        subst hA
                        simp only [frT, List.setIfInBounds_toArray, List.set_cons_succ, List.set_cons_zero]
                        simp only [e5, hY2]
                        go_wp2_with (at_builtin; refine wpList_append_own_at _ rfl _ _ 22 rfl wr.heap.size 30 i0 _ 6 32 Tryd.underlying22 hi hz0 hz1 hz2 rfl (by decide) _ _ _ rfl p2 ⟨b5, 0, none⟩ 2 2 [.int .i64 kd, .int .i32 c, .bool ct, .bool me, .bool sh, .string ⟨#[255]⟩, .int .i64 1, .int .i32 122, .bool false, .bool false, .bool false, .string ⟨#[]⟩] rfl rfl (World.news_of_block h5) (by simp [Value.oneCell']) (by unfold maxLen; omega) (by omega) hF.s4 ?_; intro v6 w6 hown hgrow _ _)
                        obtain ⟨g6, c6, rfl, hc6⟩ := row_some hown (by omega)
                        have hrow : w6.ownsRow wr.heap.size 30 6 (.slice (some ⟨g6, 0, none⟩) 2 c6) 2 (kyl ([] ++ [⟨kd, c, ct, me, sh, ⟨#[255]⟩⟩, kz])) := by rw [kyl_app]; exact hown
                        exact ⟨updL y 6 (.slice (some ⟨g6, 0, none⟩) 2 c6), by simp [updL, e5, hY2, Act.put], HI.out.mid hv hni v2 v5 (fun _ _ _ => ⟨hF.grown hgrow (fun b e => (p2.lt b e).1), g6, c6, rfl, rdky_row hrow rfl⟩)⟩
                      · obtain rfl := Option.some.inj ho
                        have v6 : v.getD 6 false = true := open_waits hop (by kernel_rfl)
                        obtain ⟨hF, g6, c6, e6, hr6⟩ := HI.out.m hni v6
                        subst hA
                        simp only [frT, List.setIfInBounds_toArray, List.set_cons_succ, List.set_cons_zero]
                        simp only [e6]
                        go_wp2
                        exact ⟨updL y 7 (.slice (some ⟨g6, 0, none⟩) 2 c6), by simp [updL, e6], HI.out.lst hv hni v6 (fun _ => ⟨hF, g6, c6, rfl, hr6⟩)⟩
                      · cases ho
                    case fin =>
                      intro v a' w' hv hall hI
                      obtain ⟨y, rfl, HI⟩ := hI
                      obtain ⟨hF, g6, c6, e7, hr6⟩ := HI.out.fin hv hall
                      subst hA
                      simp only [frT, List.setIfInBounds_toArray, List.set_cons_succ, List.set_cons_zero, e7]
                      go_wp2_with fail
                      go_meet
                      exact ⟨g6, c6, rfl, ⟨hF.t, hF.k, HJ.out.s0, HJ.out.s1, HJ.out.s2, HJ.out.s3, Nat.le_trans HJ.out.s4 hF.s4, hF.s5⟩, hr6⟩
                  case rest =>
                    obtain ⟨g1, c1, rfl, HR1⟩ := hcut
                    clear HJ q
                    go_wp2_with (first
                      | (go_at_call 19; refine (CC.out ([] ++ [⟨kd, c, ct, me, sh, ⟨#[255]⟩⟩, kz]) 2 _ _ _ rfl (by omega) OKS.out HR1.out.1.t.bel HR1.out.2).mono ?_; rintro e w7 ⟨v7, rfl, H7⟩)
                      | (go_at_call 23; refine (CR.out ([] ++ [⟨kd, c, ct, me, sh, ⟨#[255]⟩⟩, kz]) 2 _ _ _ rfl (by omega) OKS.out (HR1.out.2.below (Nat.le_refl _) H7.out.2)).mono ?_; rintro e w8 ⟨v8, rfl, H8⟩)
                      | (go_at_call 22; refine (CS.out ([] ++ [⟨kd, c, ct, me, sh, ⟨#[255]⟩⟩, kz]) _ _ _ _ _ (by simp) (row_kept H7.out.1 H8.out.2) H8.out.1).mono ?_; rintro e w9 ⟨rfl, hb9⟩))
                    exact ⟨⟨j + 1, by go_num, by omega, ((HR1.out.1.below H7.out.2).below H8.out.2).below hb9⟩, by simp [intOf]; omega⟩
                · have q : wr.cell? ⟨gh, j, none⟩ = some (.slice (some ⟨G j, 0, none⟩) 1 1) := HJ.out.t.at (by omega) hj
                  have HN : Hid (∀ W, Tk w gh G kb ⟨kd, c, ct, me, sh, ⟨#[255]⟩⟩ wr.heap.size W → W.heap[G j]? = some (.cells (kyc (hk j)) 30 (0, 0))) := fun W hW => hW.t.hs j (by omega) hj
                  have OKS : Hid (∀ k ∈ [hk j] ++ [⟨kd, c, ct, me, sh, ⟨#[255]⟩⟩, kz], k.Ok) := fun k hk => by
                    simp only [List.cons_append, List.nil_append, List.mem_cons, List.not_mem_nil, or_false] at hk
                    rcases hk with rfl | rfl | rfl
                    · exact hk_ok j
                    · exact KO.out
                    · exact kz_ok
                  clear j0
                  go_upto_region 19 with (fail)
                  go_cut [10] from 64 to 70 (fun v10 wx => ∃ g1 c1, v10 = .slice (some ⟨g1, 0, none⟩) 3 c1 ∧ Hid (Tk w gh G kb ⟨kd, c, ct, me, sh, ⟨#[255]⟩⟩ (kb + 1) wx ∧ RdKy wx (.slice (some ⟨g1, 0, none⟩) 3 c1) ([hk j] ++ [⟨kd, c, ct, me, sh, ⟨#[255]⟩⟩, kz])))
                  case first =>
                    refine nameL fun A hA => ?_
                    refine region_inv HM.out (by kernel_rfl) (fun v a' w' => ∃ y : Nat → Value, a' = ⟨frT A.tmps y, []⟩ ∧ Hid (Dt (Tk w gh G kb ⟨kd, c, ct, me, sh, ⟨#[255]⟩⟩ wr.heap.size) (PT wr.heap.size (.slice (some ⟨G j, 0, none⟩) 1 1) ([hk j]) ⟨kd, c, ct, me, sh, ⟨#[255]⟩⟩) (LT w gh G kb ⟨kd, c, ct, me, sh, ⟨#[255]⟩⟩ wr.heap.size ([hk j]) 6) (LT w gh G kb ⟨kd, c, ct, me, sh, ⟨#[255]⟩⟩ wr.heap.size ([hk j]) 7) v y w')) ?start ?step ?fin
                    case start =>
                      refine ⟨fun i => A.tmps.getD (([64, 65, 66, 67, 68, 69, 70, 10] : List Nat).getD i 0) undef, ?_, dt0 (HJ.out.raise.below (Below.refl _ _).drew)⟩
                      subst hA
                      simp [frT]
                    case step =>
                      intro i o v a' w' ho hv hni hop hI
                      obtain ⟨y, rfl, HI⟩ := hI
                      have hv : v.length = 8 := hv
                      have hsz := HJ.out.t.bel.size
                      clear HL0
                      rcases i with _ | _ | _ | _ | _ | _ | _ | _ | i
                      · obtain rfl := Option.some.inj ho
                        have hF := (HI.out.a (HI.out.no (by decide) hni)).1
                        subst hA
                        simp only [frT, List.setIfInBounds_toArray, List.set_cons_succ, List.set_cons_zero]
                        go_wp2
                        have hb2 : ∀ o, Below w'.heap.size w' (w'.alloc o) := fun o => (Below.refl _ w').alloc (Nat.le_refl _) o
                        exact ⟨updL y 0 (.slice (some ⟨w'.heap.size, 0, none⟩) 0 0), by simp [updL], HI.out.set (by decide) (by decide) (fun e => by cases e) hni (hF.below (hb2 _)) (PT.below (hb2 _)) (fun d => ⟨_, rfl, hF.s4, fun _ => World.ownsRow_lit (base := wr.heap.size) (e := 30) (size := 6) w' #[] 0 hF.s4 (by unfold maxLen; omega) rfl⟩)⟩
                      · obtain rfl := Option.some.inj ho
                        have hF := (HI.out.a (HI.out.no (by decide) hni)).1
                        subst hA
                        simp only [frT, List.setIfInBounds_toArray, List.set_cons_succ, List.set_cons_zero]
                        go_wp2
                        exact ⟨updL y 1 (.slice (some ⟨G j, 0, none⟩) 1 1), by simp [updL], HI.out.set (by decide) (by decide) (fun e => by cases e) hni hF (fun _ _ _ h => h) (fun d => rfl)⟩
                      · obtain rfl := Option.some.inj ho
                        obtain ⟨hF, hP⟩ := HI.out.a (HI.out.no (by decide) hni)
                        have v0 : v.getD 0 false = true := open_waits hop (by kernel_rfl)
                        have v1 : v.getD 1 false = true := open_waits hop (by kernel_rfl)
                        obtain ⟨b0, e0, hb0, hr0⟩ := hP 0 v0
                        have e1 : y 1 = _ := hP 1 v1
                        have hr := hr0 (dgl_no hni)
                        rw [e0] at hr
                        clear hP hr0
                        subst hA
                        simp only [frT, List.setIfInBounds_toArray, List.set_cons_succ, List.set_cons_zero]
                        simp only [e0, e1]
                        have hgj := HN.out _ hF
                        go_wp2_with (at_builtin; refine wpList_append_own_at _ rfl _ _ 22 rfl wr.heap.size 30 i0 _ 6 32 Tryd.underlying22 hi hz0 hz1 hz2 rfl (by decide) _ _ _ rfl hr ⟨G j, 0, none⟩ 1 1 [.int .i64 (hk j).kd, .int .i32 (hk j).ch, .bool (hk j).ct, .bool (hk j).me, .bool (hk j).sh, .string (hk j).tx] rfl rfl (World.news_of_block hgj) (by simp [Value.oneCell']) (by unfold maxLen; omega) (by omega) hF.s4 ?_; intro v2 w2 hown hgrow _ _)
                        exact ⟨updL y 2 v2, by simp [updL, e0, e1, Act.put], HI.out.set2 hv v0 v1 hni (hF.grown hgrow (fun b e => by cases e; exact hb0)) (PT.own hr hgrow) hown⟩
                      · obtain rfl := Option.some.inj ho
                        have hF := (HI.out.a (HI.out.no (by decide) hni)).1
                        obtain ⟨z0, z1, z2, z3, z4, z5, -⟩ := box6 hF.k
                        subst hA
                        simp only [frT, List.setIfInBounds_toArray, List.set_cons_succ, List.set_cons_zero]
                        go_wp2
                        exact ⟨updL y 3 (kyv ⟨kd, c, ct, me, sh, ⟨#[255]⟩⟩), by simp [updL, kyv], HI.out.set (by decide) (by decide) (fun e => by cases e) hni hF (fun _ _ _ h => h) (fun d => rfl)⟩
                      · obtain rfl := Option.some.inj ho
                        have hF := (HI.out.a (HI.out.no (by decide) hni)).1
                        subst hA
                        simp only [frT, List.setIfInBounds_toArray, List.set_cons_succ, List.set_cons_zero]
                        go_wp2_with (go_at_call 25; refine (CH.out _ _ _).mono ?_; rintro e w5 ⟨rfl, hb5⟩)
                        exact ⟨updL y 4 (kyv kz), by simp [updL, kyv, kz], HI.out.set (by decide) (by decide) (fun e => by cases e) hni (hF.below hb5) (PT.below hb5) (fun d => rfl)⟩
                      · obtain rfl := Option.some.inj ho
                        obtain ⟨hF, hP⟩ := HI.out.a (HI.out.no (by decide) hni)
                        have v3 : v.getD 3 false = true := open_waits hop (by kernel_rfl)
                        have v4 : v.getD 4 false = true := open_waits hop (by kernel_rfl)
                        have e3 : y 3 = _ := hP 3 v3
                        have e4 : y 4 = _ := hP 4 v4
                        clear hP
                        unfold kyv at e3 e4
                        unfold kz at e4
                        subst hA
                        simp only [frT, List.setIfInBounds_toArray, List.set_cons_succ, List.set_cons_zero]
                        simp only [e3, e4]
                        go_wp2
                        have hb2 : ∀ o, Below w'.heap.size w' (w'.alloc o) := fun o => (Below.refl _ w').alloc (Nat.le_refl _) o
                        exact ⟨updL y 5 (.slice (some ⟨w'.heap.size, 0, none⟩) 2 2), by simp [updL, e3, e4], HI.out.set (by decide) (by decide) (fun _ => ⟨v3, v4⟩) hni (hF.below (hb2 _)) (PT.below (hb2 _)) (fun d => ⟨_, rfl, World.alloc_heap_new _ _⟩)⟩
                      · obtain rfl := Option.some.inj ho
                        obtain ⟨hF, hP⟩ := HI.out.a (dgl_no hni)
                        have v2 : v.getD 2 false = true := open_waits hop (by kernel_rfl)
                        have v5 : v.getD 5 false = true := open_waits hop (by kernel_rfl)
                        have p2 := hP 2 v2
                        have p5 := hP 5 v5
                        obtain ⟨b5, e5, h5⟩ := p5
                        have p2 : w'.ownsRow wr.heap.size 30 6 (y 2) 1 (kyl ([hk j])) := p2
                        clear hP
                        obtain ⟨Y2, hY2⟩ : ∃ q, y 2 = q := ⟨_, rfl⟩
                        rw [hY2] at p2
                        subst hA
                        simp only [frT, List.setIfInBounds_toArray, List.set_cons_succ, List.set_cons_zero]
                        simp only [e5, hY2]
                        go_wp2_with (at_builtin; refine wpList_append_own_at _ rfl _ _ 22 rfl wr.heap.size 30 i0 _ 6 32 Tryd.underlying22 hi hz0 hz1 hz2 rfl (by decide) _ _ _ rfl p2 ⟨b5, 0, none⟩ 2 2 [.int .i64 kd, .int .i32 c, .bool ct, .bool me, .bool sh, .string ⟨#[255]⟩, .int .i64 1, .int .i32 122, .bool false, .bool false, .bool false, .string ⟨#[]⟩] rfl rfl (World.news_of_block h5) (by simp [Value.oneCell']) (by unfold maxLen; omega) (by omega) hF.s4 ?_; intro v6 w6 hown hgrow _ _)
                        obtain ⟨g6, c6, rfl, hc6⟩ := row_some hown (by omega)
                        have hrow : w6.ownsRow wr.heap.size 30 6 (.slice (some ⟨g6, 0, none⟩) 3 c6) 3 (kyl ([hk j] ++ [⟨kd, c, ct, me, sh, ⟨#[255]⟩⟩, kz])) := by rw [kyl_app]; exact hown
                        exact ⟨updL y 6 (.slice (some ⟨g6, 0, none⟩) 3 c6), by simp [updL, e5, hY2, Act.put], HI.out.mid hv hni v2 v5 (fun _ _ _ => ⟨hF.grown hgrow (fun b e => (p2.lt b e).1), g6, c6, rfl, rdky_row hrow rfl⟩)⟩
                      · obtain rfl := Option.some.inj ho
                        have v6 : v.getD 6 false = true := open_waits hop (by kernel_rfl)
                        obtain ⟨hF, g6, c6, e6, hr6⟩ := HI.out.m hni v6
                        subst hA
                        simp only [frT, List.setIfInBounds_toArray, List.set_cons_succ, List.set_cons_zero]
                        simp only [e6]
                        go_wp2
                        exact ⟨updL y 7 (.slice (some ⟨g6, 0, none⟩) 3 c6), by simp [updL, e6], HI.out.lst hv hni v6 (fun _ => ⟨hF, g6, c6, rfl, hr6⟩)⟩
                      · cases ho
                    case fin =>
                      intro v a' w' hv hall hI
                      obtain ⟨y, rfl, HI⟩ := hI
                      obtain ⟨hF, g6, c6, e7, hr6⟩ := HI.out.fin hv hall
                      subst hA
                      simp only [frT, List.setIfInBounds_toArray, List.set_cons_succ, List.set_cons_zero, e7]
                      go_wp2_with fail
                      go_meet
                      exact ⟨g6, c6, rfl, ⟨hF.t, hF.k, HJ.out.s0, HJ.out.s1, HJ.out.s2, HJ.out.s3, Nat.le_trans HJ.out.s4 hF.s4, hF.s5⟩, hr6⟩
                  case rest =>
                    obtain ⟨g1, c1, rfl, HR1⟩ := hcut
                    clear HJ q
                    go_wp2_with (first
                      | (go_at_call 19; refine (CC.out ([hk j] ++ [⟨kd, c, ct, me, sh, ⟨#[255]⟩⟩, kz]) 3 _ _ _ rfl (by omega) OKS.out HR1.out.1.t.bel HR1.out.2).mono ?_; rintro e w7 ⟨v7, rfl, H7⟩)
                      | (go_at_call 23; refine (CR.out ([hk j] ++ [⟨kd, c, ct, me, sh, ⟨#[255]⟩⟩, kz]) 3 _ _ _ rfl (by omega) OKS.out (HR1.out.2.below (Nat.le_refl _) H7.out.2)).mono ?_; rintro e w8 ⟨v8, rfl, H8⟩)
                      | (go_at_call 22; refine (CS.out ([hk j] ++ [⟨kd, c, ct, me, sh, ⟨#[255]⟩⟩, kz]) _ _ _ _ _ (by simp) (row_kept H7.out.1 H8.out.2) H8.out.1).mono ?_; rintro e w9 ⟨rfl, hb9⟩))
                    exact ⟨⟨j + 1, by go_num, by omega, ((HR1.out.1.below H7.out.2).below H8.out.2).below hb9⟩, by simp [intOf]; omega⟩
              · have hjg : ¬ ((j : Int) < 6) := by omega
                go_wp2
                exact ⟨⟨c + 1, by go_num, by omega, HJ.out.t⟩, by simp [intOf]; omega⟩
          · have hcg : ¬ ((c : Int) ≤ 1) := by omega
            go_wp2
            exact ⟨⟨kd + 1, by go_num, by omega, HC⟩, by simp [intOf]; omega⟩
      · have e1 : ((kd : Int) == 1) = false := by simp; omega
        have e2 : ((kd : Int) == 2) = false := by simp; omega
        have e4 : ((kd : Int) == 4) = false := by simp; omega
        have e17 : (17 : Int) ≤ kd := by omega
        clear hkc
        go_upto_region 11 with (fail)
        go_loopw [6] (fun t6 ws => ∃ c : Nat, t6 = .int .i32 c ∧ c ≤ 2 ∧ Hid (Th w gh G ws)) (fun t6 _ => 2 - (intOf t6).toNat)
        case atStart => exact ⟨0, rfl, Nat.zero_le _, HL⟩
        case round =>
          clear HL
          obtain ⟨c, rfl, hc, HC⟩ := hrel
          by_cases hcl : c ≤ 1
          · have hcl' : (c : Int) ≤ 1 := by omega
            go_upto_region 14 with (fail)
            generalize (bits BinOp.and IntKind.u8 mods 1 != 0) = ct
            generalize (bits BinOp.and IntKind.u8 mods 2 != 0) = me
            generalize (bits BinOp.and IntKind.u8 mods 4 != 0) = sh
            have HK0 : Hid (Tk w gh G wr.heap.size ⟨kd, c, ct, me, sh, ⟨#[]⟩⟩ (wr.heap.size + 1) (wr.alloc (.cells #[.int .i64 kd, .int .i32 c, .bool ct, .bool me, .bool sh, .string ⟨#[]⟩] 30))) := HC.out.tk ⟨kd, c, ct, me, sh, ⟨#[]⟩⟩
            have HGN : Hid (∀ j, 1 ≤ j → j < 6 → G j ≠ wr.heap.size) := fun j h1 h2 e => by have := (Array.getElem?_eq_some_iff.1 (HC.out.hs j h1 h2)).1; omega
            obtain ⟨kb, hkb⟩ : ∃ q, wr.heap.size = q := ⟨_, rfl⟩
            rw [hkb] at HK0 HGN ⊢
            generalize wr.alloc (.cells #[.int .i64 kd, .int .i32 c, .bool ct, .bool me, .bool sh, .string ⟨#[]⟩] 30) = V0 at HK0 ⊢
            clear hkb HC
            have KO : Hid (Ky.Ok ⟨kd, c, ct, me, sh, ⟨#[255]⟩⟩) := ⟨by simp only; omega, by simp only; omega, by simp only; omega, by simp only; omega, by show 1 ≤ _; omega⟩
            obtain ⟨k0, k1, k2, k3, k4, k5, -⟩ := box6 HK0.out.k
            have fz : V0.frozen? ⟨kb, 5, none⟩ = false := by simp [World.frozen?, HK0.out.k]
            go_upto_region 17 with (fail)
            have HK : Hid (Tk w gh G kb ⟨kd, c, ct, me, sh, ⟨#[255]⟩⟩ (kb + 1) (V0.setCell ⟨kb, 5, none⟩ (.string ⟨#[255]⟩))) := HK0.out.set5 HGN.out ⟨#[255]⟩
            generalize V0.setCell ⟨kb, 5, none⟩ (.string ⟨#[255]⟩) = V1 at HK ⊢
            clear HK0 HGN k0 k1 k2 k3 k4 k5 fz
            go_loopw [60] (fun t60 wx => ∃ j : Nat, t60 = .int .i64 j ∧ j ≤ 6 ∧ Hid (Tk w gh G kb ⟨kd, c, ct, me, sh, ⟨#[255]⟩⟩ (kb + 1) wx)) (fun t60 _ => 6 - (intOf t60).toNat)
            case atStart => exact ⟨0, rfl, by decide, HK⟩
            case round =>
              have HL0 := HK
              clear HK
              obtain ⟨j, rfl, hj6, HJ⟩ := hrel
              by_cases hj : j < 6
              · have hj' : (j : Int) < 6 := by omega
                by_cases j0 : j = 0
                · have q : wr.cell? ⟨gh, j, none⟩ = some (.slice none 0 0) := by rw [j0]; exact HJ.out.t.at0
                  have OKS : Hid (∀ k ∈ ([] : List Ky) ++ [⟨kd, c, ct, me, sh, ⟨#[255]⟩⟩, kz], k.Ok) := fun k hk => by
                    simp only [List.nil_append, List.mem_cons, List.not_mem_nil, or_false] at hk
                    rcases hk with rfl | rfl
                    · exact KO.out
                    · exact kz_ok
                  clear j0
                  go_upto_region 19 with (fail)
                  go_cut [10] from 64 to 70 (fun v10 wx => ∃ g1 c1, v10 = .slice (some ⟨g1, 0, none⟩) 2 c1 ∧ Hid (Tk w gh G kb ⟨kd, c, ct, me, sh, ⟨#[255]⟩⟩ (kb + 1) wx ∧ RdKy wx (.slice (some ⟨g1, 0, none⟩) 2 c1) ([] ++ [⟨kd, c, ct, me, sh, ⟨#[255]⟩⟩, kz])))
                  case first =>
                    refine nameL fun A hA => ?_
                    refine region_inv HM.out (by kernel_rfl) (fun v a' w' => ∃ y : Nat → Value, a' = ⟨frT A.tmps y, []⟩ ∧ Hid (Dt (Tk w gh G kb ⟨kd, c, ct, me, sh, ⟨#[255]⟩⟩ wr.heap.size) (PT wr.heap.size (.slice none 0 0) ([]) ⟨kd, c, ct, me, sh, ⟨#[255]⟩⟩) (LT w gh G kb ⟨kd, c, ct, me, sh, ⟨#[255]⟩⟩ wr.heap.size ([]) 6) (LT w gh G kb ⟨kd, c, ct, me, sh, ⟨#[255]⟩⟩ wr.heap.size ([]) 7) v y w')) ?start ?step ?fin
                    case start =>
                      refine ⟨fun i => A.tmps.getD (([64, 65, 66, 67, 68, 69, 70, 10] : List Nat).getD i 0) undef, ?_, dt0 (HJ.out.raise.below (Below.refl _ _).drew)⟩
                      subst hA
                      simp [frT]
                    case step =>
                      intro i o v a' w' ho hv hni hop hI
                      obtain ⟨y, rfl, HI⟩ := hI
                      have hv : v.length = 8 := hv
                      have hsz := HJ.out.t.bel.size
                      clear HL0
                      rcases i with _ | _ | _ | _ | _ | _ | _ | _ | i
                      · obtain rfl := Option.some.inj ho
                        have hF := (HI.out.a (HI.out.no (by decide) hni)).1
                        subst hA
                        simp only [frT, List.setIfInBounds_toArray, List.set_cons_succ, List.set_cons_zero]
                        go_wp2
                        have hb2 : ∀ o, Below w'.heap.size w' (w'.alloc o) := fun o => (Below.refl _ w').alloc (Nat.le_refl _) o
                        exact ⟨updL y 0 (.slice (some ⟨w'.heap.size, 0, none⟩) 0 0), by simp [updL], HI.out.set (by decide) (by decide) (fun e => by cases e) hni (hF.below (hb2 _)) (PT.below (hb2 _)) (fun d => ⟨_, rfl, hF.s4, fun _ => World.ownsRow_lit (base := wr.heap.size) (e := 30) (size := 6) w' #[] 0 hF.s4 (by unfold maxLen; omega) rfl⟩)⟩
                      · obtain rfl := Option.some.inj ho
                        have hF := (HI.out.a (HI.out.no (by decide) hni)).1
                        subst hA
                        simp only [frT, List.setIfInBounds_toArray, List.set_cons_succ, List.set_cons_zero]
                        go_wp2
                        exact ⟨updL y 1 (.slice none 0 0), by simp [updL], HI.out.set (by decide) (by decide) (fun e => by cases e) hni hF (fun _ _ _ h => h) (fun d => rfl)⟩
                      · obtain rfl := Option.some.inj ho
                        obtain ⟨hF, hP⟩ := HI.out.a (HI.out.no (by decide) hni)
                        have v0 : v.getD 0 false = true := open_waits hop (by kernel_rfl)
                        have v1 : v.getD 1 false = true := open_waits hop (by kernel_rfl)
                        obtain ⟨b0, e0, hb0, hr0⟩ := hP 0 v0
                        have e1 : y 1 = _ := hP 1 v1
                        have hr := hr0 (dgl_no hni)
                        rw [e0] at hr
                        clear hP hr0
                        subst hA
                        simp only [frT, List.setIfInBounds_toArray, List.set_cons_succ, List.set_cons_zero]
                        simp only [e0, e1]
                        go_wp2_with (at_builtin; refine wpList_append_own_none rfl _ _ 22 rfl wr.heap.size 30 i0 6 Tryd.underlying22 hi (.slice (some ⟨b0, 0, none⟩) 0 0) 0 _ rfl hr rfl ?_)
                        exact ⟨updL y 2 (.slice (some ⟨b0, 0, none⟩) 0 0), by simp [updL, e0, e1, Act.put], HI.out.set2 hv v0 v1 hni hF PT.nil hr⟩
                      · obtain rfl := Option.some.inj ho
                        have hF := (HI.out.a (HI.out.no (by decide) hni)).1
                        obtain ⟨z0, z1, z2, z3, z4, z5, -⟩ := box6 hF.k
                        subst hA
                        simp only [frT, List.setIfInBounds_toArray, List.set_cons_succ, List.set_cons_zero]
                        go_wp2
                        exact ⟨updL y 3 (kyv ⟨kd, c, ct, me, sh, ⟨#[255]⟩⟩), by simp [updL, kyv], HI.out.set (by decide) (by decide) (fun e => by cases e) hni hF (fun _ _ _ h => h) (fun d => rfl)⟩
                      · obtain rfl := Option.some.inj ho
                        have hF := (HI.out.a (HI.out.no (by decide) hni)).1
                        subst hA
                        simp only [frT, List.setIfInBounds_toArray, List.set_cons_succ, List.set_cons_zero]
                        go_wp2_with (go_at_call 25; refine (CH.out _ _ _).mono ?_; rintro e w5 ⟨rfl, hb5⟩)
                        exact ⟨updL y 4 (kyv kz), by simp [updL, kyv, kz], HI.out.set (by decide) (by decide) (fun e => by cases e) hni (hF.below hb5) (PT.below hb5) (fun d => rfl)⟩
                      · obtain rfl := Option.some.inj ho
                        obtain ⟨hF, hP⟩ := HI.out.a (HI.out.no (by decide) hni)
                        have v3 : v.getD 3 false = true := open_waits hop (by kernel_rfl)
                        have v4 : v.getD 4 false = true := open_waits hop (by kernel_rfl)
                        have e3 : y 3 = _ := hP 3 v3
                        have e4 : y 4 = _ := hP 4 v4
                        clear hP
                        unfold kyv at e3 e4
                        unfold kz at e4
                        subst hA
                        simp only [frT, List.setIfInBounds_toArray, List.set_cons_succ, List.set_cons_zero]
                        simp only [e3, e4]
                        go_wp2
                        have hb2 : ∀ o, Below w'.heap.size w' (w'.alloc o) := fun o => (Below.refl _ w').alloc (Nat.le_refl _) o
                        exact ⟨updL y 5 (.slice (some ⟨w'.heap.size, 0, none⟩) 2 2), by simp [updL, e3, e4], HI.out.set (by decide) (by decide) (fun _ => ⟨v3, v4⟩) hni (hF.below (hb2 _)) (PT.below (hb2 _)) (fun d => ⟨_, rfl, World.alloc_heap_new _ _⟩)⟩
                      · obtain rfl := Option.some.inj ho
                        obtain ⟨hF, hP⟩ := HI.out.a (dgl_no hni)
                        have v2 : v.getD 2 false = true := open_waits hop (by kernel_rfl)
                        have v5 : v.getD 5 false = true := open_waits hop (by kernel_rfl)
                        have p2 := hP 2 v2
                        have p5 := hP 5 v5
                        obtain ⟨b5, e5, h5⟩ := p5
                        have p2 : w'.ownsRow wr.heap.size 30 6 (y 2) 0 (kyl ([])) := p2
                        clear hP
                        obtain ⟨Y2, hY2⟩ : ∃ q, y 2 = q := ⟨_, rfl⟩
                        rw [hY2] at p2
                        subst hA
                        simp only [frT, List.setIfInBounds_toArray, List.set_cons_succ, List.set_cons_zero]
                        simp only [e5, hY2]
                        go_wp2_with (at_builtin; refine wpList_append_own_at _ rfl _ _ 22 rfl wr.heap.size 30 i0 _ 6 32 Tryd.underlying22 hi hz0 hz1 hz2 rfl (by decide) _ _ _ rfl p2 ⟨b5, 0, none⟩ 2 2 [.int .i64 kd, .int .i32 c, .bool ct, .bool me, .bool sh, .string ⟨#[255]⟩, .int .i64 1, .int .i32 122, .bool false, .bool false, .bool false, .string ⟨#[]⟩] rfl rfl (World.news_of_block h5) (by simp [Value.oneCell']) (by unfold maxLen; omega) (by omega) hF.s4 ?_; intro v6 w6 hown hgrow _ _)
                        obtain ⟨g6, c6, rfl, hc6⟩ := row_some hown (by omega)
                        have hrow : w6.ownsRow wr.heap.size 30 6 (.slice (some ⟨g6, 0, none⟩) 2 c6) 2 (kyl ([] ++ [⟨kd, c, ct, me, sh, ⟨#[255]⟩⟩, kz])) := by rw [kyl_app]; exact hown
                        exact ⟨updL y 6 (.slice (some ⟨g6, 0, none⟩) 2 c6), by simp [updL, e5, hY2, Act.put], HI.out.mid hv hni v2 v5 (fun _ _ _ => ⟨hF.grown hgrow (fun b e => (p2.lt b e).1), g6, c6, rfl, rdky_row hrow rfl⟩)⟩
                      · obtain rfl := Option.some.inj ho
                        have v6 : v.getD 6 false = true := open_waits hop (by kernel_rfl)
                        obtain ⟨hF, g6, c6, e6, hr6⟩ := HI.out.m hni v6
                        subst hA
                        simp only [frT, List.setIfInBounds_toArray, List.set_cons_succ, List.set_cons_zero]
                        simp only [e6]
                        go_wp2
                        exact ⟨updL y 7 (.slice (some ⟨g6, 0, none⟩) 2 c6), by simp [updL, e6], HI.out.lst hv hni v6 (fun _ => ⟨hF, g6, c6, rfl, hr6⟩)⟩
                      · cases ho
                    case fin =>
                      intro v a' w' hv hall hI
                      obtain ⟨y, rfl, HI⟩ := hI
                      obtain ⟨hF, g6, c6, e7, hr6⟩ := HI.out.fin hv hall
                      subst hA
                      simp only [frT, List.setIfInBounds_toArray, List.set_cons_succ, List.set_cons_zero, e7]
                      go_wp2_with fail
                      go_meet
                      exact ⟨g6, c6, rfl, ⟨hF.t, hF.k, HJ.out.s0, HJ.out.s1, HJ.out.s2, HJ.out.s3, Nat.le_trans HJ.out.s4 hF.s4, hF.s5⟩, hr6⟩
                  case rest =>
                    obtain ⟨g1, c1, rfl, HR1⟩ := hcut
                    clear HJ q
                    go_wp2_with (first
                      | (go_at_call 19; refine (CC.out ([] ++ [⟨kd, c, ct, me, sh, ⟨#[255]⟩⟩, kz]) 2 _ _ _ rfl (by omega) OKS.out HR1.out.1.t.bel HR1.out.2).mono ?_; rintro e w7 ⟨v7, rfl, H7⟩)
                      | (go_at_call 23; refine (CR.out ([] ++ [⟨kd, c, ct, me, sh, ⟨#[255]⟩⟩, kz]) 2 _ _ _ rfl (by omega) OKS.out (HR1.out.2.below (Nat.le_refl _) H7.out.2)).mono ?_; rintro e w8 ⟨v8, rfl, H8⟩)
                      | (go_at_call 22; refine (CS.out ([] ++ [⟨kd, c, ct, me, sh, ⟨#[255]⟩⟩, kz]) _ _ _ _ _ (by simp) (row_kept H7.out.1 H8.out.2) H8.out.1).mono ?_; rintro e w9 ⟨rfl, hb9⟩))
                    exact ⟨⟨j + 1, by go_num, by omega, ((HR1.out.1.below H7.out.2).below H8.out.2).below hb9⟩, by simp [intOf]; omega⟩
                · have q : wr.cell? ⟨gh, j, none⟩ = some (.slice (some ⟨G j, 0, none⟩) 1 1) := HJ.out.t.at (by omega) hj
                  have HN : Hid (∀ W, Tk w gh G kb ⟨kd, c, ct, me, sh, ⟨#[255]⟩⟩ wr.heap.size W → W.heap[G j]? = some (.cells (kyc (hk j)) 30 (0, 0))) := fun W hW => hW.t.hs j (by omega) hj
                  have OKS : Hid (∀ k ∈ [hk j] ++ [⟨kd, c, ct, me, sh, ⟨#[255]⟩⟩, kz], k.Ok) := fun k hk => by
                    simp only [List.cons_append, List.nil_append, List.mem_cons, List.not_mem_nil, or_false] at hk
                    rcases hk with rfl | rfl | rfl
                    · exact hk_ok j
                    · exact KO.out
                    · exact kz_ok
                  clear j0
                  go_upto_region 19 with (fail)
                  go_cut [10] from 64 to 70 (fun v10 wx => ∃ g1 c1, v10 = .slice (some ⟨g1, 0, none⟩) 3 c1 ∧ Hid (Tk w gh G kb ⟨kd, c, ct, me, sh, ⟨#[255]⟩⟩ (kb + 1) wx ∧ RdKy wx (.slice (some ⟨g1, 0, none⟩) 3 c1) ([hk j] ++ [⟨kd, c, ct, me, sh, ⟨#[255]⟩⟩, kz])))
                  case first =>
                    refine nameL fun A hA => ?_
                    refine region_inv HM.out (by kernel_rfl) (fun v a' w' => ∃ y : Nat → Value, a' = ⟨frT A.tmps y, []⟩ ∧ Hid (Dt (Tk w gh G kb ⟨kd, c, ct, me, sh, ⟨#[255]⟩⟩ wr.heap.size) (PT wr.heap.size (.slice (some ⟨G j, 0, none⟩) 1 1) ([hk j]) ⟨kd, c, ct, me, sh, ⟨#[255]⟩⟩) (LT w gh G kb ⟨kd, c, ct, me, sh, ⟨#[255]⟩⟩ wr.heap.size ([hk j]) 6) (LT w gh G kb ⟨kd, c, ct, me, sh, ⟨#[255]⟩⟩ wr.heap.size ([hk j]) 7) v y w')) ?start ?step ?fin
                    case start =>
                      refine ⟨fun i => A.tmps.getD (([64, 65, 66, 67, 68, 69, 70, 10] : List Nat).getD i 0) undef, ?_, dt0 (HJ.out.raise.below (Below.refl _ _).drew)⟩
                      subst hA
                      simp [frT]
                    case step =>
                      intro i o v a' w' ho hv hni hop hI
                      obtain ⟨y, rfl, HI⟩ := hI
                      have hv : v.length = 8 := hv
                      have hsz := HJ.out.t.bel.size
                      clear HL0
                      rcases i with _ | _ | _ | _ | _ | _ | _ | _ | i
                      · obtain rfl := Option.some.inj ho
                        have hF := (HI.out.a (HI.out.no (by decide) hni)).1
                        subst hA
                        simp only [frT, List.setIfInBounds_toArray, List.set_cons_succ, List.set_cons_zero]
                        go_wp2
                        have hb2 : ∀ o, Below w'.heap.size w' (w'.alloc o) := fun o => (Below.refl _ w').alloc (Nat.le_refl _) o
                        exact ⟨updL y 0 (.slice (some ⟨w'.heap.size, 0, none⟩) 0 0), by simp [updL], HI.out.set (by decide) (by decide) (fun e => by cases e) hni (hF.below (hb2 _)) (PT.below (hb2 _)) (fun d => ⟨_, rfl, hF.s4, fun _ => World.ownsRow_lit (base := wr.heap.size) (e := 30) (size := 6) w' #[] 0 hF.s4 (by unfold maxLen; omega) rfl⟩)⟩
                      · obtain rfl := Option.some.inj ho
                        have hF := (HI.out.a (HI.out.no (by decide) hni)).1
                        subst hA
                        simp only [frT, List.setIfInBounds_toArray, List.set_cons_succ, List.set_cons_zero]
                        go_wp2
                        exact ⟨updL y 1 (.slice (some ⟨G j, 0, none⟩) 1 1), by simp [updL], HI.out.set (by decide) (by decide) (fun e => by cases e) hni hF (fun _ _ _ h => h) (fun d => rfl)⟩
                      · obtain rfl := Option.some.inj ho
                        obtain ⟨hF, hP⟩ := HI.out.a (HI.out.no (by decide) hni)
                        have v0 : v.getD 0 false = true := open_waits hop (by kernel_rfl)
                        have v1 : v.getD 1 false = true := open_waits hop (by kernel_rfl)
                        obtain ⟨b0, e0, hb0, hr0⟩ := hP 0 v0
                        have e1 : y 1 = _ := hP 1 v1
                        have hr := hr0 (dgl_no hni)
                        rw [e0] at hr
                        clear hP hr0
                        subst hA
                        simp only [frT, List.setIfInBounds_toArray, List.set_cons_succ, List.set_cons_zero]
                        simp only [e0, e1]
                        have hgj := HN.out _ hF
                        go_wp2_with (at_builtin; refine wpList_append_own_at _ rfl _ _ 22 rfl wr.heap.size 30 i0 _ 6 32 Tryd.underlying22 hi hz0 hz1 hz2 rfl (by decide) _ _ _ rfl hr ⟨G j, 0, none⟩ 1 1 [.int .i64 (hk j).kd, .int .i32 (hk j).ch, .bool (hk j).ct, .bool (hk j).me, .bool (hk j).sh, .string (hk j).tx] rfl rfl (World.news_of_block hgj) (by simp [Value.oneCell']) (by unfold maxLen; omega) (by omega) hF.s4 ?_; intro v2 w2 hown hgrow _ _)
                        exact ⟨updL y 2 v2, by simp [updL, e0, e1, Act.put], HI.out.set2 hv v0 v1 hni (hF.grown hgrow (fun b e => by cases e; exact hb0)) (PT.own hr hgrow) hown⟩
                      · obtain rfl := Option.some.inj ho
                        have hF := (HI.out.a (HI.out.no (by decide) hni)).1
                        obtain ⟨z0, z1, z2, z3, z4, z5, -⟩ := box6 hF.k
                        subst hA
                        simp only [frT, List.setIfInBounds_toArray, List.set_cons_succ, List.set_cons_zero]
                        go_wp2
                        exact ⟨updL y 3 (kyv ⟨kd, c, ct, me, sh, ⟨#[255]⟩⟩), by simp [updL, kyv], HI.out.set (by decide) (by decide) (fun e => by cases e) hni hF (fun _ _ _ h => h) (fun d => rfl)⟩
                      · obtain rfl := Option.some.inj ho
                        have hF := (HI.out.a (HI.out.no (by decide) hni)).1
                        subst hA
                        simp only [frT, List.setIfInBounds_toArray, List.set_cons_succ, List.set_cons_zero]
                        go_wp2_with (go_at_call 25; refine (CH.out _ _ _).mono ?_; rintro e w5 ⟨rfl, hb5⟩)
                        exact ⟨updL y 4 (kyv kz), by simp [updL, kyv, kz], HI.out.set (by decide) (by decide) (fun e => by cases e) hni (hF.below hb5) (PT.below hb5) (fun d => rfl)⟩
                      · obtain rfl := Option.some.inj ho
                        obtain ⟨hF, hP⟩ := HI.out.a (HI.out.no (by decide) hni)
                        have v3 : v.getD 3 false = true := open_waits hop (by kernel_rfl)
                        have v4 : v.getD 4 false = true := open_waits hop (by kernel_rfl)
                        have e3 : y 3 = _ := hP 3 v3
                        have e4 : y 4 = _ := hP 4 v4
                        clear hP
                        unfold kyv at e3 e4
                        unfold kz at e4
                        subst hA
                        simp only [frT, List.setIfInBounds_toArray, List.set_cons_succ, List.set_cons_zero]
                        simp only [e3, e4]
                        go_wp2
                        have hb2 : ∀ o, Below w'.heap.size w' (w'.alloc o) := fun o => (Below.refl _ w').alloc (Nat.le_refl _) o
                        exact ⟨updL y 5 (.slice (some ⟨w'.heap.size, 0, none⟩) 2 2), by simp [updL, e3, e4], HI.out.set (by decide) (by decide) (fun _ => ⟨v3, v4⟩) hni (hF.below (hb2 _)) (PT.below (hb2 _)) (fun d => ⟨_, rfl, World.alloc_heap_new _ _⟩)⟩
                      · obtain rfl := Option.some.inj ho
                        obtain ⟨hF, hP⟩ := HI.out.a (dgl_no hni)
                        have v2 : v.getD 2 false = true := open_waits hop (by kernel_rfl)
                        have v5 : v.getD 5 false = true := open_waits hop (by kernel_rfl)
                        have p2 := hP 2 v2
                        have p5 := hP 5 v5
                        obtain ⟨b5, e5, h5⟩ := p5
                        have p2 : w'.ownsRow wr.heap.size 30 6 (y 2) 1 (kyl ([hk j])) := p2
                        clear hP
                        obtain ⟨Y2, hY2⟩ : ∃ q, y 2 = q := ⟨_, rfl⟩
                        rw [hY2] at p2
                        subst hA
                        simp only [frT, List.setIfInBounds_toArray, List.set_cons_succ, List.set_cons_zero]
                        simp only [e5, hY2]
                        go_wp2_with (at_builtin; refine wpList_append_own_at _ rfl _ _ 22 rfl wr.heap.size 30 i0 _ 6 32 Tryd.underlying22 hi hz0 hz1 hz2 rfl (by decide) _ _ _ rfl p2 ⟨b5, 0, none⟩ 2 2 [.int .i64 kd, .int .i32 c, .bool ct, .bool me, .bool sh, .string ⟨#[255]⟩, .int .i64 1, .int .i32 122, .bool false, .bool false, .bool false, .string ⟨#[]⟩] rfl rfl (World.news_of_block h5) (by simp [Value.oneCell']) (by unfold maxLen; omega) (by omega) hF.s4 ?_; intro v6 w6 hown hgrow _ _)
                        obtain ⟨g6, c6, rfl, hc6⟩ := row_some hown (by omega)
                        have hrow : w6.ownsRow wr.heap.size 30 6 (.slice (some ⟨g6, 0, none⟩) 3 c6) 3 (kyl ([hk j] ++ [⟨kd, c, ct, me, sh, ⟨#[255]⟩⟩, kz])) := by rw [kyl_app]; exact hown
                        exact ⟨updL y 6 (.slice (some ⟨g6, 0, none⟩) 3 c6), by simp [updL, e5, hY2, Act.put], HI.out.mid hv hni v2 v5 (fun _ _ _ => ⟨hF.grown hgrow (fun b e => (p2.lt b e).1), g6, c6, rfl, rdky_row hrow rfl⟩)⟩
                      · obtain rfl := Option.some.inj ho
                        have v6 : v.getD 6 false = true := open_waits hop (by kernel_rfl)
                        obtain ⟨hF, g6, c6, e6, hr6⟩ := HI.out.m hni v6
                        subst hA
                        simp only [frT, List.setIfInBounds_toArray, List.set_cons_succ, List.set_cons_zero]
                        simp only [e6]
                        go_wp2
                        exact ⟨updL y 7 (.slice (some ⟨g6, 0, none⟩) 3 c6), by simp [updL, e6], HI.out.lst hv hni v6 (fun _ => ⟨hF, g6, c6, rfl, hr6⟩)⟩
                      · cases ho
                    case fin =>
                      intro v a' w' hv hall hI
                      obtain ⟨y, rfl, HI⟩ := hI
                      obtain ⟨hF, g6, c6, e7, hr6⟩ := HI.out.fin hv hall
                      subst hA
                      simp only [frT, List.setIfInBounds_toArray, List.set_cons_succ, List.set_cons_zero, e7]
                      go_wp2_with fail
                      go_meet
                      exact ⟨g6, c6, rfl, ⟨hF.t, hF.k, HJ.out.s0, HJ.out.s1, HJ.out.s2, HJ.out.s3, Nat.le_trans HJ.out.s4 hF.s4, hF.s5⟩, hr6⟩
                  case rest =>
                    obtain ⟨g1, c1, rfl, HR1⟩ := hcut
                    clear HJ q
                    go_wp2_with (first
                      | (go_at_call 19; refine (CC.out ([hk j] ++ [⟨kd, c, ct, me, sh, ⟨#[255]⟩⟩, kz]) 3 _ _ _ rfl (by omega) OKS.out HR1.out.1.t.bel HR1.out.2).mono ?_; rintro e w7 ⟨v7, rfl, H7⟩)
                      | (go_at_call 23; refine (CR.out ([hk j] ++ [⟨kd, c, ct, me, sh, ⟨#[255]⟩⟩, kz]) 3 _ _ _ rfl (by omega) OKS.out (HR1.out.2.below (Nat.le_refl _) H7.out.2)).mono ?_; rintro e w8 ⟨v8, rfl, H8⟩)
                      | (go_at_call 22; refine (CS.out ([hk j] ++ [⟨kd, c, ct, me, sh, ⟨#[255]⟩⟩, kz]) _ _ _ _ _ (by simp) (row_kept H7.out.1 H8.out.2) H8.out.1).mono ?_; rintro e w9 ⟨rfl, hb9⟩))
                    exact ⟨⟨j + 1, by go_num, by omega, ((HR1.out.1.below H7.out.2).below H8.out.2).below hb9⟩, by simp [intOf]; omega⟩
              · have hjg : ¬ ((j : Int) < 6) := by omega
                go_wp2
                exact ⟨⟨c + 1, by go_num, by omega, HJ.out.t⟩, by simp [intOf]; omega⟩
          · have hcg : ¬ ((c : Int) ≤ 1) := by omega
            go_wp2
            exact ⟨⟨kd + 1, by go_num, by omega, HC⟩, by simp [intOf]; omega⟩
      · have e1 : ((kd : Int) == 1) = false := by simp; omega
        have e2 : ((kd : Int) == 2) = false := by simp; omega
        have e4 : ((kd : Int) == 4) = false := by simp; omega
        have e17 : ¬ (17 : Int) ≤ kd := by omega
        clear hkc
        go_upto_region 11 with (fail)
        go_loopw [6] (fun t6 ws => ∃ c : Nat, t6 = .int .i32 c ∧ c ≤ 2 ∧ Hid (Th w gh G ws)) (fun t6 _ => 2 - (intOf t6).toNat)
        case atStart => exact ⟨0, rfl, Nat.zero_le _, HL⟩
        case round =>
          clear HL
          obtain ⟨c, rfl, hc, HC⟩ := hrel
          by_cases hcl : c ≤ 1
          · have hcl' : (c : Int) ≤ 1 := by omega
            go_upto_region 14 with (fail)
            generalize (bits BinOp.and IntKind.u8 mods 1 != 0) = ct
            generalize (bits BinOp.and IntKind.u8 mods 2 != 0) = me
            generalize (bits BinOp.and IntKind.u8 mods 4 != 0) = sh
            have HK0 : Hid (Tk w gh G wr.heap.size ⟨kd, c, ct, me, sh, ⟨#[]⟩⟩ (wr.heap.size + 1) (wr.alloc (.cells #[.int .i64 kd, .int .i32 c, .bool ct, .bool me, .bool sh, .string ⟨#[]⟩] 30))) := HC.out.tk ⟨kd, c, ct, me, sh, ⟨#[]⟩⟩
            have HGN : Hid (∀ j, 1 ≤ j → j < 6 → G j ≠ wr.heap.size) := fun j h1 h2 e => by have := (Array.getElem?_eq_some_iff.1 (HC.out.hs j h1 h2)).1; omega
            obtain ⟨kb, hkb⟩ : ∃ q, wr.heap.size = q := ⟨_, rfl⟩
            rw [hkb] at HK0 HGN ⊢
            generalize wr.alloc (.cells #[.int .i64 kd, .int .i32 c, .bool ct, .bool me, .bool sh, .string ⟨#[]⟩] 30) = V0 at HK0 ⊢
            clear hkb HC
            have KO : Hid (Ky.Ok ⟨kd, c, ct, me, sh, ⟨#[]⟩⟩) := ⟨by simp only; omega, by simp only; omega, by simp only; omega, by simp only; omega, by show 0 ≤ _; omega⟩
            go_upto_region 17 with (fail)
            have HK := HK0
            clear HK0 HGN
            go_loopw [60] (fun t60 wx => ∃ j : Nat, t60 = .int .i64 j ∧ j ≤ 6 ∧ Hid (Tk w gh G kb ⟨kd, c, ct, me, sh, ⟨#[]⟩⟩ (kb + 1) wx)) (fun t60 _ => 6 - (intOf t60).toNat)
            case atStart => exact ⟨0, rfl, by decide, HK⟩
            case round =>
              have HL0 := HK
              clear HK
              obtain ⟨j, rfl, hj6, HJ⟩ := hrel
              by_cases hj : j < 6
              · have hj' : (j : Int) < 6 := by omega
                by_cases j0 : j = 0
                · have q : wr.cell? ⟨gh, j, none⟩ = some (.slice none 0 0) := by rw [j0]; exact HJ.out.t.at0
                  have OKS : Hid (∀ k ∈ ([] : List Ky) ++ [⟨kd, c, ct, me, sh, ⟨#[]⟩⟩, kz], k.Ok) := fun k hk => by
                    simp only [List.nil_append, List.mem_cons, List.not_mem_nil, or_false] at hk
                    rcases hk with rfl | rfl
                    · exact KO.out
                    · exact kz_ok
                  clear j0
                  go_upto_region 19 with (fail)
                  go_cut [10] from 64 to 70 (fun v10 wx => ∃ g1 c1, v10 = .slice (some ⟨g1, 0, none⟩) 2 c1 ∧ Hid (Tk w gh G kb ⟨kd, c, ct, me, sh, ⟨#[]⟩⟩ (kb + 1) wx ∧ RdKy wx (.slice (some ⟨g1, 0, none⟩) 2 c1) ([] ++ [⟨kd, c, ct, me, sh, ⟨#[]⟩⟩, kz])))
                  case first =>
                    refine nameL fun A hA => ?_
                    refine region_inv HM.out (by kernel_rfl) (fun v a' w' => ∃ y : Nat → Value, a' = ⟨frT A.tmps y, []⟩ ∧ Hid (Dt (Tk w gh G kb ⟨kd, c, ct, me, sh, ⟨#[]⟩⟩ wr.heap.size) (PT wr.heap.size (.slice none 0 0) ([]) ⟨kd, c, ct, me, sh, ⟨#[]⟩⟩) (LT w gh G kb ⟨kd, c, ct, me, sh, ⟨#[]⟩⟩ wr.heap.size ([]) 6) (LT w gh G kb ⟨kd, c, ct, me, sh, ⟨#[]⟩⟩ wr.heap.size ([]) 7) v y w')) ?start ?step ?fin
                    case start =>
                      refine ⟨fun i => A.tmps.getD (([64, 65, 66, 67, 68, 69, 70, 10] : List Nat).getD i 0) undef, ?_, dt0 (HJ.out.raise.below (Below.refl _ _).drew)⟩
                      subst hA
                      simp [frT]
                    case step =>
                      intro i o v a' w' ho hv hni hop hI
                      obtain ⟨y, rfl, HI⟩ := hI
                      have hv : v.length = 8 := hv
                      have hsz := HJ.out.t.bel.size
                      clear HL0
                      rcases i with _ | _ | _ | _ | _ | _ | _ | _ | i
                      · obtain rfl := Option.some.inj ho
                        have hF := (HI.out.a (HI.out.no (by decide) hni)).1
                        subst hA
                        simp only [frT, List.setIfInBounds_toArray, List.set_cons_succ, List.set_cons_zero]
                        go_wp2
                        have hb2 : ∀ o, Below w'.heap.size w' (w'.alloc o) := fun o => (Below.refl _ w').alloc (Nat.le_refl _) o
                        exact ⟨updL y 0 (.slice (some ⟨w'.heap.size, 0, none⟩) 0 0), by simp [updL], HI.out.set (by decide) (by decide) (fun e => by cases e) hni (hF.below (hb2 _)) (PT.below (hb2 _)) (fun d => ⟨_, rfl, hF.s4, fun _ => World.ownsRow_lit (base := wr.heap.size) (e := 30) (size := 6) w' #[] 0 hF.s4 (by unfold maxLen; omega) rfl⟩)⟩
                      · obtain rfl := Option.some.inj ho
                        have hF := (HI.out.a (HI.out.no (by decide) hni)).1
                        subst hA
                        simp only [frT, List.setIfInBounds_toArray, List.set_cons_succ, List.set_cons_zero]
                        go_wp2
                        exact ⟨updL y 1 (.slice none 0 0), by simp [updL], HI.out.set (by decide) (by decide) (fun e => by cases e) hni hF (fun _ _ _ h => h) (fun d => rfl)⟩
                      · obtain rfl := Option.some.inj ho
                        obtain ⟨hF, hP⟩ := HI.out.a (HI.out.no (by decide) hni)
                        have v0 : v.getD 0 false = true := open_waits hop (by kernel_rfl)
                        have v1 : v.getD 1 false = true := open_waits hop (by kernel_rfl)
                        obtain ⟨b0, e0, hb0, hr0⟩ := hP 0 v0
                        have e1 : y 1 = _ := hP 1 v1
                        have hr := hr0 (dgl_no hni)
                        rw [e0] at hr
                        clear hP hr0
                        subst hA
                        simp only [frT, List.setIfInBounds_toArray, List.set_cons_succ, List.set_cons_zero]
                        simp only [e0, e1]
                        go_wp2_with (at_builtin; refine wpList_append_own_none rfl _ _ 22 rfl wr.heap.size 30 i0 6 Tryd.underlying22 hi (.slice (some ⟨b0, 0, none⟩) 0 0) 0 _ rfl hr rfl ?_)
                        exact ⟨updL y 2 (.slice (some ⟨b0, 0, none⟩) 0 0), by simp [updL, e0, e1, Act.put], HI.out.set2 hv v0 v1 hni hF PT.nil hr⟩
                      · obtain rfl := Option.some.inj ho
                        have hF := (HI.out.a (HI.out.no (by decide) hni)).1
                        obtain ⟨z0, z1, z2, z3, z4, z5, -⟩ := box6 hF.k
                        subst hA
                        simp only [frT, List.setIfInBounds_toArray, List.set_cons_succ, List.set_cons_zero]
                        go_wp2
                        exact ⟨updL y 3 (kyv ⟨kd, c, ct, me, sh, ⟨#[]⟩⟩), by simp [updL, kyv], HI.out.set (by decide) (by decide) (fun e => by cases e) hni hF (fun _ _ _ h => h) (fun d => rfl)⟩
                      · obtain rfl := Option.some.inj ho
                        have hF := (HI.out.a (HI.out.no (by decide) hni)).1
                        subst hA
                        simp only [frT, List.setIfInBounds_toArray, List.set_cons_succ, List.set_cons_zero]
                        go_wp2_with (go_at_call 25; refine (CH.out _ _ _).mono ?_; rintro e w5 ⟨rfl, hb5⟩)
                        exact ⟨updL y 4 (kyv kz), by simp [updL, kyv, kz], HI.out.set (by decide) (by decide) (fun e => by cases e) hni (hF.below hb5) (PT.below hb5) (fun d => rfl)⟩
                      · obtain rfl := Option.some.inj ho
                        obtain ⟨hF, hP⟩ := HI.out.a (HI.out.no (by decide) hni)
                        have v3 : v.getD 3 false = true := open_waits hop (by kernel_rfl)
                        have v4 : v.getD 4 false = true := open_waits hop (by kernel_rfl)
                        have e3 : y 3 = _ := hP 3 v3
                        have e4 : y 4 = _ := hP 4 v4
                        clear hP
                        unfold kyv at e3 e4
                        unfold kz at e4
                        subst hA
                        simp only [frT, List.setIfInBounds_toArray, List.set_cons_succ, List.set_cons_zero]
                        simp only [e3, e4]
                        go_wp2
                        have hb2 : ∀ o, Below w'.heap.size w' (w'.alloc o) := fun o => (Below.refl _ w').alloc (Nat.le_refl _) o
                        exact ⟨updL y 5 (.slice (some ⟨w'.heap.size, 0, none⟩) 2 2), by simp [updL, e3, e4], HI.out.set (by decide) (by decide) (fun _ => ⟨v3, v4⟩) hni (hF.below (hb2 _)) (PT.below (hb2 _)) (fun d => ⟨_, rfl, World.alloc_heap_new _ _⟩)⟩
                      · obtain rfl := Option.some.inj ho
                        obtain ⟨hF, hP⟩ := HI.out.a (dgl_no hni)
                        have v2 : v.getD 2 false = true := open_waits hop (by kernel_rfl)
                        have v5 : v.getD 5 false = true := open_waits hop (by kernel_rfl)
                        have p2 := hP 2 v2
                        have p5 := hP 5 v5
                        obtain ⟨b5, e5, h5⟩ := p5
                        have p2 : w'.ownsRow wr.heap.size 30 6 (y 2) 0 (kyl ([])) := p2
                        clear hP
                        obtain ⟨Y2, hY2⟩ : ∃ q, y 2 = q := ⟨_, rfl⟩
                        rw [hY2] at p2
                        subst hA
                        simp only [frT, List.setIfInBounds_toArray, List.set_cons_succ, List.set_cons_zero]
                        simp only [e5, hY2]
                        go_wp2_with (at_builtin; refine wpList_append_own_at _ rfl _ _ 22 rfl wr.heap.size 30 i0 _ 6 32 Tryd.underlying22 hi hz0 hz1 hz2 rfl (by decide) _ _ _ rfl p2 ⟨b5, 0, none⟩ 2 2 [.int .i64 kd, .int .i32 c, .bool ct, .bool me, .bool sh, .string ⟨#[]⟩, .int .i64 1, .int .i32 122, .bool false, .bool false, .bool false, .string ⟨#[]⟩] rfl rfl (World.news_of_block h5) (by simp [Value.oneCell']) (by unfold maxLen; omega) (by omega) hF.s4 ?_; intro v6 w6 hown hgrow _ _)
                        obtain ⟨g6, c6, rfl, hc6⟩ := row_some hown (by omega)
                        have hrow : w6.ownsRow wr.heap.size 30 6 (.slice (some ⟨g6, 0, none⟩) 2 c6) 2 (kyl ([] ++ [⟨kd, c, ct, me, sh, ⟨#[]⟩⟩, kz])) := by rw [kyl_app]; exact hown
                        exact ⟨updL y 6 (.slice (some ⟨g6, 0, none⟩) 2 c6), by simp [updL, e5, hY2, Act.put], HI.out.mid hv hni v2 v5 (fun _ _ _ => ⟨hF.grown hgrow (fun b e => (p2.lt b e).1), g6, c6, rfl, rdky_row hrow rfl⟩)⟩
                      · obtain rfl := Option.some.inj ho
                        have v6 : v.getD 6 false = true := open_waits hop (by kernel_rfl)
                        obtain ⟨hF, g6, c6, e6, hr6⟩ := HI.out.m hni v6
                        subst hA
                        simp only [frT, List.setIfInBounds_toArray, List.set_cons_succ, List.set_cons_zero]
                        simp only [e6]
                        go_wp2
                        exact ⟨updL y 7 (.slice (some ⟨g6, 0, none⟩) 2 c6), by simp [updL, e6], HI.out.lst hv hni v6 (fun _ => ⟨hF, g6, c6, rfl, hr6⟩)⟩
                      · cases ho
                    case fin =>
                      intro v a' w' hv hall hI
                      obtain ⟨y, rfl, HI⟩ := hI
                      obtain ⟨hF, g6, c6, e7, hr6⟩ := HI.out.fin hv hall
                      subst hA
                      simp only [frT, List.setIfInBounds_toArray, List.set_cons_succ, List.set_cons_zero, e7]
                      go_wp2_with fail
                      go_meet
                      exact ⟨g6, c6, rfl, ⟨hF.t, hF.k, HJ.out.s0, HJ.out.s1, HJ.out.s2, HJ.out.s3, Nat.le_trans HJ.out.s4 hF.s4, hF.s5⟩, hr6⟩
                  case rest =>
                    obtain ⟨g1, c1, rfl, HR1⟩ := hcut
                    clear HJ q
                    go_wp2_with (first
                      | (go_at_call 19; refine (CC.out ([] ++ [⟨kd, c, ct, me, sh, ⟨#[]⟩⟩, kz]) 2 _ _ _ rfl (by omega) OKS.out HR1.out.1.t.bel HR1.out.2).mono ?_; rintro e w7 ⟨v7, rfl, H7⟩)
                      | (go_at_call 23; refine (CR.out ([] ++ [⟨kd, c, ct, me, sh, ⟨#[]⟩⟩, kz]) 2 _ _ _ rfl (by omega) OKS.out (HR1.out.2.below (Nat.le_refl _) H7.out.2)).mono ?_; rintro e w8 ⟨v8, rfl, H8⟩)
                      | (go_at_call 22; refine (CS.out ([] ++ [⟨kd, c, ct, me, sh, ⟨#[]⟩⟩, kz]) _ _ _ _ _ (by simp) (row_kept H7.out.1 H8.out.2) H8.out.1).mono ?_; rintro e w9 ⟨rfl, hb9⟩))
                    exact ⟨⟨j + 1, by go_num, by omega, ((HR1.out.1.below H7.out.2).below H8.out.2).below hb9⟩, by simp [intOf]; omega⟩
                · have q : wr.cell? ⟨gh, j, none⟩ = some (.slice (some ⟨G j, 0, none⟩) 1 1) := HJ.out.t.at (by omega) hj
                  have HN : Hid (∀ W, Tk w gh G kb ⟨kd, c, ct, me, sh, ⟨#[]⟩⟩ wr.heap.size W → W.heap[G j]? = some (.cells (kyc (hk j)) 30 (0, 0))) := fun W hW => hW.t.hs j (by omega) hj
                  have OKS : Hid (∀ k ∈ [hk j] ++ [⟨kd, c, ct, me, sh, ⟨#[]⟩⟩, kz], k.Ok) := fun k hk => by
                    simp only [List.cons_append, List.nil_append, List.mem_cons, List.not_mem_nil, or_false] at hk
                    rcases hk with rfl | rfl | rfl
                    · exact hk_ok j
                    · exact KO.out
                    · exact kz_ok
                  clear j0
                  go_upto_region 19 with (fail)
                  go_cut [10] from 64 to 70 (fun v10 wx => ∃ g1 c1, v10 = .slice (some ⟨g1, 0, none⟩) 3 c1 ∧ Hid (Tk w gh G kb ⟨kd, c, ct, me, sh, ⟨#[]⟩⟩ (kb + 1) wx ∧ RdKy wx (.slice (some ⟨g1, 0, none⟩) 3 c1) ([hk j] ++ [⟨kd, c, ct, me, sh, ⟨#[]⟩⟩, kz])))
                  case first =>
                    refine nameL fun A hA => ?_
                    refine region_inv HM.out (by kernel_rfl) (fun v a' w' => ∃ y : Nat → Value, a' = ⟨frT A.tmps y, []⟩ ∧ Hid (Dt (Tk w gh G kb ⟨kd, c, ct, me, sh, ⟨#[]⟩⟩ wr.heap.size) (PT wr.heap.size (.slice (some ⟨G j, 0, none⟩) 1 1) ([hk j]) ⟨kd, c, ct, me, sh, ⟨#[]⟩⟩) (LT w gh G kb ⟨kd, c, ct, me, sh, ⟨#[]⟩⟩ wr.heap.size ([hk j]) 6) (LT w gh G kb ⟨kd, c, ct, me, sh, ⟨#[]⟩⟩ wr.heap.size ([hk j]) 7) v y w')) ?start ?step ?fin
                    case start =>
                      refine ⟨fun i => A.tmps.getD (([64, 65, 66, 67, 68, 69, 70, 10] : List Nat).getD i 0) undef, ?_, dt0 (HJ.out.raise.below (Below.refl _ _).drew)⟩
                      subst hA
                      simp [frT]
                    case step =>
                      intro i o v a' w' ho hv hni hop hI
                      obtain ⟨y, rfl, HI⟩ := hI
                      have hv : v.length = 8 := hv
                      have hsz := HJ.out.t.bel.size
                      clear HL0
                      rcases i with _ | _ | _ | _ | _ | _ | _ | _ | i
                      · obtain rfl := Option.some.inj ho
                        have hF := (HI.out.a (HI.out.no (by decide) hni)).1
                        subst hA
                        simp only [frT, List.setIfInBounds_toArray, List.set_cons_succ, List.set_cons_zero]
                        go_wp2
                        have hb2 : ∀ o, Below w'.heap.size w' (w'.alloc o) := fun o => (Below.refl _ w').alloc (Nat.le_refl _) o
                        exact ⟨updL y 0 (.slice (some ⟨w'.heap.size, 0, none⟩) 0 0), by simp [updL], HI.out.set (by decide) (by decide) (fun e => by cases e) hni (hF.below (hb2 _)) (PT.below (hb2 _)) (fun d => ⟨_, rfl, hF.s4, fun _ => World.ownsRow_lit (base := wr.heap.size) (e := 30) (size := 6) w' #[] 0 hF.s4 (by unfold maxLen; omega) rfl⟩)⟩
                      · obtain rfl := Option.some.inj ho
                        have hF := (HI.out.a (HI.out.no (by decide) hni)).1
                        subst hA
                        simp only [frT, List.setIfInBounds_toArray, List.set_cons_succ, List.set_cons_zero]
                        go_wp2
                        exact ⟨updL y 1 (.slice (some ⟨G j, 0, none⟩) 1 1), by simp [updL], HI.out.set (by decide) (by decide) (fun e => by cases e) hni hF (fun _ _ _ h => h) (fun d => rfl)⟩
                      · obtain rfl := Option.some.inj ho
                        obtain ⟨hF, hP⟩ := HI.out.a (HI.out.no (by decide) hni)
                        have v0 : v.getD 0 false = true := open_waits hop (by kernel_rfl)
                        have v1 : v.getD 1 false = true := open_waits hop (by kernel_rfl)
                        obtain ⟨b0, e0, hb0, hr0⟩ := hP 0 v0
                        have e1 : y 1 = _ := hP 1 v1
                        have hr := hr0 (dgl_no hni)
                        rw [e0] at hr
                        clear hP hr0
                        subst hA
                        simp only [frT, List.setIfInBounds_toArray, List.set_cons_succ, List.set_cons_zero]
                        simp only [e0, e1]
                        have hgj := HN.out _ hF
                        go_wp2_with (at_builtin; refine wpList_append_own_at _ rfl _ _ 22 rfl wr.heap.size 30 i0 _ 6 32 Tryd.underlying22 hi hz0 hz1 hz2 rfl (by decide) _ _ _ rfl hr ⟨G j, 0, none⟩ 1 1 [.int .i64 (hk j).kd, .int .i32 (hk j).ch, .bool (hk j).ct, .bool (hk j).me, .bool (hk j).sh, .string (hk j).tx] rfl rfl (World.news_of_block hgj) (by simp [Value.oneCell']) (by unfold maxLen; omega) (by omega) hF.s4 ?_; intro v2 w2 hown hgrow _ _)
                        exact ⟨updL y 2 v2, by simp [updL, e0, e1, Act.put], HI.out.set2 hv v0 v1 hni (hF.grown hgrow (fun b e => by cases e; exact hb0)) (PT.own hr hgrow) hown⟩
                      · obtain rfl := Option.some.inj ho
                        have hF := (HI.out.a (HI.out.no (by decide) hni)).1
                        obtain ⟨z0, z1, z2, z3, z4, z5, -⟩ := box6 hF.k
                        subst hA
                        simp only [frT, List.setIfInBounds_toArray, List.set_cons_succ, List.set_cons_zero]
                        go_wp2
                        exact ⟨updL y 3 (kyv ⟨kd, c, ct, me, sh, ⟨#[]⟩⟩), by simp [updL, kyv], HI.out.set (by decide) (by decide) (fun e => by cases e) hni hF (fun _ _ _ h => h) (fun d => rfl)⟩
                      · obtain rfl := Option.some.inj ho
                        have hF := (HI.out.a (HI.out.no (by decide) hni)).1
                        subst hA
                        simp only [frT, List.setIfInBounds_toArray, List.set_cons_succ, List.set_cons_zero]
                        go_wp2_with (go_at_call 25; refine (CH.out _ _ _).mono ?_; rintro e w5 ⟨rfl, hb5⟩)
                        exact ⟨updL y 4 (kyv kz), by simp [updL, kyv, kz], HI.out.set (by decide) (by decide) (fun e => by cases e) hni (hF.below hb5) (PT.below hb5) (fun d => rfl)⟩
                      · obtain rfl := Option.some.inj ho
                        obtain ⟨hF, hP⟩ := HI.out.a (HI.out.no (by decide) hni)
                        have v3 : v.getD 3 false = true := open_waits hop (by kernel_rfl)
                        have v4 : v.getD 4 false = true := open_waits hop (by kernel_rfl)
                        have e3 : y 3 = _ := hP 3 v3
                        have e4 : y 4 = _ := hP 4 v4
                        clear hP
                        unfold kyv at e3 e4
                        unfold kz at e4
                        subst hA
                        simp only [frT, List.setIfInBounds_toArray, List.set_cons_succ, List.set_cons_zero]
                        simp only [e3, e4]
                        go_wp2
                        have hb2 : ∀ o, Below w'.heap.size w' (w'.alloc o) := fun o => (Below.refl _ w').alloc (Nat.le_refl _) o
                        exact ⟨updL y 5 (.slice (some ⟨w'.heap.size, 0, none⟩) 2 2), by simp [updL, e3, e4], HI.out.set (by decide) (by decide) (fun _ => ⟨v3, v4⟩) hni (hF.below (hb2 _)) (PT.below (hb2 _)) (fun d => ⟨_, rfl, World.alloc_heap_new _ _⟩)⟩
                      · obtain rfl := Option.some.inj ho
                        obtain ⟨hF, hP⟩ := HI.out.a (dgl_no hni)
                        have v2 : v.getD 2 false = true := open_waits hop (by kernel_rfl)
                        have v5 : v.getD 5 false = true := open_waits hop (by kernel_rfl)
                        have p2 := hP 2 v2
                        have p5 := hP 5 v5
                        obtain ⟨b5, e5, h5⟩ := p5
                        have p2 : w'.ownsRow wr.heap.size 30 6 (y 2) 1 (kyl ([hk j])) := p2
                        clear hP
                        obtain ⟨Y2, hY2⟩ : ∃ q, y 2 = q := ⟨_, rfl⟩
                        rw [hY2] at p2
                        subst hA
                        simp only [frT, List.setIfInBounds_toArray, List.set_cons_succ, List.set_cons_zero]
                        simp only [e5, hY2]
                        go_wp2_with (at_builtin; refine wpList_append_own_at _ rfl _ _ 22 rfl wr.heap.size 30 i0 _ 6 32 Tryd.underlying22 hi hz0 hz1 hz2 rfl (by decide) _ _ _ rfl p2 ⟨b5, 0, none⟩ 2 2 [.int .i64 kd, .int .i32 c, .bool ct, .bool me, .bool sh, .string ⟨#[]⟩, .int .i64 1, .int .i32 122, .bool false, .bool false, .bool false, .string ⟨#[]⟩] rfl rfl (World.news_of_block h5) (by simp [Value.oneCell']) (by unfold maxLen; omega) (by omega) hF.s4 ?_; intro v6 w6 hown hgrow _ _)
                        obtain ⟨g6, c6, rfl, hc6⟩ := row_some hown (by omega)
                        have hrow : w6.ownsRow wr.heap.size 30 6 (.slice (some ⟨g6, 0, none⟩) 3 c6) 3 (kyl ([hk j] ++ [⟨kd, c, ct, me, sh, ⟨#[]⟩⟩, kz])) := by rw [kyl_app]; exact hown
                        exact ⟨updL y 6 (.slice (some ⟨g6, 0, none⟩) 3 c6), by simp [updL, e5, hY2, Act.put], HI.out.mid hv hni v2 v5 (fun _ _ _ => ⟨hF.grown hgrow (fun b e => (p2.lt b e).1), g6, c6, rfl, rdky_row hrow rfl⟩)⟩
                      · obtain rfl := Option.some.inj ho
                        have v6 : v.getD 6 false = true := open_waits hop (by kernel_rfl)
                        obtain ⟨hF, g6, c6, e6, hr6⟩ := HI.out.m hni v6
                        subst hA
                        simp only [frT, List.setIfInBounds_toArray, List.set_cons_succ, List.set_cons_zero]
                        simp only [e6]
                        go_wp2
                        exact ⟨updL y 7 (.slice (some ⟨g6, 0, none⟩) 3 c6), by simp [updL, e6], HI.out.lst hv hni v6 (fun _ => ⟨hF, g6, c6, rfl, hr6⟩)⟩
                      · cases ho
                    case fin =>
                      intro v a' w' hv hall hI
                      obtain ⟨y, rfl, HI⟩ := hI
                      obtain ⟨hF, g6, c6, e7, hr6⟩ := HI.out.fin hv hall
                      subst hA
                      simp only [frT, List.setIfInBounds_toArray, List.set_cons_succ, List.set_cons_zero, e7]
                      go_wp2_with fail
                      go_meet
                      exact ⟨g6, c6, rfl, ⟨hF.t, hF.k, HJ.out.s0, HJ.out.s1, HJ.out.s2, HJ.out.s3, Nat.le_trans HJ.out.s4 hF.s4, hF.s5⟩, hr6⟩
                  case rest =>
                    obtain ⟨g1, c1, rfl, HR1⟩ := hcut
                    clear HJ q
                    go_wp2_with (first
                      | (go_at_call 19; refine (CC.out ([hk j] ++ [⟨kd, c, ct, me, sh, ⟨#[]⟩⟩, kz]) 3 _ _ _ rfl (by omega) OKS.out HR1.out.1.t.bel HR1.out.2).mono ?_; rintro e w7 ⟨v7, rfl, H7⟩)
                      | (go_at_call 23; refine (CR.out ([hk j] ++ [⟨kd, c, ct, me, sh, ⟨#[]⟩⟩, kz]) 3 _ _ _ rfl (by omega) OKS.out (HR1.out.2.below (Nat.le_refl _) H7.out.2)).mono ?_; rintro e w8 ⟨v8, rfl, H8⟩)
                      | (go_at_call 22; refine (CS.out ([hk j] ++ [⟨kd, c, ct, me, sh, ⟨#[]⟩⟩, kz]) _ _ _ _ _ (by simp) (row_kept H7.out.1 H8.out.2) H8.out.1).mono ?_; rintro e w9 ⟨rfl, hb9⟩))
                    exact ⟨⟨j + 1, by go_num, by omega, ((HR1.out.1.below H7.out.2).below H8.out.2).below hb9⟩, by simp [intOf]; omega⟩
              · have hjg : ¬ ((j : Int) < 6) := by omega
                go_wp2
                exact ⟨⟨c + 1, by go_num, by omega, HJ.out.t⟩, by simp [intOf]; omega⟩
          · have hcg : ¬ ((c : Int) ≤ 1) := by omega
            go_wp2
            exact ⟨⟨kd + 1, by go_num, by omega, HC⟩, by simp [intOf]; omega⟩
    · have h19' : ¬ ((kd : Int) ≤ 19) := by omega
      go_wp2
      go_ret
      exact ⟨rfl, HL.out.bel⟩

theorem walk_of (mods : Int) (w : World) (hT : Tb w) (hz : 0 ≤ mods ∧ mods < 256) :
    Calls Tryd.prog 5 #[.int .u8 mods] w fun e w' => e = .returned (.bool true) ∧ Below w.heap.size w w' := walk (by kernel_rfl) mods w hz hT
end Go.Proofs.YtmaolbibbjngcaaDoor.bindTable
