/-
  The law for iterators with cells of their own, and unit.Walk in that form. Conditions: those of each theorem.
-/
import Derived.RangeFuncNested
import Derived.RangeFuncBound
import Derived.RangeFuncLeaves
import Derived.Shelf.Abstract
import Derived.Shelf.RegionOpen
import Derived.OwnWalkIn
import Derived.TacticsInMore
import Derived.LoopNIn
import Derived.LoopIn
import Derived.Maps.AppendAt
import Derived.Test.YtfjoklbiocniiaaDoorUWalk
namespace Bod
open Go Go.RowKit

/-- what an iterator whose blocks begin at B may turn: its own blocks from lo to hi, and whatever is no cells from B on -/
def Turns (B lo hi : Nat) (W : World) (row : Option Nat) : Prop := ∀ r, row = some r → B ≤ r ∧ ((lo ≤ r ∧ r < hi) ∨ ∃ o : Obj, W.heap[r]? = some o ∧ o.isCells = false)
def Ab {β : Type} (B lo hi : Nat) (J : β → World → Prop) : Prop := ∀ s W W' row, J s W → W.grownBy W' row → Turns B lo hi W row → J s W'

theorem Ab.put {β : Type} {B lo hi : Nat} {J : β → World → Prop} (h : Ab B lo hi J) {s : β} {W : World} {l : Nat} {o : Obj} (o' : Obj) (hs : J s W) (hB : B ≤ l) (hl : W.heap[l]? = some o) (ho : o.isCells = false) : J s (W.putObj l o') :=
  h s W _ (some l) hs (grownBy_putObj' W l o') (fun r e => by cases e; exact ⟨hB, .inr ⟨o, hl, ho⟩⟩)
theorem Ab.grow {β : Type} {B lo hi : Nat} {J : β → World → Prop} (h : Ab B lo hi J) {s : β} {W W' : World} (hs : J s W) (hg : W.grownBy W' none) : J s W' := h s W W' none hs hg (fun r e => by cases e)
theorem Ab.alloc {β : Type} {B lo hi : Nat} {J : β → World → Prop} (h : Ab B lo hi J) {s : β} {W : World} (o : Obj) (hs : J s W) : J s (W.alloc o) := h.grow hs (World.grownBy_alloc W o none)
theorem Ab.own {β : Type} {B lo hi : Nat} {J : β → World → Prop} (h : Ab B lo hi J) {s : β} {W W' : World} {r : Nat} (hs : J s W) (hg : W.grownBy W' (some r)) (h1 : B ≤ r) (h2 : lo ≤ r) (h3 : r < hi) : J s W' := h s W W' _ hs hg (fun r' e => by cases e; exact ⟨h1, .inl ⟨h2, h3⟩⟩)
/-- what speaks of one block that no iterator turns -/
theorem ab_block {β : Type} {B lo hi k : Nat} {o : β → Obj} (hk : k < B) : Ab B lo hi (fun (s : β) W => W.heap[k]? = some (o s)) := fun s X Y row hs hg hr =>
  (hg.block k (Array.getElem?_eq_some_iff.1 hs).1 (fun e => by have := (hr k e.symm).1; omega)).trans hs
theorem Ab.ex {β γ : Type} {B lo hi : Nat} {J : γ → β → World → Prop} (h : ∀ g, Ab B lo hi (J g)) : Ab B lo hi (fun s W => ∃ g, J g s W) := fun s W W' row hs hg hr => hs.imp fun g hs => h g s W W' row hs hg hr
theorem Ab.wide {β : Type} {B B' lo hi lo' hi' : Nat} {J : β → World → Prop} (h : Ab B lo hi J) (h1 : B ≤ B') (h2 : ∀ r, lo' ≤ r → r < hi' → lo ≤ r ∧ r < hi) : Ab B' lo' hi' J := fun s W W' row hs hg hr => h s W W' row hs hg (fun r e => ⟨Nat.le_trans h1 (hr r e).1, (hr r e).2.imp (fun q => h2 r q.1 q.2) id⟩)
theorem Ab.map {β γ : Type} {B lo hi : Nat} {J : β → World → Prop} (h : Ab B lo hi J) (f : γ → β) : Ab B lo hi (fun s W => J (f s) W) := fun s W W' row hs hg hr => h (f s) W W' row hs hg hr
theorem Ab.from {β : Type} {B B' lo hi : Nat} {J : β → World → Prop} (h : Ab B lo hi J) (hB : B ≤ B') : OwnFrom B' J := fun s W W' row hs hg hr => h s W W' row hs hg (fun r e => ⟨Nat.le_trans hB (hr r e).1, .inr (hr r e).2⟩)
theorem Ab.and {β : Type} {B lo hi : Nat} {I J : β → World → Prop} (h : Ab B lo hi I) (g : Ab B lo hi J) : Ab B lo hi (fun s W => I s W ∧ J s W) := fun s W W' row hs hg hr => ⟨h s W W' row hs.1 hg hr, g s W W' row hs.2 hg hr⟩
theorem Ab.pure {β : Type} (B lo hi : Nat) (p : β → Prop) : Ab B lo hi (fun s (_ : World) => p s) := fun _ _ _ _ hs _ _ => hs
theorem ab_below {β : Type} {n₀ B lo hi : Nat} {w : World} (h : n₀ ≤ B) (hw : n₀ ≤ w.heap.size) : Ab B lo hi (fun (_ : β) W => Below n₀ w W) := fun _ X Y row hs hg hr =>
  ⟨hg.os.trans hs.os, hg.tape.trans hs.tape, hg.output.trans hs.output, Nat.le_trans hs.size hg.size, fun j hj => by
    have h1 := hs.size
    refine (hg.block j (by omega) (fun e => ?_)).trans (hs.block j hj)
    have := (hr j e.symm).1
    omega⟩

/-- the contract: what has come is what S tells, or, a round having said 'no more', what Sp tells; every round keeps what Kp tells -/
def SeqC {α : Type} (F : Fence) (n : Nat) (P : Program) (g : Nat) (lb : Array Value) (encs : α → Array Value) (Kp : World → World → Prop) (S Sp : List α → Prop) (Nx : List α → α → Prop) (k B : Nat) (w : World) : Prop :=
  ∀ (l : Nat) (J Jx : List α → World → Prop) (W : World), W.heap.size = B → Below w.heap.size w W → Ab B B (B + k) J → Ab B B (B + k) Jx →
    (∀ pre x W1, J pre W1 → B + k ≤ W1.heap.size → Nx pre x → YieldAt F (n - 1) P l (encs x) W1 fun e W' => KeepsFrom B W1 W' ∧
      ((e = .returned (.bool true) ∧ J (pre ++ [x]) W' ∧ Kp W1 W') ∨ (e = .returned (.bool false) ∧ Jx (pre ++ [x]) W'))) →
    J [] W →
    CallsIn F n P g (#[.func (.yield l) #[] #[]] ++ lb) W fun e W' => (∃ v, e = .returned v) ∧ ((∃ xs, S xs ∧ J xs W') ∨ (∃ pre, Sp pre ∧ Jx pre W'))

/-- at a fence without a bound on the depth a round is met at whatever depth -/
theorem yield_deep {m m' : Nat} {P : Program} {l : Nat} {args : Array Value} {W : World} {R : Ending → World → Prop} (h : YieldAt Fence.wide m P l args W R) : YieldAt Fence.wide m' P l args W R := by
  obtain ⟨fn, tmps, assign, body, hy, hf, hr⟩ := h
  exact ⟨fn, tmps, assign, body, hy, hf, fun c cs _ => hr c cs (by simp [Fence.room, Fence.wide])⟩

/-- how a round's body may be left: by which jump -/
def jumpOf : Exit → Option (Option Code)
  | .normal => some none
  | .ret => some (some .ret)
  | .exit id => some (some (.exit id))
  | .goto t => some (some (.goto t))
  | .panic _ => none
  | .outgrown => none

/-- one round: the record is ready, and, behind the body's walk, busy -/
theorem yield_round {F : Fence} {m : Nat} {P : Program} {l : Nat} {r : Loop} {args : Array Value} {W : World} {R : Ending → World → Prop}
    (hl : W.heap[l]? = some (.loop r)) (hr : r.state = .ready) (hs : args.size = r.params.size) (hf : F.fn r.fn)
    (h : r.assign.wpIn (F.inRound l) m P (Exit.then (fun a W1 => W1.heap[l]? = some (.loop r) ∧
        r.body.wpIn (F.inRound l) m P (fun e _ W3 => W3.heap[l]? = some (.loop { r with state := .busy }) ∧
          ∃ j, jumpOf e = some j ∧ R (.returned (.bool j.isNone)) (W3.putObj l (.loop { r with state := if j.isNone then .ready else .done, pending := j }))) a (W1.putObj l (.loop { r with state := .busy }))) (fun _ _ _ => False))
      { tmps := (r.params.zip args).foldl (fun t (p, v) => t.setIfInBounds p v) r.tmps, defers := [] } W) :
    YieldAt F m P l args W R := by
  refine ⟨_, _, _, _, run_yield hl hs, roundIn_of_wpIn hf (wpIn_mono h ?_)⟩
  intro e a W1 hq
  cases e
  case normal =>
    obtain ⟨h1, h2⟩ := hq
    refine ⟨_, run_beginRound h1 hr, wpIn_mono h2 ?_⟩
    rintro e3 a3 W3 ⟨h3, j, hj, hR⟩
    have he := run_endRound (P := P) j h3
    cases e3 <;> simp only [jumpOf] at hj <;> cases hj <;> exact ⟨_, _, he, hR⟩
  all_goals exact hq.elim

/-- what the round of a loop at l leaves: from its body's walk -/
theorem round_own {α : Type} {F : Fence} {m : Nat} {P : Program} {l b₀ B : Nat} {r : Loop} {args : Array Value} {W : World} {R : Ending → World → Prop}
    {Kp : World → World → Prop} {I : List α → World → Prop} {Ix : Code → List α → World → Prop} {pre : List α} {x : α} {Ax : Act → World → Prop}
    (hl : W.heap[l]? = some (.loop r)) (hr : r.state = .ready) (hs : args.size = r.params.size) (hf : F.fn r.fn) (hb : b₀ ≤ l) (hlB : l < B)
    (hKt : ∀ {A B C : World}, Kp A B → Kp B C → Kp A C) (hKb : ∀ (W : World) (o o' : Obj), W.heap[l]? = some o → o.isCells = false → Kp W (W.putObj l o'))
    (hIp : ∀ (s : List α) (W : World) (o o' : Obj), I s W → W.heap[l]? = some o → o.isCells = false → I s (W.putObj l o')) (hIxp : ∀ (c : Code) (s : List α) (W : World) (o o' : Obj), Ix c s W → W.heap[l]? = some o → o.isCells = false → Ix c s (W.putObj l o'))
    (hAp : ∀ (a : Act) (W : World) (o o' : Obj), Ax a W → W.heap[l]? = some o → o.isCells = false → Ax a (W.putObj l o'))
    (_hI : I pre W)
    (hassign : ∀ K : Act → World → Prop, (∀ a' W', KeepsFrom b₀ W W' → Kp W W' → I pre W' → Ax a' W' → K a' W') →
      r.assign.wpIn (F.inRound l) m P (Exit.then K (fun _ _ _ => False)) { tmps := (r.params.zip args).foldl (fun t (p, v) => t.setIfInBounds p v) r.tmps, defers := [] } W)
    (hbody : ∀ (a' : Act) (W' : World), (∃ q, W'.heap[l]? = some (.loop q)) → W.heap.size ≤ W'.heap.size → I pre W' → Ax a' W' → r.body.wpIn (F.inRound l) m P (ownPostG b₀ Kp I Ix (pre ++ [x]) W') a' W')
    (hR : ∀ (W' : World) (j : Option Code), KeepsFrom B W W' → W'.heap[l]? = some (.loop { r with state := if j.isNone then .ready else .done, pending := j }) → (∀ k o, b₀ ≤ k → k ≠ l → W.heap[k]? = some o → o.isCells = false → W'.heap[k]? = some o) →
      (match j with | none => I (pre ++ [x]) W' ∧ Kp W W' | some c => Ix c (pre ++ [x]) W') → R (.returned (.bool j.isNone)) W') :
    YieldAt F m P l args W R := by
  refine yield_round hl hr hs hf (hassign _ ?_)
  intro a' Wa k1 p1 i1 x1
  have hla := k1.same l _ hb hl rfl
  refine ⟨hla, wpIn_mono (hbody a' _ ⟨_, World.putObj_heap_same (Array.getElem?_eq_some_iff.1 hla).1⟩ (by simpa using k1.size) (hIp _ _ _ _ i1 hla rfl) (hAp _ _ _ _ x1 hla rfl)) ?_⟩
  have hbusy : (Wa.putObj l (.loop { r with state := .busy })).heap[l]? = some (.loop { r with state := .busy }) := World.putObj_heap_same (Array.getElem?_eq_some_iff.1 hla).1
  have close : ∀ (W3 : World) (j : Option Code), KeepsFrom b₀ (Wa.putObj l (.loop { r with state := .busy })) W3 →
      ((match j with | none => I (pre ++ [x]) (W3.putObj l (.loop { r with state := if j.isNone then .ready else .done, pending := j })) ∧ Kp W (W3.putObj l (.loop { r with state := if j.isNone then .ready else .done, pending := j })) | some c => Ix c (pre ++ [x]) (W3.putObj l (.loop { r with state := if j.isNone then .ready else .done, pending := j })))) →
      W3.heap[l]? = some (.loop { r with state := .busy }) ∧ R (.returned (.bool j.isNone)) (W3.putObj l (.loop { r with state := if j.isNone then .ready else .done, pending := j })) := fun W3 j k3 hm => by
    have hl3 := k3.same l _ hb hbusy rfl
    have keep : ∀ k o, b₀ ≤ k → k ≠ l → W.heap[k]? = some o → o.isCells = false → (W3.putObj l (.loop { r with state := if j.isNone then .ready else .done, pending := j })).heap[k]? = some o := fun k o h1 h2 h3 h4 =>
      (World.putObj_heap_other h2).trans (k3.same k o h1 ((World.putObj_heap_other h2).trans (k1.same k o h1 h3 h4)) h4)
    refine ⟨hl3, hR _ j ⟨?_, fun k o h1 h3 h4 => keep k o (by omega) (by omega) h3 h4⟩ (World.putObj_heap_same (Array.getElem?_eq_some_iff.1 hl3).1) keep hm⟩
    have s1 := k1.size
    have s3 := k3.size
    simp at s3 ⊢
    omega
  rintro e a3 W3 hp
  cases e with
  | normal =>
    obtain ⟨k3, p3, i3⟩ := hp
    have hl3 := k3.same l _ hb hbusy rfl
    obtain ⟨h1, h2⟩ := close W3 none k3 ⟨hIp _ _ _ _ i3 hl3 rfl, hKt p1 (hKt (hKb _ _ _ hla rfl) (hKt p3 (hKb _ _ _ hl3 rfl)))⟩
    exact ⟨h1, none, rfl, h2⟩
  | ret =>
    obtain ⟨k3, i3⟩ := hp
    obtain ⟨h1, h2⟩ := close W3 (some .ret) k3 (hIxp _ _ _ _ _ i3 (k3.same l _ hb hbusy rfl) rfl)
    exact ⟨h1, _, rfl, h2⟩
  | exit id =>
    obtain ⟨k3, i3⟩ := hp
    obtain ⟨h1, h2⟩ := close W3 (some (.exit id)) k3 (hIxp _ _ _ _ _ i3 (k3.same l _ hb hbusy rfl) rfl)
    exact ⟨h1, _, rfl, h2⟩
  | goto t =>
    obtain ⟨k3, i3⟩ := hp
    obtain ⟨h1, h2⟩ := close W3 (some (.goto t)) k3 (hIxp _ _ _ _ _ i3 (k3.same l _ hb hbusy rfl) rfl)
    exact ⟨h1, _, rfl, h2⟩
  | panic ch => exact hp.elim
  | outgrown => exact hp.elim

/-- the law for the caller, outside of every round -/
theorem range_own {α : Type} {F : Fence} {n : Nat} {P : Program} {g : Operand} {ps : Array Tmp} {assign body : Code} {Q : Exit → Act → World → Prop} {a : Act} {w : World}
    (hro : F.round = none) (h1 : 1 ≤ n) {gf : Nat} {lb : Array Value} (hg : a.eval g = .func (.func gf) #[] lb) (hFg : F.fn gf) (eg : ∀ args w, (callFunc gf args).run P w = .ok (.enter gf args) w)
    {encs : α → Array Value} {Kp : World → World → Prop} {S Sp : List α → Prop} {Nx : List α → α → Prop} {k : Nat} (hseq : SeqC F (n - 1) P gf lb encs Kp S Sp Nx k (w.heap.size + 2) w)
    (hKt : ∀ {A B C : World}, Kp A B → Kp B C → Kp A C) (hKb : ∀ (W : World) (l : Nat) (o o' : Obj), w.heap.size ≤ l → l < w.heap.size + 2 → W.heap[l]? = some o → o.isCells = false → Kp W (W.putObj l o')) (hps : ∀ x, (encs x).size = ps.size)
    (I : List α → World → Prop) (Ix : Code → List α → World → Prop) (hI : Ab w.heap.size (w.heap.size + 2) (w.heap.size + 2 + k) I) (hIx : ∀ c, Ab w.heap.size (w.heap.size + 2) (w.heap.size + 2 + k) (Ix c)) (h0 : I [] w) (Ax : α → Act → World → Prop) (hAx : ∀ x a', Ab w.heap.size w.heap.size w.heap.size (fun (_ : Unit) W => Ax x a' W))
    (hassign : ∀ (l : Nat) (pre : List α) (x : α) (W : World) (K : Act → World → Prop), I pre W → (∀ a' W', KeepsFrom w.heap.size W W' → Kp W W' → I pre W' → Ax x a' W' → K a' W') →
      assign.wpIn (F.inRound l) (n - 1 - 1) P (Exit.then K (fun _ _ _ => False)) { tmps := (ps.zip (encs x)).foldl (fun t (p, v) => t.setIfInBounds p v) a.tmps, defers := [] } W)
    (hbody : ∀ (l : Nat) (pre : List α) (x : α) (a' : Act) (W : World), w.heap.size ≤ l → l < w.heap.size + 2 → (∃ r, W.heap[l]? = some (.loop r)) → w.heap.size + 2 + k ≤ W.heap.size → I pre W → Ax x a' W → Nx pre x → body.wpIn (F.inRound l) (n - 1 - 1) P (ownPostG w.heap.size Kp I Ix (pre ++ [x]) W) a' W)
    (hdone : ∀ (D : Nat) (xs : List α) (W : World), w.heap.size ≤ D → S xs → I xs W → W.heap[D]? = some (.deferred (some [])) → Q .normal { a with defers := { target := .collected D, args := #[] } :: a.defers } W)
    (hstop : ∀ (D : Nat) (c : Code) (pre : List α) (W : World), w.heap.size ≤ D → Sp pre → Ix c pre W → W.heap[D]? = some (.deferred (some [])) → c.wpIn F n P Q { a with defers := { target := .collected D, args := #[] } :: a.defers } W) :
    (Code.rangeFunc g ps assign body).wpIn F n P Q a w := by
  refine wpIn_rangeFunc fun fn hfn => ?_
  rw [hro]
  generalize hr0 : ({ state := .ready, pending := none, fn, tmps := a.tmps, params := ps, assign, body, defers := w.heap.size } : Loop) = r0
  have e0 : r0.state = .ready ∧ r0.params = ps ∧ r0.fn = fn ∧ r0.tmps = a.tmps ∧ r0.assign = assign ∧ r0.body = body ∧ r0.pending = none := by subst hr0; exact ⟨rfl, rfl, rfl, rfl, rfl, rfl, rfl⟩
  obtain ⟨e1, e2, e3, e4, e5, e6, e7⟩ := e0
  have hready : { r0 with state := .ready, pending := none } = r0 := by subst hr0; rfl
  have turn : ∀ {W : World} {row : Option Nat}, Turns (w.heap.size + 2) (w.heap.size + 2) (w.heap.size + 2 + k) W row → Turns w.heap.size (w.heap.size + 2) (w.heap.size + 2 + k) W row := fun h r e => ⟨by have := (h r e).1; omega, (h r e).2⟩
  have other : ∀ {W W' : World} {row : Option Nat} {j : Nat} {o : Obj}, Turns (w.heap.size + 2) (w.heap.size + 2) (w.heap.size + 2 + k) W row → W.grownBy W' row → j < w.heap.size + 2 → W.heap[j]? = some o → W'.heap[j]? = some o := fun h hgr hj ho =>
    (hgr.block _ (Array.getElem?_eq_some_iff.1 ho).1 (fun e => by have := (h _ e.symm).1; omega)).trans ho
  refine ⟨w.heap.size + 1, _, _, { target := .fn (.func gf) lb, args := #[.func (.yield (w.heap.size + 1)) #[] #[]] }, _, gf, #[.func (.yield (w.heap.size + 1)) #[] #[]] ++ lb, _, run_enterLoop_outer _ _ _ _ _, by simp only [resolve, hg]; simp [go_sem]; rfl, fun f' hf' => (by simp [Target.leads] at hf'; subst hf'; exact hFg), by simp [invoke, go_sem, eg]; rfl, fun _ => h1, ?_⟩
  rw [hr0]
  refine (hseq (w.heap.size + 1) (fun pre W => I pre W ∧ W.heap[w.heap.size + 1]? = some (.loop r0) ∧ W.heap[w.heap.size]? = some (.deferred (some [])))
    (fun pre W => ∃ c, Ix c pre W ∧ W.heap[w.heap.size + 1]? = some (.loop { r0 with state := .done, pending := some c }) ∧ W.heap[w.heap.size]? = some (.deferred (some [])))
    _ (by simp) (((Below.refl _ w).alloc (Nat.le_refl _) _).alloc (by simp) _)
    (fun s A B row hs hgr ht => ⟨hI s A B row hs.1 hgr (turn ht), other ht hgr (by omega) hs.2.1, other ht hgr (by omega) hs.2.2⟩)
    (fun s A B row hs hgr ht => hs.imp fun c hc => ⟨hIx c s A B row hc.1 hgr (turn ht), other ht hgr (by omega) hc.2.1, other ht hgr (by omega) hc.2.2⟩)
    ?round ⟨hI.alloc _ (hI.alloc _ h0), ?l0, ?d0⟩).mono ?behind
  case l0 =>
    have := World.alloc_heap_new (w.alloc (.deferred (some []))) (.loop r0)
    rwa [World.size_alloc] at this
  case d0 => exact (Below.heap_alloc _ _ _ (by simp)).trans (World.alloc_heap_new w _)
  case round =>
    rintro pre x W ⟨hi, hl, hd⟩ hsz hlen
    refine round_own (b₀ := w.heap.size) (B := w.heap.size + 2) (Kp := Kp) (I := I) (Ix := Ix) (pre := pre) (x := x) (Ax := Ax x) hl e1 (by rw [e2]; exact hps x) (by rw [e3]; exact hfn) (by omega) (by omega) (fun h g => hKt h g)
      (fun W o o' h c => hKb W _ o o' (by omega) (by omega) h c) (fun s W o o' hs h c => hI.put o' hs (by omega) h c) (fun c s W o o' hs h hc => (hIx c).put o' hs (by omega) h hc) (fun a' W o o' hs h c => (hAx x a').put (s := ()) o' hs (by omega) h c) hi
      (fun K hK => by rw [e2, e4, e5]; exact hassign _ pre x W K hi hK) (fun a' W' hq hle i' x' => by rw [e6]; exact hbody _ pre x a' W' (by omega) (by omega) hq (by omega) i' x' hlen) ?_
    intro W' j kf hl' keep hm
    have hd' := keep _ _ (Nat.le_refl _) (by omega) hd rfl
    cases j with
    | none => exact ⟨kf, .inl ⟨rfl, ⟨hm.1, by simpa [hready] using hl', hd'⟩, hm.2⟩⟩
    | some c => exact ⟨kf, .inr ⟨rfl, c, hm, by simpa using hl', hd'⟩⟩
  case behind =>
    rintro e W2 ⟨⟨v, rfl⟩, (⟨xs, hS, hi, hl, hd⟩ | ⟨pre, hSp, c, hi, hl, hd⟩)⟩
    · refine ⟨_, _, run_endLoop (P := P) hl (by rw [e1]; simp), ?_⟩
      rw [e7]
      exact hdone _ xs _ (Nat.le_refl _) hS (hI.put _ hi (by omega) hl rfl) ((World.putObj_heap_other (by omega)).trans hd)
    · exact ⟨_, _, run_endLoop (P := P) hl (by simp), hstop _ c pre _ (Nat.le_refl _) hSp ((hIx c).put _ hi (by omega) hl rfl) ((World.putObj_heap_other (by omega)).trans hd)⟩

/-- the law for a caller within a round of the loop l₀ -/
theorem range_in {α : Type} {F : Fence} {n : Nat} {P : Program} {g : Operand} {ps : Array Tmp} {assign body : Code} {Q : Exit → Act → World → Prop} {a : Act} {w : World}
    {l₀ : Nat} {r₀ : Loop} (hro : F.round = some l₀) (hl₀ : w.heap[l₀]? = some (.loop r₀)) (h1 : 1 ≤ n) {gf : Nat} {lb : Array Value} (hg : a.eval g = .func (.func gf) #[] lb) (hFg : F.fn gf) (eg : ∀ args w, (callFunc gf args).run P w = .ok (.enter gf args) w)
    {encs : α → Array Value} {Kp : World → World → Prop} {S Sp : List α → Prop} {Nx : List α → α → Prop} {k : Nat} (hseq : SeqC F (n - 1) P gf lb encs Kp S Sp Nx k (w.heap.size + 1) w)
    (hKt : ∀ {A B C : World}, Kp A B → Kp B C → Kp A C) (hKb : ∀ (W : World) (l : Nat) (o o' : Obj), w.heap.size ≤ l → l < w.heap.size + 1 → W.heap[l]? = some o → o.isCells = false → Kp W (W.putObj l o')) (hps : ∀ x, (encs x).size = ps.size)
    (I : List α → World → Prop) (Ix : Code → List α → World → Prop) (hI : Ab w.heap.size (w.heap.size + 1) (w.heap.size + 1 + k) I) (hIx : ∀ c, Ab w.heap.size (w.heap.size + 1) (w.heap.size + 1 + k) (Ix c)) (h0 : I [] w) (Ax : α → Act → World → Prop) (hAx : ∀ x a', Ab w.heap.size w.heap.size w.heap.size (fun (_ : Unit) W => Ax x a' W))
    (hassign : ∀ (l : Nat) (pre : List α) (x : α) (W : World) (K : Act → World → Prop), I pre W → (∀ a' W', KeepsFrom w.heap.size W W' → Kp W W' → I pre W' → Ax x a' W' → K a' W') →
      assign.wpIn (F.inRound l) (n - 1 - 1) P (Exit.then K (fun _ _ _ => False)) { tmps := (ps.zip (encs x)).foldl (fun t (p, v) => t.setIfInBounds p v) a.tmps, defers := [] } W)
    (hbody : ∀ (l : Nat) (pre : List α) (x : α) (a' : Act) (W : World), w.heap.size ≤ l → l < w.heap.size + 1 → (∃ r, W.heap[l]? = some (.loop r)) → w.heap.size + 1 + k ≤ W.heap.size → I pre W → Ax x a' W → Nx pre x → body.wpIn (F.inRound l) (n - 1 - 1) P (ownPostG w.heap.size Kp I Ix (pre ++ [x]) W) a' W)
    (hdone : ∀ (xs : List α) (W : World), S xs → I xs W → Q .normal a W)
    (hstop : ∀ (c : Code) (pre : List α) (W : World), Sp pre → Ix c pre W → c.wpIn F n P Q a W) :
    (Code.rangeFunc g ps assign body).wpIn F n P Q a w := by
  refine wpIn_rangeFunc fun fn hfn => ?_
  rw [hro]
  generalize hr0 : ({ state := .ready, pending := none, fn, tmps := a.tmps, params := ps, assign, body, defers := r₀.defers } : Loop) = r0
  have e0 : r0.state = .ready ∧ r0.params = ps ∧ r0.fn = fn ∧ r0.tmps = a.tmps ∧ r0.assign = assign ∧ r0.body = body ∧ r0.pending = none := by subst hr0; exact ⟨rfl, rfl, rfl, rfl, rfl, rfl, rfl⟩
  obtain ⟨e1, e2, e3, e4, e5, e6, e7⟩ := e0
  have hready : { r0 with state := .ready, pending := none } = r0 := by subst hr0; rfl
  have turn : ∀ {W : World} {row : Option Nat}, Turns (w.heap.size + 1) (w.heap.size + 1) (w.heap.size + 1 + k) W row → Turns w.heap.size (w.heap.size + 1) (w.heap.size + 1 + k) W row := fun h r e => ⟨by have := (h r e).1; omega, (h r e).2⟩
  have other : ∀ {W W' : World} {row : Option Nat} {j : Nat} {o : Obj}, Turns (w.heap.size + 1) (w.heap.size + 1) (w.heap.size + 1 + k) W row → W.grownBy W' row → j < w.heap.size + 1 → W.heap[j]? = some o → W'.heap[j]? = some o := fun h hgr hj ho =>
    (hgr.block _ (Array.getElem?_eq_some_iff.1 ho).1 (fun e => by have := (h _ e.symm).1; omega)).trans ho
  refine ⟨w.heap.size, _, _, { target := .fn (.func gf) lb, args := #[.func (.yield w.heap.size) #[] #[]] }, _, gf, #[.func (.yield w.heap.size) #[] #[]] ++ lb, _, run_enterLoop_inner hl₀ _ _ _ _ _, by simp only [resolve, hg]; simp [go_sem]; rfl, fun f' hf' => (by simp [Target.leads] at hf'; subst hf'; exact hFg), by simp [invoke, go_sem, eg]; rfl, fun _ => h1, ?_⟩
  rw [hr0]
  refine (hseq w.heap.size (fun pre W => I pre W ∧ W.heap[w.heap.size]? = some (.loop r0))
    (fun pre W => ∃ c, Ix c pre W ∧ W.heap[w.heap.size]? = some (.loop { r0 with state := .done, pending := some c }))
    _ (by simp) ((Below.refl _ w).alloc (Nat.le_refl _) _)
    (fun s A B row hs hgr ht => ⟨hI s A B row hs.1 hgr (turn ht), other ht hgr (by omega) hs.2⟩)
    (fun s A B row hs hgr ht => hs.imp fun c hc => ⟨hIx c s A B row hc.1 hgr (turn ht), other ht hgr (by omega) hc.2⟩)
    ?round ⟨hI.alloc _ h0, World.alloc_heap_new w _⟩).mono ?behind
  case round =>
    rintro pre x W ⟨hi, hl⟩ hsz hlen
    refine round_own (b₀ := w.heap.size) (B := w.heap.size + 1) (Kp := Kp) (I := I) (Ix := Ix) (pre := pre) (x := x) (Ax := Ax x) hl e1 (by rw [e2]; exact hps x) (by rw [e3]; exact hfn) (by omega) (by omega) (fun h g => hKt h g)
      (fun W o o' h c => hKb W _ o o' (by omega) (by omega) h c) (fun s W o o' hs h c => hI.put o' hs (by omega) h c) (fun c s W o o' hs h hc => (hIx c).put o' hs (by omega) h hc) (fun a' W o o' hs h c => (hAx x a').put (s := ()) o' hs (by omega) h c) hi
      (fun K hK => by rw [e2, e4, e5]; exact hassign _ pre x W K hi hK) (fun a' W' hq hle i' x' => by rw [e6]; exact hbody _ pre x a' W' (by omega) (by omega) hq (by omega) i' x' hlen) ?_
    intro W' j kf hl' keep hm
    cases j with
    | none => exact ⟨kf, .inl ⟨rfl, ⟨hm.1, by simpa [hready] using hl'⟩, hm.2⟩⟩
    | some c => exact ⟨kf, .inr ⟨rfl, c, hm, by simpa using hl'⟩⟩
  case behind =>
    rintro e W2 ⟨⟨v, rfl⟩, (⟨xs, hS, hi, hl⟩ | ⟨pre, hSp, c, hi, hl⟩)⟩
    · refine ⟨_, _, run_endLoop (P := P) hl (by rw [e1]; simp), ?_⟩
      rw [e7]
      exact hdone xs _ hS (hI.put _ hi (by omega) hl rfl)
    · exact ⟨_, _, run_endLoop (P := P) hl (by simp), hstop c pre _ hSp ((hIx c).put _ hi (by omega) hl rfl)⟩

/-- what a round keeps: every block of cells lies as it lay, but those of which Mut tells -/
def KpT (Mut : Nat → Obj → Prop) (W W' : World) : Prop := W.heap.size ≤ W'.heap.size ∧ ∀ (k : Nat) (o : Obj), W.heap[k]? = some o → o.isCells = true → ¬ Mut k o → W'.heap[k]? = some o
theorem KpT.refl (M : Nat → Obj → Prop) (W : World) : KpT M W W := ⟨Nat.le_refl _, fun _ _ h _ _ => h⟩
theorem KpT.trans {M : Nat → Obj → Prop} {X Y Z : World} (h : KpT M X Y) (k : KpT M Y Z) : KpT M X Z := ⟨Nat.le_trans h.1 k.1, fun i o a b c => k.2 i o (h.2 i o a b c) b c⟩
theorem KpT.putObj {M : Nat → Obj → Prop} (W : World) (l : Nat) (o o' : Obj) (hl : W.heap[l]? = some o) (ho : o.isCells = false) : KpT M W (W.putObj l o') :=
  ⟨by simp, fun k c hk hc _ => (World.putObj_heap_other (fun e => by subst e; rw [hl] at hk; cases hk; rw [ho] at hc; cases hc)).trans hk⟩
theorem KpT.of_below {M : Nat → Obj → Prop} {W W' : World} (h : Below W.heap.size W W') : KpT M W W' :=
  ⟨h.size, fun k _ hk _ _ => (h.block k (Array.getElem?_eq_some_iff.1 hk).1).trans hk⟩
theorem KpT.of_grown {M : Nat → Obj → Prop} {W W' : World} {row : Option Nat} (h : W.grownBy W' row) (hr : ∀ r o, row = some r → W.heap[r]? = some o → M r o) : KpT M W W' :=
  ⟨h.size, fun k o hk _ hm => (h.block k (Array.getElem?_eq_some_iff.1 hk).1 (fun e => hm (hr k o e.symm hk))).trans hk⟩
theorem KpT.mono {M M' : Nat → Obj → Prop} {W W' : World} (h : KpT M W W') (hm : ∀ k o, W.heap[k]? = some o → M k o → M' k o) : KpT M' W W' :=
  ⟨h.1, fun k o hk hc a => h.2 k o hk hc (fun q => a (hm k o hk q))⟩
theorem KpT.cell {M : Nat → Obj → Prop} {W W' : World} (h : KpT M W W') {a : Addr} {v : Value} (ha : ∀ o, W.heap[a.block]? = some o → ¬ M a.block o) (hc : W.cell? a = some v) : W'.cell? a = some v := by
  obtain ⟨o, ho, hcl⟩ := cells_of_cell hc
  rw [World.cell?_of_block (w := W) ((h.2 _ _ ho hcl (ha o ho)).trans ho.symm)]
  exact hc
theorem grown_of_below {W W' : World} (h : Below W.heap.size W W') : W.grownBy W' none := ⟨h.os, h.tape, h.output, h.size, fun k hk _ => h.block k hk⟩
end Bod
namespace Go.Proofs.YtfjoklbiocniiaaDoor
open Go.RowKit Go.Shelf Bod
attribute [local go_sem] Oper.semAt_some

/-- what the iterator hands yield at the offset i -/
abbrev enc2 (s : ByteArray) (i : Nat) : Array Value := #[.int .i64 (i : Int), .agg #[.int .i32 (ch s i), .int .i64 (sz s i)]]

theorem tabs_kpt {M : Nat → Obj → Prop} {W W' : World} (h : KpT M W W') (h0 : ∀ o, ¬ M 0 o) (h1 : ∀ o, ¬ M 1 o) (t : Lib.Utf8Tabs 0 1 W) : Lib.Utf8Tabs 0 1 W' :=
  ⟨fun c hc => h.cell (fun o _ => h0 o) (t.1 c hc), fun i hi => ⟨h.cell (fun o _ => h1 o) (t.2 i hi).1, h.cell (fun o _ => h1 o) (t.2 i hi).2⟩⟩

set_option maxRecDepth 100000 in
set_option maxHeartbeats 2000000 in
theorem unit_seq (n : Nat) (hn : 1 ≤ n) (Bs B : Nat) (M : Nat → Obj → Prop) (s : ByteArray) (hs : s.size ≤ maxLen) (hM0 : ∀ o, ¬ M 0 o) (hM1 : ∀ o, ¬ M 1 o) (hMB : ∀ o, ¬ M Bs o) (hMU : ∀ k vs fz, B ≤ k → ¬ M k (.cells vs 82 fz))
    (w : World) (hBs : w.cell? ⟨Bs, 0, none⟩ = some (.string s)) (hT : Lib.Utf8Tabs 0 1 w) :
    SeqC Fence.wide n Tryd.prog 64 #[.pointer (some ⟨Bs, 0, none⟩)] (enc2 s) (KpT M) (fun ys => ys = offs s 0) (fun pre => pre <+: offs s 0) (fun pre x => pre ++ [x] <+: offs s 0) 0 B w := by
  intro l J Jx W hWB hW hJ _ hY h0
  have hBs : W.cell? ⟨Bs, 0, none⟩ = some (.string s) := (KpT.of_below (M := fun _ _ => False) (W := w) hW).cell (fun _ _ h => h) hBs
  have hT : Lib.Utf8Tabs 0 1 W := tabs_below hT hW
  clear hW
  have hs' := hs
  unfold maxLen at hs
  refine callsIn_of_wp Tryd.func64 rfl trivial ?_ rfl
  simp only [Tryd.ntmps64, List.size_toArray, List.length_cons, List.length_nil, Nat.reduceAdd, Nat.reduceSub, Array.replicate_succ, Array.replicate_zero, List.push_toArray, List.append_toArray, List.nil_append, List.cons_append]
  have HWB : Hid (W.heap.size = B) := hWB
  clear hWB
  gi_wp2
  gi_loopw [3] (fun t wr => ∃ (pre : List Nat) (i : Nat), t = .int .i64 i ∧ i ≤ s.size ∧ pre ++ offs s i = offs s 0 ∧ J pre wr ∧ KpT M W wr)
    (fun t _ => s.size - (intOf t).toNat)
  case atStart => exact ⟨[], 0, rfl, Nat.zero_le _, rfl, h0, KpT.refl _ _⟩
  case round =>
    obtain ⟨pre, i, rfl, hi', hx, hJs, hK⟩ := hrel
    have hBr := hK.cell (fun o _ => hMB o) hBs
    by_cases hlt : i < s.size
    · have hTr := tabs_kpt hK hM0 hM1 hT
      have hnx : pre ++ [i] <+: offs s 0 := ⟨offs s (i + sz s i), by rw [← hx, offs_step hlt]; simp⟩
      have hin := sz_in hlt
      have hpos := sz_pos hlt
      have hsz2 := hK.1
      have HY : Hid (∀ w', Below wr.heap.size wr w' → YieldAt Fence.wide (n - 1) Tryd.prog l (enc2 s i) (w'.alloc (.cells #[.int .i32 (ch s i), .int .i64 (sz s i)] 82)) fun e W' =>
          (e = .returned (.bool true) ∧ J (pre ++ [i]) W' ∧ KpT M (w'.alloc (.cells #[.int .i32 (ch s i), .int .i64 (sz s i)] 82)) W') ∨ (e = .returned (.bool false) ∧ Jx (pre ++ [i]) W')) := fun w' hb =>
        (hY pre i _ (hJ.alloc _ (hJ.grow hJs (grown_of_below hb))) (by have h1 := hb.size; have h2 := HWB.out; simp; omega) hnx).mono fun _ _ h => h.2
      gi_wp2_with (refine ⟨trivial, ?_⟩; gi_at_call 52; refine (callsIn_wide.2 (read_any s i hs' hlt _ hTr)).mono ?_; rintro e w' ⟨rfl, hb⟩; obtain ⟨fn, tmps, assign, body, hy, hR⟩ := HY.out w' hb; dsimp only [enc2] at hy; have HB : Hid (Below wr.heap.size wr w') := hb; have HS : Hid (wr.heap.size ≤ w'.heap.size) := hb.size; clear hb)
      refine hR.mono ?_
      rintro e W3 (⟨rfl, hJ3, hk3⟩ | ⟨rfl, hJx3⟩)
      · have hu : W3.cell? ⟨w'.heap.size, 1, none⟩ = some (.int .i64 (sz s i)) := hk3.cell (fun o ho => by
            have e : some o = some (.cells #[.int .i32 (ch s i), .int .i64 (sz s i)] 82) := ho.symm.trans (World.alloc_heap_new w' _)
            cases e
            exact hMU _ _ _ (by have h1 := HS.out; have h2 := HWB.out; show B ≤ w'.heap.size; omega)) (by simp)
        gi_wp2
        go_roundw
        case rel => exact ⟨pre ++ [i], i + sz s i, by go_num, by omega, by rw [← hx, offs_step hlt]; simp, hJ3, hK.trans ((KpT.of_below HB.out).trans ((KpT.of_below ((Below.refl _ w').alloc (Nat.le_refl _) _)).trans hk3))⟩
        case measure => simp [intOf]; omega
      · gi_wp2
        refine bodyPost_ret (results_none rfl _ _ _) rfl ?_
        exact ⟨⟨_, rfl⟩, .inr ⟨pre ++ [i], hnx, hJx3⟩⟩
    · gi_wp2
      go_end0
      exact ⟨⟨_, rfl⟩, .inl ⟨pre, by rw [← hx, offs_end (by omega)]; simp, hJs⟩⟩

theorem uwalk_in (n : Nat) (s : ByteArray) (w : World) :
    CallsIn Fence.wide n Tryd.prog 44 #[.string s] w fun e w' => e = .returned (.func (.func 64) #[] #[.pointer (some ⟨w.heap.size, 0, none⟩)]) ∧ w' = w.alloc (.cells #[.string s] 9) := by
  refine callsIn_of_wp Tryd.func44 rfl trivial ?_ rfl
  simp only [Tryd.ntmps44, List.size_toArray, List.length_cons, List.length_nil, Nat.reduceAdd, Nat.reduceSub, Array.replicate_succ, Array.replicate_zero, List.push_toArray, List.append_toArray, List.nil_append, List.cons_append]
  gi_wp2
  go_ret
  exact ⟨rfl, rfl⟩
end Go.Proofs.YtfjoklbiocniiaaDoor
