/-
  The walk of the law RopeWalks: for every text of at most 1048576 letters the leaves of its rope come again and again, one range broken off, another within it, while the rope's edits stay apart. Conditions: the two tables of unicode/utf8 lie as their text lays them.
-/
import Derived.Test.YtffipfmnpffdaaaGreatDoorRRight
import Derived.Test.YtffipfmnpffdaaaGreatDoorRLaw
import Derived.Maps.OwnIn
import Derived.Deep.AppendLies
import Derived.Lib.QuietBelowIn
namespace Go.Proofs.YtffipfmnpffdaaaGreatDoor.ropeWalks
open Go.RowKit Go.Shelf Bod Wid
attribute [local go_sem] Oper.semAt_some

abbrev ptr (b : Nat) : Value := .pointer (some ⟨b, 0, none⟩)
/-- the box b holds a slice of its own that reads as l; its row lies at hi or beyond -/
structure Ls (b hi : Nat) (l : List ByteArray) (W : World) (v : Value) : Prop where
  box : W.heap[b]? = some (.cells #[v] 22 (0, 0))
  row : W.ownsRow hi 9 1 v l.length (strs l)
theorem Ls.block {b hi : Nat} {l : List ByteArray} {W : World} {v : Value} (h : Ls b hi l W v) {g : Nat} (hg : v.ownBlock = some g) : ∃ vs, W.heap[g]? = some (.cells vs 9 (0, 0)) := by
  rcases h.row.2 with ⟨h0, _⟩ | ⟨g', cap', cur, hv, _, hgb, _⟩
  · rw [h0] at hg; cases hg
  · rw [hv] at hg; cases hg; exact ⟨_, hgb⟩
theorem Ls.kept {b hi : Nat} {l : List ByteArray} {W W' : World} {v : Value} {row : Option Nat} (h : Ls b hi l W v) (hg : W.grownBy W' row) (h1 : row ≠ some b) (h2 : ∀ g, v.ownBlock = some g → row ≠ some g) : Ls b hi l W' v :=
  ⟨(hg.block b (Array.getElem?_eq_some_iff.1 h.box).1 (fun e => h1 e.symm)).trans h.box, h.row.kept hg (by cases hb : v.ownBlock with
    | none => exact .inl rfl
    | some g => exact .inr (fun e => h2 g hb e.symm))⟩
theorem ls_ab {b B lo hi : Nat} (hb : b < B) : Ab B lo lo (fun (l : List (Nat × ByteArray)) W => ∃ v, Ls b hi (l.map (·.2)) W v) := fun l X Y row h hg hr => h.imp fun v hv =>
  hv.kept hg (fun e => by have := (hr b e).1; omega) (fun g hg' e => by
    obtain ⟨_, (h3 | ⟨o, ho, hc⟩)⟩ := hr g e
    · omega
    · obtain ⟨vs, hvs⟩ := hv.block hg'
      rw [hvs] at ho; cases ho; cases hc)
/-- behind the append -/
theorem Ls.grown {b hi : Nat} {l : List ByteArray} {W w1 : World} {v : Value} {o : Obj} (h : Ls b hi l W v) (hb : b < hi) (hg : (W.alloc o).grownBy w1 v.ownBlock) : w1.heap[b]? = some (.cells #[v] 22 (0, 0)) := by
  have hs := (Array.getElem?_eq_some_iff.1 h.box).1
  refine (hg.block b (by simp; omega) (fun e => ?_)).trans ((Below.heap_alloc _ _ _ hs).trans h.box)
  have := (h.row.lt b e.symm).1
  omega
/-- what the rounds of the first range write: the list's box and its rows -/
def M1 (b : Nat) (k : Nat) (o : Obj) : Prop := (k = b ∧ ∃ vs fz, o = .cells vs 22 fz) ∨ ∃ vs fz, o = .cells vs 9 fz
theorem Ls.appended {b hi B n₀ : Nat} {l : List ByteArray} {x : ByteArray} {w W w1 : World} {v v' : Value} {o : Obj} (h : Ls b hi l W v) (hb : b < hi) (hB : Below n₀ w W) (hn : n₀ ≤ b) (hg : (W.alloc o).grownBy w1 v.ownBlock)
    (hown : w1.ownsRow hi 9 1 v' (l.length + 1) (strs l ++ [.string x])) :
    KeepsFrom B W (w1.setCell ⟨b, 0, none⟩ v') ∧ KpT (M1 b) W (w1.setCell ⟨b, 0, none⟩ v') ∧ Ls b hi (l ++ [x]) (w1.setCell ⟨b, 0, none⟩ v') v' ∧ Below n₀ w (w1.setCell ⟨b, 0, none⟩ v') ∧ ∀ k o, W.heap[k]? = some o → k < hi → k ≠ b → (w1.setCell ⟨b, 0, none⟩ v').heap[k]? = some o := by
  have hs := (Array.getElem?_eq_some_iff.1 h.box).1
  have t0 := h.grown hb hg
  have g2 := gcell w1 b 0 v'
  have hBa : Below W.heap.size W (W.alloc o) := (Below.refl _ W).alloc (Nat.le_refl _) _
  have hfar : ∀ g, v.ownBlock = some g → hi ≤ g ∧ ∃ vs, (W.alloc o).heap[g]? = some (.cells vs 9 (0, 0)) := fun g e => by
    obtain ⟨vs, hvs⟩ := h.block e
    exact ⟨(h.row.lt g e).1, vs, (Below.heap_alloc _ _ _ (Array.getElem?_eq_some_iff.1 hvs).1).trans hvs⟩
  have kf1 : KeepsFrom B (W.alloc o) w1 := ⟨hg.size, fun k o' _ hk hc => (hg.block k (Array.getElem?_eq_some_iff.1 hk).1 (fun e => by
    obtain ⟨_, vs, hvs⟩ := hfar k e.symm
    rw [hvs] at hk; cases hk; cases hc)).trans hk⟩
  have kp1 : KpT (M1 b) (W.alloc o) w1 := KpT.of_grown hg (fun r o' e ho => by
    obtain ⟨h1, vs, hvs⟩ := hfar r e
    rw [hvs] at ho; cases ho
    exact .inr ⟨_, _, rfl⟩)
  refine ⟨kf_trans (kf_below hBa) (kf_trans kf1 (kf_cells g2 t0)), (KpT.of_below hBa).trans (kp1.trans (KpT.of_grown g2 (fun r o' e ho => by cases e; rw [t0] at ho; cases ho; exact .inl ⟨rfl, _, _, rfl⟩))), ⟨by simpa using set1 (i := 0) v' t0, ?_⟩, ?_, fun k o' hk hlt hne => ?_⟩
  · rw [List.length_append, show strs (l ++ [x]) = strs l ++ [.string x] by simp [strs]]
    exact hown.kept g2 (by cases hb' : v'.ownBlock with
      | none => exact .inl rfl
      | some g => exact .inr (fun e => by cases e; have := (hown.lt b hb').1; omega))
  · have h1 := hB.alloc (show n₀ ≤ W.heap.size by omega) o
    have h2 : Below n₀ w w1 := h1.grown hg (by simp; omega) (fun k e => by have := (hfar k e).1; omega)
    exact h2.setCell (p := ⟨b, 0, none⟩) hn _
  · have h1 := (Below.heap_alloc W o _ (Array.getElem?_eq_some_iff.1 hk).1).trans hk
    have h2 := (hg.block k (Array.getElem?_eq_some_iff.1 h1).1 (fun e => by have := (hfar k e.symm).1; omega)).trans h1
    exact (g2.block k (Array.getElem?_eq_some_iff.1 h2).1 (fun e => hne (by cases e; rfl))).trans h2
theorem push4 (a : Array Obj) (o0 o1 o2 o3 : Obj) : ((((a.push o0).push o1).push o2).push o3)[a.size]? = some o0 ∧ ((((a.push o0).push o1).push o2).push o3)[a.size + 1]? = some o1 ∧ ((((a.push o0).push o1).push o2).push o3)[a.size + 1 + 1]? = some o2 ∧ ((((a.push o0).push o1).push o2).push o3)[a.size + 1 + 1 + 1]? = some o3 := by
  obtain ⟨h0, h1⟩ := push2 a o0 o1
  obtain ⟨h2, h3⟩ := push2 ((a.push o0).push o1) o2 o3
  simp only [Array.size_push] at h2 h3
  refine ⟨?_, ?_, h2, h3⟩
  · rw [Array.getElem?_push, if_neg (by simp only [Array.size_push]; omega), Array.getElem?_push, if_neg (by simp only [Array.size_push]; omega)]; exact h0
  · rw [Array.getElem?_push, if_neg (by simp only [Array.size_push]; omega), Array.getElem?_push, if_neg (by simp only [Array.size_push]; omega)]; exact h1
/-- the law's own: its four first boxes, since w -/
structure Fr (w : World) (s put : ByteArray) (stop : Int) (W : World) : Prop where
  bel : Below w.heap.size w W
  s : W.heap[w.heap.size]? = some (.cells #[.string s] 9 (0, 0))
  st : W.heap[w.heap.size + 1]? = some (.cells #[.int .u8 stop] 5 (0, 0))
  p : W.heap[w.heap.size + 1 + 1]? = some (.cells #[.string put] 9 (0, 0))
  r : W.heap[w.heap.size + 1 + 1 + 1]? = some (.cells #[.bool false] 4 (0, 0))
theorem Fr.below {w W W' : World} {s put : ByteArray} {stop : Int} (h : Fr w s put stop W) (hb : Below W.heap.size W W') : Fr w s put stop W' :=
  have kp : ∀ {k : Nat} {o : Obj}, W.heap[k]? = some o → W'.heap[k]? = some o := fun ho => (hb.block _ (Array.getElem?_eq_some_iff.1 ho).1).trans ho
  ⟨Below.on h.bel hb, kp h.s, kp h.st, kp h.p, kp h.r⟩
/-- what stands ahead of the ranges -/
structure Gr (w : World) (s put : ByteArray) (stop : Int) (r b7 c : Nat) (x : Value) (W : World) : Prop where
  fr : Fr w s put stop W
  rp : Rp W (tof s) (ptr r)
  b7 : W.heap[b7]? = some (.cells #[ptr r] 26 (0, 0))
  c : W.heap[c]? = some (.cells #[x] 99 (0, 0))
  a : At W (tof s) x
theorem Gr.below {w W W' : World} {s put : ByteArray} {stop : Int} {r b7 c : Nat} {x : Value} (h : Gr w s put stop r b7 c x W) (hb : Below W.heap.size W W') : Gr w s put stop r b7 c x W' :=
  have kp : ∀ {k : Nat} {o : Obj}, W.heap[k]? = some o → W'.heap[k]? = some o := fun ho => (hb.block _ (Array.getElem?_eq_some_iff.1 ho).1).trans ho
  ⟨h.fr.below hb, h.rp.below hb, kp h.b7, kp h.c, h.a.below hb⟩
theorem lv_pos : ∀ t : Tr, 1 ≤ t.lv.length
  | .leaf _ => Nat.le_refl _
  | .knot l r => by show 1 ≤ (l.lv ++ r.lv).length; rw [List.length_append]; have := lv_pos l; omega
/-- what stands behind the first range -/
structure Zb (w : World) (s put : ByteArray) (stop : Int) (r b7 c : Nat) (x : Value) (b8 g n cap : Nat) (cur : Array Value) (D : Nat) (V : World) : Prop where
  gr : Gr w s put stop r b7 c x V
  it : V.heap[b8]? = some (.cells #[.func (.func 52) #[] #[.pointer (some ⟨c, 0, none⟩)]] 33 (0, 0))
  ls : V.heap[b8 + 1]? = some (.cells #[.slice (some ⟨g, 0, none⟩) n cap] 22 (0, 0))
  g : V.heap[g]? = some (.cells cur 9 (0, 0))
  dd : V.heap[D]? = some (.deferred (some []))
theorem Zb.below {w V V' : World} {s put : ByteArray} {stop : Int} {r b7 c b8 g n cap D : Nat} {x : Value} {cur : Array Value} (h : Zb w s put stop r b7 c x b8 g n cap cur D V) (hb : Below V.heap.size V V') : Zb w s put stop r b7 c x b8 g n cap cur D V' :=
  have kp : ∀ {k : Nat} {o : Obj}, V.heap[k]? = some o → V'.heap[k]? = some o := fun ho => (hb.block _ (Array.getElem?_eq_some_iff.1 ho).1).trans ho
  ⟨h.gr.below hb, kp h.it, kp h.ls, kp h.g, kp h.dd⟩
/-- what the rounds of the second range and of the inner one write: a number's box -/
def M2 (b : Nat) (k : Nat) (o : Obj) : Prop := k = b ∧ ∃ vs fz, o = .cells vs 3 fz
theorem region_quietB {F : Fence} {n : Nat} {P : Program} {id : Nat} {Q : Exit → Act → World → Prop} {a : Act} {w : World} {l : List Oper} (hm : P.follows .mixedOrders = true) (hB : Region.lexB .any l.toArray = true) (hnd : l.all (fun o => !isDefer o.op) = true)
    (h : wpQuietIn F n P l.toArray (fun w' => ∃ p : Regrown, w' = Go.Sort.grow (redrawn w p.d) p.os) (fun a' => ∀ w', (∃ p : Regrown, w' = Go.Sort.grow (redrawn w p.d) p.os) → Q .normal a' w') l a) : (Code.region id l.toArray true).wpIn F n P Q a w := by
  simp only [Region.lexB, Bool.and_eq_true] at hB
  refine wpIn_region_any hm (any_of_quiet (C := fun w' => ∃ p : Regrown, w' = Go.Sort.grow (redrawn w p.d) p.os) (Q := fun a' => ∀ w', (∃ p : Regrown, w' = Go.Sort.grow (redrawn w p.d) p.os) → Q .normal a' w') (fun i o ho => ?_) (fun _ w' hw' h => h w' hw') _ _ _ _ ⟨⟨w.drawn + 1, #[]⟩, by rw [Go.Sort.grow_empty]; rfl⟩ ?_)
  · have hm : o ∈ l := by
      have := Array.mem_of_getElem? ho
      simpa using this
    have := List.all_eq_true.1 hnd o hm
    simpa using this
  · have := wpAnyQIn_lex (F := F) (n := n) (P := P) (C := fun w' => ∃ p : Regrown, w' = Go.Sort.grow (redrawn w p.d) p.os) (Q := fun a' => ∀ w', (∃ p : Regrown, w' = Go.Sort.grow (redrawn w p.d) p.os) → Q .normal a' w') (md := .any) hB.1 l 0 (Array.replicate l.toArray.size false) a (by simp) (by simpa using hB.2) h
    simpa using this
set_option maxRecDepth 100000 in
set_option maxHeartbeats 4000000 in
theorem walk (d : Nat) (hd : 8 ≤ d) (s : ByteArray) (stop : Int) (put : ByteArray) (w : World) (hs : s.size + put.size ≤ 1048576) (hst : 0 ≤ stop ∧ stop ≤ 255) (hE : Ev w) :
    CallsIn Fence.wide d Tryz.prog 4 #[.string s, .int .u8 stop, .string put] w fun e w' => e = .returned (.bool true) ∧ Below w.heap.size w w' := by
  have h1 : 1 ≤ d := by omega
  obtain ⟨i0, hi, hz0, hz1, hz2⟩ := info_parts infoStr
  obtain ⟨W0, hW0⟩ : ∃ W0, (((w.alloc (.cells #[.string s] 9)).alloc (.cells #[.int .u8 stop] 5)).alloc (.cells #[.string put] 9)).alloc (.cells #[.bool false] 4) = W0 := ⟨_, rfl⟩
  have hF0 : Fr w s put stop W0 := by
    obtain ⟨p0, p1, p2, p3⟩ := push4 w.heap (.cells #[.string s] 9) (.cells #[.int .u8 stop] 5) (.cells #[.string put] 9) (.cells #[.bool false] 4)
    rw [← hW0]
    exact ⟨((((Below.refl _ w).alloc (Nat.le_refl _) _).alloc (by simp) _).alloc (by simp; omega) _).alloc (by simp; omega) _, p0, p1, p2, p3⟩
  have c0 : W0.cell? ⟨w.heap.size, 0, none⟩ = some (.string s) := (box1 hF0.s).1
  have HFB : Hid (∀ W, Hid (Fr w s put stop W) → W.cell? ⟨w.heap.size, 0, none⟩ = some (.string s)) := fun W h => (box1 h.out.s).1
  have C0 : Hid (Calls Tryz.prog 9 #[] W0 fun e W' => e = .returned (.bool true) ∧ Hid (Fr w s put stop W')) := (holds_any W0 (hE.below hF0.bel)).mono fun e W' ⟨q1, q2⟩ => ⟨q1, hF0.below q2⟩
  have C1 : Hid (∀ W, Hid (Fr w s put stop W) → Calls Tryz.prog 10 #[.string s] W fun e W' => ∃ b, e = .returned (ptr b) ∧ Hid (Fr w s put stop W' ∧ Rp W' (tof s) (ptr b))) := fun W hW => (rnew_any s (by unfold B40; omega) W (hE.below hW.out.bel)).mono fun e W' h => by
    obtain ⟨b, h1, h2, h3⟩ := MkR.rp h
    exact ⟨b, h1, hW.out.below h3, h2⟩
  have C2 : Hid (∀ W X r, X = W.alloc (.cells #[ptr r] 26) → Hid (Fr w s put stop W ∧ Rp W (tof s) (ptr r)) → Calls Tryz.prog 13 #[ptr r] X fun e W' => ∃ c x, e = .returned (.func (.func 52) #[] #[.pointer (some ⟨c, 0, none⟩)]) ∧ Hid (Gr w s put stop r W.heap.size c x W')) := fun W X r e hW => by
    subst e
    have hb : Below W.heap.size W (W.alloc (.cells #[ptr r] 26)) := (Below.refl _ W).alloc (Nat.le_refl _) _
    have h7 : (W.alloc (.cells #[ptr r] 26)).heap[W.heap.size]? = some (.cells #[ptr r] 26 (0, 0)) := World.alloc_heap_new W _
    refine (leaves_any (hW.out.2.below hb)).mono ?_
    rintro e W' ⟨c, x, q1, q2, q3, q4⟩
    exact ⟨c, x, q1, (hW.out.1.below hb).below q4, (hW.out.2.below hb).below q4, (q4.block _ (Array.getElem?_eq_some_iff.1 h7).1).trans h7, q2, q3⟩
  have hfn := fun x y W => func_nil (.func 52) x y W
  clear hF0
  refine callsIn_of_wp_marks Tryz.func4 rfl trivial ?_ rfl
  simp only [Tryz.ntmps4, List.size_toArray, List.length_cons, List.length_nil, Nat.reduceAdd, Nat.reduceSub, Array.replicate_succ, Array.replicate_zero, List.push_toArray, List.append_toArray, List.nil_append, List.cons_append]
  gi_wp2_with (first
    | (refine ⟨trivial, ?_⟩; gi_at_call 9; refine (callsIn_wide.2 C0.out).mono ?_; clear C0 c0 hW0; rintro e w1 ⟨rfl, H1⟩; have c0 := HFB.out _ H1)
    | (refine ⟨trivial, ?_⟩; gi_at_call 10; refine (callsIn_wide.2 (C1.out _ H1)).mono ?_; clear C1 c0 H1 HFB; rintro e w2 ⟨r, rfl, H2⟩)
    | (refine ⟨trivial, ?_⟩; gi_at_call 13; refine (callsIn_wide.2 (C2.out _ _ _ rfl H2)).mono ?_; clear C2 H2; rintro e w3 ⟨c, x, rfl, H3⟩))
  obtain ⟨T, hT⟩ : ∃ T, tof s = T := ⟨_, rfl⟩
  have hG : Good T := by rw [← hT]; exact tof_good s
  have hTx : T.text = s := by rw [← hT]; exact tof_text s
  have hn1 : T.lv.length ≤ 1048577 := by
    rcases hG.fine with k | k
    · rw [k]; decide
    · have := k.size; rw [hTx] at this; omega
  have HG : Hid (Good T ∧ T.text = s ∧ tof s = T ∧ T.lv.length ≤ 1048577) := ⟨hG, hTx, hT, hn1⟩
  obtain ⟨W4, hW4⟩ : ∃ W4, (w3.alloc (.cells #[.func (.func 52) #[] #[.pointer (some ⟨c, 0, none⟩)]] 33)).alloc (.cells #[.slice none 0 0] 22) = W4 := ⟨_, rfl⟩
  rw [hW4]
  obtain ⟨p0, p1⟩ : W4.heap[w3.heap.size]? = some (.cells #[.func (.func 52) #[] #[.pointer (some ⟨c, 0, none⟩)]] 33 (0, 0)) ∧ W4.heap[w3.heap.size + 1]? = some (.cells #[.slice none 0 0] 22 (0, 0)) := by rw [← hW4]; exact push2 w3.heap _ _
  have hB4 : Below w3.heap.size w3 W4 := by rw [← hW4]; exact ((Below.refl _ w3).alloc (Nat.le_refl _) _).alloc (by simp) _
  have HSZ : Hid (W4.heap.size = w3.heap.size + 2) := by show _ = _; rw [← hW4]; simp
  clear hW4
  have H4 := H3.out.below hB4
  refine act_name' fun A hA => ?_
  refine range_own rfl h1 (gf := 52) (lb := #[.pointer (some ⟨c, 0, none⟩)]) (by rw [hA]; rfl) trivial (enters_of Tryz.func52 (by kernel_rfl) rfl)
    (leaf_seq (d - 1) c (W4.heap.size + 2) (M1 (w3.heap.size + 1)) T x W4 H4.c (hT ▸ H4.a) (by rw [hTx]; unfold B40; omega) (fun k vs fz h => by rcases h with ⟨_, _, _, e⟩ | ⟨_, _, e⟩ <;> cases e) (fun k vs fz h => by rcases h with ⟨_, _, _, e⟩ | ⟨_, _, e⟩ <;> cases e))
    KpT.trans (fun W l o o' _ _ hl ho => KpT.putObj W l o o' hl ho) (fun _ => rfl)
    (fun pre W => (∃ v, Ls (w3.heap.size + 1) (w3.heap.size + 4) (pre.map (·.2)) W v) ∧ Below w3.heap.size w3 W ∧ W.heap[w3.heap.size]? = some (.cells #[.func (.func 52) #[] #[.pointer (some ⟨c, 0, none⟩)]] 33 (0, 0))) (fun _ _ _ => False)
    (Ab.and (ls_ab (by have := HSZ.out; omega)) (Ab.and (ab_below (by have := HSZ.out; omega) (Nat.le_refl _)) (ab_block (o := fun _ => _) (by have := HSZ.out; omega)))) (fun _ _ _ _ _ hs _ _ => hs)
    ⟨⟨_, p1, World.ownsRow_nil _ _ _ _⟩, hB4, p0⟩
    (fun y a' _ => a' = { tmps := (((#[28, 29] : Array Tmp).zip (encL y)).foldl (fun t (p, v) => t.setIfInBounds p v) A.tmps).setIfInBounds 11 (.string y.2), defers := [] })
    (fun _ _ _ _ _ _ hs _ _ => hs) ?assign ?body ?done ?stop
  case assign =>
    intro l pre y W K hi hK
    subst hA
    gi_wp2
    exact hK _ _ (KeepsFrom.refl _ _) (KpT.refl _ _) hi (by simp [encL])
  case body =>
    rintro l pre ⟨off, y⟩ a' W _ _ _ hWs ⟨⟨v, hv⟩, hB, hit⟩ rfl hnx
    have hlt := (lvo_nx hnx).2.2
    obtain ⟨L, hL⟩ : ∃ L, pre.map (·.2) = L := ⟨_, rfl⟩
    have hLl : L.length = pre.length := by rw [← hL, List.length_map]
    rw [hL] at hv
    have hc : W.cell? ⟨w3.heap.size + 1, 0, none⟩ = some v := (box1 hv.box).1
    have hml : L.length + 1 ≤ maxLen := by unfold maxLen; omega
    have hbl : (L.length + 1) * 16 ≤ 140737488355328 := by omega
    have HW : Hid (w3.heap.size + 4 ≤ W.heap.size) := by have := HSZ.out; show _ ≤ _; omega
    have HFIN : Hid (∀ (w1 : World) (v' : Value) (o : Obj), (W.alloc o).grownBy w1 v.ownBlock → w1.ownsRow (w3.heap.size + 4) 9 1 v' (L.length + 1) (strs L ++ [.string y]) → KeepsFrom W4.heap.size W (w1.setCell ⟨w3.heap.size + 1, 0, none⟩ v') ∧ KpT (M1 (w3.heap.size + 1)) W (w1.setCell ⟨w3.heap.size + 1, 0, none⟩ v') ∧ (∃ v, Ls (w3.heap.size + 1) (w3.heap.size + 4) ((pre ++ [(off, y)]).map (·.2)) (w1.setCell ⟨w3.heap.size + 1, 0, none⟩ v') v) ∧ Below w3.heap.size w3 (w1.setCell ⟨w3.heap.size + 1, 0, none⟩ v') ∧ (w1.setCell ⟨w3.heap.size + 1, 0, none⟩ v').heap[w3.heap.size]? = some (.cells #[.func (.func 52) #[] #[.pointer (some ⟨c, 0, none⟩)]] 33 (0, 0))) := fun w1 v' o hg hown => by
      obtain ⟨q1, q2, q3, q4, q5⟩ := hv.appended (B := W4.heap.size) (by omega) hB (by omega) hg hown
      exact ⟨q1, q2, ⟨_, by rw [List.map_append, hL]; exact q3⟩, q4, q5 _ _ hit (by omega) (by omega)⟩
    clear hWs hnx hlt hB hit hL hLl
    subst hA
    gi_wp2_with (gi_at_builtin; refine wpListIn_append_own_at _ rfl _ _ 22 rfl (w3.heap.size + 4) 9 i0 _ 1 16 Tryz.underlying22 hi hz0 hz1 hz2 rfl (by decide) _ _ _ rfl (hv.row.alloc _) ⟨W.heap.size, 0, none⟩ 1 1 [.string y] rfl rfl (World.news_of_block (World.alloc_heap_new W _)) (by simp [Value.oneCell']) hml hbl (by have := HW.out; simp; omega) ?_; intro v' w1 hown' hgrow _ hob; obtain ⟨g', cap', rfl⟩ := ownsRow_succ hown'; have t0 := hv.grown (by omega) hgrow; have tc : w1.cell? ⟨w3.heap.size + 1, 0, none⟩ = some v := (box1 t0).1; have tf : w1.frozen? ⟨w3.heap.size + 1, 0, none⟩ = false := (box1 t0).2)
    exact HFIN.out _ _ _ hgrow hown'
  case done =>
    rintro D ys W hD rfl ⟨⟨v, hv⟩, hB, hit⟩ hK
    have hLV : (lvo T 0).map (·.2) = T.lv := lvo_map T 0
    rw [hLV] at hv
    obtain ⟨n, hn⟩ : ∃ n, T.lv.length = n := ⟨_, rfl⟩
    have hnp : 1 ≤ n := by rw [← hn]; exact lv_pos T
    have hrow := hv.row
    rw [hn] at hrow
    obtain ⟨g, cap, cur, hve, hcur, hgb, hcap⟩ : ∃ g cap cur, v = .slice (some ⟨g, 0, none⟩) n cap ∧ (∀ k x, T.lv[k]? = some x → cur[k]? = some (Value.string x)) ∧ W.heap[g]? = some (.cells cur 9 (0, 0)) ∧ n ≤ cap := by
      rcases hrow.2 with ⟨_, h0⟩ | ⟨g, cap, cur, hv', _, hgb, hc, _, _, htk⟩
      · omega
      · refine ⟨g, cap, cur, hv', fun k x hk => ?_, hgb, hc⟩
        have hkn : k < n := by rw [← hn]; exact (List.getElem?_eq_some_iff.1 hk).1
        have e1 : (strs T.lv)[k]? = some (.string x) := by rw [List.getElem?_map, hk]; rfl
        rw [← htk, List.getElem?_take, if_pos (by omega)] at e1
        simpa using e1
    subst hve
    have HZ : Hid (Zb w s put stop r w2.heap.size c x w3.heap.size g n cap cur D W) := ⟨H3.out.below hB, hit, hv.box, hgb, hK⟩
    have HC : Hid (∀ k x, T.lv[k]? = some x → cur[k]? = some (Value.string x)) := hcur
    have HN : Hid (T.lv.length = n ∧ 1 ≤ n ∧ n ≤ 1048577) := ⟨hn, hnp, by omega⟩
    have hl8 := (Array.getElem?_eq_some_iff.1 hit).1
    obtain ⟨c8, _⟩ := box1 ((Below.heap_alloc W (.cells #[.int .i64 0] 3) _ hl8).trans hit)
    clear hv hB hit hgb hcur hrow hLV hK hi hz0 hz1 hz2 hn1 hnp hn
    subst hA
    gi_wp2
    clear c8
    obtain ⟨W5, hW5⟩ : ∃ W5, W.alloc (.cells #[.int .i64 0] 3) = W5 := ⟨_, rfl⟩
    have hb5 : Below W.heap.size W W5 := by rw [← hW5]; exact (Below.refl _ W).alloc (Nat.le_refl _) _
    have hm5 : W5.heap[W.heap.size]? = some (.cells #[.int .i64 0] 3 (0, 0)) := by rw [← hW5]; exact World.alloc_heap_new W _
    have HS5 : Hid (W5.heap.size = W.heap.size + 1) := by show _ = _; rw [← hW5]; simp
    rw [hW5]
    clear hW5
    have hZ5 := HZ.out.below hb5
    have HD : Hid (D < W.heap.size) := (Array.getElem?_eq_some_iff.1 HZ.out.dd).1
    refine act_name' fun A hA => ?_
    refine range_own rfl h1 (gf := 52) (lb := #[.pointer (some ⟨c, 0, none⟩)]) (by rw [hA]; rfl) trivial (enters_of Tryz.func52 (by kernel_rfl) rfl)
      (leaf_seq (d - 1) c (W5.heap.size + 2) (M2 W.heap.size) T x W5 hZ5.gr.c (hT ▸ hZ5.gr.a) (by rw [hTx]; unfold B40; omega) (fun k vs fz h => by obtain ⟨_, _, _, e⟩ := h; cases e) (fun k vs fz h => by obtain ⟨_, _, _, e⟩ := h; cases e))
      KpT.trans (fun W l o o' _ _ hl ho => KpT.putObj W l o o' hl ho) (fun _ => rfl)
      (fun pre V => Below W.heap.size W V ∧ V.heap[W.heap.size]? = some (.cells #[.int .i64 (pre.length : Int)] 3 (0, 0)))
      (fun e pre V => e = .exit 2 ∧ Below W.heap.size W V ∧ V.heap[W.heap.size]? = some (.cells #[.int .i64 (pre.length : Int)] 3 (0, 0)) ∧ 1 ≤ pre.length ∧ pre.length ≤ n)
      (Ab.and (ab_below (by have := HS5.out; omega) (Nat.le_refl _)) (ab_block (o := fun pre : List (Nat × ByteArray) => _) (by have := HS5.out; omega)))
      (fun e => Ab.and (Ab.pure _ _ _ (fun _ => e = .exit 2)) (Ab.and (ab_below (by have := HS5.out; omega) (Nat.le_refl _)) (Ab.and (ab_block (o := fun pre : List (Nat × ByteArray) => _) (by have := HS5.out; omega)) (Ab.pure _ _ _ (fun pre : List (Nat × ByteArray) => 1 ≤ pre.length ∧ pre.length ≤ n)))))
      ⟨hb5, hm5⟩
      (fun y a' _ => a' = { tmps := ((((#[35, 36] : Array Tmp).zip (encL y)).foldl (fun t (p, v) => t.setIfInBounds p v) A.tmps).setIfInBounds 13 (.int .i64 (y.1 : Int))).setIfInBounds 14 (.string y.2), defers := [] })
      (fun _ _ _ _ _ _ hs _ _ => hs) ?assign2 ?body2 ?done2 ?stop2
    case assign2 =>
      intro l pre y V K hi hK
      subst hA
      gi_wp2
      exact hK _ _ (KeepsFrom.refl _ _) (KpT.refl _ _) hi (by simp [encL])
    case body2 =>
      rintro l pre ⟨off, y⟩ a' V hl1 hl2 ⟨rl, hrl⟩ hlV ⟨hB, hnb⟩ rfl hnx
      obtain ⟨e1', e2', e3⟩ := lvo_nx hnx
      have e2 : off = (jo (T.lv.take pre.length)).size := e2'
      have f2 := (good_lk hG e1').f2
      rw [← e2, hTx] at f2
      have f2 : off + y.size ≤ s.size := f2
      have e1 : T.lv[pre.length]? = some y := e1'
      clear e1' e2'
      rw [HN.out.1] at e3
      have hnn := HN.out.2.2
      have hZ := HZ.out.below hB
      have hcu := HC.out _ _ e1
      obtain ⟨cN, fN⟩ := box1 hnb
      obtain ⟨cL, _⟩ := box1 hZ.ls
      obtain ⟨cR, _⟩ := box1 hZ.gr.b7
      obtain ⟨cP, _⟩ := box1 hZ.gr.fr.p
      have cG : V.cell? ⟨g, pre.length, none⟩ = some (.string y) := by unfold World.cell?; rw [hZ.g]; simpa using hcu
      have rk := rep_ok (t := T) (n := off) (m := off + y.size) put hG (by rw [hTx]; omega) (by rw [hTx]; omega)
      obtain ⟨R, hR⟩ : ∃ R, rep T off (off + y.size) put = R := ⟨_, rfl⟩
      rw [hR, hTx] at rk
      obtain ⟨m, hm⟩ : ∃ m, R.text.size = m := ⟨_, rfl⟩
      have hms : (s.size : Int) - y.size + put.size = (m : Int) := by
        rw [← hm, rk.2, size_app, size_app, size_extract _ _ _ (by omega), size_extract _ _ _ (Nat.le_refl _)]
        omega
      have CR : Hid (CallsIn (Fence.wide.inRound l) (d - 1 - 1 - 1) Tryz.prog 12 #[ptr r, .int .i64 off, .int .i64 (y.size : Int), .string put] V fun e V' => ∃ b x, e = .returned (.tuple #[ptr b, .string x, .int .i64 0]) ∧ Hid (Rp V' R (ptr b) ∧ Below V.heap.size V V')) := CallsIn.inRound l (callsIn_wide.2 ((Go.Proofs.YtffipfmnpffdaaaGreatDoor.rrep_ok (hT ▸ hZ.gr.rp) hG off y.size put (by rw [hTx]; unfold B40; omega) (by rw [hTx]; omega) (hE.below hZ.gr.fr.bel)).mono fun e V' ⟨b, q1, q2, q3⟩ => ⟨b, _, q1, hR ▸ q2, q3⟩))
      have t1 : decide ((n : Int) ≤ (pre.length : Int)) = false := by simp; omega
      have t1n : decide (n ≤ pre.length) = false := by simp; omega
      have t2 : pre.length < n := e3
      have t3 : off ≤ 1048576 ∧ y.size ≤ 1048576 := by omega
      clear e1 e2 e3 hcu rk hnx
      subst hA
      gi_wp2_with (refine ⟨trivial, (fun h => by cases h), ?_⟩; guard_target =~ CallsIn _ _ _ 12 _ _ _; refine CR.out.mono ?_; clear CR; rintro e V1 ⟨b, xo, rfl, H1⟩)
      have hZ1 := hZ.below H1.out.2
      obtain ⟨d3, _⟩ := box1 hZ1.gr.fr.s
      obtain ⟨d5, _⟩ := box1 hZ1.gr.fr.p
      have g3 := cell_regrown d3
      have g5 := cell_regrown d5
      have q1 : ∀ dd os, CallsIn (Fence.wide.inRound l) (d - 1 - 1 - 1) Tryz.prog 18 #[ptr b] (Go.Sort.grow (redrawn V1 dd) os) fun e V' => e = .returned (.int .i64 m) ∧ ∃ p : Regrown, V' = Go.Sort.grow (redrawn V1 p.d) p.os := fun dd os => CallsIn.regrown_of (CallsIn.inRound l (callsIn_wide.2 (by
        have := rlen_any (H1.out.1.below (below_regrown V1 dd os))
        rw [hm] at this
        exact this)))
      clear cN fN cL cR cP cG d3 d5
      refine region_quietB (by kernel_rfl) (by kernel_rfl) (by kernel_rfl) ?_
      repeat (gi_big_quiet_step (fail))
      refine Go.BigFrame.wpQuietIn_want (fun _ _ _ _ => trivial) rfl (fun K hK => ?_)
      gi_big_quiet_op
      apply Exists.intro
      refine ⟨fun _ => ?_, ?_⟩
      · first | exact q1 _ _ | exact ⟨(fun h => by cases h), q1 _ _⟩ | exact fun _ => q1 _ _ | exact fun _ => ⟨(fun h => by cases h), q1 _ _⟩
      refine hK _ ?_
      clear hK K
      repeat (gi_big_quiet_step (fail))
      refine wpQuietIn_nil ?_
      intro _ hw'
      obtain ⟨⟨dq, osq⟩, hw''⟩ := hw'
      subst hw''
      obtain ⟨V2, hV2⟩ : ∃ V2, Go.Sort.grow (redrawn V1 dq) osq = V2 := ⟨_, rfl⟩
      have hb2 : Below V.heap.size V V2 := by rw [← hV2]; exact H1.out.2.trans ((below_regrown V1 dq osq).mono H1.out.2.size)
      dsimp only
      rw [hV2]
      clear hV2 g3 g5 q1 H1 hZ1
      have hZ2 := hZ.below hb2
      have hl8 := (Array.getElem?_eq_some_iff.1 hZ2.it).1
      obtain ⟨c8, _⟩ := box1 ((Below.heap_alloc V2 (.cells #[.int .i64 0] 3) _ hl8).trans hZ2.it)
      gi_wp2
      clear c8
      obtain ⟨V3, hV3⟩ : ∃ V3, V2.alloc (.cells #[.int .i64 0] 3) = V3 := ⟨_, rfl⟩
      have hm0 : V3.heap[V2.heap.size]? = some (.cells #[.int .i64 0] 3 (0, 0)) := by rw [← hV3]; exact World.alloc_heap_new V2 _
      have hb0 : Below V2.heap.size V2 V3 := by rw [← hV3]; exact (Below.refl _ V2).alloc (Nat.le_refl _) _
      have hs0 : V3.heap.size = V2.heap.size + 1 := by rw [← hV3]; simp
      rw [hV3]
      clear hV3
      have hr0 : V3.heap[l]? = some (.loop rl) := by
        have h2 := (hb2.block l (Array.getElem?_eq_some_iff.1 hrl).1).trans hrl
        exact (hb0.block l (Array.getElem?_eq_some_iff.1 h2).1).trans h2
      have hZ3 := hZ2.below hb0
      have FIN : Hid (∀ Y : World, Below V2.heap.size V2 Y → KeepsFrom W5.heap.size V (Y.setCell ⟨W.heap.size, 0, none⟩ (.int .i64 ((pre.length : Int) + 1))) ∧ KpT (M2 W.heap.size) V (Y.setCell ⟨W.heap.size, 0, none⟩ (.int .i64 ((pre.length : Int) + 1))) ∧ Below W.heap.size W (Y.setCell ⟨W.heap.size, 0, none⟩ (.int .i64 ((pre.length : Int) + 1))) ∧ (Y.setCell ⟨W.heap.size, 0, none⟩ (.int .i64 ((pre.length : Int) + 1))).heap[W.heap.size]? = some (.cells #[.int .i64 (((pre ++ [(off, y)]).length : Nat) : Int)] 3 (0, 0))) := fun Y hY => by
        have hVY : Below V.heap.size V Y := hb2.trans (hY.mono hb2.size)
        have hnY := (hVY.block _ (Array.getElem?_eq_some_iff.1 hnb).1).trans hnb
        have g1 := gcell Y W.heap.size 0 (.int .i64 ((pre.length : Int) + 1))
        refine ⟨kf_trans (kf_below hVY) (kf_cells g1 hnY), (KpT.of_below hVY).trans (KpT.of_grown g1 (fun r o e ho => by cases e; rw [hnY] at ho; cases ho; exact ⟨rfl, _, _, rfl⟩)), (hB.trans (hVY.mono hB.size)).setCell (p := ⟨W.heap.size, 0, none⟩) (Nat.le_refl _) _, ?_⟩
        have := set1 (i := 0) (.int .i64 ((pre.length : Int) + 1)) hnY
        simpa using this
      have HCN : Hid (∀ Y : World, Below V2.heap.size V2 Y → Y.cell? ⟨W.heap.size, 0, none⟩ = some (.int .i64 (pre.length : Int)) ∧ Y.frozen? ⟨W.heap.size, 0, none⟩ = false ∧ Y.cell? ⟨w3.heap.size + 1, 0, none⟩ = some (.slice (some ⟨g, 0, none⟩) n cap) ∧ Y.cell? ⟨w.heap.size + 1, 0, none⟩ = some (.int .u8 stop) ∧ (Y.setCell ⟨W.heap.size, 0, none⟩ (.int .i64 ((pre.length : Int) + 1))).cell? ⟨w.heap.size + 1, 0, none⟩ = some (.int .u8 stop)) := fun Y hY => by
        have hVY : Below V.heap.size V Y := hb2.trans (hY.mono hb2.size)
        have hnY := (hVY.block _ (Array.getElem?_eq_some_iff.1 hnb).1).trans hnb
        have hZY := hZ.below hVY
        have hst' := hZY.gr.fr.st
        have hlt : w.heap.size + 1 < W.heap.size := (Array.getElem?_eq_some_iff.1 HZ.out.gr.fr.st).1
        refine ⟨(box1 hnY).1, (box1 hnY).2, (box1 hZY.ls).1, (box1 hst').1, (box1 (((gcell Y W.heap.size 0 (.int .i64 ((pre.length : Int) + 1))).block _ (Array.getElem?_eq_some_iff.1 hst').1 (fun e => by injection e with e; omega)).trans hst')).1⟩
      refine act_name' fun A3 hA3 => ?_
      refine range_in (l₀ := l) (r₀ := rl) rfl hr0 (by omega) (gf := 52) (lb := #[.pointer (some ⟨c, 0, none⟩)]) (by rw [hA3]; rfl) trivial (enters_of Tryz.func52 (by kernel_rfl) rfl)
        (leaf_seq (d - 1 - 1 - 1) c (V3.heap.size + 1) (M2 V2.heap.size) T x V3 hZ3.gr.c (hT ▸ hZ3.gr.a) (by rw [hTx]; unfold B40; omega) (fun k vs fz h => by obtain ⟨_, _, _, e⟩ := h; cases e) (fun k vs fz h => by obtain ⟨_, _, _, e⟩ := h; cases e))
        KpT.trans (fun W l o o' _ _ hl ho => KpT.putObj W l o o' hl ho) (fun _ => rfl)
        (fun ys Y => Below V2.heap.size V2 Y ∧ Y.heap[V2.heap.size]? = some (.cells #[.int .i64 (ys.length : Int)] 3 (0, 0)))
        (fun _ _ _ => False)
        (Ab.and (ab_below (by omega) (Nat.le_refl _)) (ab_block (o := fun ys : List (Nat × ByteArray) => _) (by omega)))
        (fun _ _ _ _ _ hs _ _ => hs)
        ⟨hb0, hm0⟩
        (fun z a'' _ => a'' = { tmps := ((#[79, 80] : Array Tmp).zip (encL z)).foldl (fun t (p, v) => t.setIfInBounds p v) A3.tmps, defers := [] })
        (fun _ _ _ _ _ _ hs _ _ => hs) ?assign3 ?body3 ?done3 ?stop3
      case assign3 =>
        intro l3 ys z Y K hi hK
        subst hA3
        gi_wp2
        exact hK _ _ (KeepsFrom.refl _ _) (KpT.refl _ _) hi (by simp [encL])
      case body3 =>
        rintro l3 ys z a'' Y _ _ _ _ ⟨hB3, hn3⟩ rfl hny
        have hlt3 := (lvo_nx hny).2.2
        rw [HN.out.1] at hlt3
        obtain ⟨c3, f3⟩ := box1 hn3
        have HF3 : Hid (KeepsFrom V3.heap.size Y (Y.setCell ⟨V2.heap.size, 0, none⟩ (.int .i64 ((ys.length : Int) + 1))) ∧ KpT (M2 V2.heap.size) Y (Y.setCell ⟨V2.heap.size, 0, none⟩ (.int .i64 ((ys.length : Int) + 1))) ∧ Below V2.heap.size V2 (Y.setCell ⟨V2.heap.size, 0, none⟩ (.int .i64 ((ys.length : Int) + 1))) ∧ (Y.setCell ⟨V2.heap.size, 0, none⟩ (.int .i64 ((ys.length : Int) + 1))).heap[V2.heap.size]? = some (.cells #[.int .i64 (((ys ++ [z]).length : Nat) : Int)] 3 (0, 0))) := by
          have g1 := gcell Y V2.heap.size 0 (.int .i64 ((ys.length : Int) + 1))
          refine ⟨kf_cells g1 hn3, KpT.of_grown g1 (fun r o e ho => by cases e; rw [hn3] at ho; cases ho; exact ⟨rfl, _, _, rfl⟩), hB3.setCell (p := ⟨V2.heap.size, 0, none⟩) (Nat.le_refl _) _, ?_⟩
          have := set1 (i := 0) (.int .i64 ((ys.length : Int) + 1)) hn3
          simpa using this
        clear hB3 hn3 hny
        subst hA3
        gi_wp2
        exact HF3.out
      case done3 =>
        rintro ys Y rfl ⟨hB3, hn3⟩
        obtain ⟨c3, _⟩ := box1 hn3
        rw [lvo_len, HN.out.1] at c3
        obtain ⟨k1, k2, k3, k4, k5⟩ := HCN.out Y hB3
        obtain ⟨F1, F2, F3, F4⟩ := FIN.out Y hB3
        have HF1 : Hid _ := F1
        have HF2 : Hid _ := F2
        have HF3 : Hid _ := F3
        have HF4 : Hid _ := F4
        clear F1 F2 F3 F4 FIN HCN hB3 hn3
        subst hA3
        by_cases b1 : stop < (pre.length : Int) + 1
        · gi_wp2
          exact ⟨HF1.out, rfl, HF3.out, HF4.out, by simp, by simp; omega⟩
        · by_cases b2 : (40 : Int) < (pre.length : Int) + 1
          · gi_wp2
            exact ⟨HF1.out, rfl, HF3.out, HF4.out, by simp, by simp; omega⟩
          · gi_wp2
            exact ⟨HF1.out, HF2.out, HF3.out, HF4.out⟩
      case stop3 =>
        rintro e ys Y _ h
        exact h.elim
    case done2 =>
      rintro D2 ys V hD2 rfl ⟨hB, hnb⟩ hK2
      have hZV := HZ.out.below hB
      obtain ⟨cN, _⟩ := box1 hnb
      obtain ⟨cR, _⟩ := box1 hZV.gr.b7
      obtain ⟨cS, _⟩ := box1 hZV.gr.fr.s
      rw [lvo_len, HN.out.1] at cN
      have np : 0 < n := HN.out.2.1
      have CT : Hid (Calls Tryz.prog 19 #[ptr r, .string s] V fun e V' => e = .returned (.bool true) ∧ Hid (Below V.heap.size V V')) := by
        have := right_any (t := T) (hT ▸ hZV.gr.rp) hG (by rw [hTx]; omega) (hE.below hZV.gr.fr.bel)
        rw [hTx] at this
        exact this
      have HV : Hid (∀ V5, Below V.heap.size V V5 → Zb w s put stop r w2.heap.size c x w3.heap.size g n cap cur D V5 ∧ V5.heap[D2]? = some (.deferred (some []))) := fun V5 h5 => ⟨hZV.below h5, (h5.block D2 (Array.getElem?_eq_some_iff.1 hK2).1).trans hK2⟩
      have HO : Hid (w.heap.size + 1 + 1 + 1 < D ∧ D < D2) := ⟨by have := HSZ.out; have := (Array.getElem?_eq_some_iff.1 H3.out.fr.r).1; omega, by have := HS5.out; have := HD.out; omega⟩
      clear hB hnb hZV hK2
      subst hA
      gi_wp2_with (refine ⟨trivial, ?_⟩; gi_at_call 19; refine (callsIn_wide.2 CT.out).mono ?_; clear CT cN cR cS; rintro e V5 ⟨rfl, H5⟩; obtain ⟨c6, f6⟩ := box1 (HV.out V5 H5.out).1.gr.fr.r)
      obtain ⟨hZ5', hK5⟩ := HV.out V5 H5.out
      obtain ⟨o1, o2⟩ := HO.out
      have g6 := gcell V5 (w.heap.size + 1 + 1 + 1) 0 (.bool true)
      have hK' : (V5.setCell ⟨w.heap.size + 1 + 1 + 1, 0, none⟩ (.bool true)).heap[D2]? = some (.deferred (some [])) := (g6.block D2 (Array.getElem?_eq_some_iff.1 hK5).1 (fun e => by injection e with e; omega)).trans hK5
      have hj' : ((V5.setCell ⟨w.heap.size + 1 + 1 + 1, 0, none⟩ (.bool true)).putObj D2 (.deferred none)).heap[D]? = some (.deferred (some [])) := (World.putObj_heap_other (by omega)).trans ((g6.block D (Array.getElem?_eq_some_iff.1 hZ5'.dd).1 (fun e => by injection e with e; omega)).trans hZ5'.dd)
      obtain ⟨c9, _⟩ := box1 ((World.putObj_heap_other (w := (V5.setCell ⟨w.heap.size + 1 + 1 + 1, 0, none⟩ (.bool true)).putObj D2 (.deferred none)) (o := .deferred none) (show w.heap.size + 1 + 1 + 1 ≠ D by omega)).trans ((World.putObj_heap_other (w := V5.setCell ⟨w.heap.size + 1 + 1 + 1, 0, none⟩ (.bool true)) (o := .deferred none) (show w.heap.size + 1 + 1 + 1 ≠ D2 by omega)).trans (show _ = some (Obj.cells #[.bool true] 4 (0, 0)) from set1 (i := 0) (.bool true) hZ5'.gr.fr.r)))
      have hBf : Below w.heap.size w (V5.setCell ⟨w.heap.size + 1 + 1 + 1, 0, none⟩ (.bool true)) := hZ5'.gr.fr.bel.setCell (p := ⟨w.heap.size + 1 + 1 + 1, 0, none⟩) (by simp; omega) _
      refine ⟨by simp, .inl ⟨_, _, rfl, run_takeDeferred hK', ?_⟩⟩
      refine ⟨by simp, .inl ⟨_, _, rfl, run_takeDeferred hj', ?_⟩⟩
      exact ⟨_, (by simp [results, Tryz.results4, go_sem, c9]), rfl, (hBf.trans (belowK_b (w := w) (Nat.le_refl _) _ D2 _ _ (by omega) hK' rfl rfl)).trans (belowK_b (w := w) (Nat.le_refl _) _ D _ _ (by omega) hj' rfl rfl)⟩
    case stop2 =>
      rintro D2 e pre V hD2 _ ⟨rfl, hB, hnb, hp1, hp2⟩ hK2
      have hZV := HZ.out.below hB
      obtain ⟨cN, _⟩ := box1 hnb
      obtain ⟨cR, _⟩ := box1 hZV.gr.b7
      obtain ⟨cS, _⟩ := box1 hZV.gr.fr.s
      have np : 0 < pre.length := hp1
      have CT : Hid (Calls Tryz.prog 19 #[ptr r, .string s] V fun e V' => e = .returned (.bool true) ∧ Hid (Below V.heap.size V V')) := by
        have := right_any (t := T) (hT ▸ hZV.gr.rp) hG (by rw [hTx]; omega) (hE.below hZV.gr.fr.bel)
        rw [hTx] at this
        exact this
      have HV : Hid (∀ V5, Below V.heap.size V V5 → Zb w s put stop r w2.heap.size c x w3.heap.size g n cap cur D V5 ∧ V5.heap[D2]? = some (.deferred (some []))) := fun V5 h5 => ⟨hZV.below h5, (h5.block D2 (Array.getElem?_eq_some_iff.1 hK2).1).trans hK2⟩
      have HO : Hid (w.heap.size + 1 + 1 + 1 < D ∧ D < D2) := ⟨by have := HSZ.out; have := (Array.getElem?_eq_some_iff.1 H3.out.fr.r).1; omega, by have := HS5.out; have := HD.out; omega⟩
      clear hB hnb hZV hK2
      subst hA
      gi_wp2_with (refine ⟨trivial, ?_⟩; gi_at_call 19; refine (callsIn_wide.2 CT.out).mono ?_; clear CT cN cR cS; rintro e V5 ⟨rfl, H5⟩; obtain ⟨c6, f6⟩ := box1 (HV.out V5 H5.out).1.gr.fr.r)
      obtain ⟨hZ5', hK5⟩ := HV.out V5 H5.out
      obtain ⟨o1, o2⟩ := HO.out
      have g6 := gcell V5 (w.heap.size + 1 + 1 + 1) 0 (.bool true)
      have hK' : (V5.setCell ⟨w.heap.size + 1 + 1 + 1, 0, none⟩ (.bool true)).heap[D2]? = some (.deferred (some [])) := (g6.block D2 (Array.getElem?_eq_some_iff.1 hK5).1 (fun e => by injection e with e; omega)).trans hK5
      have hj' : ((V5.setCell ⟨w.heap.size + 1 + 1 + 1, 0, none⟩ (.bool true)).putObj D2 (.deferred none)).heap[D]? = some (.deferred (some [])) := (World.putObj_heap_other (by omega)).trans ((g6.block D (Array.getElem?_eq_some_iff.1 hZ5'.dd).1 (fun e => by injection e with e; omega)).trans hZ5'.dd)
      obtain ⟨c9, _⟩ := box1 ((World.putObj_heap_other (w := (V5.setCell ⟨w.heap.size + 1 + 1 + 1, 0, none⟩ (.bool true)).putObj D2 (.deferred none)) (o := .deferred none) (show w.heap.size + 1 + 1 + 1 ≠ D by omega)).trans ((World.putObj_heap_other (w := V5.setCell ⟨w.heap.size + 1 + 1 + 1, 0, none⟩ (.bool true)) (o := .deferred none) (show w.heap.size + 1 + 1 + 1 ≠ D2 by omega)).trans (show _ = some (Obj.cells #[.bool true] 4 (0, 0)) from set1 (i := 0) (.bool true) hZ5'.gr.fr.r)))
      have hBf : Below w.heap.size w (V5.setCell ⟨w.heap.size + 1 + 1 + 1, 0, none⟩ (.bool true)) := hZ5'.gr.fr.bel.setCell (p := ⟨w.heap.size + 1 + 1 + 1, 0, none⟩) (by simp; omega) _
      refine ⟨by simp, .inl ⟨_, _, rfl, run_takeDeferred hK', ?_⟩⟩
      refine ⟨by simp, .inl ⟨_, _, rfl, run_takeDeferred hj', ?_⟩⟩
      exact ⟨_, (by simp [results, Tryz.results4, go_sem, c9]), rfl, (hBf.trans (belowK_b (w := w) (Nat.le_refl _) _ D2 _ _ (by omega) hK' rfl rfl)).trans (belowK_b (w := w) (Nat.le_refl _) _ D _ _ (by omega) hj' rfl rfl)⟩
  case stop =>
    rintro D c pre W _ _ h _
    exact h.elim
theorem walk_of {H : Type} (s : ByteArray) (stop : Int) (put : ByteArray) (w : World) (hT : Lib.Utf8Tabs 1 2 w) (hlo0 : 1 < w.heap.size) (hlo1 : 2 < w.heap.size) (_hs : s.size ≤ 140737488351232) (hi : 0 ≤ stop ∧ stop ≤ 255) (_hp : put.size ≤ 140737488351232) (hk : Rows.uptoSmall H ([DataW.lit (.string s.data.toList), DataW.lit (.int .u8 stop), DataW.lit (.string put.data.toList)] ++ []) = true) :
    Calls Tryz.prog 4 #[.string s, .int .u8 stop, .string put] w fun e w' => e = .returned (.bool true) ∧ Below w.heap.size w w' := by
  have h : Rows.uptoBulkAll ([DataW.lit (H := H) (.string s.data.toList), DataW.lit (.int .u8 stop), DataW.lit (.string put.data.toList)] ++ []) ≤ 1048576 := of_decide_eq_true hk
  simp only [List.append_nil, Rows.uptoBulkAll, Rows.uptoBulk] at h
  exact callsIn_wide.1 (walk 8 (by omega) s stop put w (by rw [Lib.size_eq, Lib.size_eq]; omega) hi ⟨hT, hlo0, hlo1⟩)
end Go.Proofs.YtffipfmnpffdaaaGreatDoor.ropeWalks
