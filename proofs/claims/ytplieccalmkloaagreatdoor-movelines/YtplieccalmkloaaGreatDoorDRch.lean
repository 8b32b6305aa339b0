/-
  Package lines' reach, of a text behind the interface. Conditions: those of each theorem.
-/
import Derived.Test.YtplieccalmkloaaGreatDoorPkDC
import Derived.Sort.CutIn
namespace Go.Proofs.YtplieccalmkloaaGreatDoor.Sto
open Go.RowKit Go.Shelf Bod Wid
open Gap (Gp Is gSlice gMea gRng)
attribute [local go_sem] Oper.semAt_some

/-- the boxes of reach: the view's, the cells' left, the answer's, where it is searched from -/
structure Rh (w : World) (t : Value) (n : Int) (r : Int) (f : Nat) (W : World) : Prop where
  bel : Below w.heap.size w W
  vw : W.heap[w.heap.size]? = some (.cells #[t, .int .i64 n] 83 (0, 0))
  ce : W.heap[w.heap.size + 1 + 1]? = some (.cells #[.int .i64 r] 3 (0, 0))
  an : W.heap[w.heap.size + 1 + 1 + 1]? = some (.cells #[.int .i64 0] 3 (0, 0))
  fr : W.heap[w.heap.size + 1 + 1 + 1 + 1]? = some (.cells #[.int .i64 f] 3 (0, 0))
theorem Rh.below {w W X : World} {t : Value} {n r : Int} {f : Nat} (h : Rh w t n r f W) (hb : Below W.heap.size W X) : Rh w t n r f X :=
  have kp : ∀ {k : Nat} {o : Obj}, W.heap[k]? = some o → X.heap[k]? = some o := fun ho => (hb.block _ (Array.getElem?_eq_some_iff.1 ho).1).trans ho
  ⟨Below.on h.bel hb, kp h.vw, kp h.ce, kp h.an, kp h.fr⟩
theorem Rh.get {w W : World} {t : Value} {n r : Int} {f : Nat} (h : Rh w t n r f W) : (W.cell? ⟨w.heap.size, 0, none⟩ = some t ∧ W.cell? ⟨w.heap.size, 1, none⟩ = some (.int .i64 n)) ∧ W.cell? ⟨w.heap.size + 1 + 1, 0, none⟩ = some (.int .i64 r) ∧ W.cell? ⟨w.heap.size + 1 + 1 + 1, 0, none⟩ = some (.int .i64 0) ∧ W.cell? ⟨w.heap.size + 1 + 1 + 1 + 1, 0, none⟩ = some (.int .i64 f) ∧ W.frozen? ⟨w.heap.size + 1 + 1, 0, none⟩ = false ∧ W.frozen? ⟨w.heap.size + 1 + 1 + 1, 0, none⟩ = false ∧ W.frozen? ⟨w.heap.size + 1 + 1 + 1 + 1, 0, none⟩ = false :=
  ⟨⟨by simp [World.cell?, h.vw], by simp [World.cell?, h.vw]⟩, by simp [World.cell?, h.ce], by simp [World.cell?, h.an], by simp [World.cell?, h.fr], by simp [World.frozen?, h.ce], by simp [World.frozen?, h.an], by simp [World.frozen?, h.fr]⟩
theorem rh0 (w : World) (t : Value) (n r : Int) (f b : Nat) : Rh w t n r f (((((w.alloc (.cells #[t, .int .i64 n] 83)).alloc (.cells #[.int .i64 f, .int .i64 b] 50)).alloc (.cells #[.int .i64 r] 3)).alloc (.cells #[.int .i64 0] 3)).alloc (.cells #[.int .i64 f] 3)) := by
  obtain ⟨p0, p1, p2, p3⟩ := push4d w.heap (.cells #[t, .int .i64 n] 83) (.cells #[.int .i64 f, .int .i64 b] 50) (.cells #[.int .i64 r] 3) (.cells #[.int .i64 0] 3)
  have hb := ((((Below.refl _ w).alloc (Nat.le_refl _) (.cells #[t, .int .i64 n] 83)).alloc (by simp) (.cells #[.int .i64 f, .int .i64 b] 50)).alloc (by simp; omega) (.cells #[.int .i64 r] 3)).alloc (by simp; omega) (.cells #[.int .i64 0] 3)
  refine ⟨hb.alloc (by simp; omega) _, (Below.heap_alloc _ _ _ (by simp; omega)).trans p0, (Below.heap_alloc _ _ _ (by simp)).trans p2, (Below.heap_alloc _ _ _ (by simp)).trans p3, ?_⟩
  have := World.alloc_heap_new ((((w.alloc (.cells #[t, .int .i64 n] 83)).alloc (.cells #[.int .i64 f, .int .i64 b] 50)).alloc (.cells #[.int .i64 r] 3)).alloc (.cells #[.int .i64 0] 3)) (.cells #[.int .i64 f] 3)
  simpa using this
theorem Rh.set {w W : World} {t : Value} {n r : Int} {f : Nat} (h : Rh w t n r f W) (m : Nat) (q : Int) : Rh w t n q m (((W.setCell ⟨w.heap.size + 1 + 1 + 1 + 1, 0, none⟩ (.int .i64 m)).setCell ⟨w.heap.size + 1 + 1, 0, none⟩ (.int .i64 q)).drew) := by
  have g0 := gcell W (w.heap.size + 1 + 1 + 1 + 1) 0 (.int .i64 m)
  have g1 := gcell (W.setCell ⟨w.heap.size + 1 + 1 + 1 + 1, 0, none⟩ (.int .i64 m)) (w.heap.size + 1 + 1) 0 (.int .i64 q)
  have k0 : ∀ {k : Nat} {o : Obj}, W.heap[k]? = some o → k ≠ w.heap.size + 1 + 1 + 1 + 1 → (W.setCell ⟨w.heap.size + 1 + 1 + 1 + 1, 0, none⟩ (.int .i64 m)).heap[k]? = some o := fun ho hne => (g0.block _ (Array.getElem?_eq_some_iff.1 ho).1 (fun e => hne (by injection e))).trans ho
  have k1 : ∀ {k : Nat} {o : Obj}, (W.setCell ⟨w.heap.size + 1 + 1 + 1 + 1, 0, none⟩ (.int .i64 m)).heap[k]? = some o → k ≠ w.heap.size + 1 + 1 → ((W.setCell ⟨w.heap.size + 1 + 1 + 1 + 1, 0, none⟩ (.int .i64 m)).setCell ⟨w.heap.size + 1 + 1, 0, none⟩ (.int .i64 q)).heap[k]? = some o := fun ho hne => (g1.block _ (Array.getElem?_eq_some_iff.1 ho).1 (fun e => hne (by injection e))).trans ho
  have s0 := set1 (i := 0) (.int .i64 m) h.fr
  have s1 := set1 (i := 0) (.int .i64 q) (k0 h.ce (by omega))
  refine Rh.below (W := (W.setCell ⟨w.heap.size + 1 + 1 + 1 + 1, 0, none⟩ (.int .i64 m)).setCell ⟨w.heap.size + 1 + 1, 0, none⟩ (.int .i64 q)) ⟨(h.bel.setCell (p := ⟨w.heap.size + 1 + 1 + 1 + 1, 0, none⟩) (by simp; omega) _).setCell (p := ⟨w.heap.size + 1 + 1, 0, none⟩) (by simp; omega) _, k1 (k0 h.vw (by omega)) (by omega), by simpa using s1, k1 (k0 h.an (by omega)) (by omega), k1 (by simpa using s0) (by omega)⟩ (Below.refl _ _).drew
/-- what the search keeps -/
structure Sr (s : ByteArray) (a b : Nat) (c : Int) (f o : Nat) (r : Int) : Prop where
  h1 : a ≤ f
  h2 : f ≤ o
  h3 : o ≤ b
  cf : cbZ s f = true
  co : cbZ s o = true
  rem : r = c - cw s a f
  pos : 0 ≤ r
  out : o = b ∨ r < cw s f o
theorem Sr.done {s : ByteArray} {a b : Nat} {c : Int} {f o : Nat} {r : Int} {m : Nat} (ca : cbZ s a = true) (h : Sr s a b c f o r) (hm : IsR s f o r m) : IsR s a b c m :=
  IsR.behind ca h.cf h.h1 (by rw [← h.rem]; exact IsR.cut h.cf h.co h.h2 h.h3 h.out hm)
theorem Sr.right {s : ByteArray} {a b : Nat} {c : Int} {f o : Nat} {r : Int} {m : Nat} (ca : cbZ s a = true) (h : Sr s a b c f o r) (h1 : f ≤ m) (h2 : m ≤ o) (cm : cbZ s m = true) (hc : cw s f m ≤ r) : Sr s a b c m o (r - cw s f m) := by
  have e1 := cw_add ca h.cf cm h.h1 h1
  have e2 := cw_add h.cf cm h.co h1 h2
  have e3 := h.rem
  refine ⟨by have := h.h1; omega, h2, h.h3, cm, h.co, by omega, by omega, ?_⟩
  rcases h.out with e | e
  · exact .inl e
  · exact .inr (by omega)
theorem Sr.left {s : ByteArray} {a b : Nat} {c : Int} {f o : Nat} {r : Int} {m : Nat} (h : Sr s a b c f o r) (h1 : f ≤ m) (h2 : m ≤ o) (cm : cbZ s m = true) (hc : r < cw s f m) : Sr s a b c f m r :=
  ⟨h.h1, h1, by have := h.h3; omega, h.cf, cm, h.rem, h.pos, .inr hc⟩
theorem bx1 {W : World} {b : Nat} {v : Value} {t : TypeId} (h : W.heap[b]? = some (.cells #[v] t (0, 0))) : W.cell? ⟨b, 0, none⟩ = some v ∧ W.frozen? ⟨b, 0, none⟩ = false := by simp [World.cell?, World.frozen?, h]
theorem bx4 {W : World} {b : Nat} {c : Clu} {t : TypeId} (h : W.heap[b]? = some (.cells (cvs c) t (0, 0))) : W.cell? ⟨b, 0, none⟩ = some (.int .i64 (c.fr : Int)) ∧ W.cell? ⟨b, 3, none⟩ = some (.int .i64 c.n) := by simp [World.cell?, h, cvs]
/-- what the rounds over the clusters leave as it is, and what is left of the cells -/
structure Rr' (w : World) (r : Int) (f : Nat) (pre : List Clu) (W : World) : Prop where
  ce : W.heap[w.heap.size + 1 + 1]? = some (.cells #[.int .i64 (r - sumN pre)] 3 (0, 0))
  an : W.heap[w.heap.size + 1 + 1 + 1]? = some (.cells #[.int .i64 0] 3 (0, 0))
  fr : W.heap[w.heap.size + 1 + 1 + 1 + 1]? = some (.cells #[.int .i64 f] 3 (0, 0))
  fit : sumN pre ≤ r
  b : Below w.heap.size w W
theorem Rr'.below {w W X : World} {r : Int} {f : Nat} {pre : List Clu} (h : Rr' w r f pre W) (hb : Below W.heap.size W X) : Rr' w r f pre X :=
  have kp : ∀ {k : Nat} {o : Obj}, W.heap[k]? = some o → X.heap[k]? = some o := fun ho => (hb.block _ (Array.getElem?_eq_some_iff.1 ho).1).trans ho
  ⟨kp h.ce, kp h.an, kp h.fr, h.fit, Below.on h.b hb⟩
theorem rr_ab {w : World} {r : Int} {f : Nat} {B lo hi : Nat} (h : w.heap.size + 1 + 1 + 1 + 1 < B) : Ab B lo hi (Rr' w r f) := fun pre X Y row h1 hg hr =>
  ⟨ab_block (o := fun _ : Unit => _) (show w.heap.size + 1 + 1 < B by omega) () X Y row h1.ce hg hr, ab_block (o := fun _ : Unit => _) (show w.heap.size + 1 + 1 + 1 < B by omega) () X Y row h1.an hg hr, ab_block (o := fun _ : Unit => _) h () X Y row h1.fr hg hr, h1.fit, ab_below (β := Unit) (by omega) (Nat.le_refl _) () X Y row h1.b hg hr⟩
/-- .. and how it is left when the first cluster is found that does not fit -/
def Rx (w : World) (R : Nat → Prop) (c : Code) (_ : List Clu) (W : World) : Prop := c = .ret ∧ (∃ m : Nat, W.heap[w.heap.size + 1 + 1 + 1]? = some (.cells #[.int .i64 m] 3 (0, 0)) ∧ R m) ∧ Below w.heap.size w W
theorem rx_ab {w : World} {R : Nat → Prop} {c : Code} {B lo hi : Nat} (h : w.heap.size + 1 + 1 + 1 + 1 < B) : Ab B lo hi (Rx w R c) := fun pre X Y row h1 hg hr =>
  ⟨h1.1, h1.2.1.imp fun m hm => ⟨ab_block (o := fun _ : Unit => _) (show w.heap.size + 1 + 1 + 1 < B by omega) () X Y row hm.1 hg hr, hm.2⟩, ab_below (β := Unit) (by omega) (Nat.le_refl _) () X Y row h1.2.2 hg hr⟩
/-- where it is searched from -/
def fOf (w W : World) : Nat := match W.cell? ⟨w.heap.size + 1 + 1 + 1 + 1, 0, none⟩ with
  | some v => (intOf v).toNat
  | none => 0
theorem Rh.fof {w W : World} {t : Value} {n r : Int} {f : Nat} (h : Rh w t n r f W) : fOf w W = f := by unfold fOf; rw [h.get.2.2.2.1]; simp [intOf]
section
variable {w : World} {t : Value} {s : ByteArray}
set_option maxRecDepth 100000 in
set_option maxHeartbeats 2000000 in
theorem reach_in (N : Nat) (hN : 6 ≤ N) (hM : Tryz.prog.follows .mixedOrders = true) (h : Vt w t s) (hE : Ev w) (hs : s.size ≤ 1073741824) (a b : Nat) (c : Int) (hab : a ≤ b) (hb : b ≤ s.size) (ca : cbZ s a = true) (cb : cbZ s b = true) (hc : 0 ≤ c) (hc2 : c ≤ 9223372036854775807) :
    CallsIn Fence.wide N Tryz.prog 57 #[.agg #[t, .int .i64 s.size], .agg #[.int .i64 a, .int .i64 b], .int .i64 c] w fun e W' => (∃ m : Nat, e = .returned (.int .i64 m) ∧ IsR s a b c m) ∧ Below w.heap.size w W' := by
  have h1 : 1 ≤ N := by omega
  obtain ⟨n, hn⟩ : ∃ n, s.size = n := ⟨_, rfl⟩
  have HV : Hid (Vt w t s ∧ Ev w ∧ s.size = n) := ⟨h, hE, hn⟩
  have HM : Hid (Tryz.prog.follows .mixedOrders = true) := hM
  rw [hn] at hs hb ⊢
  clear hn h hE
  refine callsIn_of_wp_marks Tryz.func57 rfl trivial ?_ rfl
  simp only [Tryz.ntmps57, List.size_toArray, List.length_cons, List.length_nil, Nat.reduceAdd, Nat.reduceSub, Array.replicate_succ, Array.replicate_zero, List.push_toArray, List.append_toArray, List.nil_append, List.cons_append]
  gi_upto_region 1 with fail
  gi_region
  have HQ0 : Hid (Rh w t n c a ((((((w.alloc (.cells #[t, .int .i64 n] 83)).alloc (.cells #[.int .i64 a, .int .i64 b] 50)).alloc (.cells #[.int .i64 c] 3)).alloc (.cells #[.int .i64 0] 3)).alloc (.cells #[.int .i64 a] 3)).drew) ∧ Sr s a b c a b c) := by
    refine ⟨(rh0 w t n c a b).below (Below.refl _ _).drew, ⟨Nat.le_refl _, hab, Nat.le_refl _, ca, cb, ?_, hc, .inl rfl⟩⟩
    have : cw s a a = 0 := by unfold cw; rw [cl_nil (by rw [ByteArray.size_extract]; omega)]; rfl
    omega
  generalize (((((w.alloc (.cells #[t, .int .i64 n] 83)).alloc (.cells #[.int .i64 a, .int .i64 b] 50)).alloc (.cells #[.int .i64 c] 3)).alloc (.cells #[.int .i64 0] 3)).alloc (.cells #[.int .i64 a] 3)).drew = W0 at HQ0 ⊢
  (first | gi_step | go_step)
  (first | gi_step | go_step)
  (first | gi_step | go_step)
  gi_cut [8, 9, 10] from 16 (fun t8 _ _ wr => ∃ (f o : Nat) (r : Int), t8 = .int .i64 o ∧ Hid (Rh w t n r f wr ∧ Sr s a b c f o r))
  case rest =>
    clear HQ0
    obtain ⟨f, o, r, rfl, HS⟩ := hcut
    obtain ⟨⟨x0, x1⟩, x2, x3, x4, y2, y3, y4⟩ := HS.out.1.get
    have hfo := HS.out.2.h2
    have hob := HS.out.2.h3
    obtain ⟨x, hx⟩ : ∃ x, s.extract f o = x := ⟨_, rfl⟩
    have HX : Hid (s.extract f o = x) := hx
    have CP : Hid (∀ W, Below w.heap.size w W → Calls Tryz.prog 91 #[.agg #[t, .int .i64 n], .int .i64 f, .int .i64 o] W fun e W' => e = .returned (.string x) ∧ Hid (Below W.heap.size W W')) := fun W hW => by
      have := piece_any (HV.out.1.below hW) n f o
      rw [gSlice_in hfo (by have := HV.out.2.2; omega), hx] at this
      exact this
    clear hx
    gi_wp2_with (first
      | (refine ⟨trivial, ?_⟩; gi_at_call 91; refine (callsIn_wide.2 (CP.out _ HS.out.1.bel)).mono ?_; clear CP; rintro e w4 ⟨rfl, H4⟩)
      | (refine ⟨trivial, ?_⟩; gi_at_call 26; refine (walk_in (N - 1) _ _).mono ?_; rintro e w' ⟨rfl, rfl⟩))
    obtain ⟨W2, hW2⟩ : ∃ W2, w4.alloc (.cells #[.string x] 9) = W2 := ⟨_, rfl⟩
    rw [hW2]
    have p3 : W2.heap[w4.heap.size]? = some (.cells #[.string x] 9 (0, 0)) := by rw [← hW2]; exact World.alloc_heap_new w4 _
    have hB4 : Below w4.heap.size w4 W2 := by rw [← hW2]; exact (Below.refl _ w4).alloc (Nat.le_refl _) _
    have hsz : W2.heap.size = w4.heap.size + 1 := by rw [← hW2]; simp
    have hR4 := HS.out.1.below H4.out
    have hlt4 : w.heap.size + 1 + 1 + 1 + 1 < w4.heap.size := (Array.getElem?_eq_some_iff.1 hR4.fr).1
    have hR2 := hR4.below hB4
    have hI0 : Rr' w r f [] W2 := ⟨by simpa [sumN] using hR2.ce, hR2.an, hR2.fr, by simpa [sumN] using HS.out.2.pos, hR2.bel⟩
    have hE := HV.out.2.1
    have hl0 := hE.l0
    have hl1 := hE.l1
    have hxs : x.size ≤ 1073741824 := by rw [← HX.out, ByteArray.size_extract]; have := HV.out.2.2; omega
    have hs' : x.size ≤ maxLen := by unfold maxLen; omega
    clear hW2 x0 x1 x2 x3 x4 y2 y3 y4
    refine act_name' fun A hA => ?_
    refine range_own rfl h1 (gf := 51) (lb := #[.pointer (some ⟨w4.heap.size, 0, none⟩)]) (by rw [hA]; rfl) trivial (enters_of Tryz.func51 (by kernel_rfl) rfl)
      (clu_seq (N - 1) (by omega) w4.heap.size (W2.heap.size + 2) (fun k _ => k = w.heap.size + 1 + 1) x hs' (fun _ h => by omega) (fun _ h => by omega) (fun _ h => by omega) (fun k _ h1 h2 h => by omega) (fun k _ _ h1 h => by omega)
        W2 (by omega) (by omega) (by omega) p3 (tabs_below hE.t hR2.bel))
      KpT.trans (fun W l o o' _ _ hl ho => KpT.putObj W l o o' hl ho) (fun _ => rfl)
      (Rr' w r f) (Rx w (IsR s a b c)) (rr_ab (by omega)) (fun _ => rx_ab (by omega)) hI0
      (fun x a' W' => ∃ Bx, w.heap.size + 1 + 1 + 1 + 1 < Bx ∧ W'.heap[Bx]? = some (.cells (cvs x) 34 (0, 0)) ∧
        a' = { tmps := (((#[48] : Array Tmp).zip (encC x)).foldl (fun t (p, v) => t.setIfInBounds p v) A.tmps).setIfInBounds 11 (.pointer (some ⟨Bx, 0, none⟩)), defers := [] })
      (fun x a' _ X Y row h hg hr => h.imp fun Bx hx => ⟨hx.1, (hg.block Bx (Array.getElem?_eq_some_iff.1 hx.2.1).1 (fun e => by
        obtain ⟨_, (h3 | ⟨o, ho, hc⟩)⟩ := hr Bx e.symm
        · omega
        · rw [hx.2.1] at ho; cases ho; cases hc)).trans hx.2.1, hx.2.2⟩)
      ?assign ?body ?done ?stop
    case assign =>
      rintro l pre d W K hb hK
      have hsx := (Array.getElem?_eq_some_iff.1 hb.fr).1
      subst hA
      gi_wp2
      refine hK _ _ (kf_below ((Below.refl _ W).alloc (Nat.le_refl _) _)) (KpT.of_below ((Below.refl _ W).alloc (Nat.le_refl _) _)) (hb.below ((Below.refl _ W).alloc (Nat.le_refl _) _)) ⟨W.heap.size, hsx, World.alloc_heap_new W _, ?_⟩
      simp [encC]
    case body =>
      rintro l pre d a' W _ _ _ hWs hb ⟨Bx, hBx, qx, rfl⟩ hnx
      have hdm : d ∈ cl x := hnx.subset (by simp)
      have hsp := cl_span hdm
      have hdn := cl_n x d hdm
      obtain ⟨rest, hrest⟩ := hnx
      have hrest' : cl x = pre ++ d :: rest := by rw [← hrest]; simp
      obtain ⟨d0, d3⟩ := bx4 qx
      obtain ⟨e0, e1⟩ := bx1 hb.ce
      obtain ⟨e2, e3⟩ := bx1 hb.an
      obtain ⟨e4, _⟩ := bx1 hb.fr
      have hfit := hb.fit
      have HB : Hid (Rr' w r f pre W) := hb
      have hpn : 0 ≤ sumN pre := (sumN_bd pre (fun d hd => cl_n x d (by rw [hrest']; exact List.mem_append_left _ hd))).1
      obtain ⟨m, hm⟩ : ∃ m, r - sumN pre = m := ⟨_, rfl⟩
      have HMm : Hid (r - sumN pre = m) := hm
      rw [hm] at e0
      have hrc : r ≤ 9223372036854775807 := by have := HS.out.2.rem; have := cw_nonneg s a f; omega
      have hm1 : m ≤ 9223372036854775807 := by omega
      have hm0 : 0 ≤ m := by omega
      have hfr3 : d.fr ≤ 1073741824 := by omega
      have hf3 : f ≤ 1073741824 := by omega
      by_cases hgt : m < d.n
      · have FIN : Hid (KeepsFrom W2.heap.size W (W.setCell ⟨w.heap.size + 1 + 1 + 1, 0, none⟩ (.int .i64 ((f : Int) + (d.fr : Int)))) ∧ Rx w (IsR s a b c) .ret (pre ++ [d]) (W.setCell ⟨w.heap.size + 1 + 1 + 1, 0, none⟩ (.int .i64 ((f : Int) + (d.fr : Int))))) := by
          have g := gcell W (w.heap.size + 1 + 1 + 1) 0 (.int .i64 ((f : Int) + (d.fr : Int)))
          refine ⟨kf_cells g HB.out.an, rfl, ⟨f + d.fr, by simpa using set1 (i := 0) (.int .i64 ((f : Int) + (d.fr : Int))) HB.out.an, ?_⟩, HB.out.b.setCell (p := ⟨w.heap.size + 1 + 1 + 1, 0, none⟩) (by simp; omega) _⟩
          exact Sr.done ca HS.out.2 (IsR.stop HS.out.2.cf HS.out.2.co hfo (by rw [HX.out]; exact hrest') hfit (by omega))
        clear hm hpn hb qx hdm hrest hrest' hrc hWs hfit hsz
        subst hA
        gi_wp2
        exact FIN.out
      · have FIN : Hid (KeepsFrom W2.heap.size W (W.setCell ⟨w.heap.size + 1 + 1, 0, none⟩ (.int .i64 (m - d.n))) ∧ KpT (fun k _ => k = w.heap.size + 1 + 1) W (W.setCell ⟨w.heap.size + 1 + 1, 0, none⟩ (.int .i64 (m - d.n))) ∧ Rr' w r f (pre ++ [d]) (W.setCell ⟨w.heap.size + 1 + 1, 0, none⟩ (.int .i64 (m - d.n)))) := by
          have g := gcell W (w.heap.size + 1 + 1) 0 (.int .i64 (m - d.n))
          have es : sumN (pre ++ [d]) = sumN pre + d.n := by rw [sumN_app]; simp [sumN]
          refine ⟨kf_cells g HB.out.ce, KpT.of_grown g (fun r o e _ => by cases e; rfl), ?_, (g.block _ (Array.getElem?_eq_some_iff.1 HB.out.an).1 (fun e => by have := Option.some.inj e; omega)).trans HB.out.an, (g.block _ (Array.getElem?_eq_some_iff.1 HB.out.fr).1 (fun e => by have := Option.some.inj e; omega)).trans HB.out.fr, by rw [es]; omega, HB.out.b.setCell (p := ⟨w.heap.size + 1 + 1, 0, none⟩) (by simp; omega) _⟩
          rw [es, show r - (sumN pre + d.n) = m - d.n by omega]
          simpa using set1 (i := 0) (.int .i64 (m - d.n)) HB.out.ce
        clear hm hpn hb qx hdm hrest hrest' hrc hWs hfit hsz
        subst hA
        gi_wp2
        exact FIN.out
    case done =>
      rintro D ys W hD rfl hb hK
      have HR : Hid (IsR s a b c o) := Sr.done ca HS.out.2 (IsR.all HS.out.2.co hfo (by rw [HX.out]; exact hb.fit))
      obtain ⟨e2, e3⟩ := bx1 hb.an
      have hK' : (W.setCell ⟨w.heap.size + 1 + 1 + 1, 0, none⟩ (.int .i64 (o : Int))).heap[D]? = some (.deferred (some [])) := ((gcell W (w.heap.size + 1 + 1 + 1) 0 (.int .i64 (o : Int))).block D (Array.getElem?_eq_some_iff.1 hK).1 (fun e => by have := Option.some.inj e; omega)).trans hK
      have s1 := set1 (i := 0) (.int .i64 (o : Int)) hb.an
      obtain ⟨c9, _⟩ := bx1 ((World.putObj_heap_other (w := W.setCell ⟨w.heap.size + 1 + 1 + 1, 0, none⟩ (.int .i64 (o : Int))) (o := .deferred none) (show w.heap.size + 1 + 1 + 1 ≠ D by omega)).trans (show _ = some (Obj.cells #[.int .i64 (o : Int)] 3 (0, 0)) from s1))
      have hB : Below w.heap.size w (W.setCell ⟨w.heap.size + 1 + 1 + 1, 0, none⟩ (.int .i64 (o : Int))) := hb.b.setCell (p := ⟨w.heap.size + 1 + 1 + 1, 0, none⟩) (by simp; omega) _
      subst hA
      gi_wp2
      refine ⟨by simp, .inl ⟨_, _, rfl, run_takeDeferred hK', ?_⟩⟩
      exact ⟨.int .i64 (o : Int), (by simp [results, Tryz.results57, go_sem, c9]), ⟨o, rfl, HR.out⟩, hB.trans (belowK_b (w := w) (Nat.le_refl _) _ D _ _ (by omega) hK' rfl rfl)⟩
    case stop =>
      rintro D c' pre W hD _ ⟨rfl, ⟨m, hr, hm⟩, hb⟩ hK
      obtain ⟨c9, _⟩ := bx1 ((World.putObj_heap_other (w := W) (o := .deferred none) (show w.heap.size + 1 + 1 + 1 ≠ D by omega)).trans hr)
      have HMm : Hid (IsR s a b c m) := hm
      subst hA
      gi_wp2
      refine ⟨by simp, .inl ⟨_, _, rfl, run_takeDeferred hK, ?_⟩⟩
      exact ⟨_, (by simp [results, Tryz.results57, go_sem, c9]), ⟨m, rfl, HMm.out⟩, hb.trans (belowK_b (w := w) (Nat.le_refl _) _ D _ _ (by omega) hK rfl rfl)⟩
  gi_wp2
  gi_loopw [8, 9, 10] (fun t8 _ _ wr => ∃ (f o : Nat) (r : Int), t8 = .int .i64 o ∧ f ≤ o ∧ o ≤ n ∧ r ≤ 9223372036854775807 ∧ Hid (Rh w t n r f wr ∧ Sr s a b c f o r)) (fun t8 _ _ wr => (intOf t8).toNat - fOf w wr)
  case atStart => exact ⟨a, b, c, rfl, hab, hb, hc2, HQ0⟩
  case round =>
    clear HQ0
    obtain ⟨f, o, r, rfl, b1, b2, b3, HS⟩ := hrel
    obtain ⟨⟨x0, x1⟩, x2, x3, x4, y2, y3, y4⟩ := HS.out.1.get
    by_cases hbig : 64 < o - f
    · have hbig' : (64 : Int) < (o : Int) - (f : Int) := by omega
      obtain ⟨k, hk⟩ : ∃ k, f + (o - f) / 2 = k := ⟨_, rfl⟩
      have hq : ((o : Int) - (f : Int)).tdiv 2 = ((o - f) / 2 : Nat) := by rw [show (o : Int) - (f : Int) = ((o - f : Nat) : Int) by omega]; rfl
      have hq2 : ((o : Int) - (f : Int)) / 2 = ((o - f) / 2 : Nat) := by omega
      have hmm : (f : Int) + ((o - f : Nat) : Int) / 2 = (k : Int) := by omega
      obtain ⟨m, hm⟩ : ∃ m, IsPrev s ((k : Int) + 1) m := ⟨_, pvC_is _ _⟩
      have hmk : m ≤ k := by rcases hm.dn with e | e <;> omega
      have CB : Hid (∀ W, Below w.heap.size w W → Calls Tryz.prog 49 #[.agg #[t, .int .i64 n], .int .i64 k] W fun e W' => e = .returned (.int .i64 m) ∧ Hid (Below W.heap.size W W')) := fun W hW => by
        have e0 := HV.out.2.2
        have := boundary_any (HV.out.1.below hW) (HV.out.2.1.below hW) k (by omega) (by omega)
        rw [e0] at this
        exact this.mono fun e W' q => by
          obtain ⟨⟨m', rfl, q1⟩, q2⟩ := q
          exact ⟨by rw [q1.uniq hm], q2⟩
      have hko : k < o := by omega
      by_cases hmf : m ≤ f
      · have hmf' : (m : Int) ≤ (f : Int) := by omega
        clear hm hmk hko
        gi_wp2_with (refine ⟨trivial, ?_⟩; gi_at_call 49; refine (callsIn_wide.2 (CB.out _ HS.out.1.bel)).mono ?_; clear CB; rintro e w4 ⟨rfl, H4⟩; have HT : Hid (Rh w t n r f w4 ∧ Sr s a b c f o r) := ⟨HS.out.1.below H4.out, HS.out.2⟩; clear x0 x1 x2 x3 x4 y2 y3 y4; obtain ⟨⟨x0, x1⟩, x2, x3, x4, y2, y3, y4⟩ := HT.out.1.get)
        gi_meet
        case rel => exact ⟨f, o, r, rfl, HT.out⟩
      · have hmf' : ¬ (m : Int) ≤ (f : Int) := by omega
        have cm := hm.cb
        obtain ⟨z, hz⟩ : ∃ z, cw s f m = z := ⟨_, rfl⟩
        have CC : Hid (∀ W, Below w.heap.size w W → Calls Tryz.prog 47 #[.agg #[t, .int .i64 n], .int .i64 f, .int .i64 m] W fun e W' => e = .returned (.int .i64 z) ∧ Hid (Below W.heap.size W W')) := fun W hW => by
          have e0 := HV.out.2.2
          have := cells_any' (HV.out.1.below hW) n f m (by omega) (by omega)
          rw [cw_ce, hz] at this
          exact this
        have hz0 : 0 ≤ z := by rw [← hz]; exact cw_nonneg s f m
        by_cases hzr : z ≤ r
        · have HR : Hid (Sr s a b c m o (r - z)) := by
            have := HS.out.2.right ca (m := m) (by omega) (by omega) cm (by omega)
            rw [hz] at this
            exact this
          have hmo : m < o := by omega
          clear hm cm hz hmk hko
          gi_upto_region 7 with (first
            | (refine ⟨trivial, ?_⟩; gi_at_call 49; refine (callsIn_wide.2 (CB.out _ HS.out.1.bel)).mono ?_; clear CB; rintro e w4 ⟨rfl, H4⟩; have HT : Hid (Rh w t n r f w4) := HS.out.1.below H4.out; clear x0 x1 x2 x3 x4 y2 y3 y4; obtain ⟨⟨x0, x1⟩, x2, x3, x4, y2, y3, y4⟩ := HT.out.get)
            | (refine ⟨trivial, ?_⟩; gi_at_call 47; refine (callsIn_wide.2 (CC.out _ HT.out.bel)).mono ?_; clear CC; rintro e w5 ⟨rfl, H5⟩; have HU : Hid (Rh w t n r f w5) := HT.out.below H5.out; clear x0 x1 x2 x3 x4 y2 y3 y4; obtain ⟨⟨x0, x1⟩, x2, x3, x4, y2, y3, y4⟩ := HU.out.get))
          gi_region
          have HW : Hid (Rh w t n (r - z) m _) := HU.out.set m (r - z)
          generalize ((w5.setCell ⟨w.heap.size + 1 + 1 + 1 + 1, 0, none⟩ (.int .i64 (m : Int))).setCell ⟨w.heap.size + 1 + 1, 0, none⟩ (.int .i64 (r - z))).drew = W6 at HW ⊢
          gi_wp2
          refine ⟨⟨m, o, r - z, rfl, by omega, by omega, by omega, HW.out, HR.out⟩, ?_⟩
          rw [HW.out.fof, HS.out.1.fof]
          simp only [intOf]
          omega
        · have HR : Hid (Sr s a b c f m r) := HS.out.2.left (m := m) (by omega) (by omega) cm (by omega)
          clear hm cm hz
          gi_wp2_with (first
            | (refine ⟨trivial, ?_⟩; gi_at_call 49; refine (callsIn_wide.2 (CB.out _ HS.out.1.bel)).mono ?_; clear CB; rintro e w4 ⟨rfl, H4⟩; have HT : Hid (Rh w t n r f w4) := HS.out.1.below H4.out; clear x0 x1 x2 x3 x4 y2 y3 y4; obtain ⟨⟨x0, x1⟩, x2, x3, x4, y2, y3, y4⟩ := HT.out.get)
            | (refine ⟨trivial, ?_⟩; gi_at_call 47; refine (callsIn_wide.2 (CC.out _ HT.out.bel)).mono ?_; clear CC; rintro e w5 ⟨rfl, H5⟩; have HU : Hid (Rh w t n r f w5) := HT.out.below H5.out; clear x0 x1 x2 x3 x4 y2 y3 y4; obtain ⟨⟨x0, x1⟩, x2, x3, x4, y2, y3, y4⟩ := HU.out.get))
          refine ⟨⟨f, m, r, rfl, by omega, by omega, b3, HU.out, HR.out⟩, ?_⟩
          rw [HU.out.fof, HS.out.1.fof]
          simp only [intOf]
          omega
    · have hbig' : ¬ (64 : Int) < (o : Int) - (f : Int) := by omega
      gi_wp2
      gi_meet
      case rel => exact ⟨f, o, r, rfl, HS.out⟩
theorem reach_any (hM : Tryz.prog.follows .mixedOrders = true) (h : Vt w t s) (hE : Ev w) (hs : s.size ≤ 1073741824) (a b : Nat) (c : Int) (hab : a ≤ b) (hb : b ≤ s.size) (ca : cbZ s a = true) (cb : cbZ s b = true) (hc : 0 ≤ c) (hc2 : c ≤ 9223372036854775807) :
    Calls Tryz.prog 57 #[.agg #[t, .int .i64 s.size], .agg #[.int .i64 a, .int .i64 b], .int .i64 c] w fun e W' => (∃ m : Nat, e = .returned (.int .i64 m) ∧ IsR s a b c m) ∧ Below w.heap.size w W' := callsIn_wide.1 (reach_in 6 (by omega) hM h hE hs a b c hab hb ca cb hc hc2)
theorem at_any (hM : Tryz.prog.follows .mixedOrders = true) (h : Tl w t s) (hE : Ev w) (l c : Int) (hl : l ≤ 9223372036854775807) (hc : c ≤ 9223372036854775807) :
    Calls Tryz.prog 27 #[t, .int .i64 l, .int .i64 c] w fun e W' => (∃ o : Option Nat, e = .returned (.tuple #[.int .i64 ((o.getD 0 : Nat) : Int), .int .i64 (if o.isSome then 0 else 1)]) ∧ IsA s l c o) ∧ Below w.heap.size w W' :=
  at_of h l c hl fun _ _ a b hv hW hi => reach_any hM hv (hE.below hW) h.le a b (max c 0) hi.le.1 hi.le.2 hi.cb.1 hi.cb.2 (by omega) (by omega)
end
end Go.Proofs.YtplieccalmkloaaGreatDoor.Sto
