/-
  Trees behind the interface Tree, whoever made them, and package seek's own: Plain, Pair, some. Conditions: the two tables of unicode/utf8 lie as their text lays them; the texts hold together at most 1099511627776 bytes.
-/
import Derived.Test.YtiehhafbblbbiabDoorSConA
namespace Go.Proofs.YtiehhafbblbbiabDoor
open Go.RowKit Go.Shelf Bod Wid

/-- a tree's methods, and what they answer from now on -/
structure Ms (w : World) (T : TypeId) (a : Addr) (fS fP fT : FuncId) (t : Tr) (p : Value) : Prop where
  ms : Mt T a "Sum" fS
  mp : Mt T a "Parts" fP
  mt : Mt T a "Text" fT
  cs : ∀ W, Below w.heap.size w W → Calls Tryd.prog fS #[.pointer (some a)] W fun e W' => e = .returned (sv (smr t.text)) ∧ Below W.heap.size W W'
  cp : ∀ W, Below w.heap.size w W → Calls Tryd.prog fP #[.pointer (some a)] W fun e W' => e = .returned p ∧ Below W.heap.size W W'
  ct : ∀ W, Below w.heap.size w W → Calls Tryd.prog fT #[.pointer (some a)] W fun e W' => e = .returned (.string t.own) ∧ Below W.heap.size W W'
theorem Ms.below {w X : World} {T : TypeId} {a : Addr} {fS fP fT : FuncId} {t : Tr} {p : Value} (h : Ms w T a fS fP fT t p) (hb : Below w.heap.size w X) : Ms X T a fS fP fT t p := ⟨h.ms, h.mp, h.mt, fun W hW => h.cs W (Below.on hb hW), fun W hW => h.cp W (Below.on hb hW), fun W hW => h.ct W (Below.on hb hW)⟩
/-- v is a tree that shows t -/
def Nt (w : World) : Tr → Value → Prop
  | .leaf s, v => ∃ T a fS fP fT, v = .iface T (.pointer (some a)) ∧ Ms w T a fS fP fT (.leaf s) (.tuple #[.nilIface, .nilIface, .bool false])
  | .knot l r, v => ∃ T a fS fP fT x y, v = .iface T (.pointer (some a)) ∧ Ms w T a fS fP fT (.knot l r) (.tuple #[x, y, .bool true]) ∧ Nt w l x ∧ Nt w r y
theorem Nt.below : ∀ {t : Tr} {v : Value} {w X : World}, Nt w t v → Below w.heap.size w X → Nt X t v
  | .leaf _, _, _, _, ⟨T, a, fS, fP, fT, e, h⟩, hb => ⟨T, a, fS, fP, fT, e, h.below hb⟩
  | .knot _ _, _, _, _, ⟨T, a, fS, fP, fT, x, y, e, h, h1, h2⟩, hb => ⟨T, a, fS, fP, fT, x, y, e, h.below hb, h1.below hb, h2.below hb⟩
/-- what Parts answers -/
def Pn (w : World) : Tr → Value → Prop
  | .leaf _, p => p = .tuple #[.nilIface, .nilIface, .bool false]
  | .knot l r, p => ∃ x y, p = .tuple #[x, y, .bool true] ∧ Nt w l x ∧ Nt w r y
theorem Nt.nd {w : World} {t : Tr} {v : Value} (h : Nt w t v) : ∃ T a fS fP fT p, v = .iface T (.pointer (some a)) ∧ Ms w T a fS fP fT t p ∧ Pn w t p := by
  cases t with
  | leaf s => obtain ⟨T, a, fS, fP, fT, e, h⟩ := h; exact ⟨T, a, fS, fP, fT, _, e, h, rfl⟩
  | knot l r => obtain ⟨T, a, fS, fP, fT, x, y, e, h, h1, h2⟩ := h; exact ⟨T, a, fS, fP, fT, _, e, h, x, y, rfl, h1, h2⟩
theorem eq_nil (T : TypeId) (p : Value) (W : World) : (binOp .eql 27 (.iface T p) .nilIface).run Tryd.prog W = .ok (.bool false) W := by kernel_rfl
/-- .. or nil, which counts as the empty text's -/
def Nv (w : World) (t : Tr) (v : Value) : Prop := (v = .nilIface ∧ t = .leaf noB) ∨ Nt w t v
/-- the cells of package seek's knot -/
def zcs (a b : Value) (m : Sum) : Array Value := #[a, b, .int .i64 m.by', .int .i64 m.un, .int .i64 m.cl, .int .i64 m.ce, .int .i64 m.nl, .string m.hd, .string m.tl]
theorem zcells {w : World} {b : Nat} {x y : Value} {m : Sum} {t : TypeId} (hk : w.heap[b]? = some (.cells (zcs x y m) t (0, 0))) :
    w.cell? ⟨b, 0, none⟩ = some x ∧ w.cell? ⟨b, 1, none⟩ = some y ∧ w.cell? ⟨b, 2, none⟩ = some (.int .i64 m.by') ∧ w.cell? ⟨b, 3, none⟩ = some (.int .i64 m.un) ∧ w.cell? ⟨b, 4, none⟩ = some (.int .i64 m.cl) ∧ w.cell? ⟨b, 5, none⟩ = some (.int .i64 m.ce) ∧ w.cell? ⟨b, 6, none⟩ = some (.int .i64 m.nl) ∧ w.cell? ⟨b, 7, none⟩ = some (.string m.hd) ∧ w.cell? ⟨b, 8, none⟩ = some (.string m.tl) ∧ b < w.heap.size := by
  refine ⟨?_, ?_, ?_, ?_, ?_, ?_, ?_, ?_, ?_, (Array.getElem?_eq_some_iff.1 hk).1⟩ <;> (unfold World.cell?; rw [hk]; rfl)
set_option maxRecDepth 100000 in
set_option maxHeartbeats 1000000 in
theorem zlsum_any {w : World} {b : Nat} {s : ByteArray} {m : Sum} (h : w.heap[b]? = some (.cells (lcs s m) 68 (0, 0))) :
    Calls Tryd.prog 99 #[.pointer (some ⟨b, 0, none⟩)] w fun e W' => e = .returned (sv m) ∧ Below w.heap.size w W' := by
  obtain ⟨c0, c1, c2, c3, c4, c5, c6, c7, hb⟩ := lcells h
  clear h
  go_enter Tryd.func99, Tryd.ntmps99
  go_wp2
  exact bodyPost_ret (v := sv m) (by simp [results, Tryd.results99, go_sem]) rfl ⟨rfl, (Below.refl _ w).alloc (Nat.le_refl _) _⟩
set_option maxRecDepth 100000 in
set_option maxHeartbeats 1000000 in
theorem zksum_any {w : World} {b : Nat} {x y : Value} {m : Sum} (hk : w.heap[b]? = some (.cells (zcs x y m) 72 (0, 0))) :
    Calls Tryd.prog 102 #[.pointer (some ⟨b, 0, none⟩)] w fun e W' => e = .returned (sv m) ∧ Below w.heap.size w W' := by
  obtain ⟨d0, d1, c1, c2, c3, c4, c5, c6, c7, hb⟩ := zcells hk
  clear hk
  go_enter Tryd.func102, Tryd.ntmps102
  go_wp2
  exact bodyPost_ret (v := sv m) (by simp [results, Tryd.results102, go_sem]) rfl ⟨rfl, (Below.refl _ w).alloc (Nat.le_refl _) _⟩
theorem zlparts_any (w : World) (a : Value) : Calls Tryd.prog 98 #[a] w fun e W' => e = .returned (.tuple #[.nilIface, .nilIface, .bool false]) ∧ w = W' := by
  go_enter Tryd.func98, Tryd.ntmps98
  go_wp2
  exact bodyPost_ret (v := .tuple #[.nilIface, .nilIface, .bool false]) (by simp [results, Tryd.results98, go_sem]) rfl ⟨rfl, rfl⟩
set_option maxRecDepth 100000 in
set_option maxHeartbeats 1000000 in
theorem zkparts_any {w : World} {b : Nat} {x y : Value} {m : Sum} (hk : w.heap[b]? = some (.cells (zcs x y m) 72 (0, 0))) :
    Calls Tryd.prog 101 #[.pointer (some ⟨b, 0, none⟩)] w fun e W' => e = .returned (.tuple #[x, y, .bool true]) ∧ Below w.heap.size w W' := by
  obtain ⟨d0, d1, c1, c2, c3, c4, c5, c6, c7, hb⟩ := zcells hk
  clear hk
  go_enter Tryd.func101, Tryd.ntmps101
  go_wp2
  go_region
  go_wp2
  exact bodyPost_ret (v := .tuple #[x, y, .bool true]) (by simp [results, Tryd.results101, go_sem]) rfl ⟨rfl, (Below.refl _ w).drew⟩
theorem zltext_any {w : World} {b : Nat} {s : ByteArray} {m : Sum} (h : w.heap[b]? = some (.cells (lcs s m) 68 (0, 0))) :
    Calls Tryd.prog 100 #[.pointer (some ⟨b, 0, none⟩)] w fun e W' => e = .returned (.string s) ∧ w = W' := by
  obtain ⟨c0, c1, c2, c3, c4, c5, c6, c7, hb⟩ := lcells h
  clear h
  go_enter Tryd.func100, Tryd.ntmps100
  go_wp2
  go_ret
  exact ⟨rfl, rfl⟩
theorem zktext_any (w : World) (a : Value) : Calls Tryd.prog 103 #[a] w fun e W' => e = .returned (.string noB) ∧ w = W' := by
  go_enter Tryd.func103, Tryd.ntmps103
  go_wp2
  go_ret
  exact ⟨rfl, rfl⟩
theorem mz_lsum (a : Addr) : Mt 64 a "Sum" 99 := ⟨fun _ => by kernel_rfl, enters_of Tryd.func99 (by kernel_rfl) rfl⟩
theorem mz_lparts (a : Addr) : Mt 64 a "Parts" 98 := ⟨fun _ => by kernel_rfl, enters_of Tryd.func98 (by kernel_rfl) rfl⟩
theorem mz_ltext (a : Addr) : Mt 64 a "Text" 100 := ⟨fun _ => by kernel_rfl, enters_of Tryd.func100 (by kernel_rfl) rfl⟩
theorem mz_ksum (a : Addr) : Mt 69 a "Sum" 102 := ⟨fun _ => by kernel_rfl, enters_of Tryd.func102 (by kernel_rfl) rfl⟩
theorem mz_kparts (a : Addr) : Mt 69 a "Parts" 101 := ⟨fun _ => by kernel_rfl, enters_of Tryd.func101 (by kernel_rfl) rfl⟩
theorem mz_ktext (a : Addr) : Mt 69 a "Text" 103 := ⟨fun _ => by kernel_rfl, enters_of Tryd.func103 (by kernel_rfl) rfl⟩
theorem nt_leaf {w : World} {b : Nat} {s : ByteArray} (h : w.heap[b]? = some (.cells (lcs s (smr s)) 68 (0, 0))) : Nt w (.leaf s) (.iface 64 (.pointer (some ⟨b, 0, none⟩))) := by
  have kp : ∀ {W}, Below w.heap.size w W → W.heap[b]? = some (.cells (lcs s (smr s)) 68 (0, 0)) := fun hW => (hW.block _ (Array.getElem?_eq_some_iff.1 h).1).trans h
  exact ⟨_, _, 99, 98, 100, rfl, mz_lsum _, mz_lparts _, mz_ltext _, fun W hW => zlsum_any (kp hW), fun W _ => (zlparts_any W _).mono fun e W' ⟨h1, h2⟩ => ⟨h1, h2 ▸ Below.refl _ _⟩, fun W hW => (zltext_any (kp hW)).mono fun e W' ⟨h1, h2⟩ => ⟨h1, h2 ▸ Below.refl _ _⟩⟩
theorem nt_knot {w : World} {b : Nat} {l r : Tr} {x y : Value} (h : w.heap[b]? = some (.cells (zcs x y (smr (Tr.knot l r).text)) 72 (0, 0))) (hl : Nt w l x) (hr : Nt w r y) : Nt w (.knot l r) (.iface 69 (.pointer (some ⟨b, 0, none⟩))) := by
  have kp : ∀ {W}, Below w.heap.size w W → W.heap[b]? = some (.cells (zcs x y (smr (Tr.knot l r).text)) 72 (0, 0)) := fun hW => (hW.block _ (Array.getElem?_eq_some_iff.1 h).1).trans h
  exact ⟨_, _, 102, 101, 103, x, y, rfl, ⟨mz_ksum _, mz_kparts _, mz_ktext _, fun W hW => zksum_any (kp hW), fun W hW => zkparts_any (kp hW), fun W _ => (zktext_any W _).mono fun e W' ⟨h1, h2⟩ => ⟨h1, h2 ▸ Below.refl _ _⟩⟩, hl, hr⟩
set_option maxRecDepth 100000 in
set_option maxHeartbeats 1000000 in
theorem plain_any (s : ByteArray) (hs : s.size ≤ 1099511627776) (w : World) (hE : Ev w) :
    Calls Tryd.prog 17 #[.string s] w fun e W' => ∃ T p, e = .returned (.iface T p) ∧ Nt W' (.leaf s) (.iface T p) ∧ Below w.heap.size w W' := by
  have C1 : Hid (Calls Tryd.prog 30 #[.string s] w fun e W' => e = .returned (.string s) ∧ Hid (Below w.heap.size w W')) := sclone_any s (by omega) w
  have C2 : Hid (∀ W, Hid (Below w.heap.size w W) → Calls Tryd.prog 31 #[.string s] W fun e W' => e = .returned (sv (smr s)) ∧ Hid (Below w.heap.size w W')) := fun W hW =>
    (measure_any s (by omega) W (hE.below hW).t (hE.below hW).l0 (hE.below hW).l1).mono fun e W' ⟨h1, h2⟩ => ⟨h1, Below.on hW h2⟩
  obtain ⟨m, hm⟩ : ∃ m, smr s = m := ⟨_, rfl⟩
  rw [hm] at C2
  clear hE
  go_enter Tryd.func17, Tryd.ntmps17
  go_wp2_with (first | (go_at_call 30; refine C1.out.mono ?_; clear C1; rintro e w1 ⟨rfl, H⟩) | (go_at_call 31; refine (C2.out _ H).mono ?_; clear C2 H; rintro e w2 ⟨rfl, H⟩))
  go_ret
  refine ⟨_, _, rfl, nt_leaf ?_, H.out.alloc H.out.size _⟩
  rw [hm]
  exact World.alloc_heap_new w2 _
set_option maxRecDepth 100000 in
set_option maxHeartbeats 1000000 in
theorem ssome_any {w : World} {t : Tr} {v : Value} (h : Nv w t v) (hE : Ev w) :
    Calls Tryd.prog 19 #[v] w fun e W' => ∃ T p, e = .returned (.iface T p) ∧ Nt W' t (.iface T p) ∧ Below w.heap.size w W' := by
  rcases h with ⟨rfl, rfl⟩ | h
  · have C1 : Hid (Calls Tryd.prog 17 #[.string ⟨#[]⟩] w fun e W' => ∃ T p, e = .returned (.iface T p) ∧ Hid (Nt W' (.leaf noB) (.iface T p) ∧ Below w.heap.size w W')) := (plain_any noB (by decide) w hE).mono fun e W' ⟨T, p, h1, h2⟩ => ⟨T, p, h1, h2⟩
    clear hE
    go_enter Tryd.func19, Tryd.ntmps19
    go_wp2_with (go_at_call 17; refine C1.out.mono ?_; clear C1; rintro e w1 ⟨T, p, rfl, H⟩)
    go_ret
    exact ⟨_, _, rfl, H.out⟩
  · have HN : Hid (Nt w t v) := h
    obtain ⟨T, a, fS, fP, fT, p, rfl, -⟩ := h.nd
    have he := fun W => eq_nil T (.pointer (some a)) W
    clear h hE
    go_enter Tryd.func19, Tryd.ntmps19
    go_wp2
    go_ret
    exact ⟨_, _, rfl, HN.out, Below.refl _ w⟩
set_option maxRecDepth 100000 in
set_option maxHeartbeats 1000000 in
theorem pair_any {w : World} {l r : Tr} {x y : Value} (hl : Nv w l x) (hr : Nv w r y) (hs : l.text.size + r.text.size ≤ 1099511627776) (hE : Ev w) :
    Calls Tryd.prog 18 #[x, y] w fun e W' => ∃ T p, e = .returned (.iface T p) ∧ Nt W' (.knot l r) (.iface T p) ∧ Below w.heap.size w W' := by
  have C1 : Hid (Calls Tryd.prog 19 #[x] w fun e W' => ∃ T p, e = .returned (.iface T p) ∧ Hid (Nt W' l (.iface T p) ∧ Below w.heap.size w W')) := (ssome_any hl hE).mono fun e W' ⟨T, p, h1, h2⟩ => ⟨T, p, h1, h2⟩
  have C2 : Hid (∀ W T p, Hid (Nt W l (.iface T p) ∧ Below w.heap.size w W) → Calls Tryd.prog 19 #[y] W fun e W' => ∃ U d gS V c fS, e = .returned (.iface U (.pointer (some d))) ∧ Value.iface T p = .iface V (.pointer (some c)) ∧ Mt U d "Sum" gS ∧ Mt V c "Sum" fS ∧ Hid (∀ W2, Below W'.heap.size W' W2 → Calls Tryd.prog gS #[.pointer (some d)] W2 fun e X => e = .returned (sv (smr r.text)) ∧ Below W2.heap.size W2 X) ∧ Hid (∀ W2, Below W'.heap.size W' W2 → Calls Tryd.prog fS #[.pointer (some c)] W2 fun e X => e = .returned (sv (smr l.text)) ∧ Below W2.heap.size W2 X) ∧ Hid (Nt W' l (.iface V (.pointer (some c))) ∧ Nt W' r (.iface U (.pointer (some d))) ∧ Below w.heap.size w W')) := fun W T p ⟨h1, hW⟩ => (ssome_any (hr.imp id (fun h => h.below hW)) (hE.below hW)).mono fun e W' ⟨U, q, k1, k2, k3⟩ => by
    have h1' := h1.below k3
    obtain ⟨V, c, fS, _, _, _, e1, m1, -⟩ := h1'.nd
    obtain ⟨U', d, gS, _, _, _, e2, m2, -⟩ := k2.nd
    cases e1
    cases e2
    exact ⟨U, d, gS, T, c, fS, k1, rfl, m2.ms, m1.ms, m2.cs, m1.cs, h1', k2, Below.on hW k3⟩
  obtain ⟨ml, hml⟩ : ∃ m, smr l.text = m := ⟨_, rfl⟩
  obtain ⟨mr, hmr⟩ : ∃ m, smr r.text = m := ⟨_, rfl⟩
  rw [hml, hmr] at C2
  have C3 : Hid (∀ W V c U d, Hid (Nt W l (.iface V (.pointer (some c))) ∧ Nt W r (.iface U (.pointer (some d))) ∧ Below w.heap.size w W) → Calls Tryd.prog 32 #[.slice (some ⟨W.heap.size, 0, none⟩) 2 2] (W.alloc (.cells (scs2 ml mr) 42)) fun e W' => e = .returned (sv (smr (Tr.knot l r).text)) ∧ Hid (Nt W' l (.iface V (.pointer (some c))) ∧ Nt W' r (.iface U (.pointer (some d))) ∧ Below w.heap.size w W')) := fun W V c U d ⟨h1, h2, hW⟩ => by
    have hb := (Below.refl _ W).alloc (Nat.le_refl _) (.cells (scs2 ml mr) 42)
    have hW2 := Below.on hW hb
    rw [← hml, ← hmr] at hb hW2 ⊢
    have := mjoin_any [l.text, r.text] _ _ (two_sums W l.text r.text) (by rw [cat_two, size_app]; omega) (by simp) (hE.below hW2).t (hE.below hW2).l0 (hE.below hW2).l1
    rw [cat_two] at this
    exact this.mono fun e W' ⟨k1, k2⟩ => ⟨k1, (h1.below hb).below k2, (h2.below hb).below k2, Below.on hW2 k2⟩
  obtain ⟨mk, hmk⟩ : ∃ m, smr (Tr.knot l r).text = m := ⟨_, rfl⟩
  rw [hmk] at C3
  clear hl hr hE hml hmr
  go_enter Tryd.func18, Tryd.ntmps18
  go_wp2_with (first | (go_at_call 19; refine C1.out.mono ?_; clear C1; rintro e w1 ⟨T, p, rfl, H⟩) | (go_at_call 19; refine (C2.out _ _ _ H).mono ?_; clear C2 H; rintro e w2 ⟨U, d, gS, V, c, fS, rfl, he, ⟨m1, m2⟩, ⟨m3, m4⟩, S2, S1, H⟩; cases he) | (go_at_fn fS; refine (S1.out _ (Below.refl _ w2)).mono ?_; clear S1; rintro e w3 ⟨rfl, hb3⟩; have H3 : Hid (Below w2.heap.size w2 w3) := hb3; clear hb3) | (go_at_fn gS; refine (S2.out _ H3.out).mono ?_; clear S2; rintro e w4 ⟨rfl, hb4⟩; have H4 : Hid (Nt w4 l _ ∧ Nt w4 r _ ∧ Below w.heap.size w w4) := ⟨H.out.1.below (Below.on H3.out hb4), H.out.2.1.below (Below.on H3.out hb4), Below.on H.out.2.2 (Below.on H3.out hb4)⟩; clear hb4 H3 H) | (go_at_call 32; refine (C3.out _ _ _ _ _ H4).mono ?_; clear C3 H4; rintro e w5 ⟨rfl, H⟩))
  go_ret
  have hb6 := (Below.refl _ w5).alloc (Nat.le_refl _) (.cells (zcs (.iface T (.pointer (some c))) (.iface U (.pointer (some d))) mk) 72)
  refine ⟨_, _, rfl, nt_knot ?_ (H.out.1.below hb6) (H.out.2.1.below hb6), Below.on H.out.2.2 hb6⟩
  rw [hmk]
  exact World.alloc_heap_new w5 _
end Go.Proofs.YtiehhafbblbbiabDoor
