/-
  A rope's tree in memory: its methods, its leaves and knots. Conditions: those of each theorem.
-/
import Derived.Test.YtplieccalmkloaaGreatDoorNRef
import Derived.Test.YtplieccalmkloaaGreatDoorPkR
import Derived.Test.YtplieccalmkloaaGreatDoorMCon
namespace Go.Proofs.YtplieccalmkloaaGreatDoor
open Go.RowKit Bod Wid

/-- the cells of a leaf, of a knot -/
def lcs (s : ByteArray) (m : Sum) : Array Value := #[.string s, .int .i64 m.by', .int .i64 m.un, .int .i64 m.cl, .int .i64 m.ce, .int .i64 m.nl, .string m.hd, .string m.tl]
def kcs (a b : Value) (h : Nat) (m : Sum) : Array Value := #[a, b, .int .i64 h, .int .i64 m.by', .int .i64 m.un, .int .i64 m.cl, .int .i64 m.ce, .int .i64 m.nl, .string m.hd, .string m.tl]
def lfv (b : Nat) : Value := .iface 187 (.pointer (some ⟨b, 0, none⟩))
def knv (b : Nat) : Value := .iface 200 (.pointer (some ⟨b, 0, none⟩))
/-- v is the tree t in w -/
def At (w : World) : Tr → Value → Prop
  | .leaf s, v => ∃ b, v = lfv b ∧ w.heap[b]? = some (.cells (lcs s (smr s)) 191 (0, 0))
  | .knot l r, v => ∃ b x y, v = knv b ∧ w.heap[b]? = some (.cells (kcs x y (Tr.knot l r).h (smr (Tr.knot l r).text)) 204 (0, 0)) ∧ At w l x ∧ At w r y
theorem At.below : ∀ {t : Tr} {v : Value} {w W : World}, At w t v → Below w.heap.size w W → At W t v
  | .leaf _, _, _, _, ⟨b, h1, h2⟩, hb => ⟨b, h1, (hb.block _ (Array.getElem?_eq_some_iff.1 h2).1).trans h2⟩
  | .knot _ _, _, _, _, ⟨b, x, y, h1, h2, h3, h4⟩, hb => ⟨b, x, y, h1, (hb.block _ (Array.getElem?_eq_some_iff.1 h2).1).trans h2, h3.below hb, h4.below hb⟩
theorem lcells {w : World} {b : Nat} {s : ByteArray} {m : Sum} {t : TypeId} (h : w.heap[b]? = some (.cells (lcs s m) t (0, 0))) :
    w.cell? ⟨b, 0, none⟩ = some (.string s) ∧ w.cell? ⟨b, 1, none⟩ = some (.int .i64 m.by') ∧ w.cell? ⟨b, 2, none⟩ = some (.int .i64 m.un) ∧ w.cell? ⟨b, 3, none⟩ = some (.int .i64 m.cl) ∧ w.cell? ⟨b, 4, none⟩ = some (.int .i64 m.ce) ∧ w.cell? ⟨b, 5, none⟩ = some (.int .i64 m.nl) ∧ w.cell? ⟨b, 6, none⟩ = some (.string m.hd) ∧ w.cell? ⟨b, 7, none⟩ = some (.string m.tl) ∧ b < w.heap.size := by
  refine ⟨?_, ?_, ?_, ?_, ?_, ?_, ?_, ?_, (Array.getElem?_eq_some_iff.1 h).1⟩ <;> (unfold World.cell?; rw [h]; rfl)
theorem kcells {w : World} {b h : Nat} {x y : Value} {m : Sum} {t : TypeId} (hk : w.heap[b]? = some (.cells (kcs x y h m) t (0, 0))) :
    w.cell? ⟨b, 0, none⟩ = some x ∧ w.cell? ⟨b, 1, none⟩ = some y ∧ w.cell? ⟨b, 2, none⟩ = some (.int .i64 h) ∧ w.cell? ⟨b, 3, none⟩ = some (.int .i64 m.by') ∧ w.cell? ⟨b, 4, none⟩ = some (.int .i64 m.un) ∧ w.cell? ⟨b, 5, none⟩ = some (.int .i64 m.cl) ∧ w.cell? ⟨b, 6, none⟩ = some (.int .i64 m.ce) ∧ w.cell? ⟨b, 7, none⟩ = some (.int .i64 m.nl) ∧ w.cell? ⟨b, 8, none⟩ = some (.string m.hd) ∧ w.cell? ⟨b, 9, none⟩ = some (.string m.tl) ∧ b < w.heap.size := by
  refine ⟨?_, ?_, ?_, ?_, ?_, ?_, ?_, ?_, ?_, ?_, (Array.getElem?_eq_some_iff.1 hk).1⟩ <;> (unfold World.cell?; rw [hk]; rfl)
set_option maxRecDepth 100000 in
set_option maxHeartbeats 1000000 in
theorem lsum_any {w : World} {b : Nat} {s : ByteArray} {m : Sum} (h : w.heap[b]? = some (.cells (lcs s m) 191 (0, 0))) :
    Calls Tryz.prog 221 #[.pointer (some ⟨b, 0, none⟩)] w fun e W' => e = .returned (sv m) ∧ Below w.heap.size w W' := by
  obtain ⟨c0, c1, c2, c3, c4, c5, c6, c7, hb⟩ := lcells h
  clear h
  go_enter Tryz.func221, Tryz.ntmps221
  go_wp2
  exact bodyPost_ret (v := sv m) (by simp [results, Tryz.results221, go_sem]) rfl ⟨rfl, (Below.refl _ w).alloc (Nat.le_refl _) _⟩
set_option maxRecDepth 100000 in
set_option maxHeartbeats 1000000 in
theorem ksum_any {w : World} {b h : Nat} {x y : Value} {m : Sum} (hk : w.heap[b]? = some (.cells (kcs x y h m) 204 (0, 0))) :
    Calls Tryz.prog 224 #[.pointer (some ⟨b, 0, none⟩)] w fun e W' => e = .returned (sv m) ∧ Below w.heap.size w W' := by
  obtain ⟨d0, d1, d2, c1, c2, c3, c4, c5, c6, c7, hb⟩ := kcells hk
  clear hk
  go_enter Tryz.func224, Tryz.ntmps224
  go_wp2
  exact bodyPost_ret (v := sv m) (by simp [results, Tryz.results224, go_sem]) rfl ⟨rfl, (Below.refl _ w).alloc (Nat.le_refl _) _⟩
theorem lparts_any (w : World) (a : Value) : Calls Tryz.prog 220 #[a] w fun e W' => e = .returned (.tuple #[.nilIface, .nilIface, .bool false]) ∧ w = W' := by
  go_enter Tryz.func220, Tryz.ntmps220
  go_wp2
  exact bodyPost_ret (v := .tuple #[.nilIface, .nilIface, .bool false]) (by simp [results, Tryz.results220, go_sem]) rfl ⟨rfl, rfl⟩
set_option maxRecDepth 100000 in
set_option maxHeartbeats 1000000 in
theorem kparts_any {w : World} {b h : Nat} {x y : Value} {m : Sum} (hk : w.heap[b]? = some (.cells (kcs x y h m) 204 (0, 0))) :
    Calls Tryz.prog 223 #[.pointer (some ⟨b, 0, none⟩)] w fun e W' => e = .returned (.tuple #[x, y, .bool true]) ∧ Below w.heap.size w W' := by
  obtain ⟨d0, d1, d2, c1, c2, c3, c4, c5, c6, c7, hb⟩ := kcells hk
  clear hk
  go_enter Tryz.func223, Tryz.ntmps223
  go_wp2
  go_region
  go_wp2
  exact bodyPost_ret (v := .tuple #[x, y, .bool true]) (by simp [results, Tryz.results223, go_sem]) rfl ⟨rfl, (Below.refl _ w).drew⟩
theorem ltext_any {w : World} {b : Nat} {s : ByteArray} {m : Sum} (h : w.heap[b]? = some (.cells (lcs s m) 191 (0, 0))) :
    Calls Tryz.prog 222 #[.pointer (some ⟨b, 0, none⟩)] w fun e W' => e = .returned (.string s) ∧ w = W' := by
  obtain ⟨c0, c1, c2, c3, c4, c5, c6, c7, hb⟩ := lcells h
  clear h
  go_enter Tryz.func222, Tryz.ntmps222
  go_wp2
  go_ret
  exact ⟨rfl, rfl⟩
theorem ktext_any (w : World) (a : Value) : Calls Tryz.prog 225 #[a] w fun e W' => e = .returned (.string noB) ∧ w = W' := by
  go_enter Tryz.func225, Tryz.ntmps225
  go_wp2
  go_ret
  exact ⟨rfl, rfl⟩
set_option maxRecDepth 100000 in
set_option maxHeartbeats 1000000 in
/-- the tree of the empty text -/
theorem eleaf_any (w : World) : Calls Tryz.prog 143 #[] w fun e W' => ∃ v, e = .returned v ∧ At W' (.leaf noB) v ∧ Below w.heap.size w W' := by
  go_enter Tryz.func143, Tryz.ntmps143
  go_wp2
  go_ret
  refine ⟨_, rfl, ⟨w.heap.size, rfl, ?_⟩, (Below.refl _ w).alloc (Nat.le_refl _) _⟩
  rw [smr_nil noB_size]
  exact World.alloc_heap_new w _
theorem as_leaf (W : World) (v : Value) : (Instr.typeAssert (.iface 187 v) 168 200 true).run Tryz.prog W = .ok (.tuple #[.pointer none, .bool false]) W := by kernel_rfl
theorem as_knot (W : World) (v : Value) : (Instr.typeAssert (.iface 200 v) 168 200 true).run Tryz.prog W = .ok (.tuple #[v, .bool true]) W := by kernel_rfl
set_option maxRecDepth 100000 in
set_option maxHeartbeats 1000000 in
theorem height_any {w : World} {t : Tr} {v : Value} (h : At w t v) : Calls Tryz.prog 166 #[v] w fun e W' => e = .returned (.int .i64 t.h) ∧ w = W' := by
  cases t with
  | leaf s =>
    obtain ⟨b, rfl, h2⟩ := h
    unfold lfv
    have ha := fun W => as_leaf W (.pointer (some ⟨b, 0, none⟩))
    clear h2
    go_enter Tryz.func166, Tryz.ntmps166
    go_wp2
    go_ret
    exact ⟨rfl, rfl⟩
  | knot l r =>
    obtain ⟨b, x, y, rfl, h2, _, _⟩ := h
    unfold knv
    obtain ⟨d0, d1, d2, c1, c2, c3, c4, c5, c6, c7, hb⟩ := kcells h2
    have ha := fun W => as_knot W (.pointer (some ⟨b, 0, none⟩))
    clear h2
    go_enter Tryz.func166, Tryz.ntmps166
    go_wp2
    go_ret
    exact ⟨rfl, rfl⟩
end Go.Proofs.YtplieccalmkloaaGreatDoor
namespace Go.Proofs.YtplieccalmkloaaGreatDoor
open Go.RowKit Go.Shelf Bod Wid

def Tr.own : Tr → ByteArray
  | .leaf s => s
  | .knot _ _ => noB
/-- what Parts answers -/
def Pv (w : World) : Tr → Value → Prop
  | .leaf _, p => p = .tuple #[.nilIface, .nilIface, .bool false]
  | .knot l r, p => ∃ x y, p = .tuple #[x, y, .bool true] ∧ At w l x ∧ At w r y
/-- a method of an interface value is found, and can be entered -/
def Mt (T : TypeId) (a : Addr) (name : String) (f : FuncId) : Prop :=
  (∀ W, (method 334 T (.pointer (some a)) name).run Tryz.prog W = .ok (f, .pointer (some a)) W) ∧ (∀ args W, (callFunc f args).run Tryz.prog W = .ok (.enter f args) W)
theorem mt_lsum (a : Addr) : Mt 187 a "Sum" 221 := ⟨fun _ => by kernel_rfl, enters_of Tryz.func221 (by kernel_rfl) rfl⟩
theorem mt_lparts (a : Addr) : Mt 187 a "Parts" 220 := ⟨fun _ => by kernel_rfl, enters_of Tryz.func220 (by kernel_rfl) rfl⟩
theorem mt_ltext (a : Addr) : Mt 187 a "Text" 222 := ⟨fun _ => by kernel_rfl, enters_of Tryz.func222 (by kernel_rfl) rfl⟩
theorem mt_ksum (a : Addr) : Mt 200 a "Sum" 224 := ⟨fun _ => by kernel_rfl, enters_of Tryz.func224 (by kernel_rfl) rfl⟩
theorem mt_kparts (a : Addr) : Mt 200 a "Parts" 223 := ⟨fun _ => by kernel_rfl, enters_of Tryz.func223 (by kernel_rfl) rfl⟩
theorem mt_ktext (a : Addr) : Mt 200 a "Text" 225 := ⟨fun _ => by kernel_rfl, enters_of Tryz.func225 (by kernel_rfl) rfl⟩
/-- a tree's methods, whether it is a leaf or a knot -/
theorem At.nd {w : World} {t : Tr} {v : Value} (h : At w t v) : ∃ T a fS fP fT p, v = .iface T (.pointer (some a)) ∧ Mt T a "Sum" fS ∧ Mt T a "Parts" fP ∧ Mt T a "Text" fT ∧
    Hid (∀ W, Below w.heap.size w W → Calls Tryz.prog fS #[.pointer (some a)] W fun e W' => e = .returned (sv (smr t.text)) ∧ Below W.heap.size W W') ∧
    Hid (∀ W, Below w.heap.size w W → Calls Tryz.prog fP #[.pointer (some a)] W fun e W' => e = .returned p ∧ Below W.heap.size W W') ∧
    Hid (∀ W, Below w.heap.size w W → Calls Tryz.prog fT #[.pointer (some a)] W fun e W' => e = .returned (.string t.own) ∧ Below W.heap.size W W') ∧ Pv w t p := by
  cases t with
  | leaf s =>
    obtain ⟨b, rfl, h2⟩ := h
    exact ⟨187, _, 221, 220, 222, _, rfl, mt_lsum _, mt_lparts _, mt_ltext _, fun W hW => lsum_any ((hW.block _ (Array.getElem?_eq_some_iff.1 h2).1).trans h2),
      fun W hW => (lparts_any W _).mono fun e W' ⟨h1, h2⟩ => ⟨h1, h2 ▸ Below.refl _ _⟩, fun W hW => (ltext_any ((hW.block _ (Array.getElem?_eq_some_iff.1 h2).1).trans h2)).mono fun e W' ⟨h1, h2⟩ => ⟨h1, h2 ▸ Below.refl _ _⟩, rfl⟩
  | knot l r =>
    obtain ⟨b, x, y, rfl, h2, h3, h4⟩ := h
    exact ⟨200, _, 224, 223, 225, _, rfl, mt_ksum _, mt_kparts _, mt_ktext _, fun W hW => ksum_any ((hW.block _ (Array.getElem?_eq_some_iff.1 h2).1).trans h2),
      fun W hW => kparts_any ((hW.block _ (Array.getElem?_eq_some_iff.1 h2).1).trans h2), fun W hW => (ktext_any W _).mono fun e W' ⟨h1, h2⟩ => ⟨h1, h2 ▸ Below.refl _ _⟩, x, y, rfl, h3, h4⟩
/-- what stands around a call: the tables of unicode/utf8 -/
structure Ev (w : World) : Prop where
  t : Lib.Utf8Tabs 0 1 w
  l0 : 0 < w.heap.size
  l1 : 1 < w.heap.size
theorem Ev.below {w W : World} (h : Ev w) (hb : Below w.heap.size w W) : Ev W := ⟨tabs_below h.t hb, Nat.lt_of_lt_of_le h.l0 hb.size, Nat.lt_of_lt_of_le h.l1 hb.size⟩
theorem Below.on {w V W : World} (h : Below w.heap.size w V) (k : Below V.heap.size V W) : Below w.heap.size w W := h.trans (k.mono h.size)
set_option maxRecDepth 100000 in
set_option maxHeartbeats 1000000 in
theorem leafOf_any (s : ByteArray) (hs : s.size ≤ 1099511627776) (w : World) (hE : Ev w) :
    Calls Tryz.prog 141 #[.string s] w fun e W' => ∃ v, e = .returned v ∧ At W' (.leaf s) v ∧ Below w.heap.size w W' := by
  have C1 : Hid (Calls Tryz.prog 153 #[.string s] w fun e W' => e = .returned (.string s) ∧ Below w.heap.size w W') := sclone_any s (by omega) w
  have C2 : Hid (∀ W, Below w.heap.size w W → Calls Tryz.prog 154 #[.string s] W fun e W' => e = .returned (sv (smr s)) ∧ Below w.heap.size w W') := fun W hW =>
    (measure_any s (by omega) W (hE.below hW).t (hE.below hW).l0 (hE.below hW).l1).mono fun e W' ⟨h1, h2⟩ => ⟨h1, Below.on hW h2⟩
  obtain ⟨m, hm⟩ : ∃ m, smr s = m := ⟨_, rfl⟩
  rw [hm] at C2
  clear hE
  go_enter Tryz.func141, Tryz.ntmps141
  go_wp2_with (first | (go_at_call 153; refine C1.out.mono ?_; clear C1; rintro e w1 ⟨rfl, hb1⟩; have HB1 : Hid (Below w.heap.size w w1) := hb1; clear hb1) | (go_at_call 154; refine (C2.out _ HB1.out).mono ?_; clear C2 HB1; rintro e w2 ⟨rfl, hb2⟩; have HB2 : Hid (Below w.heap.size w w2) := hb2; clear hb2))
  go_ret
  refine ⟨_, rfl, ⟨w2.heap.size, rfl, ?_⟩, HB2.out.alloc HB2.out.size _⟩
  rw [hm]
  exact World.alloc_heap_new w2 _
def scs2 (a b : Sum) : Array Value := #[.int .i64 a.by', .int .i64 a.un, .int .i64 a.cl, .int .i64 a.ce, .int .i64 a.nl, .string a.hd, .string a.tl, .int .i64 b.by', .int .i64 b.un, .int .i64 b.cl, .int .i64 b.ce, .int .i64 b.nl, .string b.hd, .string b.tl]
theorem two_sums (w : World) (a b : ByteArray) : RdS (w.alloc (.cells (scs2 (smr a) (smr b)) 125)) (.slice (some ⟨w.heap.size, 0, none⟩) 2 2) [a, b] := by
  refine ⟨_, 2, rfl, fun _ => ⟨w.heap.size, 0, rfl, by simp, fun k s hk => ?_⟩⟩
  have hc : ∀ i u, (scs2 (smr a) (smr b))[i]? = some u → (w.alloc (.cells (scs2 (smr a) (smr b)) 125)).cell? ⟨w.heap.size, i, none⟩ = some u := fun i u h => by
    unfold World.cell?
    rw [World.alloc_heap_new]
    simpa using h
  match k, hk with
  | 0, hk => cases hk; exact ⟨hc _ _ rfl, hc _ _ rfl, hc _ _ rfl, hc _ _ rfl, hc _ _ rfl, hc _ _ rfl, hc _ _ rfl⟩
  | 1, hk => cases hk; exact ⟨hc _ _ rfl, hc _ _ rfl, hc _ _ rfl, hc _ _ rfl, hc _ _ rfl, hc _ _ rfl, hc _ _ rfl⟩
  | k + 2, hk => simp at hk
theorem cat_two (a b : ByteArray) : cat [a, b] = a ++ b := by
  show ByteArray.empty ++ a ++ b = _
  congr 1
set_option maxRecDepth 100000 in
set_option maxHeartbeats 1000000 in
theorem knotOf_any {w : World} {l r : Tr} {x y : Value} (hl : At w l x) (hr : At w r y) (hs : l.text.size + r.text.size ≤ 1099511627776) (hh : l.h ≤ 1099511627776) (hk : r.h ≤ 1099511627776) (hE : Ev w) :
    Calls Tryz.prog 155 #[x, y] w fun e W' => ∃ v, e = .returned v ∧ At W' (.knot l r) v ∧ Below w.heap.size w W' := by
  have C1 : Hid (Calls Tryz.prog 166 #[x] w fun e W' => e = .returned (.int .i64 l.h) ∧ w = W') := height_any hl
  have C2 : Hid (Calls Tryz.prog 166 #[y] w fun e W' => e = .returned (.int .i64 r.h) ∧ w = W') := height_any hr
  obtain ⟨T, a, fS, fP, fT, p, rfl, ⟨m1, m2⟩, -, -, S1, -, -, -⟩ := hl.nd
  obtain ⟨U, b, gS, gP, gT, q, rfl, ⟨m3, m4⟩, -, -, S2, -, -, -⟩ := hr.nd
  have HL : Hid (∀ W, Below w.heap.size w W → At W l _) := fun W hW => hl.below hW
  have HR : Hid (∀ W, Below w.heap.size w W → At W r _) := fun W hW => hr.below hW
  obtain ⟨ml, hml⟩ : ∃ m, smr l.text = m := ⟨_, rfl⟩
  obtain ⟨mr, hmr⟩ : ∃ m, smr r.text = m := ⟨_, rfl⟩
  rw [hml] at S1
  rw [hmr] at S2
  have C3 : Hid (∀ W, Below w.heap.size w W → Calls Tryz.prog 167 #[.slice (some ⟨W.heap.size, 0, none⟩) 2 2] (W.alloc (.cells (scs2 ml mr) 125)) fun e W' => e = .returned (sv (smr (Tr.knot l r).text)) ∧ Below w.heap.size w W') := fun W hW => by
    have hb := hW.alloc hW.size (.cells (scs2 ml mr) 125)
    rw [← hml, ← hmr] at hb ⊢
    have := mjoin_any [l.text, r.text] _ _ (two_sums W l.text r.text) (by rw [cat_two, size_app]; omega) (by simp) (hE.below hb).t (hE.below hb).l0 (hE.below hb).l1
    rw [cat_two] at this
    exact this.mono fun e W' ⟨h1, h2⟩ => ⟨h1, Below.on hb h2⟩
  obtain ⟨mk, hmk⟩ : ∃ m, smr (Tr.knot l r).text = m := ⟨_, rfl⟩
  rw [hmk] at C3
  obtain ⟨hx, hhx⟩ : ∃ n : Nat, (Tr.knot l r).h = n := ⟨_, rfl⟩
  have hmx : max (l.h : Int) (r.h : Int) + 1 = (hx : Int) := by rw [← hhx]; show _ = ((max l.h r.h + 1 : Nat) : Int); omega
  clear hl hr hE hml hmr
  go_enter Tryz.func155, Tryz.ntmps155
  go_wp2_with (first | (go_at_call 166; refine C1.out.mono ?_; rintro e w1 ⟨rfl, rfl⟩; clear C1) | (go_at_call 166; refine C2.out.mono ?_; rintro e w2 ⟨rfl, rfl⟩; clear C2) | (go_at_fn fS; refine (S1.out _ (Below.refl _ w)).mono ?_; clear S1; rintro e w3 ⟨rfl, hb3⟩; have HB3 : Hid (Below w.heap.size w w3) := hb3; clear hb3) | (go_at_fn gS; refine (S2.out _ HB3.out).mono ?_; clear S2; rintro e w4 ⟨rfl, hb4⟩; have HB4 : Hid (Below w.heap.size w w4) := Below.on HB3.out hb4; clear hb4 HB3) | (go_at_call 167; refine (C3.out _ HB4.out).mono ?_; clear C3 HB4; rintro e w5 ⟨rfl, hb5⟩; have HB5 : Hid (Below w.heap.size w w5) := hb5; clear hb5))
  go_ret
  have hb6 := HB5.out.alloc HB5.out.size (.cells (kcs (.iface T (.pointer (some a))) (.iface U (.pointer (some b))) hx mk) 204)
  refine ⟨_, rfl, ⟨w5.heap.size, _, _, rfl, ?_, HL.out _ hb6, HR.out _ hb6⟩, hb6⟩
  rw [hmk, hhx]
  exact World.alloc_heap_new w5 _
end Go.Proofs.YtplieccalmkloaaGreatDoor
