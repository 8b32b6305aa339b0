/-
  The walk of the law LayoutLines: a newline begins a row: the rows of two texts with a newline between are the rows of both, one under the other. Conditions: those of walk_of.
-/
import Derived.Deep.CutRange
import Derived.Test.YtojkpkokjkjeeabDoorOLin
import Derived.Test.YtojkpkokjkjeeabDoorOSmp
import Derived.Test.YtojkpkokjkjeeabDoorOArg
namespace Go.Proofs.YtojkpkokjkjeeabDoor.layoutLines
open Go.RowKit Go.Shelf Bod Wid
/-- a frame in a box, its rows made behind B -/
structure Bf (B : World) (b Wn : Nat) (oa : Option Addr) (n k : Nat) (r c : Nat) (R : List (List Cel)) (Y : World) : Prop where
  bx : Y.heap[b]? = some (.cells #[.int .i64 Wn, .slice oa n k, .int .i64 r, .int .i64 c] 29 (0, 0))
  fr : Fr B (.slice oa n k) R Y
theorem Bf.below {B Y Z : World} {b Wn n k r c : Nat} {oa : Option Addr} {R : List (List Cel)} (h : Bf B b Wn oa n k r c R Y) (hb : Below Y.heap.size Y Z) : Bf B b Wn oa n k r c R Z :=
  ⟨(hb.block _ (Array.getElem?_eq_some_iff.1 h.bx).1).trans h.bx, h.fr.below hb⟩
theorem trm_le' (l : List Cel) : (trmL l).length ≤ l.length := by
  obtain ⟨n, h1, h2⟩ := trm_pre l
  rw [h2, List.length_take]; omega
set_option maxRecDepth 100000 in
set_option maxHeartbeats 4000000 in
theorem walk (hM : Tryd.prog.follows .mixedOrders = true) (prompt text more : ByteArray) (cur W0 : Int) (hp : prompt.size ≤ 1048576) (ht : text.size ≤ 1048576) (hm : more.size ≤ 1048576) (w : World) (hT : Lib.Utf8Tabs 0 1 w) (hlo0 : 0 < w.heap.size) (hlo1 : 1 < w.heap.size) :
    Calls Tryd.prog 5 #[.agg #[.string prompt, .string text, .int .i64 cur, .int .i64 W0], .string more] w fun e w' => e = .returned (.bool true) ∧ Below w.heap.size w w' := by
  obtain ⟨Wn, hW⟩ : ∃ Wn : Nat, (Wn : Int) = couW W0 := ⟨(couW W0).toNat, by have := couW_in W0; omega⟩
  have hWb := couW_in W0
  have hW1 : 1 ≤ Wn := by omega
  have hW2 : Wn ≤ 65535 := by omega
  have h2 : ∀ s : ByteArray, ∀ u ∈ cus s (cl s), u.n ≤ 2 := fun s u hu => by
    obtain ⟨c, hc, rfl⟩ := List.mem_map.1 hu
    exact (cuOf_n hc).1
  obtain ⟨st, hst⟩ : ∃ st, layL Wn lst0 (cus prompt (cl prompt)) = st := ⟨_, rfl⟩
  obtain ⟨F, hF⟩ : ∃ F, (layL Wn st (cus (text ++ nlo ++ more) (cl (text ++ nlo ++ more)))).all.map trmL = F := ⟨_, rfl⟩
  obtain ⟨G, hG⟩ : ∃ G, (layL Wn st (cus text (cl text))).all.map trmL = G := ⟨_, rfl⟩
  obtain ⟨K, hK⟩ : ∃ K, (layL Wn lst0 (cus more (cl more))).all.map trmL = K := ⟨_, rfl⟩
  have hcl0 : cl (⟨#[]⟩ : ByteArray) = [] := cl_nil rfl
  obtain ⟨b13, hb13⟩ : ∃ b : Bool, b = decide (text.size ≠ 0 ∧ bt text (text.size - 1) = 13) := ⟨_, rfl⟩
  have hstok : st.Ok Wn := hst ▸ layL_ok hW1 (h2 prompt) (lst0_ok hW1)
  have hstna : Nar Wn st := hst ▸ layL_nar hW1 (h2 prompt) (lst0_ok hW1) (lst0_nar _)
  have hsm : ∀ (s : ByteArray) (q : Lst), q.Ok Wn → Nar Wn q → s.size ≤ 4194304 → q.rows.length ≤ 4194304 → ((layL Wn q (cus s (cl s))).all.map trmL).length ≤ 16777216 ∧ (∀ l ∈ (layL Wn q (cus s (cl s))).all.map trmL, l.length ≤ 65535) ∧ 1 ≤ ((layL Wn q (cus s (cl s))).all.map trmL).length := fun s q h1 h3 h4 h5 => by
    have e1 := layL_rows (W := Wn) (l := cus s (cl s)) (s := q)
    have e2 : (cus s (cl s)).length = (cl s).length := by simp [cus]
    have e3 := cl_len s
    refine ⟨?_, fun l hl => ?_, ?_⟩
    · rw [List.length_map, Lst.all_len]; show (layL Wn q (cus s (cl s))).rows.length + 1 ≤ _; omega
    · obtain ⟨p, hp, rfl⟩ := List.mem_map.1 hl
      have := layL_nar hW1 (h2 s) h1 h3 p hp
      exact Nat.le_trans (trm_le' p) (by omega)
    · rw [List.length_map, Lst.all_len]; omega
  have hstr : st.rows.length ≤ 4194304 := by
    have e1 := layL_rows (W := Wn) (l := cus prompt (cl prompt)) (s := lst0)
    have e0 : (lst0).rows.length = 0 := rfl
    have e2 : (cus prompt (cl prompt)).length = (cl prompt).length := by simp [cus]
    have e3 := cl_len prompt
    rw [hst] at e1
    omega
  have htl : (text ++ nlo ++ more).size ≤ 4194304 := by rw [size_app, size_app]; show text.size + 1 + more.size ≤ _; omega
  obtain ⟨n0, hn0⟩ : ∃ n, F.length = n := ⟨_, rfl⟩
  obtain ⟨n1, hn1⟩ : ∃ n, G.length = n := ⟨_, rfl⟩
  obtain ⟨n2, hn2⟩ : ∃ n, K.length = n := ⟨_, rfl⟩
  obtain ⟨cf, hcf⟩ : ∃ cf, (curL Wn st (text ++ nlo ++ more) cur (cl (text ++ nlo ++ more))).2 = cf := ⟨_, rfl⟩
  obtain ⟨cg, hcg⟩ : ∃ cg, (curL Wn st text cur (cl text)).2 = cg := ⟨_, rfl⟩
  have HPL : Hid (F.length = n0 ∧ G.length = n1 ∧ K.length = n2 ∧ (∀ l ∈ F, l.length ≤ 65535) ∧ n0 ≤ 16777216 ∧ n1 ≤ 16777216 ∧ n2 ≤ 16777216 ∧ 1 ≤ n2 ∧ (b13 = false → F = G ++ K ∧ (cur ≤ text.size → cf = cg))) := by
    have s1 := hsm (text ++ nlo ++ more) st hstok hstna htl hstr
    have s2 := hsm text st hstok hstna (by omega) hstr
    have s3 := hsm more lst0 (lst0_ok hW1) (lst0_nar _) (by omega) (Nat.zero_le _)
    rw [hF] at s1
    rw [hG] at s2
    rw [hK] at s3
    refine ⟨hn0, hn1, hn2, s1.2.1, by omega, by omega, by omega, by omega, fun hb => ?_⟩
    have h13 : text.size ≠ 0 → bt text (text.size - 1) ≠ 13 := fun h0 e => by rw [hb] at hb13; have := (decide_eq_false_iff_not.1 hb13.symm); exact this ⟨h0, e⟩
    refine ⟨by rw [← hF, ← hG, ← hK, lay_lines h13, List.map_append], fun hc => ?_⟩
    rw [← hcf, ← hcg, cur_lines h13 Wn st hc]
  have CA : Hid (∀ X, Below w.heap.size w X → Calls Tryd.prog 6 #[] X fun e w' => e = .returned (.bool true) ∧ Hid (Below X.heap.size X w')) := fun X hX => awk_any hM X (tabs_below hT hX) (Nat.lt_of_lt_of_le hlo0 hX.size) (Nat.lt_of_lt_of_le hlo1 hX.size)
  have CF : Hid (∀ X, Below w.heap.size w X → Calls Tryd.prog 7 #[.string prompt, .string (text ++ ⟨#[10]⟩ ++ more), .int .i64 cur, .int .i64 W0] X fun e Y => ∃ oa ok, e = .returned (.agg #[.int .i64 Wn, .slice oa n0 ok, .int .i64 cf.1, .int .i64 cf.2]) ∧ Hid (Fr X (.slice oa n0 ok) F Y ∧ Below X.heap.size X Y)) := fun X hX =>
    (lay0_any hM prompt (text ++ nlo ++ more) cur W0 (by omega) (by omega) X (tabs_below hT hX) (Nat.lt_of_lt_of_le hlo0 hX.size) (Nat.lt_of_lt_of_le hlo1 hX.size) Wn hW).mono fun e Y ⟨ov, he, HF⟩ => by
      obtain ⟨hf, hb⟩ := HF.out
      rw [hst, hF] at hf
      rw [hst, hcf] at he
      obtain ⟨oa, ok, ho⟩ := hf.len
      rw [hn0] at ho
      subst ho
      exact ⟨oa, ok, he, hf, hb⟩
  have CG : Hid (∀ X, Below w.heap.size w X → Calls Tryd.prog 7 #[.string prompt, .string text, .int .i64 cur, .int .i64 W0] X fun e Y => ∃ oa ok, e = .returned (.agg #[.int .i64 Wn, .slice oa n1 ok, .int .i64 cg.1, .int .i64 cg.2]) ∧ Hid (Fr X (.slice oa n1 ok) G Y ∧ Below X.heap.size X Y)) := fun X hX =>
    (lay0_any hM prompt text cur W0 (by omega) (by omega) X (tabs_below hT hX) (Nat.lt_of_lt_of_le hlo0 hX.size) (Nat.lt_of_lt_of_le hlo1 hX.size) Wn hW).mono fun e Y ⟨ov, he, HF⟩ => by
      obtain ⟨hf, hb⟩ := HF.out
      rw [hst, hG] at hf
      rw [hst, hcg] at he
      obtain ⟨oa, ok, ho⟩ := hf.len
      rw [hn1] at ho
      subst ho
      exact ⟨oa, ok, he, hf, hb⟩
  have CK : Hid (∀ X, Below w.heap.size w X → Calls Tryd.prog 7 #[.string ⟨#[]⟩, .string more, .int .i64 0, .int .i64 W0] X fun e Y => ∃ oa ok r c, e = .returned (.agg #[.int .i64 Wn, .slice oa n2 ok, .int .i64 (r : Nat), .int .i64 (c : Nat)]) ∧ Hid (Fr X (.slice oa n2 ok) K Y ∧ Below X.heap.size X Y)) := fun X hX =>
    (lay0_any hM ⟨#[]⟩ more 0 W0 (by decide) (by omega) X (tabs_below hT hX) (Nat.lt_of_lt_of_le hlo0 hX.size) (Nat.lt_of_lt_of_le hlo1 hX.size) Wn hW).mono fun e Y ⟨ov, he, HF⟩ => by
      obtain ⟨hf, hb⟩ := HF.out
      rw [hcl0] at hf he
      change Fr X ov ((layL Wn lst0 (cus more (cl more))).all.map trmL) Y at hf
      rw [hK] at hf
      obtain ⟨oa, ok, ho⟩ := hf.len
      rw [hn2] at ho
      subst ho
      exact ⟨oa, ok, _, _, he, hf, hb⟩
  have HM : Hid (Tryd.prog.follows .mixedOrders = true) := hM
  have HB13 : Hid (b13 = decide (text.size ≠ 0 ∧ bt text (text.size - 1) = 13)) := hb13
  have HB0 : Hid (Below w.heap.size w (w.alloc (.cells #[.string prompt, .string text, .int .i64 cur, .int .i64 W0] 23)) ∧ (w.alloc (.cells #[.string prompt, .string text, .int .i64 cur, .int .i64 W0] 23)).heap[w.heap.size]? = some (.cells #[.string prompt, .string text, .int .i64 cur, .int .i64 W0] 23 (0, 0))) := ⟨(Below.refl _ w).alloc (Nat.le_refl _) _, World.alloc_heap_new _ _⟩
  have K1 : True := trivial
  have K2 : True := trivial
  have K3 : True := trivial
  clear hM hT hW hWb hW1 hW2 h2 hst hF hG hK hcl0 hb13 hstok hstna hsm hstr htl hn0 hn1 hn2 hcf hcg hp
  go_enter Tryd.func5, Tryd.ntmps5
  go_upto_region 4 with (first | (go_at_call 6; refine (CA.out _ HB0.out.1).mono ?_; clear CA; rintro e w1 ⟨rfl, HB1⟩; have hx1 : w1.heap[w.heap.size]? = some (.cells #[.string prompt, .string text, .int .i64 cur, .int .i64 W0] 23 (0, 0)) := (HB1.out.block _ (by simp)).trans HB0.out.2; obtain ⟨⟨x0, x1, x2, x3⟩, -⟩ := box4 hx1; have HX1 : Hid (Below w.heap.size w w1 ∧ w1.heap[w.heap.size]? = some (.cells #[.string prompt, .string text, .int .i64 cur, .int .i64 W0] 23 (0, 0))) := ⟨HB0.out.1.trans (HB1.out.mono HB0.out.1.size), hx1⟩; clear hx1) | (go_at_call 7; clear K1; refine (CF.out _ HX1.out.1).mono ?_; clear CF x0 x1 x2 x3; rintro e wf ⟨oaf, okf, rfl, HF⟩))
  obtain ⟨fb, hfb⟩ : ∃ fb, wf.heap.size = fb := ⟨_, rfl⟩
  have HX2 : Hid (∃ X, X = wf.alloc (.cells #[.int .i64 Wn, .slice oaf n0 okf, .int .i64 cf.1, .int .i64 cf.2] 29) ∧ Below w.heap.size w X ∧ X.heap[w.heap.size]? = some (.cells #[.string prompt, .string text, .int .i64 cur, .int .i64 W0] 23 (0, 0)) ∧ Bf w1 fb Wn oaf n0 okf cf.1 cf.2 F X ∧ w.heap.size < fb) := by
    have hb : Below wf.heap.size wf (wf.alloc (.cells #[.int .i64 Wn, .slice oaf n0 okf, .int .i64 cf.1, .int .i64 cf.2] 29)) := (Below.refl _ wf).alloc (Nat.le_refl _) _
    have hw : Below w.heap.size w wf := HX1.out.1.trans (HF.out.2.mono HX1.out.1.size)
    have hk : wf.heap[w.heap.size]? = some (.cells #[.string prompt, .string text, .int .i64 cur, .int .i64 W0] 23 (0, 0)) := (HF.out.2.block _ (Array.getElem?_eq_some_iff.1 HX1.out.2).1).trans HX1.out.2
    have hl := (Array.getElem?_eq_some_iff.1 hk).1
    exact ⟨_, rfl, hw.trans (hb.mono hw.size), (hb.block _ hl).trans hk, ⟨by rw [← hfb]; exact World.alloc_heap_new _ _, HF.out.1.below hb⟩, by omega⟩
  obtain ⟨X2, hX2, HY2⟩ := HX2.out
  rw [← hX2, hfb]
  have HX2 : Hid (Below w.heap.size w X2 ∧ X2.heap[w.heap.size]? = some (.cells #[.string prompt, .string text, .int .i64 cur, .int .i64 W0] 23 (0, 0)) ∧ Bf w1 fb Wn oaf n0 okf cf.1 cf.2 F X2 ∧ w.heap.size < fb) := HY2
  clear HY2 hX2 hfb HF HX1 HB1 HB0
  obtain ⟨⟨x0, x1, x2, x3⟩, -⟩ := box4 HX2.out.2.1
  go_upto_region 5 with (go_at_call 7; refine (CG.out _ HX2.out.1).mono ?_; clear CG x0 x1 x2 x3; rintro e wg ⟨oag, okg, rfl, HG⟩)
  obtain ⟨gb, hgb⟩ : ∃ gb, wg.heap.size = gb := ⟨_, rfl⟩
  have HX3 : Hid (∃ X, X = wg.alloc (.cells #[.int .i64 Wn, .slice oag n1 okg, .int .i64 cg.1, .int .i64 cg.2] 29) ∧ Below X2.heap.size X2 X ∧ Below w.heap.size w X ∧ X.heap[w.heap.size]? = some (.cells #[.string prompt, .string text, .int .i64 cur, .int .i64 W0] 23 (0, 0)) ∧ Bf w1 fb Wn oaf n0 okf cf.1 cf.2 F X ∧ Bf X2 gb Wn oag n1 okg cg.1 cg.2 G X ∧ X2.heap.size ≤ gb ∧ fb < X2.heap.size ∧ w.heap.size < fb) := by
    have hb : Below wg.heap.size wg (wg.alloc (.cells #[.int .i64 Wn, .slice oag n1 okg, .int .i64 cg.1, .int .i64 cg.2] 29)) := (Below.refl _ wg).alloc (Nat.le_refl _) _
    have h2 : Below X2.heap.size X2 (wg.alloc (.cells #[.int .i64 Wn, .slice oag n1 okg, .int .i64 cg.1, .int .i64 cg.2] 29)) := HG.out.2.trans (hb.mono HG.out.2.size)
    have hl := (Array.getElem?_eq_some_iff.1 HX2.out.2.1).1
    exact ⟨_, rfl, h2, HX2.out.1.trans (h2.mono HX2.out.1.size), (h2.block _ hl).trans HX2.out.2.1, HX2.out.2.2.1.below h2, ⟨by rw [← hgb]; exact World.alloc_heap_new _ _, HG.out.1.below hb⟩, by rw [← hgb]; exact HG.out.2.size, (Array.getElem?_eq_some_iff.1 HX2.out.2.2.1.bx).1, HX2.out.2.2.2⟩
  obtain ⟨X3, hX3, HY3⟩ := HX3.out
  rw [← hX3, hgb]
  have HX3 : Hid (Below X2.heap.size X2 X3 ∧ Below w.heap.size w X3 ∧ X3.heap[w.heap.size]? = some (.cells #[.string prompt, .string text, .int .i64 cur, .int .i64 W0] 23 (0, 0)) ∧ Bf w1 fb Wn oaf n0 okf cf.1 cf.2 F X3 ∧ Bf X2 gb Wn oag n1 okg cg.1 cg.2 G X3 ∧ X2.heap.size ≤ gb ∧ fb < X2.heap.size ∧ w.heap.size < fb) := HY3
  have HF2 : Hid (Fr w1 (.slice oaf n0 okf) F X2) := HX2.out.2.2.1.fr
  clear HY3 hX3 hgb HG HX2
  obtain ⟨⟨x0, x1, x2, x3⟩, -⟩ := box4 HX3.out.2.2.1
  go_upto_region 6 with (go_at_call 7; refine (CK.out _ HX3.out.2.1).mono ?_; clear CK x0 x1 x2 x3; rintro e wk ⟨oak, okk, rk, ck, rfl, HK⟩)
  obtain ⟨kb, hkb⟩ : ∃ kb, wk.heap.size = kb := ⟨_, rfl⟩
  have HX4 : Hid (∃ X, X = wk.alloc (.cells #[.int .i64 Wn, .slice oak n2 okk, .int .i64 rk, .int .i64 ck] 29) ∧ Below X2.heap.size X2 X ∧ Below w.heap.size w X ∧ X.heap[w.heap.size]? = some (.cells #[.string prompt, .string text, .int .i64 cur, .int .i64 W0] 23 (0, 0)) ∧ Bf w1 fb Wn oaf n0 okf cf.1 cf.2 F X ∧ Bf X2 gb Wn oag n1 okg cg.1 cg.2 G X ∧ Bf X3 kb Wn oak n2 okk rk ck K X ∧ (X2.heap.size ≤ gb ∧ gb < X3.heap.size ∧ X3.heap.size ≤ kb ∧ fb < X2.heap.size ∧ w.heap.size < fb)) := by
    have hb : Below wk.heap.size wk (wk.alloc (.cells #[.int .i64 Wn, .slice oak n2 okk, .int .i64 rk, .int .i64 ck] 29)) := (Below.refl _ wk).alloc (Nat.le_refl _) _
    have h3 : Below X3.heap.size X3 (wk.alloc (.cells #[.int .i64 Wn, .slice oak n2 okk, .int .i64 rk, .int .i64 ck] 29)) := HK.out.2.trans (hb.mono HK.out.2.size)
    obtain ⟨a1, a2, a3, a4, a5, a6, a7, a8⟩ := HX3.out
    exact ⟨_, rfl, a1.trans (h3.mono a1.size), a2.trans (h3.mono a2.size), (h3.block _ (Array.getElem?_eq_some_iff.1 a3).1).trans a3, a4.below h3, a5.below h3, ⟨by rw [← hkb]; exact World.alloc_heap_new _ _, HK.out.1.below hb⟩, a6, (Array.getElem?_eq_some_iff.1 a5.bx).1, by rw [← hkb]; exact HK.out.2.size, a7, a8⟩
  obtain ⟨X4, hX4, HY4⟩ := HX4.out
  rw [← hX4, hkb]
  have HX4 : Hid (Below X2.heap.size X2 X4 ∧ Below w.heap.size w X4 ∧ X4.heap[w.heap.size]? = some (.cells #[.string prompt, .string text, .int .i64 cur, .int .i64 W0] 23 (0, 0)) ∧ Bf w1 fb Wn oaf n0 okf cf.1 cf.2 F X4 ∧ Bf X2 gb Wn oag n1 okg cg.1 cg.2 G X4 ∧ Bf X3 kb Wn oak n2 okk rk ck K X4 ∧ (X2.heap.size ≤ gb ∧ gb < X3.heap.size ∧ X3.heap.size ≤ kb ∧ fb < X2.heap.size ∧ w.heap.size < fb)) := HY4
  have HGF : Hid (∀ og : Nat, oag = some ⟨og, 0, none⟩ → X2.heap.size ≤ og) := fun og e => by
    obtain ⟨vs, _, h2, _⟩ := HX4.out.2.2.2.2.1.fr
    subst e
    exact (o_blk h2 (show (Value.slice (some ⟨og, 0, none⟩) n1 okg).ownBlock = some og from rfl)).2.1
  clear HY4 hX4 hkb HK HX3
  obtain ⟨⟨x0, x1, x2, x3⟩, -⟩ := box4 HX4.out.2.2.1
  go_cut [48] from 31 to 48 (fun v48 wx => v48 = .bool b13 ∧ X4 = wx)
  case first =>
    by_cases h0 : text.size = 0
    · have hb : b13 = false := by rw [HB13.out]; simp [h0]
      have hz : ¬ (0 : Int) < (text.size : Int) := by omega
      have hz2 : decide (0 < text.size) = false := by simp [h0]
      subst hb
      clear HPL HB13 HX4 HGF
      go_wp2
      go_meet
      exact ⟨rfl, rfl⟩
    · obtain ⟨j, hj⟩ : ∃ j, text.size = j + 1 := ⟨text.size - 1, by omega⟩
      have hjl : j < text.size := by omega
      have hbt : bt text (text.size - 1) = (text[j]'hjl).toNat := by rw [show text.size - 1 = j by omega]; unfold bt; rw [Utf8W.get!_of_lt text j hjl]
      have hz : (0 : Int) < (text.size : Int) := by omega
      have hz2 : decide (0 < text.size) = true := by simp; omega
      have hz3 : 0 < text.size := by omega
      have hw1 : IntKind.i64.wrap ((text.size : Int) - 1) = (j : Int) := by rw [IntKind.wrap_i64]; omega
      have hj1 : (j : Int) < (text.size : Int) := by omega
      by_cases h13 : (text[j]'hjl).toNat = 13
      · have hb : b13 = true := by rw [HB13.out]; simp [h0, hbt, h13]
        have h13' : ((text[j]'hjl).toNat : Int) = 13 := by omega
        subst hb
        clear HPL HB13 HX4 HGF hbt hj
        go_wp2
        go_meet
        exact ⟨rfl, rfl⟩
      · have hb : b13 = false := by rw [HB13.out]; simp [hbt, h13]
        have h13' : ¬ ((text[j]'hjl).toNat : Int) = 13 := by omega
        have hbq : (((text[j]'hjl).toNat : Int) == 13) = false := by simp; omega
        subst hb
        clear HPL HB13 HX4 HGF hbt hj
        go_wp2
        go_meet
        exact ⟨rfl, rfl⟩
  case rest =>
  obtain ⟨rfl, rfl⟩ := hcut
  cases b13 with
  | true =>
    go_wp2
    go_ret
    exact ⟨rfl, HX4.out.2.1⟩
  | false =>
  obtain ⟨p1, p2, p3, p4, p5, p6, p7, p8, p9⟩ := HPL.out
  obtain ⟨hFGK, hcc⟩ := p9 rfl
  have hn : n0 = n1 + n2 := by rw [← p1, hFGK, List.length_append, p2, p3]
  have hw0 : IntKind.i64.wrap ((n1 : Int) + (n2 : Int)) = (n0 : Int) := by rw [IntKind.wrap_i64]; omega
  have HCC : Hid (cur ≤ text.size → cf = cg) := hcc
  have HNN : Hid (n0 = n1 + n2 ∧ n0 ≤ 16777216 ∧ F = G ++ K ∧ (∀ l ∈ F, l.length ≤ 65535) ∧ F.length = n0 ∧ 1 ≤ n2 ∧ G.length = n1 ∧ K.length = n2) := ⟨hn, p5, hFGK, p4, p1, p8, p2, p3⟩
  obtain ⟨⟨f0, f1, f2, f3⟩, -⟩ := box4 HX4.out.2.2.2.1.bx
  obtain ⟨⟨g0, g1, g2, g3⟩, y0, y1, y2, y3⟩ := box4 HX4.out.2.2.2.2.1.bx
  obtain ⟨⟨k0, k1, k2, k3⟩, -⟩ := box4 HX4.out.2.2.2.2.2.1.bx
  obtain ⟨i0, hi0, hz0, hz1, hz2⟩ := info_parts infoLCE
  -- the rows of g, and those of the second text
  obtain ⟨vg, hvg, hgo, hge, -⟩ := HX4.out.2.2.2.2.1.fr
  obtain ⟨vk, hvk, hko, hke, -⟩ := HX4.out.2.2.2.2.2.1.fr
  have lg : vg.length = n1 := by rw [← p2, ← hvg]; simp
  have lk : vk.length = n2 := by rw [← p3, ← hvk]; simp
  rw [lg] at hgo
  rw [lk] at hko
  obtain ⟨ok, okc, hok, -, hokl⟩ := hko.form (by omega)
  have hoak : oak = some ⟨ok, 0, none⟩ := by injection hok
  subst hoak
  have hnews := fun j u (h : (vk.map Prod.snd)[j]? = some u) => hko.cells (g := ok) rfl j u h
  have hb4 : X2.heap.size ≤ X4.heap.size := HX4.out.1.size
  have HLK : Hid (vk.length = n2) := lk
  have hone : ∀ u ∈ vk.map Prod.snd, u.oneCell' = true := fun u hu => by
    obtain ⟨o, ho, rfl⟩ := List.mem_map.1 hu
    obtain ⟨a, k, e⟩ := o_slice (hke o ho)
    rw [e]; rfl
  have HGO : Hid (X4.ownsRow X2.heap.size 31 1 (.slice oag n1 okg) n1 (vg.map Prod.snd)) := hgo
  have HKP : Hid (∀ (w6 : World), X4.grownBy w6 (Value.slice oag n1 okg).ownBlock → w6.heap[fb]? = some (.cells #[.int .i64 Wn, .slice oaf n0 okf, .int .i64 cf.1, .int .i64 cf.2] 29 (0, 0)) ∧ w6.heap[gb]? = some (.cells #[.int .i64 Wn, .slice oag n1 okg, .int .i64 cg.1, .int .i64 cg.2] 29 (0, 0))) := fun w6 hg => by
    have kp : ∀ {b : Nat} {cs : Array Value}, X4.heap[b]? = some (.cells cs 29 (0, 0)) → w6.heap[b]? = some (.cells cs 29 (0, 0)) := fun hb => (hg.block _ (Array.getElem?_eq_some_iff.1 hb).1 (fun e => o_nb (by decide) HGO.out e.symm hb rfl)).trans hb
    exact ⟨kp HX4.out.2.2.2.1.bx, kp HX4.out.2.2.2.2.1.bx⟩
  have HFIN : Hid (∀ (w6 Z : World) (v' : Value), X4.grownBy w6 (Value.slice oag n1 okg).ownBlock → w6.ownsRow X2.heap.size 31 1 v' (n1 + n2) (vg.map Prod.snd ++ vk.map Prod.snd) → Z = ((w6.setCell ⟨gb, 1, none⟩ v').setCell ⟨gb, 2, none⟩ (.int .i64 cf.1)).setCell ⟨gb, 3, none⟩ (.int .i64 cf.2) →
      FrW (.slice oaf n0 okf) F Z ∧ FrW v' F Z ∧ Below w.heap.size w Z ∧ Z.heap[fb]? = some (.cells #[.int .i64 Wn, .slice oaf n0 okf, .int .i64 cf.1, .int .i64 cf.2] 29 (0, 0)) ∧ Z.heap[gb]? = some (.cells #[.int .i64 Wn, v', .int .i64 cf.1, .int .i64 cf.2] 29 (0, 0))) := fun w6 Z v' hg ho hZ => by
    obtain ⟨b1, b2⟩ := HKP.out w6 hg
    have hgz : w6.grownBy Z (some gb) := by rw [hZ]; exact o_grown2 (o_grown2 (gcell w6 gb 1 v') (gcell _ gb 2 _)) (gcell _ gb 3 _)
    have s1 := set1 (i := 1) v' b2
    have s2 := set1 (i := 2) (.int .i64 cf.1) s1
    have s3 := set1 (i := 3) (.int .i64 cf.2) s2
    rw [← hZ] at s3
    have c1 := HX4.out.2.2.2.2.2.2
    have kf : ∀ {b : Nat} {cs : Array Value} {t : TypeId}, w6.heap[b]? = some (.cells cs t (0, 0)) → t ≠ 29 → Z.heap[b]? = w6.heap[b]? := fun {b cs t} hb hne => hgz.block b (Array.getElem?_eq_some_iff.1 hb).1 (fun e => by
      have : b = gb := by injection e
      rw [this, b2] at hb
      injection hb with hb
      injection hb with _ hb
      exact hne hb.symm)
    have hB6 : Below X2.heap.size X2 w6 := HX4.out.1.grown hg hb4 (fun k e => (o_blk HGO.out e).2.1)
    have hBZ : Below X2.heap.size X2 Z := hB6.grown hgz (by have := hB6.size; exact this) (fun k e => by cases e; exact c1.1)
    have hwX : w.heap.size ≤ X4.heap.size := HX4.out.2.1.size
    have hBw6 : Below w.heap.size w w6 := HX4.out.2.1.grown hg hwX (fun k e => by have := (o_blk HGO.out e).2.1; omega)
    have hBwZ : Below w.heap.size w Z := hBw6.grown hgz hBw6.size (fun k e => by cases e; omega)
    have kC : ∀ {B : Nat} {v : Value} {n : Nat} {xs : List Value}, X4.ownsRow B 34 2 v n xs → Z.ownsRow B 34 2 v n xs := fun {B v n xs} hr => by
      have h6 : w6.ownsRow B 34 2 v n xs := o_keep hr (fun g e => hg.block g (o_blk hr e).2.2 (fun e2 => o_ne (by decide) hr e HGO.out e2.symm rfl))
      exact o_keep h6 (fun g e => by obtain ⟨⟨cur, hc⟩, -, -⟩ := o_blk h6 e; exact kf hc (by decide))
    refine ⟨(HF2.out.below hBZ).weak, ⟨vg ++ vk, by rw [List.map_append, hvg, hvk, ← HNN.out.2.2.1], ⟨X2.heap.size, ?_⟩, fun o hm => ?_⟩, hBwZ, ?_, by simpa using s3⟩
    · rw [List.length_append, List.map_append, lg, lk]
      exact o_keep ho (fun g e => by obtain ⟨⟨cur, hc⟩, -, -⟩ := o_blk ho e; exact kf hc (by decide))
    · rcases List.mem_append.1 hm with q | q
      · exact ⟨_, kC (hge o q)⟩
      · exact ⟨_, kC (hke o q)⟩
    · exact (hgz.block fb (Array.getElem?_eq_some_iff.1 b1).1 (fun e => absurd (Option.some.inj e) (by omega))).trans b1
  have CS : Hid (∀ (X : World) (v1 v2 : Value), FrW v1 F X → FrW v2 F X → Calls Tryd.prog 15 #[.agg #[.int .i64 Wn, v1, .int .i64 cf.1, .int .i64 cf.2], .agg #[.int .i64 Wn, v2, .int .i64 cf.1, .int .i64 cf.2]] X fun e w' => e = .returned (.bool true) ∧ Hid (Below X.heap.size X w')) := fun X v1 v2 h1 h2 => psm_any F (by have := HNN.out; omega) (fun l hl => by have := HNN.out.2.2.2.1 l hl; omega) X h1 h2
  have hnb : (n1 + n2) ≤ 16777216 := by omega
  clear p1 p2 p3 p4 p5 p6 p7 p8 hFGK hcc hn HPL HB13 hgo hko hok hvg hvk hge hke lg lk
  go_upto_region 10 with (fail)
  go_cut [72] from 60 to 72 (fun v72 wx => v72 = .bool false ∧ X4 = wx)
  case first =>
    by_cases hc : cur ≤ text.size
    · have e := HCC.out hc
      subst e
      have hce : cur ≤ (text.size : Int) := hc
      clear HFIN HKP CS HGO
      go_wp2
      go_meet
      exact ⟨rfl, rfl⟩
    · have hce : ¬ cur ≤ (text.size : Int) := hc
      have hce2 : decide (cur ≤ (text.size : Int)) = false := by simp; omega
      clear HFIN HKP CS HGO
      go_wp2
      go_meet
      exact ⟨rfl, rfl⟩
  case rest =>
  obtain ⟨rfl, rfl⟩ := hcut
  go_upto_region 13 with (at_builtin; refine wpList_append_own_at _ rfl _ _ 25 rfl X2.heap.size 31 i0 _ 1 24 Tryd.underlying25 hi0 hz0 hz1 hz2 rfl (by decide) _ _ _ rfl HGO.out ⟨ok, 0, none⟩ n2 _ (vk.map Prod.snd) rfl (by simp [HLK.out]) hnews hone (by unfold maxLen; omega) (by omega) hb4 ?_; intro v' w6 hown' hgrow _ _; obtain ⟨g', q', hv'⟩ := o_slice hown'; subst hv'; have HN6 : Hid (X4.grownBy w6 (Value.slice oag n1 okg).ownBlock ∧ w6.ownsRow X2.heap.size 31 1 (.slice g' (n1 + n2) q') (n1 + n2) (vg.map Prod.snd ++ vk.map Prod.snd)) := ⟨hgrow, hown'⟩; clear hown' hgrow f0 f1 f2 f3 g0 g1 g2 g3 y0 y1 y2 y3; obtain ⟨⟨f0, f1, f2, f3⟩, -⟩ := box4 (HKP.out w6 HN6.out.1).1; obtain ⟨⟨g0, g1, g2, g3⟩, y0, y1, y2, y3⟩ := box4 (HKP.out w6 HN6.out.1).2)
  go_upto_region 14 with (fail)
  have HZ := HFIN.out w6 _ _ HN6.out.1 HN6.out.2 rfl
  generalize ((w6.setCell ⟨gb, 1, none⟩ (.slice g' (n1 + n2) q')).setCell ⟨gb, 2, none⟩ (.int .i64 cf.1)).setCell ⟨gb, 3, none⟩ (.int .i64 cf.2) = Z at HZ ⊢
  obtain ⟨z1, z2, z3, z4, z5⟩ := HZ
  have HZ : Hid (FrW (.slice oaf n0 okf) F Z ∧ FrW (.slice g' (n1 + n2) q') F Z ∧ Below w.heap.size w Z) := ⟨z1, z2, z3⟩
  clear f0 f1 f2 f3 g0 g1 g2 g3 y0 y1 y2 y3 z1 z2 z3
  obtain ⟨⟨f0, f1, f2, f3⟩, -⟩ := box4 z4
  obtain ⟨⟨g0, g1, g2, g3⟩, -⟩ := box4 z5
  go_wp2_with (go_at_call 15; refine (CS.out _ _ _ HZ.out.1 HZ.out.2.1).mono ?_; clear CS; rintro e w9 ⟨rfl, HB9⟩)
  go_ret
  exact ⟨rfl, HZ.out.2.2.trans (HB9.out.mono HZ.out.2.2.size)⟩
theorem walk_of {H : Type} {d : DataW H} (a : Akf) (more : ByteArray) (w : World) (hT : Lib.Utf8Tabs 0 1 w) (hlo0 : 0 < w.heap.size) (hlo1 : 1 < w.heap.size) (hx : a.p.size + a.t.size ≤ Rows.uptoBulk d) (_hs : more.size ≤ 140737488351232) (hk : Rows.uptoSmall H ([d, DataW.lit (.string more.data.toList)] ++ []) = true) :
    Calls Tryd.prog 5 #[akfv a, .string more] w fun e w' => e = .returned (.bool true) ∧ Below w.heap.size w w' := by
  have h : Rows.uptoBulkAll ([d, DataW.lit (H := H) (.string more.data.toList)] ++ []) ≤ 1048576 := of_decide_eq_true hk
  simp only [List.append_nil, Rows.uptoBulkAll, Rows.uptoBulk] at h
  have hm := Lib.size_eq more
  exact walk (by kernel_rfl) a.p a.t more a.c a.w (by omega) (by omega) (by omega) w hT hlo0 hlo1
end Go.Proofs.YtojkpkokjkjeeabDoor.layoutLines
