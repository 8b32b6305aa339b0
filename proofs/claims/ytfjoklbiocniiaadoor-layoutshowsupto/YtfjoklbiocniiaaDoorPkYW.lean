/-
  The document's own Drawn. Conditions: those of each theorem.
-/
import Derived.Test.YtfjoklbiocniiaaDoorPkYL
import Derived.Test.YtfjoklbiocniiaaDoorYMath
import Derived.Lib.BufferRead
import Derived.Sort.QuietIn
namespace Go.Proofs.YtfjoklbiocniiaaDoor
open Go.RowKit Go.Sort Bod Wid

theorem app_str (a b : List UInt8) : ((⟨a.toArray⟩ : ByteArray) ++ (⟨b.toArray⟩ : ByteArray)) = ⟨(a ++ b).toArray⟩ := by
  apply ByteArray.ext
  simp
theorem own_str {own : ByteArray} {l : List UInt8} (h : own.data.toList = l) : own = ⟨l.toArray⟩ := by
  subst h; rfl
theorem ret_str {a b : ByteArray} (h : a = b) : Ending.returned (.string a) = .returned (.string b) := by rw [h]

theorem xor_low : ∀ n : Fin 32, n.val ^^^ 64 = n.val + 64 := by decide +kernel

set_option maxRecDepth 100000 in
set_option maxHeartbeats 1000000 in
theorem rdrawn1_any (k : Int) (own : ByteArray) (c : UInt8) (r : List UInt8) (ho : own.data.toList = c :: r) (hl : own.size ≤ 140737488351232) (hk : k = 2 → c.toNat < 32 ∨ c.toNat = 127 ∨ 128 ≤ c.toNat) (w : World) :
    Calls Tryd.prog 71 #[.string own, .int .i64 k] w fun e w' => e = .returned (.string ⟨(drw k (c :: r)).toArray⟩) ∧ Below w.heap.size w w' := by
  have HO : Hid (own.data.toList = c :: r) := ho
  simp only [drw]
  by_cases k1 : k = 1
  · subst k1
    rw [if_pos rfl]
    clear ho hk
    go_enter Tryd.func71, Tryd.ntmps71
    go_wp2
    go_ret
    exact ⟨rfl, Below.refl _ _⟩
  rw [if_neg k1]
  by_cases k2 : k = 2
  · subst k2
    rw [if_pos rfl]
    obtain ⟨hs, hc⟩ := own_head ho
    have hpos : 0 < own.size := by omega
    have hb := hk rfl
    clear hk k1 ho
    by_cases h127 : c.toNat = 127
    · have h0 : ((own[0].toNat : Int) == 127) = true := by rw [hc hpos, h127]; rfl
      have hx : c ^^^ 64 = 63 := by
        apply UInt8.toNat_inj.1
        rw [UInt8.toNat_xor, h127]
        rfl
      rw [if_pos (by omega), hx]
      clear hc hs hb
      go_enter Tryd.func71, Tryd.ntmps71
      go_wp2
      go_ret
      exact ⟨rfl, Below.refl _ _⟩
    · have h0 : ((own[0].toNat : Int) == 127) = false := by rw [hc hpos]; simp; omega
      by_cases h32 : c.toNat < 32
      · have h1 : own[0].toNat < 32 := by rw [hc hpos]; exact h32
        rw [if_pos (by omega)]
        have HC : Hid (own[0] = c) := hc hpos
        have hxn : (c ^^^ 64).toNat = c.toNat + 64 := by rw [UInt8.toNat_xor]; exact xor_low ⟨c.toNat, h32⟩
        have hcv : (convert 72 9 (.slice (some ⟨w.heap.size, 0, none⟩) 1 1)).run Tryd.prog (w.alloc (.cells #[.int .u8 ((own[0].toNat : Int) + 64)] 5)) = .ok (.string ⟨[c ^^^ 64].toArray⟩) (w.alloc (.cells #[.int .u8 ((own[0].toNat : Int) + 64)] 5)) := by
          refine run_convert_bytes_back _ 72 9 5 ⟨w.heap.size, 0, none⟩ 1 [c ^^^ 64] Tryd.underlying72 Tryd.underlying5 Tryd.underlying9 (fun j hj => ?_)
          have hj0 : j = 0 := by simpa using hj
          subst hj0
          have e : ((own[0].toNat : Int) + 64) = ((c ^^^ 64).toNat : Int) := by rw [hxn, hc hpos]; omega
          rw [e]
          simp [Addr.add]
        clear hc hs hb hxn
        go_enter Tryd.func71, Tryd.ntmps71
        go_wp2
        go_ret
        exact ⟨ret_str (app_str [94] [c ^^^ 64]), (Below.refl _ w).alloc (Nat.le_refl _) _⟩
      · have h1 : ¬ own[0].toNat < 32 := by rw [hc hpos]; exact h32
        rw [if_neg (by omega)]
        clear hc hs hb
        go_enter Tryd.func71, Tryd.ntmps71
        go_wp2
        go_ret
        exact ⟨rfl, Below.refl _ _⟩
  rw [if_neg k2]
  clear hk
  by_cases k3 : k = 3
  · subst k3
    rw [if_pos rfl]
    clear ho k1 k2
    go_enter Tryd.func71, Tryd.ntmps71
    go_wp2
    go_ret
    exact ⟨ret_str (by rw [own_str HO.out]; exact app_str [32] (c :: r)), Below.refl _ _⟩
  rw [if_neg k3]
  by_cases k5 : k = 5
  · subst k5
    rw [if_pos rfl]
    obtain ⟨hs, _⟩ := own_head ho
    have hpos : 1 ≤ own.size := by omega
    have hex : (own.extract 1 own.size).size ≤ own.size := by simp
    have HT : Hid (own.extract 1 own.size = ⟨r.toArray⟩) := own_str (own_tail ho)
    clear ho k1 k2 k3 hs
    go_enter Tryd.func71, Tryd.ntmps71
    go_wp2
    go_ret
    exact ⟨ret_str (by rw [HT.out]; exact app_str [239, 191, 189] r), Below.refl _ _⟩
  rw [if_neg k5]
  clear ho
  go_enter Tryd.func71, Tryd.ntmps71
  go_wp2
  go_ret
  exact ⟨ret_str (own_str HO.out), Below.refl _ _⟩
end Go.Proofs.YtfjoklbiocniiaaDoor
namespace Go.Proofs.YtfjoklbiocniiaaDoor
open Go.RowKit Go.Sort Bod Wid
theorem info5Y : (Tryd.prog.info? 5).map (fun i => (i.zero, i.size, i.bytes)) = some (some (.int .u8 0), 1, 1) := by kernel_rfl

/-- a slice that reads as the clusters of a text -/
theorem rlist_rd (s : ByteArray) (hs : s.size * 32 + 32 ≤ 140737488355328) (w : World) :
    Calls Tryd.prog 22 #[.string s] w fun e W' => ∃ v, e = .returned v ∧ Rd4 W' v (cl s) ∧ Below w.heap.size w W' := (rlist_any s hs w).mono fun _ _ ⟨v, h1, h2, h3⟩ => ⟨v, h1, Rd4.of_row h2, h3⟩

theorem sumN_take (l : List Clu) (k : Nat) (c : Clu) (h : l[k]? = some c) : sumN (l.take (k + 1)) = sumN (l.take k) + c.n := by
  have hk := (List.getElem?_eq_some_iff.1 h).1
  rw [List.take_add_one, h, sumN_app]
  simp [sumN]

theorem step_append_str {P : Program} {ops : Array Oper} {o : Oper} {a : Act} {w : World} {K : Act → World → Prop} {Q : Exit → Act → World → Prop} {E : Prop}
    (hg : o.guard = none) (sl x : Operand) (t u : TypeId) (ho : o.op = .call { callee := .builtin .append, args := #[sl, x], argTypes := #[t, u] })
    (base : Nat) (e : TypeId) (i : TypeInfo) (ht : P.underlying t = some (.slice e)) (hu : P.underlying u = some .string) (hi : P.info? e = some i) (hz : i.zero = some (.int .u8 0)) (hsize : i.size = 1) (hby : i.bytes = 1)
    (v : Value) (n : Nat) (xs : List Value) (hs : a.eval sl = v) (hown : w.ownsRow base e 1 v n xs) (s : ByteArray) (hx : a.eval x = .string s)
    (h63 : n + s.size ≤ maxLen) (hbytes : n + s.size ≤ 140737488355328) (hbase : base ≤ w.heap.size)
    (hK : ∀ v' w', w'.ownsRow base e 1 v' (n + s.size) (xs ++ Lib.strCells s) → w.grownBy w' v.ownBlock → K (a.put o.dst v') w') :
    if Region.wanted o (yielded ops a.tmps) = true then Oper.wp P o a w K Q else E := by
  have hw : Region.wanted o (yielded ops a.tmps) = true := by simp [Region.wanted, hg]
  rw [if_pos hw]
  obtain ⟨v', w', hr, h2, h3, _⟩ := Lib.run_append_own_string (P := P) w base t u o.type e i ht hu hi hz hsize hby v n xs hown s h63 hbytes hbase
  have hrun : (execOp a.eval o).run P w = .ok (.value v') w' := by
    unfold execOp
    simp only [ho, resolve, invoke, builtin, Sem.run_bind, Sem.run_pure, Result.andThen_ok, List.map_toArray, List.map_cons, List.map_nil, hs, hx, hr]
  unfold Oper.wp
  rw [hrun]
  exact hK _ _ h2 h3

theorem conv_row {base : Nat} {v : Value} {l : List UInt8} {W : World} (h : W.ownsRow base 5 1 v l.length (Lib.byteCells l)) : (convert 72 9 v).run Tryd.prog W = .ok (.string ⟨l.toArray⟩) W := by
  rcases h.2 with ⟨rfl, h0⟩ | ⟨g, cap, cur, rfl, hbg, hg, hnc, hcm, hcs, htake⟩
  · obtain rfl : l = [] := List.eq_nil_of_length_eq_zero h0
    exact Lib.run_convert_nil_bytes W 72 9 5 0 Tryd.underlying72 Tryd.underlying5 Tryd.underlying9
  · refine run_convert_bytes_back W 72 9 5 ⟨g, 0, none⟩ cap l Tryd.underlying72 Tryd.underlying5 Tryd.underlying9 (Lib.bytes_of_row hg ?_)
    rw [Nat.mul_one] at htake
    exact htake
theorem drawn_take (s : ByteArray) (l : List Clu) (k : Nat) (c : Clu) (h : l[k]? = some c) : drawnL s (l.take (k + 1)) = drawnL s (l.take k) ++ drw c.k (sub s c.fr c.to) := by
  rw [List.take_add_one, h, drawnL_app]
  simp [drawnL]

set_option maxRecDepth 100000 in
set_option maxHeartbeats 1000000 in
theorem rdrawn_any (s : ByteArray) (hs : s.size ≤ 4398046511000) (w : World) :
    Calls Tryd.prog 59 #[.string s] w fun e W' => e = .returned (.string ⟨(drawnL s (cl s)).toArray⟩) ∧ Below w.heap.size w W' := by
  obtain ⟨i0, hi0, hz0, hz1, hz2⟩ := info_parts info5Y
  obtain ⟨l, hl⟩ : ∃ l, cl s = l := ⟨_, rfl⟩
  have hsp : ∀ c ∈ l, (c.fr < c.to ∧ c.to ≤ s.size) ∧ (∀ x r, sub s c.fr c.to = x :: r → c.k = 2 → x.toNat < 32 ∨ x.toNat = 127 ∨ 128 ≤ x.toNat) := by
    rw [← hl]; exact fun c hc => ⟨cl_span hc, fun x r h1 h2 => ctl_byte hc h2 h1⟩
  have hlen : l.length ≤ s.size := by rw [← hl]; exact cl_len s
  have hpre : ∀ k, (drawnL s (l.take k)).length ≤ 3 * s.size := fun k => pre_drawn (by rw [← hl]; exact List.take_prefix _ _)
  obtain ⟨N, hN⟩ : ∃ N, l.length = N := ⟨_, rfl⟩
  have HN : Hid (l.length = N) := hN
  have cL2 : Calls Tryd.prog 22 #[.string s] w fun e W' => ∃ a cap, e = .returned (.slice a N cap) ∧ Hid (l ≠ [] → ∃ g, a = some ⟨g, 0, none⟩ ∧ g < W'.heap.size ∧ ∀ k c, l[k]? = some c → W'.cell? ⟨g, k * 4, none⟩ = some (.int .i64 c.fr) ∧ W'.cell? ⟨g, k * 4 + 1, none⟩ = some (.int .i64 c.to) ∧ W'.cell? ⟨g, k * 4 + 2, none⟩ = some (.int .i64 c.k) ∧ W'.cell? ⟨g, k * 4 + 3, none⟩ = some (.int .i64 c.n)) ∧ Below w.heap.size w W' := (rlist_rd s (by omega) w).mono fun _ _ ⟨v, h1, h2, h3⟩ => by
    rw [hl] at h2
    obtain ⟨a, cap, rfl, hr⟩ := h2
    rw [hN] at h1
    exact ⟨a, cap, h1, hr, h3⟩
  rw [hl]
  have HSP : Hid _ := hsp
  have HPR : Hid (∀ k, (drawnL s (l.take k)).length ≤ 3 * s.size) := hpre
  rw [hN] at hlen
  clear hl hN hsp hpre
  go_enter Tryd.func59, Tryd.ntmps59
  go_wp2_with (go_at_call 22; refine cL2.mono ?_; clear cL2; rintro e w1 ⟨a, cap, rfl, HR, hb1⟩)
  have HB1 : Hid (Below w.heap.size w w1) := hb1
  clear hb1
  go_loopw [3, 5] (fun v u wr => ∃ k : Nat, u = .int .i64 k ∧ k ≤ N ∧ Hid (wr.ownsRow w1.heap.size 5 1 v (drawnL s (l.take k)).length (Lib.byteCells (drawnL s (l.take k))) ∧ Below w1.heap.size w1 wr)) (fun _ u _ => N - (intOf u).toNat)
  case atStart => exact ⟨0, rfl, Nat.zero_le _, ⟨World.ownsRow_nil _ _ _ _, Below.refl _ _⟩⟩
  case round =>
    obtain ⟨k, rfl, hk, HO⟩ := hrel
    by_cases hlt : k < N
    · obtain ⟨c, hc⟩ : ∃ c, l[k]? = some c := ⟨l[k]'(by rw [HN.out]; exact hlt), List.getElem?_eq_getElem _⟩
      obtain ⟨g, hg, hgl, hcell⟩ := HR.out (fun e => by rw [e] at hc; simp at hc)
      subst hg
      obtain ⟨y0, y1, y2, _⟩ := hcell k c hc
      have z0 := (HO.out.2.cell (p := ⟨g, k * 4, none⟩) hgl).trans y0
      have z1 := (HO.out.2.cell (p := ⟨g, k * 4 + 1, none⟩) hgl).trans y1
      have z2 := (HO.out.2.cell (p := ⟨g, k * 4 + 2, none⟩) hgl).trans y2
      obtain ⟨⟨hf1, hf2⟩, hct⟩ := HSP.out c (List.mem_of_getElem? hc)
      obtain ⟨x, r, hxr⟩ : ∃ x r, (s.extract c.fr c.to).data.toList = x :: r := by
        have := sub_len (s := s) (i := c.fr) hf2
        cases h : sub s c.fr c.to with
        | nil => rw [h] at this; simp at this; omega
        | cons x r => exact ⟨x, r, h⟩
      have hdt := drawn_take s l k c hc
      have hxs : (s.extract c.fr c.to).size ≤ s.size := by simp; omega
      have hgw : g < wr.heap.size := Nat.lt_of_lt_of_le hgl HO.out.2.size
      have CD : Hid (∀ W, Below wr.heap.size wr W → Calls Tryd.prog 71 #[.string (s.extract c.fr c.to), .int .i64 c.k] W fun e w' => e = .returned (.string ⟨(drw c.k (sub s c.fr c.to)).toArray⟩) ∧ (w'.cell? ⟨g, k * 4, none⟩ = some (.int .i64 c.fr) ∧ w'.cell? ⟨g, k * 4 + 1, none⟩ = some (.int .i64 c.to) ∧ w'.cell? ⟨g, k * 4 + 2, none⟩ = some (.int .i64 c.k)) ∧ Below wr.heap.size wr w') := fun W hW => by
        have h := rdrawn1_any c.k (s.extract c.fr c.to) x r hxr (by omega) (fun h2 => hct x r hxr h2) W
        rw [show sub s c.fr c.to = x :: r from hxr]
        refine h.mono fun e w' ⟨h1, h2⟩ => ?_
        have h3 : Below wr.heap.size wr w' := hW.trans (h2.mono hW.size)
        exact ⟨h1, ⟨(h3.cell (p := ⟨g, k * 4, none⟩) hgw).trans z0, (h3.cell (p := ⟨g, k * 4 + 1, none⟩) hgw).trans z1, (h3.cell (p := ⟨g, k * 4 + 2, none⟩) hgw).trans z2⟩, h3⟩
      have hdl := drw_len c.k (sub s c.fr c.to)
      rw [sub_len hf2] at hdl
      have hpk := HPR.out k
      generalize sub s c.fr c.to = own at CD hdt hdl
      have hzd : (⟨(drw c.k own).toArray⟩ : ByteArray).size = (drw c.k own).length := by rw [Lib.size_eq]
      have HDT : Hid (drawnL s (l.take (k + 1)) = drawnL s (l.take k) ++ drw c.k own) := hdt
      have HZD : Hid ((⟨(drw c.k own).toArray⟩ : ByteArray).size = (drw c.k own).length) := hzd
      have HL : Hid ((drawnL s (l.take k)).length + (drw c.k own).length ≤ 140737488355328) := by show _ ≤ _; omega
      clear hdt hzd hcell hct hxr y0 y1 y2 hdl hpk
      have hci : (c.fr : Int) ≤ c.to := by omega
      have hci2 : (c.to : Int) ≤ s.size := by omega
      go_wp2
      go_region_held3 (fun w' => w'.cell? ⟨g, k * 4, none⟩ = some (.int .i64 c.fr) ∧ w'.cell? ⟨g, k * 4 + 1, none⟩ = some (.int .i64 c.to) ∧ w'.cell? ⟨g, k * 4 + 2, none⟩ = some (.int .i64 c.k)) (go_keep) (first | (go_at_call 71; refine (CD.out _ ?_).mono ?_; (exact ⟨rfl, rfl, rfl, Nat.le_refl _, fun _ _ => rfl⟩); clear CD; rintro e w5 ⟨rfl, ⟨b0, b1, b2⟩, hb5⟩) | (refine step_append_str rfl (.tmp 14) (.tmp 32) 72 9 rfl w1.heap.size 5 i0 Tryd.underlying72 Tryd.underlying9 hi0 hz0 hz1 hz2 _ _ _ rfl (row_below' HO.out.1 hb5) _ rfl (by rw [HZD.out]; have := HL.out; unfold maxLen; omega) (by rw [HZD.out]; exact HL.out) (Nat.le_trans HO.out.2.size hb5.size) ?_; intro v3 w3 hrow3 hg3; have hne : ∀ e, u3.ownBlock = some e → g ≠ e := (fun e he => by have := (HO.out.1.lt e he).1; omega); have d0 : w3.cell? ⟨g, k * 4, none⟩ = some (.int .i64 c.fr) := (grown_cell hg3 (Nat.lt_of_lt_of_le hgw hb5.size) (fun e => hne _ e rfl)).trans b0; have d1 : w3.cell? ⟨g, k * 4 + 1, none⟩ = some (.int .i64 c.to) := (grown_cell hg3 (Nat.lt_of_lt_of_le hgw hb5.size) (fun e => hne _ e rfl)).trans b1; have d2 : w3.cell? ⟨g, k * 4 + 2, none⟩ = some (.int .i64 c.k) := (grown_cell hg3 (Nat.lt_of_lt_of_le hgw hb5.size) (fun e => hne _ e rfl)).trans b2))
      go_wp2
      refine ⟨⟨k + 1, by go_num, by omega, ⟨?_, (HO.out.2.trans (hb5.mono HO.out.2.size)).grown hg3 (Nat.le_trans HO.out.2.size hb5.size) (fun e he => (HO.out.1.lt e he).1)⟩⟩, by simp [intOf]; omega⟩
      rw [HDT.out, List.length_append, byteCells_app]
      rw [HZD.out] at hrow3
      exact hrow3
    · have hkN : k = N := by omega
      have hfin : l.take k = l := by rw [hkN, ← HN.out, List.take_length]
      have hcv := conv_row HO.out.1
      have HFi : Hid (l.take k = l) := hfin
      have HBr : Hid (Below w.heap.size w wr) := HB1.out.trans (HO.out.2.mono HB1.out.size)
      clear hfin hkN HO HR HSP HPR HB1
      go_wp2
      go_ret
      exact ⟨ret_str (by rw [HFi.out]), HBr.out⟩

end Go.Proofs.YtfjoklbiocniiaaDoor
