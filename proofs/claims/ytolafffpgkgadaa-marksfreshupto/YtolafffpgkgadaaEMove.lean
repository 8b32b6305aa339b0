/-
  Package marks' Move of a set that holds a mark: each goes where the deltas take it. Conditions: slices.Sort sorts so many bytes; the deltas lie elsewhere.
-/
import Derived.Test.YtolafffpgkgadaaEAll
import Derived.Test.YtolafffpgkgadaaEMovB
import Derived.Deep.RegionHeld3
namespace Go.Proofs.Ytolafffpgkgadaa
open Go.RowKit Go.ChangeMaps Go.MapKept

/-- all marks moved -/
def mvL (ds : List Dl) (L : Ml) : Ml := L.map fun p => (p.1, mvs p.2 ds)
theorem lay_at {pre r : Ml} {n : Nat} {a b : Int} (h : Ris (pre ++ (n, a) :: r)) : lay n b (pre ++ (n, a) :: r) = pre ++ (n, b) :: r := by
  induction pre with
  | nil => simp [lay]
  | cons q pre ih =>
    obtain ⟨h1, h2⟩ := List.pairwise_cons.1 h
    have := h1 (n, a) (by simp)
    simp only at this
    show (if n < q.1 then _ else if n = q.1 then _ else q :: lay n b (pre ++ (n, a) :: r)) = _
    rw [if_neg (by omega), if_neg (by omega), ih h2]
    rfl
theorem mvL_step {ds : List Dl} {L : Ml} {k : Nat} {p : Nat × Int} (hr : Ris (mvL ds (L.take k) ++ L.drop k)) (hp : L[k]? = some p) :
    lay p.1 (mvs p.2 ds) (mvL ds (L.take k) ++ L.drop k) = mvL ds (L.take (k + 1)) ++ L.drop (k + 1) := by
  have hk := (List.getElem?_eq_some_iff.1 hp).1
  have e : L.drop k = p :: L.drop (k + 1) := by
    rw [List.drop_eq_getElem_cons hk]
    congr 1
    rw [List.getElem?_eq_getElem hk] at hp
    exact Option.some.inj hp
  rw [e] at hr ⊢
  rw [lay_at (n := p.1) (a := p.2) hr, List.take_add_one, hp]
  simp [mvL]

theorem RdK.of_block {W W' : World} {g o N c : Nat} {l : Ml} (h : RdK W (.slice (some ⟨g, o, none⟩) N c) l) (e : W'.heap[g]? = W.heap[g]?) (hg : g < W'.heap.size) : RdK W' (.slice (some ⟨g, o, none⟩) N c) l := by
  obtain ⟨a, cap, ev, h⟩ := h
  cases ev
  refine ⟨_, _, rfl, fun h0 => ?_⟩
  obtain ⟨g', o', e', hg', hc⟩ := h h0
  cases e'
  refine ⟨g, o, rfl, hg, fun k x hk => ?_⟩
  have kp : ∀ i v, W.cell? ⟨g, i, none⟩ = some v → W'.cell? ⟨g, i, none⟩ = some v := fun i v h => by
    unfold World.cell? at h ⊢
    simp only [e]
    exact h
  exact ⟨kp _ _ (hc k x hk).1, kp _ _ (hc k x hk).2⟩
/-- what stays while the marks are moved -/
structure Mvg (w : World) (sb b g M c mb : Nat) (p : Nat × Int) (L X : Ml) (W : World) : Prop where
  st : St W sb (some b) X
  ch : Ch sb (some b) w W
  rd : RdK W (.slice (some ⟨g, 0, none⟩) M c) L
  m0 : W.cell? ⟨mb, 0, none⟩ = some (.int .u8 (p.1 : Int))
  m1 : W.cell? ⟨mb, 1, none⟩ = some (.int .i64 p.2)
  hm : mb < W.heap.size
  nb : mb ≠ b
  ng : g ≠ b
  gl : g < W.heap.size
theorem Mvg.below {w W W' : World} {sb b g M c mb : Nat} {p : Nat × Int} {L X : Ml} (h : Mvg w sb b g M c mb p L X W) (hb : Below W.heap.size W W') : Mvg w sb b g M c mb p L X W' :=
  ⟨h.st.below hb, h.ch.trans (Nw.refl _ _) (Ch.below hb), h.rd.below (Nat.le_refl _) hb, (hb.cell (p := ⟨mb, 0, none⟩) h.hm).trans h.m0, (hb.cell (p := ⟨mb, 1, none⟩) h.hm).trans h.m1, by have := hb.size; have := h.hm; omega, h.nb, h.ng, by have := hb.size; have := h.gl; omega⟩
theorem Mvg.drewN {w W : World} {sb b g M c mb : Nat} {p : Nat × Int} {L X : Ml} (h : Mvg w sb b g M c mb p L X W) (n : Nat) : Mvg w sb b g M c mb p L X (W.drewN n) := h.below ⟨rfl, rfl, rfl, Nat.le_refl _, fun _ _ => rfl⟩
theorem Mvg.drew {w W : World} {sb b g M c mb : Nat} {p : Nat × Int} {L X : Ml} (h : Mvg w sb b g M c mb p L X W) : Mvg w sb b g M c mb p L X W.drew := h.below ⟨rfl, rfl, rfl, Nat.le_refl _, fun _ _ => rfl⟩
theorem Mvg.cells {w W : World} {sb b g M c mb : Nat} {p : Nat × Int} {L X : Ml} (h : Mvg w sb b g M c mb p L X W) : W.cell? ⟨sb, 0, none⟩ = some (.map (some b)) ∧ W.cell? ⟨mb, 0, none⟩ = some (.int .u8 (p.1 : Int)) ∧ W.cell? ⟨mb, 1, none⟩ = some (.int .i64 p.2) := ⟨h.st.cell, h.m0, h.m1⟩
theorem Mvg.upd {w W W' : World} {sb b g M c mb : Nat} {p : Nat × Int} {L X : Ml} (h : Mvg w sb b g M c mb p L X W) (hg : W.grownBy W' (some b)) : W'.cell? ⟨sb, 0, none⟩ = some (.map (some b)) ∧ W'.cell? ⟨mb, 0, none⟩ = some (.int .u8 (p.1 : Int)) ∧ W'.cell? ⟨mb, 1, none⟩ = some (.int .i64 p.2) := by
  have kp : ∀ k i v, k ≠ b → k < W.heap.size → W.cell? ⟨k, i, none⟩ = some v → W'.cell? ⟨k, i, none⟩ = some v := fun k i v h1 h2 h => by
    unfold World.cell? at h ⊢
    simp only [hg.block k h2 (fun e => h1 (Option.some.inj e))]
    exact h
  exact ⟨kp _ _ _ (h.st.own b rfl).1.symm h.st.lt h.st.cell, kp _ _ _ h.nb h.hm h.m0, kp _ _ _ h.nb h.hm h.m1⟩
theorem Mvg.next {w W W' : World} {sb b g M c mb k : Nat} {p : Nat × Int} {L : Ml} {ds : List Dl} {v : Int} (h : Mvg w sb b g M c mb p L (mvL ds (L.take k) ++ L.drop k) W) (hp : L[k]? = some p) (hv : mvs p.2 ds = v) (h8 : p.1 < 256) (h64 : i64ok v) (hg : W.grownBy W' (some b)) (ho : W'.ownsMap Try.prog 5 (plainElem Try.prog 3) b ((mvL ds (L.take k) ++ L.drop k).length + 1) ((Go.Proofs.Ytolafffpgkgadaa.mk (mvL ds (L.take k) ++ L.drop k)).put (.int .u8 (p.1 : Int)) (.lit (.int .i64 v)))) :
    St W' sb (some b) (mvL ds (L.take (k + 1)) ++ L.drop (k + 1)) ∧ Ch sb (some b) w W' ∧ RdK W' (.slice (some ⟨g, 0, none⟩) M c) L := by
  have hm := (h.st.own b rfl).2
  rw [put_mk hm.2.1] at ho
  have ht := h.st.turned hg ⟨owns_tight ho, hm.2.1.lay, hm.2.2.lay h8 h64⟩
  rw [← hv, mvL_step hm.2.1 hp] at ht
  exact ⟨ht.1, h.ch.trans (Nw.refl _ _) ht.2, h.rd.of_block (hg.block g h.gl (fun e => h.ng (Option.some.inj e))) (by have := hg.size; have := h.gl; omega)⟩

set_option maxRecDepth 100000 in
set_option maxHeartbeats 2000000 in
theorem move_own {w : World} {sb b : Nat} {L : Ml} (h : St w sb (some b) L) (hL : L ≠ []) (hS : SortsTo L.length) {a : Option Addr} {N cap : Nat} {ds : List Dl} (hN : ds.length = N) (hl : N ≤ 140737488351232) (hf : ∀ d ∈ ds, d.fit) (hR : ∀ W', Ch sb (some b) w W' → RdD W' (.slice a N cap) ds) :
    Calls Try.prog 20 #[.pointer (some ⟨sb, 0, none⟩), .slice a N cap] w fun e w' => e = .returned (.tuple #[]) ∧ St w' sb (some b) (mvL ds L) ∧ Ch sb (some b) w w' := by
  have CA : Hid (Calls Try.prog 25 #[.pointer (some ⟨sb, 0, none⟩)] w fun e W' => ∃ g c, e = .returned (.slice (some ⟨g, 0, none⟩) L.length c) ∧ W'.heap.size > g ∧ w.heap.size ≤ g ∧ RdK W' (.slice (some ⟨g, 0, none⟩) L.length c) L ∧ Below w.heap.size w W') := by
    refine (All_own h hL hS).mono ?_
    rintro e W' ⟨v, rfl, hr, hb⟩
    have hk := RdK.of_row hr
    rcases hr.2 with ⟨rfl, hz⟩ | ⟨g, c, cur, rfl, hbg, hg, _⟩
    · exact absurd (List.eq_nil_of_length_eq_zero hz) hL
    · exact ⟨g, c, rfl, (Array.getElem?_eq_some_iff.1 hg).1, hbg, hk, hb⟩
  have CM : Hid (∀ W', Ch sb (some b) w W' → ∀ p, i64ok p → Calls Try.prog 31 #[.int .i64 p, .slice a N cap] W' fun e w' => e = .returned (.int .i64 (mvs p ds)) ∧ Below W'.heap.size W' w') := fun W' hc p hp => Moved_any hN hl hf (hR W' hc) p hp
  have HF : Hid (∀ p, i64ok p → i64ok (mvs p ds)) := fun p hp => mvs_ok hf hp
  have HS : Hid (St w sb (some b) L) := h
  have hl8 := len8 h.ris.1 h.ris.2
  obtain ⟨M, hM⟩ : ∃ M, L.length = M := ⟨_, rfl⟩
  rw [hM] at CA hl8
  have HM : Hid (L.length = M) := hM
  clear h hL hS hf hR hN hM
  go_enter Try.func20, Try.ntmps20
  go_wp2_with (go_at_call 25; refine CA.out.mono ?_; clear CA; rintro e w1 ⟨g, c, rfl, hg1, hg2, hk1, hb1⟩; have HS1 : Hid (St w1 sb (some b) L ∧ Ch sb (some b) w w1 ∧ RdK w1 (.slice (some ⟨g, 0, none⟩) M c) L) := ⟨HS.out.below hb1, Ch.below hb1, hk1⟩; clear hb1 hk1)
  go_loopw [9] (fun t9 wr => ∃ k : Nat, k ≤ M ∧ t9 = .int .i64 k ∧ Hid (St wr sb (some b) (mvL ds (L.take k) ++ L.drop k) ∧ Ch sb (some b) w wr ∧ RdK wr (.slice (some ⟨g, 0, none⟩) M c) L)) (fun t9 _ => M - (intOf t9).toNat)
  case atStart => exact ⟨0, Nat.zero_le _, rfl, by simpa [mvL] using HS1.out.1, HS1.out.2.1, HS1.out.2.2⟩
  case round =>
    obtain ⟨k, hk, rfl, HK⟩ := hrel
    clear HS1
    by_cases hlt : k < M
    · obtain ⟨p, hp⟩ : ∃ p, L[k]? = some p := ⟨L[k]'(by rw [HM.out]; exact hlt), List.getElem?_eq_getElem _⟩
      have hpf := HS.out.ris.2 p (List.mem_of_getElem? hp)
      obtain ⟨a', cap', ev, hrd⟩ := HK.out.2.2
      obtain ⟨rfl, hmq, rfl⟩ := Value.slice.inj ev
      clear ev hmq
      obtain ⟨g', o', ev, hg, hcs⟩ := hrd (fun e => by rw [e] at hp; cases hp)
      cases ev
      obtain ⟨y0, y1⟩ := hcs k p hp
      rw [Nat.zero_add] at y0 y1
      obtain ⟨z0, z1⟩ := new2 wr (.int .u8 (p.1 : Int)) (.int .i64 p.2) 26
      have HX : Hid (Mvg w sb b g M c wr.heap.size p L (mvL ds (L.take k) ++ L.drop k) (wr.alloc (.cells #[.int .u8 (p.1 : Int), .int .i64 p.2] 26))) := by
        have hb : Below wr.heap.size wr (wr.alloc (.cells #[.int .u8 (p.1 : Int), .int .i64 p.2] 26)) := (Below.refl _ wr).alloc (Nat.le_refl _) _
        exact ⟨HK.out.1.below hb, HK.out.2.1.trans (Nw.refl _ _) (Ch.below hb), HK.out.2.2.below (Nat.le_refl _) hb, z0, z1, by simp, by have := HK.out.2.1.2.2.2.1; have := (HS.out.own b rfl).2.lt; omega, by have := (HS.out.own b rfl).2.lt; omega, by simp; omega⟩
      have HP : Hid (L[k]? = some p) := hp
      have hkey := key8 hpf.1
      have HV : Hid (p.1 < 256 ∧ i64ok (mvs p.2 ds)) := ⟨hpf.1, HF.out _ hpf.2⟩
      have CMp : Hid (∀ W', Ch sb (some b) w W' → Calls Try.prog 31 #[.int .i64 p.2, .slice a N cap] W' fun e w' => e = .returned (.int .i64 (mvs p.2 ds)) ∧ Below W'.heap.size W' w') := fun W' hc => CM.out W' hc _ hpf.2
      obtain ⟨v, hv⟩ : ∃ v, mvs p.2 ds = v := ⟨_, rfl⟩
      rw [hv] at CMp HV
      have HVV : Hid (mvs p.2 ds = v) := hv
      clear hrd hcs hp hpf CM HF hv
      go_upto_region 3 with fail
      clear y0 y1
      obtain ⟨mb, hmb⟩ : ∃ mb, wr.heap.size = mb := ⟨_, rfl⟩
      obtain ⟨W2, hW2⟩ : ∃ W2, wr.alloc (.cells #[.int .u8 (p.1 : Int), .int .i64 p.2] 26) = W2 := ⟨_, rfl⟩
      rw [hW2] at HX z0 z1 ⊢
      rw [hmb] at HX z0 z1 ⊢
      clear HK hmb hW2 z0 z1
      go_region_held3 (fun w' => w'.cell? ⟨sb, 0, none⟩ = some (.map (some b)) ∧ w'.cell? ⟨mb, 0, none⟩ = some (.int .u8 (p.1 : Int)) ∧ w'.cell? ⟨mb, 1, none⟩ = some (.int .i64 p.2)) (first | exact HX.out.cells | exact HX.out.drew.cells | exact HC5.out)
        (first
          | (go_at_call 31; guard_target = Calls _ _ _ (World.drew _) _; refine (CMp.out _ HX.out.drew.ch).mono ?_; clear CMp; rintro e w4 ⟨rfl, hb4⟩; have HX4 : Hid (Mvg w sb b g M c mb p L (mvL ds (L.take k) ++ L.drop k) w4) := HX.out.drew.below hb4; clear HX hb4; have HX := HX4; clear HX4; obtain ⟨w5, hrun, hown5, hg5⟩ := (HX.out.st.own b rfl).2.1.update law8 Try.underlying47 (HX.out.st.own b rfl).2.room hkey (plainElem_int Try.underlying3 (wf64 HV.out.2)); have H5 : Hid _ := hown5; have HG5 : Hid (w4.grownBy w5 (some b)) := hg5; have HC5 : Hid _ := HX.out.upd hg5; clear hown5 hg5)
          | (go_at_call 31; refine (CMp.out _ HX.out.ch).mono ?_; clear CMp; rintro e w4 ⟨rfl, hb4⟩; have HX4 : Hid (Mvg w sb b g M c mb p L (mvL ds (L.take k) ++ L.drop k) w4) := HX.out.below hb4; clear HX hb4; have HX := HX4; clear HX4; obtain ⟨w5, hrun, hown5, hg5⟩ := (HX.out.st.own b rfl).2.1.update law8 Try.underlying47 (HX.out.st.own b rfl).2.room hkey (plainElem_int Try.underlying3 (wf64 HV.out.2)); have H5 : Hid _ := hown5; have HG5 : Hid (w4.grownBy w5 (some b)) := hg5; have HC5 : Hid _ := HX.out.upd hg5; clear hown5 hg5))
      all_goals go_wp2
      all_goals exact ⟨⟨k + 1, by omega, by go_num, HX.out.next HP.out HVV.out HV.out.1 HV.out.2 HG5.out H5.out⟩, by simp [intOf]; omega⟩
    · go_wp2
      go_end0
      obtain rfl : k = M := by omega
      obtain ⟨h1, h2, h3⟩ := HK.out
      rw [List.take_of_length_le (by rw [HM.out]; exact Nat.le_refl _), List.drop_eq_nil_of_le (by rw [HM.out]; exact Nat.le_refl _), List.append_nil] at h1
      exact ⟨rfl, h1, h2⟩
end Go.Proofs.Ytolafffpgkgadaa
