/-
  The document's SnapTo: the answers are laid, one behind the other. Conditions: those of each theorem.
-/
import Derived.Test.YtolafffpgkgadaaESnap
namespace Go.Proofs.Ytolafffpgkgadaa
open Go.RowKit

theorem snl_app {ts : List Int} : ∀ {A B : Ml} {k : Nat}, snl ts k (A ++ B) = snl ts k A ++ snl ts (k + A.length) B
  | [], B, k => rfl
  | q :: A, B, k => by
    show _ :: snl ts (k + 1) (A ++ B) = _
    rw [snl_app, List.length_cons, show k + 1 + A.length = k + (A.length + 1) by omega]
    rfl
theorem wn_app {ts : List Int} : ∀ {A B : Ml} {k : Nat}, wn ts k (A ++ B) = wn ts k A + wn ts (k + A.length) B
  | [], B, k => by show wn ts k B = 0 + wn ts (k + 0) B; rw [Nat.add_zero, Nat.zero_add]
  | q :: A, B, k => by
    show _ + wn ts (k + 1) (A ++ B) = _ + wn ts (k + 1) A + _
    rw [wn_app, List.length_cons, show k + 1 + A.length = k + (A.length + 1) by omega, Nat.add_assoc]
theorem ans_past {ts : List Int} {k : Nat} {a : Int} (h : ts.length ≤ k) : ans ts k a = a := by
  unfold ans nxt
  rw [List.getElem?_eq_none h, if_neg (by simp)]
theorem snl_past {ts : List Int} : ∀ {L : Ml} {k : Nat}, ts.length ≤ k → snl ts k L = L
  | [], _, _ => rfl
  | q :: L, k, h => by
    show (q.1, ans ts k q.2) :: snl ts (k + 1) L = _
    rw [ans_past h, snl_past (by omega)]
theorem wn_past {ts : List Int} : ∀ {L : Ml} {k : Nat}, ts.length ≤ k → wn ts k L = 0
  | [], _, _ => rfl
  | q :: L, k, h => by
    show (if ans ts k q.2 = q.2 then 0 else 1) + wn ts (k + 1) L = 0
    rw [ans_past h, if_pos rfl, wn_past (by omega)]
theorem sn_ris {ts : List Int} {L : Ml} (k : Nat) (h : Ris L) : Ris (snl ts 0 (L.take k) ++ L.drop k) := by
  have e : (snl ts 0 (L.take k) ++ L.drop k).map (·.1) = L.map (·.1) := by
    conv => rhs; rw [← List.take_append_drop k L, List.map_append]
    rw [List.map_append, snl_names]
  have h1 : (L.map (·.1)).Pairwise (· < ·) := List.pairwise_map.2 h
  rw [← e] at h1
  exact List.pairwise_map.1 h1
theorem sn_fit {ts : List Int} {L : Ml} (k : Nat) (hd : ∀ x ∈ ts, i64ok x) (h : Fit8 L) : Fit8 (snl ts 0 (L.take k) ++ L.drop k) := fun p hp => by
  rcases List.mem_append.1 hp with hp | hp
  · obtain ⟨q, j, hq, rfl⟩ := snl_mem hp
    have := h q (List.mem_of_mem_take hq)
    exact ⟨this.1, ans_ok hd this.2⟩
  · exact h p (List.mem_of_mem_drop hp)
theorem sn_len {ts : List Int} {L : Ml} (k : Nat) : (snl ts 0 (L.take k) ++ L.drop k).length = L.length := by
  rw [List.length_append, snl_len, List.length_take, List.length_drop]; omega
theorem sn_step {ts : List Int} {L : Ml} {k : Nat} {p : Nat × Int} (hp : L[k]? = some p) :
    snl ts 0 (L.take (k + 1)) ++ L.drop (k + 1) = (snl ts 0 (L.take k) ++ L.drop k).set k (p.1, ans ts k p.2) ∧ (snl ts 0 (L.take k) ++ L.drop k)[k]? = some p ∧ wn ts 0 (L.take (k + 1)) = wn ts 0 (L.take k) + (if ans ts k p.2 = p.2 then 0 else 1) := by
  have hk := (List.getElem?_eq_some_iff.1 hp)
  have hk1 := hk.1
  have hl : (L.take k).length = k := by rw [List.length_take]; omega
  have hl2 : (snl ts 0 (L.take k)).length = k := by rw [snl_len, hl]
  have e : L.drop k = p :: L.drop (k + 1) := by rw [List.drop_eq_getElem_cons hk.1, hk.2]
  have et : L.take (k + 1) = L.take k ++ [p] := by rw [List.take_add_one, hp]; rfl
  refine ⟨?_, ?_, ?_⟩
  · rw [et, snl_snoc, hl, Nat.zero_add, e, List.set_append_right _ _ (by omega), hl2, Nat.sub_self, List.set_cons_zero]
    simp
  · rw [List.getElem?_append_right (by omega), hl2, Nat.sub_self, e]; rfl
  · rw [et, wn_snoc, hl, Nat.zero_add]
theorem set_same {L : Ml} {k : Nat} {p : Nat × Int} (hp : L[k]? = some p) : L.set k p = L := by
  apply List.ext_getElem?
  intro i
  rw [List.getElem?_set]
  split
  · rename_i h
    subst h
    split
    · exact hp.symm
    · rename_i h; rw [List.getElem?_eq_none (by omega)] at hp; cases hp
  · rfl

set_option maxRecDepth 100000 in
set_option maxHeartbeats 1000000 in
theorem rsnap_any {w : World} {base rb : Nat} {v : Value} {L : Ml} (h : Rs w base rb v L) {a : Option Addr} {N cap : Nat} {ts : List Int} (hN : ts.length = N) (hl : N ≤ 1048576) (hf : ∀ x ∈ ts, i64ok x) (hR : ∀ W', Ch rb v.ownBlock w W' → RdI W' (.slice a N cap) ts) :
    Calls Try.prog 17 #[.pointer (some ⟨rb, 0, none⟩), .slice a N cap] w fun e w' => e = .returned (.int .i64 (wn ts 0 L : Nat)) ∧ Rs w' base rb v (snl ts 0 L) ∧ Ch rb v.ownBlock w w' := by
  rcases id h.row.2 with ⟨hv, hz⟩ | ⟨g, vc, cur, hv, hbg, hcur, hNc, hvc, hsz, htk⟩
  · obtain rfl : L = [] := List.eq_nil_of_length_eq_zero hz
    have hc := h.cell
    rw [hv] at hc
    have H : Hid (Rs w base rb v []) := h
    clear h hR hv hN hf
    go_enter Try.func17, Try.ntmps17
    go_wp2
    go_loopw [5, 6] (fun t5 t6 wr => t5 = .int .i64 0 ∧ t6 = .int .i64 0 ∧ wr = w) (fun _ _ _ => 0)
    case atStart => exact ⟨rfl, rfl, rfl⟩
    case round =>
      obtain ⟨rfl, rfl, rfl⟩ := hrel
      go_wp2
      go_ret
      exact ⟨rfl, H.out, Ch.refl _ _ _⟩
  · obtain ⟨M, hM⟩ : ∃ M, L.length = M := ⟨_, rfl⟩
    have hl8 := len8 h.ris h.fit
    rw [hM] at hv hl8
    subst hv
    have HR : Hid (∀ W', Ch rb (some g) w W' → RdI W' (.slice a N cap) ts) := hR
    have HF : Hid (L.length = M ∧ ts.length = N ∧ Ris L ∧ Fit8 L ∧ (∀ x ∈ ts, i64ok x) ∧ base ≤ rb) := ⟨hM, hN, h.ris, h.fit, hf, h.low⟩
    have H0 : Hid (Rs w base rb (.slice (some ⟨g, 0, none⟩) M vc) L) := h
    have hM' : (wn ts 0 L) ≤ M := hM ▸ wn_le
    clear h hR hM hf hcur hsz htk hNc hvc hbg hN
    go_enter Try.func17, Try.ntmps17
    go_wp2
    go_loopw [5, 6] (fun t5 t6 wr => ∃ k : Nat, k ≤ M ∧ k ≤ N ∧ t6 = .int .i64 k ∧ ∃ z : Nat, z ≤ k ∧ t5 = .int .i64 z ∧ Hid (z = wn ts 0 (L.take k) ∧ Rs wr base rb (.slice (some ⟨g, 0, none⟩) M vc) (snl ts 0 (L.take k) ++ L.drop k) ∧ Ch rb (some g) w wr)) (fun _ t6 _ => M - (intOf t6).toNat)
    case atStart => exact ⟨0, Nat.zero_le _, Nat.zero_le _, rfl, 0, Nat.le_refl _, rfl, rfl, H0.out, Ch.refl _ _ _⟩
    case round =>
      obtain ⟨k, hk, hkN, rfl, z, hz, rfl, HK⟩ := hrel
      clear H0
      have hc := HK.out.2.1.cell
      by_cases hlt : k < M
      · by_cases hltN : k < N
        · obtain ⟨p, hp⟩ : ∃ p, L[k]? = some p := ⟨L[k]'(by rw [HF.out.1]; exact hlt), List.getElem?_eq_getElem _⟩
          obtain ⟨x, hx⟩ : ∃ x, ts[k]? = some x := ⟨ts[k]'(by rw [HF.out.2.1]; exact hltN), List.getElem?_eq_getElem _⟩
          obtain ⟨_, _, ev, hrd⟩ := HR.out _ HK.out.2.2
          obtain ⟨ea, en, ec⟩ := Value.slice.inj ev
          obtain ⟨gt, ot, eg, hgt, hct⟩ := hrd (fun e => by rw [e] at hx; cases hx)
          rw [← ea] at eg
          subst eg
          have y0 := hct k x hx
          have HN : Hid (nxt ts k = x) := by show nxt ts k = x; unfold nxt; rw [hx]
          have HST : Hid _ := sn_step (ts := ts) hp
          have HW : ∀ W, Rs W base rb (.slice (some ⟨g, 0, none⟩) M vc) (snl ts 0 (L.take k) ++ L.drop k) → W.cell? ⟨g, k * 2 + 1, none⟩ = some (.int .i64 p.2) ∧ W.frozen? ⟨g, k * 2 + 1, none⟩ = false := fun W hW => by
            have hr := hW.row
            rw [sn_len, HF.out.1] at hr
            refine ⟨?_, hr.frozenAt _⟩
            have := hr.cellAt (k * 2 + 1) (by omega)
            rw [(kcl_get _ k p (sn_step (ts := ts) hp).2.1).2] at this
            exact this
          obtain ⟨q1, q2⟩ := HW _ HK.out.2.1
          clear hrd hct hp hx ev ea en ec hgt HW HR
          by_cases c1 : x < 0
          · have HA : Hid (ans ts k p.2 = p.2) := by show ans ts k p.2 = _; unfold ans; rw [HN.out, if_neg (by omega)]
            have hd : decide (0 ≤ x) = false := decide_eq_false (by omega)
            go_upto_region 5 with fail
            go_quiet (fail)
            go_wp2
            refine ⟨⟨k + 1, by omega, by omega, by go_num, z, by omega, rfl, ?_, ?_, ?_⟩, by simp [intOf]; omega⟩
            · have h1 := HST.out.2.2; rw [HA.out, if_pos rfl] at h1; have := HK.out.1; omega
            · have h1 := HST.out.1; rw [HA.out, set_same HST.out.2.1] at h1; rw [h1]; exact HK.out.2.1.below (drewN_below _ _ _)
            · exact HK.out.2.2.transx (Nx.refl _ _) (Ch.below (drewN_below _ _ _))
          · have hd : decide (0 ≤ x) = true := decide_eq_true (by omega)
            by_cases c2 : x = p.2
            · have HA : Hid (ans ts k p.2 = p.2) := by show ans ts k p.2 = _; unfold ans; rw [HN.out, if_pos (by omega), c2]
              rw [c2] at y0 hd
              clear c2 c1 HN
              go_upto_region 5 with fail
              go_quiet (fail)
              go_wp2
              refine ⟨⟨k + 1, by omega, by omega, by go_num, z, by omega, rfl, ?_, ?_, ?_⟩, by simp [intOf]; omega⟩
              · have h1 := HST.out.2.2; rw [HA.out, if_pos rfl] at h1; have := HK.out.1; omega
              · have h1 := HST.out.1; rw [HA.out, set_same HST.out.2.1] at h1; rw [h1]; exact HK.out.2.1.below (drewN_below _ _ _)
              · exact HK.out.2.2.transx (Nx.refl _ _) (Ch.below (drewN_below _ _ _))
            · have HA : Hid (ans ts k p.2 = x) := by show ans ts k p.2 = _; unfold ans; rw [HN.out, if_pos (by omega)]
              have HC2 : Hid (x ≠ p.2) := c2
              have c3 : (x != p.2) = true := by simpa using c2
              have c4 : decide (x = p.2) = false := decide_eq_false c2
              go_upto_region 5 with fail
              go_quiet (fail)
              go_wp2
              go_region
              all_goals go_wp2
              all_goals
                refine ⟨⟨k + 1, by omega, by omega, by go_num, z + 1, by omega, by go_num, ?_, ?_⟩, by simp [intOf]; omega⟩
                · have h1 := HST.out.2.2; rw [HA.out, if_neg HC2.out] at h1; have := HK.out.1; omega
                · obtain ⟨Wd, hWd⟩ : ∃ Wd, wr.drewN (nq + 1) = Wd := ⟨_, rfl⟩
                  have hr2 : Rs Wd base rb (.slice (some ⟨g, 0, none⟩) M vc) (snl ts 0 (L.take k) ++ L.drop k) := hWd ▸ HK.out.2.1.below (drewN_below _ _ _)
                  have hc2 : Ch rb (some g) w Wd := hWd ▸ HK.out.2.2.transx (Nx.refl _ _) (Ch.below (drewN_below _ _ _))
                  rw [hWd]
                  have hr := hr2.row
                  rw [show Value.slice (some ⟨g, 0, none⟩) M vc = .slice (some ⟨g, 0, none⟩) (snl ts 0 (L.take k) ++ L.drop k).length vc by rw [sn_len, HF.out.1]] at hr
                  have hs := row_set (y := x) (n := p.1) (x := p.2) hr HST.out.2.1
                  have h1 := HST.out.1
                  rw [HA.out] at h1
                  rw [← h1, sn_len, HF.out.1] at hs
                  refine ⟨⟨(hs.2.block rb hr2.lt (fun e => ?_)).trans hr2.box, by rw [sn_len, HF.out.1]; exact hs.1, HF.out.2.2.2.2.2, sn_ris _ HF.out.2.2.1, sn_fit _ HF.out.2.2.2.2.1 HF.out.2.2.2.1⟩, hc2.transx (Nx.refl _ _) ⟨hs.2.os, hs.2.tape, hs.2.output, hs.2.size, fun j hj _ hn => hs.2.block j hj (fun e => hn e.symm)⟩⟩
                  obtain ⟨cur, hcur, _⟩ := hr2.blk (g := g) rfl
                  have hbx := hr2.box
                  rw [Option.some.inj e, hcur] at hbx
                  injection hbx with h1
                  injection h1 with _ ht _
                  exact absurd ht (by decide)
        · have hNe : N = k := by omega
          have HE : Hid (N = k) := hNe
          have hd : decide ((k : Int) < (N : Int)) = false := decide_eq_false (by omega)
          clear hNe
          go_wp2
          go_ret
          obtain ⟨h1, h2, h3⟩ := HK.out
          have e1 : snl ts 0 L = snl ts 0 (L.take k) ++ L.drop k := by
            conv => lhs; rw [← List.take_append_drop k L]
            rw [snl_app, snl_past (k := 0 + (L.take k).length)]
            rw [List.length_take, HF.out.1, HF.out.2.1, HE.out]; omega
          have e2 : wn ts 0 L = wn ts 0 (L.take k) := by
            conv => lhs; rw [← List.take_append_drop k L]
            rw [wn_app, wn_past (k := 0 + (L.take k).length), Nat.add_zero]
            rw [List.length_take, HF.out.1, HF.out.2.1, HE.out]; omega
          rw [e1]
          exact ⟨congrArg (fun z : Nat => Ending.returned (.int .i64 (z : Int))) (by rw [e2]; exact h1), h2, h3⟩
      · go_wp2
        go_ret
        obtain rfl : k = M := by omega
        obtain ⟨h1, h2, h3⟩ := HK.out
        rw [List.take_of_length_le (by rw [HF.out.1]; exact Nat.le_refl _), List.drop_eq_nil_of_le (by rw [HF.out.1]; exact Nat.le_refl _), List.append_nil] at h2
        rw [List.take_of_length_le (by rw [HF.out.1]; exact Nat.le_refl _)] at h1
        exact ⟨congrArg (fun z : Nat => Ending.returned (.int .i64 (z : Int))) h1, h2, h3⟩
end Go.Proofs.Ytolafffpgkgadaa
