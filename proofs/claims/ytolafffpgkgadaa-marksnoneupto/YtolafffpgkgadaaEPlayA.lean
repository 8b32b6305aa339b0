/-
  The law's play of any call; Load of a nil set. Conditions: those of each theorem.
-/
import Derived.Test.YtolafffpgkgadaaUMop
namespace Go.Proofs.Ytolafffpgkgadaa
open Go.RowKit

theorem play_any {w W : World} {sb : Nat} {mb : Option Nat} {rb : Nat} {v : Value} {L : Ml} {k : Nat} {o : Oq} {ma da : Option Addr} {mn mc dn dc : Nat} (h : Pl w W sb mb rb v L k) (hf : o.fit) (hu : o.bulk ≤ 1048576) (hk : k ≤ 2097152) (hm : RdK w (.slice ma mn mc) o.ms) (hd : RdD w (.slice da dn dc) o.ds) :
    Calls Try.prog 14 #[.pointer (some ⟨sb, 0, none⟩), .pointer (some ⟨rb, 0, none⟩), .agg #[.int .u8 (o.kd : Int), .int .u8 (o.nm : Int), .int .i64 o.pl, .slice ma mn mc, .slice da dn dc]] W fun e W' => e = .returned (.bool true) ∧ Pdn w W sb mb rb v k W' := by
  have e : (#[.int .u8 (o.kd : Int), .int .u8 (o.nm : Int), .int .i64 o.pl, .slice ma mn mc, .slice da dn dc] : Array Value) = opv o (.slice ma mn mc) (.slice da dn dc) := rfl
  rw [e]
  unfold Oq.bulk at hu
  have h7 : o.kd % 7 < 7 := Nat.mod_lt _ (by omega)
  rcases Nat.lt_or_ge (o.kd % 7) 1 with c | c
  · exact play0 h hf (by omega)
  rcases Nat.lt_or_ge (o.kd % 7) 2 with c | c
  · exact play1 h hf (by omega)
  rcases Nat.lt_or_ge (o.kd % 7) 3 with c | c
  · exact play2 h hf (by omega)
  rcases Nat.lt_or_ge (o.kd % 7) 4 with c | c
  · exact play3 h hf (by omega) rfl (fun W2 hb => hm.below (Nat.le_refl _) hb) (by omega)
  rcases Nat.lt_or_ge (o.kd % 7) 5 with c | c
  · exact play4 h hf (by omega) rfl (fun W2 hb => hd.below (Nat.le_refl _) hb) (by omega) (by omega) hk
  rcases Nat.lt_or_ge (o.kd % 7) 6 with c | c
  · exact play5 h hf (by omega)
  · exact play6 h hf (by omega)
theorem Pdn.pl {w W W' : World} {sb : Nat} {mb : Option Nat} {rb : Nat} {v : Value} {k : Nat} (h : Pdn w W sb mb rb v k W') (hs : w.heap.size ≤ sb) : ∃ mb' v' L', Pl w W' sb mb' rb v' L' (k + 1) ∧ PCh sb mb rb v.ownBlock W W' ∧ Nx W mb mb' ∧ Nx W v.ownBlock v'.ownBlock := by
  obtain ⟨mb', v', L', h1, h2, h3, h4, h5, h6, h7, h8, h9⟩ := h
  exact ⟨mb', v', L', ⟨h1, h2, h3, hs, h4, h8, h9⟩, h5, h6, h7⟩
theorem Pl.below {w W W' : World} {sb : Nat} {mb : Option Nat} {rb : Nat} {v : Value} {L : Ml} {k : Nat} (h : Pl w W sb mb rb v L k) (hb : Below W.heap.size W W') : Pl w W' sb mb rb v L k := ⟨h.st.below hb, h.rs.below hb, h.bel.trans (hb.mono h.bel.size), h.sl, h.ml, h.g, h.bd⟩
/-- the cells of a call, whoever reads them -/
theorem RdO.at {w W : World} {a : Option Addr} {n c : Nat} {os : List Oq} (h : RdO w (.slice a n c) os) (hb : Below w.heap.size w W) {k : Nat} {q : Oq} (hk : os[k]? = some q) : ∃ g o, a = some ⟨g, o, none⟩ ∧ ∃ ma mc ea ec, (W.cell? ⟨g, o + k * 5, none⟩ = some (.int .u8 (q.kd : Int)) ∧ W.cell? ⟨g, o + k * 5 + 1, none⟩ = some (.int .u8 (q.nm : Int)) ∧ W.cell? ⟨g, o + k * 5 + 2, none⟩ = some (.int .i64 q.pl)
      ∧ W.cell? ⟨g, o + k * 5 + 3, none⟩ = some (.slice ma q.ms.length mc) ∧ W.cell? ⟨g, o + k * 5 + 4, none⟩ = some (.slice ea q.ds.length ec)) ∧ RdK w (.slice ma q.ms.length mc) q.ms ∧ RdD w (.slice ea q.ds.length ec) q.ds := by
  obtain ⟨_, _, e, hr⟩ := h
  cases e
  obtain ⟨_, g, o, e, hg, hc⟩ := hr (fun e => by rw [e] at hk; cases hk)
  obtain ⟨ma, mc, ea, ec, ⟨c0, c1, c2, c3, c4⟩, r1, r2⟩ := hc k q hk
  have kp : ∀ i v, w.cell? ⟨g, i, none⟩ = some v → W.cell? ⟨g, i, none⟩ = some v := fun i v h => (hb.cell (p := ⟨g, i, none⟩) (by simp; omega)).trans h
  exact ⟨g, o, e, ma, mc, ea, ec, ⟨kp _ _ c0, kp _ _ c1, kp _ _ c2, kp _ _ c3, kp _ _ c4⟩, r1, r2⟩
theorem unLO : Try.prog.underlying 23 = some (.slice (Try.prog.elem 23)) := by kernel_rfl
theorem szLO (W : World) : (sizeOf (Try.prog.elem 23)).run Try.prog W = .ok 5 W := by kernel_rfl
/-- a piece of a list of calls -/
theorem run_ops {w : World} {a : Option Addr} {n c lo hi : Nat} {os : List Oq} (h : RdO w (.slice a n c) os) (h0 : os ≠ []) (h1 : lo ≤ hi) (h2 : hi ≤ n) :
    ∃ a3 c3, (∀ W, (Instr.sliceAt 23 (.slice a n c) (some (.int .i64 (lo : Int))) (some (.int .i64 (hi : Int))) none).run Try.prog W = .ok (.slice a3 (hi - lo) c3) W) ∧ RdO w (.slice a3 (hi - lo) c3) ((os.drop lo).take (hi - lo)) := by
  obtain ⟨_, _, e, hr⟩ := id h
  obtain ⟨ea, en, ec⟩ := Value.slice.inj e
  obtain ⟨hle, g, o, eg, hg, hc⟩ := hr h0
  rw [← ea] at eg
  subst eg ea en ec
  refine ⟨if c = lo then some ⟨g, o, none⟩ else some ⟨g, o + lo * 5, none⟩, c - lo, fun W => ?_, ?_⟩
  · rw [run_sliceAt_slice _ _ _ _ _ _ unLO, run_slice_lh _ _ _ _ _ unLO _ _ _ _ (by omega) (by omega) (by omega), szLO]
    simp only [Result.andThen, sliced, Int.toNat_natCast, Option.map_some]
    split
    · rfl
    · rw [Go.WideShapes.add_plain]
  · have hlen : ((os.drop lo).take (hi - lo)).length = hi - lo := by rw [List.length_take, List.length_drop]; omega
    refine ⟨_, c - lo, by rw [hlen], fun h3 => ⟨by rw [hlen]; omega, g, o + lo * 5, ?_, hg, fun k q hk => ?_⟩⟩
    · rw [if_neg]
      intro e
      apply h3
      exact List.eq_nil_of_length_eq_zero (by rw [hlen]; omega)
    · have hk2 : k < hi - lo := by rw [← hlen]; exact (List.getElem?_eq_some_iff.1 hk).1
      rw [List.getElem?_take_of_lt hk2, List.getElem?_drop] at hk
      have := hc _ q hk
      rw [show o + (lo + k) * 5 = o + lo * 5 + k * 5 by omega] at this
      exact this
set_option maxRecDepth 100000 in
theorem load_none {w : World} {a : Option Addr} {N cap : Nat} {ms : Ml} (hN : ms.length = N) (hl : N ≤ 140737488351232) (hf : Fit8 ms) (hR : RdK w (.slice a N cap) ms) :
    Calls Try.prog 18 #[.pointer none, .slice a N cap] w fun e w' => e = .returned (.tuple #[]) ∧ Below w.heap.size w w' := by
  have CC := clear_none w
  have HR : Hid (∀ W', Below w.heap.size w W' → RdK W' (.slice a N cap) ms) := fun W' hb => hR.below (Nat.le_refl _) hb
  have HF : Hid (ms.length = N ∧ Fit8 ms) := ⟨hN, hf⟩
  clear hR hN hf
  go_enter Try.func18, Try.ntmps18
  go_wp2_with (go_at_call 21; refine CC.mono ?_; clear CC; rintro e w1 ⟨rfl, rfl⟩)
  go_loopw [10] (fun t wr => ∃ k : Nat, k ≤ N ∧ t = .int .i64 k ∧ Hid (Below w1.heap.size w1 wr)) (fun t _ => N - (intOf t).toNat)
  case atStart => exact ⟨0, Nat.zero_le _, rfl, Below.refl _ _⟩
  case round =>
    obtain ⟨k, hk, rfl, HS⟩ := hrel
    by_cases hlt : k < N
    · obtain ⟨p, hp⟩ : ∃ p, ms[k]? = some p := ⟨ms[k]'(by rw [HF.out.1]; exact hlt), List.getElem?_eq_getElem _⟩
      have hpf := HF.out.2 p (List.mem_of_getElem? hp)
      obtain ⟨a', cap', ev, hrd⟩ := HR.out _ HS.out
      cases ev
      obtain ⟨g, o, rfl, hg, hcs⟩ := hrd (fun e => by rw [e] at hp; cases hp)
      obtain ⟨y0, y1⟩ := hcs k p hp
      have CP := put_nil (a := p.2) hpf.1 (wr.alloc (.cells #[.int .u8 (p.1 : Int), .int .i64 p.2] 26))
      have HB : Hid (Below w1.heap.size w1 (wr.alloc (.cells #[.int .u8 (p.1 : Int), .int .i64 p.2] 26))) := HS.out.alloc HS.out.size _
      obtain ⟨z0, z1⟩ := new2 wr (.int .u8 (p.1 : Int)) (.int .i64 p.2) 26
      obtain ⟨y, hy⟩ : ∃ y, (if putE p.1 p.2 = 0 then 7 else putE p.1 p.2) = y := ⟨_, rfl⟩
      rw [hy] at CP
      clear hrd hcs hp hpf hy
      go_wp2_with (go_at_call 27; refine CP.mono ?_; clear CP; rintro e w2 ⟨rfl, hw2⟩; subst hw2)
      exact ⟨⟨k + 1, by omega, by go_num, HB⟩, by simp [intOf]; omega⟩
    · go_wp2
      go_end0
      exact ⟨rfl, HS.out⟩
end Go.Proofs.Ytolafffpgkgadaa
