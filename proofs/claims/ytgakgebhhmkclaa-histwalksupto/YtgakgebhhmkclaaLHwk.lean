/-
  The walk of the law HistWalks: what was typed at each place of the history is found there again, up to the oldest and down again. Conditions: what the law reads is of at most 1048576 values and letters.
-/
import Derived.Test.YtgakgebhhmkclaaHLaw
import Derived.Test.YtgakgebhhmkclaaUHop
namespace Go.Proofs.Ytgakgebhhmkclaa
open Go.RowKit

/-- a history beside a list of texts that it has answered -/
def Pa (w : World) (pb : Nat) (l : Tl) (x : Value) (h : Hs) (W : World) : Prop := ∃ F, Pr W w.heap.size pb F h ∧ (∀ g, x.ownBlock = some g → ¬ F g ∧ g < W.heap.size) ∧ RdS W x l ∧ Below w.heap.size w W
theorem Pa.ps {w W : World} {pb : Nat} {l : Tl} {x : Value} {h : Hs} (k : Pa w pb l x h W) : Ps w pb h W := by obtain ⟨F, k1, _, _, k4⟩ := k; exact ⟨⟨F, k1⟩, k4⟩
theorem RdS.of_heap {W W' : World} {x : Value} {l : Tl} (h : RdS W x l) (e : ∀ g, x.ownBlock = some g → W'.heap[g]? = W.heap[g]?) (hs : W.heap.size ≤ W'.heap.size) : RdS W' x l := by
  obtain ⟨a, c, rfl, hr⟩ := h
  refine ⟨a, c, rfl, fun h0 => ?_⟩
  obtain ⟨g, o, rfl, hg, hc⟩ := hr h0
  exact ⟨g, o, rfl, by omega, fun k s hk => (World.cell?_of_block (e g rfl)).trans (hc k s hk)⟩
theorem Pa.mv {w W W' : World} {pb : Nat} {l : Tl} {x : Value} {h h' : Hs} {F F' : Nat → Prop} (k1 : Pr W w.heap.size pb F h) (k2 : ∀ g, x.ownBlock = some g → ¬ F g ∧ g < W.heap.size) (k3 : RdS W x l) (k4 : Below w.heap.size w W) (k' : Pr W' w.heap.size pb F' h') (hm : Mv W F W' F') : Pa w pb l x h' W' := by
  have hsz := hm.ch.2.2.2.1
  refine ⟨F', k', fun g hg => ⟨fun e => ?_, by have := (k2 g hg).2; omega⟩, k3.of_heap (fun g hg => hm.ch.2.2.2.2 g (k2 g hg).2 (k2 g hg).1) hsz, (Ps.mv k1 k4 k' hm).2⟩
  rcases hm.nx g e with e | e
  · exact (k2 g hg).1 e
  · have := (k2 g hg).2; omega
theorem Pa.below {w W W' : World} {pb : Nat} {l : Tl} {x : Value} {h : Hs} (k : Pa w pb l x h W) (hb : Below W.heap.size W W') : Pa w pb l x h W' := by
  obtain ⟨F, k1, k2, k3, k4⟩ := k
  exact Pa.mv k1 k2 k3 k4 (k1.below hb) (Mv.below hb)
section
variable {w W : World} {pb : Nat} {l : Tl} {x : Value} {h : Hs}
theorem back_pa (k : Pa w pb l x h W) {t : ByteArray} (ht : t.size ≤ 1099511627776) : Calls Try.prog 15 #[.pointer (some ⟨pb, 0, none⟩), .string t] W fun e W' => e = .returned (.tuple #[.string (h.backA t).1, .int .i64 (h.backA t).2]) ∧ Pa w pb l x (h.back t) W' := by
  obtain ⟨F, k1, k2, k3, k4⟩ := k
  exact (back_any k1 ht).mono fun e W' ⟨q1, F', q2, q3⟩ => ⟨q1, Pa.mv k1 k2 k3 k4 q2 q3⟩
theorem forward_pa (k : Pa w pb l x h W) {t : ByteArray} (ht : t.size ≤ 1099511627776) : Calls Try.prog 22 #[.pointer (some ⟨pb, 0, none⟩), .string t] W fun e W' => e = .returned (.tuple #[.string (h.fwdA t).1, .int .i64 (h.fwdA t).2]) ∧ Pa w pb l x (h.fwd t) W' := by
  obtain ⟨F, k1, k2, k3, k4⟩ := k
  exact (forward_any k1 ht).mono fun e W' ⟨q1, F', q2, q3⟩ => ⟨q1, Pa.mv k1 k2 k3 k4 q2 q3⟩
theorem home_pa (k : Pa w pb l x h W) : Calls Try.prog 25 #[.pointer (some ⟨pb, 0, none⟩)] W fun e W' => e = .returned (.tuple #[]) ∧ Pa w pb l x h.home W' := by
  obtain ⟨F, k1, k2, k3, k4⟩ := k
  have k0 := k1
  obtain ⟨v, d, k1, rfl⟩ := k1
  exact (home_any k1).mono fun e W' ⟨q1, q2, q3⟩ => ⟨q1, Pa.mv k0 k2 k3 k4 ⟨_, _, q2, rfl⟩ q3⟩
theorem entries_pa (k : Ps w pb h W) : Calls Try.prog 18 #[.pointer (some ⟨pb, 0, none⟩)] W fun e W' => ∃ a c, e = .returned (.slice a h.es.length c) ∧ Pa w pb h.es (.slice a h.es.length c) h W' := by
  have k0 := k
  obtain ⟨⟨F, k1⟩, kb⟩ := k
  refine (entries_ps k0).mono ?_
  rintro e W' ⟨a, c, rfl, q1, q2, q3⟩
  refine ⟨a, c, rfl, F, k1.below q3, fun g hg => ⟨fun e => ?_, (row_blk q1 hg).2.2⟩, RdS.of_row q1, q2.2⟩
  have := (row_blk q1 hg).2.1
  have := (k1.fp e).2
  omega
end
/-- the text left at the place p -/
def wt (es : Tl) (now : ByteArray) (p : Nat) : ByteArray := if p = es.length then now else es.getD p ⟨#[]⟩ ++ ⟨#[43]⟩
/-- on the way up, at the place i -/
structure Up (es : Tl) (T : Nat → ByteArray) (h : Hs) (i : Nat) : Prop where
  eq : h.es = es
  pl : h.pl = i
  lo : ∀ p, p < i → gt h.nt p = none
  hi : ∀ p, i < p → p ≤ es.length → gt h.nt p = some (T p)
theorem Up.step {es : Tl} {T : Nat → ByteArray} {h : Hs} {i : Nat} (k : Up es T h (i + 1)) (hi : i < es.length) : h.backA (T (i + 1)) = (es.getD i ⟨#[]⟩, 0) ∧ Up es T (h.back (T (i + 1))) i := by
  have e0 : ((i + 1 : Nat) : Int) - 1 = (i : Int) := by omega
  have e1 : h.back (T (i + 1)) = h.go i (T (i + 1)) := by
    rw [Hs.back, if_neg (by rw [k.pl]; omega), k.pl, e0, Hs.goes, if_pos (by rw [k.eq]; omega), Int.toNat_natCast]
  have hg : ∀ q, gt (h.go i (T (i + 1))).nt q = if q = i + 1 then some (T (i + 1)) else gt h.nt q := fun q => by
    show gt (noted h.nt h.pl (T (i + 1))) q = _
    rw [gt_noted, k.pl]
  constructor
  · rw [Hs.backA, if_neg (by rw [k.pl]; omega), k.pl, e0, Hs.goA, if_pos (by rw [k.eq]; omega), Int.toNat_natCast, Hs.txt, hg, if_neg (by omega), k.lo i (by omega)]
    show (h.es.getD i ⟨#[]⟩, (0 : Int)) = _
    rw [k.eq]
  · rw [e1]
    refine ⟨k.eq, rfl, fun p hp => ?_, fun p hp hp2 => ?_⟩
    · rw [hg, if_neg (by omega)]; exact k.lo p (by omega)
    · rw [hg]
      split
      · rename_i e; rw [e]
      · exact k.hi p (by omega) hp2
theorem Up.stop {es : Tl} {T : Nat → ByteArray} {h : Hs} (k : Up es T h 0) (t : ByteArray) : h.backA t = (⟨#[]⟩, 9) ∧ h.back t = h := by
  rw [Hs.backA, Hs.back, if_pos k.pl, if_pos k.pl]; exact ⟨rfl, rfl⟩
/-- on the way down, at the place i -/
structure Dn (es : Tl) (T : Nat → ByteArray) (h : Hs) (i : Nat) : Prop where
  eq : h.es = es
  pl : h.pl = i
  at' : ∀ p, p ≠ i → p ≤ es.length → gt h.nt p = some (T p)
theorem Up.dn {es : Tl} {T : Nat → ByteArray} {h : Hs} (k : Up es T h 0) : Dn es T h 0 := ⟨k.eq, k.pl, fun p hp hp2 => k.hi p (by omega) hp2⟩
theorem Dn.step {es : Tl} {T : Nat → ByteArray} {h : Hs} {i : Nat} (k : Dn es T h i) (hi : i < es.length) : h.fwdA (T i) = (T (i + 1), 0) ∧ Dn es T (h.fwd (T i)) (i + 1) := by
  have e0 : (i : Int) + 1 = ((i + 1 : Nat) : Int) := by omega
  have e1 : h.fwd (T i) = h.go (i + 1) (T i) := by
    rw [Hs.fwd, if_neg (by rw [k.pl, k.eq]; omega), k.pl, e0, Hs.goes, if_pos (by rw [k.eq]; omega), Int.toNat_natCast]
  have hg : ∀ q, gt (h.go (i + 1) (T i)).nt q = if q = i then some (T i) else gt h.nt q := fun q => by
    show gt (noted h.nt h.pl (T i)) q = _
    rw [gt_noted, k.pl]
  constructor
  · rw [Hs.fwdA, if_neg (by rw [k.pl, k.eq]; omega), k.pl, e0, Hs.goA, if_pos (by rw [k.eq]; omega), Int.toNat_natCast, Hs.txt, hg, if_neg (by omega), k.at' (i + 1) (by omega) (by omega)]
    rfl
  · rw [e1]
    refine ⟨k.eq, rfl, fun p hp hp2 => ?_⟩
    rw [hg]
    split
    · rename_i e; rw [e]
    · rename_i e; exact k.at' p e hp2
theorem Dn.stop {es : Tl} {T : Nat → ByteArray} {h : Hs} (k : Dn es T h es.length) (t : ByteArray) : h.fwdA t = (⟨#[]⟩, 9) ∧ h.fwd t = h := by
  rw [Hs.fwdA, Hs.fwd, if_pos (by rw [k.pl, k.eq]), if_pos (by rw [k.pl, k.eq])]; exact ⟨rfl, rfl⟩
theorem Up.rest {es : Tl} {T : Nat → ByteArray} {h : Hs} (hr : h.Rest) (he : h.es = es) : Up es T h es.length :=
  ⟨he, by rw [hr.1, he], fun p _ => by rw [hr.2]; rfl, fun p h1 h2 => by omega⟩
theorem mem_pushL {b : Nat} {es : Tl} {t s : ByteArray} (h : s ∈ pushL b es t) : s ∈ es ∨ s = t := by
  unfold pushL at h
  split at h
  · rcases List.mem_append.1 h with h | h
    · exact .inl (List.mem_of_mem_tail h)
    · exact .inr (List.mem_singleton.1 h)
  · rcases List.mem_append.1 h with h | h
    · exact .inl h
    · exact .inr (List.mem_singleton.1 h)
theorem mem_fill {h : Hs} {l : Tl} {s : ByteArray} (hs : s ∈ (h.fill l).es) : s ∈ h.es ∨ s ∈ l := by
  induction l generalizing h with
  | nil => exact .inl hs
  | cons x l ih =>
    rcases ih hs with h1 | h1
    · unfold Hs.add at h1
      split at h1
      · rcases mem_pushL h1 with h2 | h2
        · exact .inl h2
        · exact .inr (by rw [h2]; exact List.mem_cons_self)
      · exact .inl h1
    · exact .inr (List.mem_cons_of_mem _ h1)
theorem wt_size {es : Tl} {now : ByteArray} (he : ∀ s ∈ es, s.size ≤ 1048576) (hn : now.size ≤ 1048576) (p : Nat) : (wt es now p).size ≤ 1048577 := by
  unfold wt
  split
  · omega
  · rw [ByteArray.size_append, List.getD_eq_getElem?_getD]
    have h1 : (⟨#[43]⟩ : ByteArray).size = 1 := rfl
    cases e : es[p]? with
    | none => show (⟨#[]⟩ : ByteArray).size + _ ≤ _; rw [h1]; show 0 + 1 ≤ _; omega
    | some s => have := he s (List.mem_of_getElem? e); show s.size + _ ≤ _; omega
set_option maxRecDepth 100000 in
set_option maxHeartbeats 8000000 in
theorem walk_of (b : Int) (la : Option Addr) (ln lc : Nat) (now : ByteArray) (w : World) (hb : -9223372036854775808 ≤ b ∧ b ≤ 9223372036854775807) (ls : Tl) (hL : RdS w (.slice la ln lc) ls) (hl : tls ls ≤ 1048576 ∧ True) (hnow : now.size ≤ 1048576) :
    Calls Try.prog 7 #[.int .i64 b, .slice la ln lc, .string now] w fun e w' => e = .returned (.bool true) ∧ Below w.heap.size w w' := by
  have hN : ls.length = ln := by obtain ⟨_, _, e, _⟩ := hL; cases e; rfl
  have hln : ln ≤ 1048576 := by have := tls_len ls; omega
  have CK : Hid (Calls Try.prog 9 #[] w fun e w' => e = .returned (.bool true) ∧ Hid (Below w.heap.size w w')) := awake_any w
  have CF : Hid (∀ W, Below w.heap.size w W → Calls Try.prog 29 #[.int .i64 b, .slice la ln lc] W fun e W' => ∃ pb, e = .returned (.pointer (some ⟨pb, 0, none⟩)) ∧ Hid (Ps w pb ((Hs.new b).fill ls) W')) := fun W hW => filled_any hb hL (fun s hs => by have := tls_mem hs; omega) hln hW
  have hok : ((Hs.new b).fill ls).Ok := (Hs.Ok.new b).fill (fun s hs => by have := tls_mem hs; omega)
  have hrest : ((Hs.new b).fill ls).Rest := (Hs.Rest.new b).fill ls
  have hmem : ∀ s ∈ ((Hs.new b).fill ls).es, s.size ≤ 1048576 := fun s hs => by
    rcases mem_fill hs with h | h
    · cases h
    · have := tls_mem h; omega
  generalize (Hs.new b).fill ls = H at CF hok hrest hmem
  obtain ⟨es, hes⟩ : ∃ es, H.es = es := ⟨_, rfl⟩
  obtain ⟨n, hn⟩ : ∃ n, es.length = n := ⟨_, rfl⟩
  have hn3 : n ≤ 1000 := by have h1 := hok.len; have h2 := hok.b; rw [hes] at h1; omega
  rw [hes] at hmem
  have HT : Hid (∀ p, (wt es now p).size ≤ 1048577) := wt_size hmem hnow
  have HTn : Hid (wt es now n = now) := by show wt es now n = now; rw [wt, if_pos hn.symm]
  have HTi : Hid (∀ i s, es[i]? = some s → wt es now i = s ++ ⟨#[43]⟩) := fun i s hs => by
    have := (List.getElem?_eq_some_iff.1 hs).1
    rw [wt, if_neg (by omega), List.getD_eq_getElem?_getD, hs]; rfl
  have CE : Hid (∀ W pb, Ps w pb H W → Calls Try.prog 18 #[.pointer (some ⟨pb, 0, none⟩)] W fun e W' => ∃ a c, e = .returned (.slice a n c) ∧ Hid (Pa w pb es (.slice a n c) H W')) := fun W pb k => by have := entries_pa k; rw [hes, hn] at this; exact this
  have HU0 : Hid (∀ T, Up es T H n) := fun T => hn ▸ Up.rest hrest hes
  have HM : Hid (∀ s ∈ es, s.size ≤ 1048576) := hmem
  have HN : Hid (es.length = n) := hn
  have HST : Hid (∀ a pb h T i W c, Pa w pb es (.slice a n c) h W → i < n → Up es T h (i + 1) → (T (i + 1)).size ≤ 1099511627776 → ∃ s, es[i]? = some s ∧ (∃ g o, a = some ⟨g, o, none⟩) ∧ Calls Try.prog 15 #[.pointer (some ⟨pb, 0, none⟩), .string (T (i + 1))] W fun e W' => e = .returned (.tuple #[.string s, .int .i64 0]) ∧ Hid (Pa w pb es (.slice a n c) (h.back (T (i + 1))) W' ∧ Up es T (h.back (T (i + 1))) i)) := fun a pb h T i W c k hi hu ht => by
    obtain ⟨f1, f2⟩ := hu.step (by omega)
    obtain ⟨s, hs⟩ : ∃ s, es[i]? = some s := ⟨es[i]'(by omega), List.getElem?_eq_getElem _⟩
    have k0 := k
    obtain ⟨_, _, _, k3, _⟩ := k
    obtain ⟨g, o, e, _⟩ := RdS.at k3 (Below.refl _ _) hs
    refine ⟨s, hs, ⟨g, o, e⟩, ?_⟩
    have := back_pa k0 ht
    rw [f1, List.getD_eq_getElem?_getD, hs] at this
    exact this.mono fun e W' q => ⟨q.1, q.2, f2⟩
  have HCL : Hid (∀ a pb h W c i s, Pa w pb es (.slice a n c) h W → es[i]? = some s → ∃ g o, a = some ⟨g, o, none⟩ ∧ W.cell? ⟨g, o + i, none⟩ = some (.string s)) := fun a pb h W c i s k hs => by
    obtain ⟨_, _, _, k3, _⟩ := k
    exact RdS.at k3 (Below.refl _ _) hs
  have CP : Hid (∀ a pb h W c, Pa w pb es (.slice a n c) h W → Calls Try.prog 26 #[.pointer (some ⟨pb, 0, none⟩)] W fun e W' => e = .returned (.int .i64 (h.pl : Int)) ∧ W' = W) := fun a pb h W c k => place_ps k.ps
  clear hL hl hN hok hrest hes hmem hn
  go_enter Try.func7, Try.ntmps7
  go_wp2_with (first
    | (go_at_call 9; refine CK.out.mono ?_; clear CK; rintro e w1 ⟨rfl, H1⟩)
    | (go_at_call 29; refine (CF.out _ H1.out).mono ?_; clear CF H1; rintro e w2 ⟨pb, rfl, H2⟩)
    | (go_at_call 18; refine (CE.out _ _ H2.out).mono ?_; clear CE H2; rintro e w3 ⟨xa, xc, rfl, H3⟩))
  go_loopw [9, 10] (fun t9 t10 wr => ∃ (i : Nat) (u : ByteArray), i ≤ n ∧ t10 = .int .i64 i ∧ t9 = .string u ∧ Hid (u = wt es now i ∧ ∃ h, Pa w pb es (.slice xa n xc) h wr ∧ Up es (wt es now) h i)) (fun _ t10 _ => (intOf t10).toNat)
  case atStart => exact ⟨n, now, Nat.le_refl _, rfl, rfl, HTn.out.symm, _, H3.out, HU0.out _⟩
  case round =>
    obtain ⟨i, u, hi, rfl, rfl, HK⟩ := hrel
    clear H3 HU0
    cases i with
    | succ i =>
      obtain ⟨hu, h, hp, hup⟩ := HK.out
      obtain ⟨s, hs, ⟨g, o, rfl⟩, hcall⟩ := HST.out _ _ _ _ i _ _ hp (by omega) hup (by have := HT.out (i + 1); omega)
      rw [← hu] at hcall
      have CB : Hid (Calls Try.prog 15 #[.pointer (some ⟨pb, 0, none⟩), .string u] wr fun e W' => e = .returned (.tuple #[.string s, .int .i64 0]) ∧ Hid (Pa w pb es (.slice (some ⟨g, o, none⟩) n xc) (h.back u) W' ∧ Up es (wt es now) (h.back u) i)) := hcall
      have hsz := HM.out s (List.mem_of_getElem? hs)
      have HW : Hid (wt es now i = s ++ ⟨#[43]⟩) := HTi.out i s hs
      have HCc : Hid (∀ h W, Pa w pb es (.slice (some ⟨g, o, none⟩) n xc) h W → W.cell? ⟨g, o + i, none⟩ = some (.string s)) := fun h W k => by obtain ⟨g', o', e, q⟩ := HCL.out _ _ _ _ _ i s k hs; cases e; exact q
      have hi1 : (((i + 1 : Nat) : Int) - 1) = (i : Int) := by omega
      have hlt : (i : Int) < (n : Int) := by omega
      have hlt2 : i < n := by omega
      have hpos : (0 : Int) < ((i + 1 : Nat) : Int) := by omega
      clear hcall hu hp hup hs HK
      go_wp2_with (first
        | (go_at_call 15; refine CB.out.mono ?_; clear CB; rintro e w4 ⟨rfl, H4⟩; have d0 := HCc.out _ _ H4.out.1)
        | (go_at_call 26; refine (CP.out _ _ _ _ _ H4.out.1).mono ?_; rw [H4.out.2.pl]; rintro e w5 ⟨rfl, hw⟩; subst hw))
      refine ⟨⟨i, _, by omega, by go_num, rfl, HW.out.symm, _, H4.out⟩, by simp [intOf]⟩
    | zero =>
      obtain ⟨hu, h, hp, hup⟩ := HK.out
      have CB : Hid (Calls Try.prog 15 #[.pointer (some ⟨pb, 0, none⟩), .string ⟨#[108, 111, 115, 116]⟩] wr fun e W' => e = .returned (.tuple #[.string ⟨#[]⟩, .int .i64 9]) ∧ Hid (Pa w pb es (.slice xa n xc) h W')) := by
        have := back_pa hp (t := ⟨#[108, 111, 115, 116]⟩) (by decide)
        rw [(hup.stop _).1, (hup.stop _).2] at this
        exact this
      have CP2 : Hid (∀ W, Pa w pb es (.slice xa n xc) h W → Calls Try.prog 26 #[.pointer (some ⟨pb, 0, none⟩)] W fun e W' => e = .returned (.int .i64 0) ∧ W' = W) := fun W k => by have := place_ps k.ps; rw [hup.pl] at this; exact this
      have HD : Hid (u = wt es now 0 ∧ Dn es (wt es now) h 0) := ⟨hu, hup.dn⟩
      clear hu hp hup HK HST
      go_wp2_with (first
        | (go_at_call 15; refine CB.out.mono ?_; clear CB; rintro e w4 ⟨rfl, H4⟩)
        | (go_at_call 26; refine (CP2.out _ H4.out).mono ?_; rintro e w5 ⟨rfl, hw⟩; subst hw))
      obtain ⟨wo, hwo⟩ : ∃ wo, wo = wr := ⟨_, rfl⟩
      subst hwo
      go_loopw [9, 15] (fun t9 t15 wr => ∃ (i : Nat) (u : ByteArray), i ≤ n ∧ t15 = .int .i64 i ∧ t9 = .string u ∧ Hid (u = wt es now i ∧ ∃ h, Pa w pb es (.slice xa n xc) h wr ∧ Dn es (wt es now) h i)) (fun _ t15 _ => n - (intOf t15).toNat)
      case atStart => exact ⟨0, u, Nat.zero_le _, rfl, rfl, HD.out.1, h, H4.out, HD.out.2⟩
      case round =>
        clear HD H4 CP2
        obtain ⟨i, u, hi, rfl, rfl, HK⟩ := hrel
        by_cases hlt : i < n
        · obtain ⟨hu, h2, hp, hdn⟩ := HK.out
          obtain ⟨f1, f2⟩ := hdn.step (by rw [HN.out]; exact hlt)
          have hT := HT.out i
          have CB : Hid (Calls Try.prog 22 #[.pointer (some ⟨pb, 0, none⟩), .string u] wr fun e W' => e = .returned (.tuple #[.string (wt es now (i + 1)), .int .i64 0]) ∧ Hid (Pa w pb es (.slice xa n xc) (h2.fwd u) W' ∧ Dn es (wt es now) (h2.fwd u) (i + 1))) := by
            have := forward_pa hp (t := u) (by rw [hu]; omega)
            rw [← hu] at f1 f2
            rw [f1] at this
            exact this.mono fun e W' q => ⟨q.1, q.2, f2⟩
          have CP2 : Hid (∀ W, Pa w pb es (.slice xa n xc) (h2.fwd u) W ∧ Dn es (wt es now) (h2.fwd u) (i + 1) → Calls Try.prog 26 #[.pointer (some ⟨pb, 0, none⟩)] W fun e W' => e = .returned (.int .i64 ((i : Int) + 1)) ∧ W' = W) := fun W k => by have := place_ps k.1.ps; rw [k.2.pl] at this; exact this
          have hlt' : (i : Int) < (n : Int) := by omega
          clear hu hp hdn f1 f2 hT
          by_cases hlast : i + 1 < n
          · obtain ⟨s, hs⟩ : ∃ s, es[i + 1]? = some s := ⟨es[i + 1]'(by rw [HN.out]; exact hlast), List.getElem?_eq_getElem _⟩
            have HW : Hid (wt es now (i + 1) = s ++ ⟨#[43]⟩) := HTi.out (i + 1) s hs
            have hsz := HM.out s (List.mem_of_getElem? hs)
            obtain ⟨g, o, rfl⟩ : ∃ g o, xa = some ⟨g, o, none⟩ := by obtain ⟨_, h3, hp3, _⟩ := HK.out; obtain ⟨g, o, e, _⟩ := HCL.out _ _ _ _ _ _ s hp3 hs; exact ⟨g, o, e⟩
            have HCc : Hid (∀ h W, Pa w pb es (.slice (some ⟨g, o, none⟩) n xc) h W → W.cell? ⟨g, o + (i + 1), none⟩ = some (.string s)) := fun h W k => by obtain ⟨g', o', e, q⟩ := HCL.out _ _ _ _ _ (i + 1) s k hs; cases e; exact q
            have hlast' : (i : Int) + 1 < (n : Int) := by omega
            have HWt : Hid (wt es now (i + 1) = s ++ ⟨#[43]⟩) := HW
            rw [HW.out] at CB
            clear hs HK HW
            go_wp2_with (first
              | (go_at_call 22; refine CB.out.mono ?_; clear CB; rintro e w6 ⟨rfl, H6⟩; have d0 := HCc.out _ _ H6.out.1)
              | (go_at_call 26; refine (CP2.out _ H6.out).mono ?_; clear CP2; rintro e w7 ⟨rfl, hw⟩; subst hw))
            refine ⟨⟨i + 1, _, by omega, by go_num, rfl, HWt.out.symm, _, H6.out⟩, by simp [intOf]; omega⟩
          · have hin : i + 1 = n := by omega
            have HWt : Hid (wt es now (i + 1) = now) := by show wt es now (i + 1) = now; rw [hin]; exact HTn.out
            have hlast' : ¬ (i : Int) + 1 < (n : Int) := by omega
            rw [HWt.out] at CB
            clear HK hin
            go_wp2_with (first
              | (go_at_call 22; refine CB.out.mono ?_; clear CB; rintro e w6 ⟨rfl, H6⟩)
              | (go_at_call 26; refine (CP2.out _ H6.out).mono ?_; clear CP2; rintro e w7 ⟨rfl, hw⟩; subst hw))
            refine ⟨⟨i + 1, _, by omega, by go_num, rfl, HWt.out.symm, _, H6.out⟩, by simp [intOf]; omega⟩
        · obtain ⟨hu, h2, hp, hdn⟩ := HK.out
          obtain rfl : i = n := by omega
          have hdn2 : Dn es (wt es now) h2 es.length := by rw [HN.out]; exact hdn
          have CB : Hid (Calls Try.prog 22 #[.pointer (some ⟨pb, 0, none⟩), .string ⟨#[108, 111, 115, 116]⟩] wr fun e W' => e = .returned (.tuple #[.string ⟨#[]⟩, .int .i64 9]) ∧ Hid (Pa w pb es (.slice xa i xc) h2 W')) := by
            have := forward_pa hp (t := ⟨#[108, 111, 115, 116]⟩) (by decide)
            rw [(hdn2.stop _).1, (hdn2.stop _).2] at this
            exact this
          have CE : Hid (∀ W, Pa w pb es (.slice xa i xc) h2 W → Calls Try.prog 18 #[.pointer (some ⟨pb, 0, none⟩)] W fun e W' => ∃ a c, e = .returned (.slice a i c) ∧ Hid (RdS W' (.slice a i c) es ∧ Pa w pb es (.slice xa i xc) h2 W')) := fun W k => (entries_ps k.ps).mono (by
            rintro e W' ⟨a, c, rfl, q1, q2, q3⟩
            rw [hdn2.eq, HN.out] at q1
            exact ⟨a, c, congrArg Ending.returned (by rw [hdn2.eq, HN.out]), RdS.of_row q1, k.below q3⟩)
          have CS : Hid (∀ W a c, RdS W (.slice a i c) es ∧ Pa w pb es (.slice xa i xc) h2 W → Calls Try.prog 19 #[.slice a i c, .slice xa i xc] W fun e W' => e = .returned (.bool true) ∧ Hid (Pa w pb es (.slice xa i xc) h2 W')) := fun W a c k => by
            have k3 : RdS W (.slice xa i xc) es := by obtain ⟨_, _, _, k3, _⟩ := k.2; exact k3
            exact (same_any HN.out (by omega) k.1 k3).mono fun e W' q => ⟨q.1, k.2.below q.2⟩
          have CH : Hid (∀ W, Pa w pb es (.slice xa i xc) h2 W → Calls Try.prog 25 #[.pointer (some ⟨pb, 0, none⟩)] W fun e W' => e = .returned (.tuple #[]) ∧ Hid (Pa w pb es (.slice xa i xc) h2.home W' ∧ Up es (fun _ => ⟨#[]⟩) h2.home i)) := fun W k => (home_pa k).mono fun e W' q => ⟨q.1, q.2, by have := Up.rest (es := es) (T := fun _ => ⟨#[]⟩) (h := h2.home) ⟨rfl, rfl⟩ hdn2.eq; rw [HN.out] at this; exact this⟩
          clear hu hp hdn hdn2 HK
          go_wp2_with (first
            | (go_at_call 22; refine CB.out.mono ?_; clear CB; rintro e w6 ⟨rfl, H6⟩)
            | (go_at_call 18; refine (CE.out _ H6.out).mono ?_; clear CE H6; rintro e w7 ⟨ya, yc, rfl, H7⟩)
            | (go_at_call 19; refine (CS.out _ _ _ H7.out).mono ?_; clear CS H7; rintro e w8 ⟨rfl, H8⟩)
            | (go_at_call 25; refine (CH.out _ H8.out).mono ?_; clear CH H8; rintro e w9 ⟨rfl, H9⟩))
          obtain ⟨wo2, hwo2⟩ : ∃ wo2, wo2 = wr := ⟨_, rfl⟩
          subst hwo2
          go_loopw [19] (fun t19 wr => ∃ (j : Nat), j ≤ i ∧ t19 = .int .i64 j ∧ Hid (∃ h, Pa w pb es (.slice xa i xc) h wr ∧ Up es (fun _ => ⟨#[]⟩) h j)) (fun t19 _ => (intOf t19).toNat)
          case atStart => exact ⟨i, Nat.le_refl _, rfl, _, H9.out⟩
          case round =>
            clear H9
            obtain ⟨j, hj, rfl, HK⟩ := hrel
            cases j with
            | succ j =>
              obtain ⟨h3, hp, hup⟩ := HK.out
              obtain ⟨f1, f2⟩ := hup.step (by rw [HN.out]; omega)
              obtain ⟨s, hs⟩ : ∃ s, es[j]? = some s := ⟨es[j]'(by rw [HN.out]; omega), List.getElem?_eq_getElem _⟩
              have CB : Hid (Calls Try.prog 15 #[.pointer (some ⟨pb, 0, none⟩), .string ⟨#[]⟩] wr fun e W' => e = .returned (.tuple #[.string s, .int .i64 0]) ∧ Hid (Pa w pb es (.slice xa i xc) (h3.back ⟨#[]⟩) W' ∧ Up es (fun _ => ⟨#[]⟩) (h3.back ⟨#[]⟩) j)) := by
                have := back_pa hp (t := ⟨#[]⟩) (by decide)
                rw [f1, List.getD_eq_getElem?_getD, hs] at this
                exact this.mono fun e W' q => ⟨q.1, q.2, f2⟩
              obtain ⟨g, o, rfl, -⟩ := HCL.out _ _ _ _ _ j s hp hs
              have HCc : Hid (∀ h W, Pa w pb es (.slice (some ⟨g, o, none⟩) i xc) h W → W.cell? ⟨g, o + j, none⟩ = some (.string s)) := fun h W k => by obtain ⟨g', o', e, q⟩ := HCL.out _ _ _ _ _ j s k hs; cases e; exact q
              have hi1 : (((j + 1 : Nat) : Int) - 1) = (j : Int) := by omega
              have hltj : (j : Int) < (i : Int) := by omega
              have hltj2 : j < i := by omega
              have hpos : (0 : Int) < ((j + 1 : Nat) : Int) := by omega
              clear hp hup f1 f2 hs HK
              go_wp2_with (first
                | (go_at_call 15; refine CB.out.mono ?_; clear CB; rintro e w10 ⟨rfl, H10⟩; have d0 := HCc.out _ _ H10.out.1))
              refine ⟨⟨j, by omega, by go_num, _, H10.out⟩, by simp [intOf]⟩
            | zero =>
              go_wp2
              go_ret
              obtain ⟨h3, hp, _⟩ := HK.out
              exact ⟨rfl, hp.ps.2⟩
end Go.Proofs.Ytgakgebhhmkclaa
