/-
  The walk of the law HistBounds: the entries are the last of the lines that were taken. Conditions: what the law reads is of at most 1048576 values and letters.
-/
import Derived.Test.YtgakgebhhmkclaaHLaw
import Derived.Test.YtgakgebhhmkclaaUHop
import Derived.ArgAppend
namespace Go.Proofs.Ytgakgebhhmkclaa
open Go.RowKit

/-- a row of texts of the law's own, which may begin within its block -/
def OR (W : World) (base : Nat) (v : Value) (l : Tl) : Prop := (v = .slice none 0 0 ∧ l = []) ∨ ∃ g o c cur, v = .slice (some ⟨g, o, none⟩) l.length c ∧ base ≤ g ∧ W.heap[g]? = some (.cells cur 9 (0, 0)) ∧ l.length ≤ c ∧ o + c ≤ cur.size ∧ ∀ (k : Nat) s, l[k]? = some s → cur[o + k]? = some (.string s)
theorem OR.rds {W : World} {base : Nat} {v : Value} {l : Tl} (h : OR W base v l) : RdS W v l := by
  rcases h with ⟨rfl, rfl⟩ | ⟨g, o, c, cur, rfl, h1, h2, h3, h4, h5⟩
  · exact ⟨none, 0, rfl, fun h => absurd rfl h⟩
  · exact ⟨_, c, rfl, fun _ => ⟨g, o, rfl, (Array.getElem?_eq_some_iff.1 h2).1, fun k s hk => by simp [World.cell?, h2, h5 k s hk]⟩⟩
theorem OR.blk {W : World} {base g : Nat} {v : Value} {l : Tl} (h : OR W base v l) (hg : v.ownBlock = some g) : base ≤ g ∧ g < W.heap.size := by
  rcases h with ⟨rfl, rfl⟩ | ⟨g, o, c, cur, rfl, h1, h2, h3, h4, h5⟩
  · cases hg
  · cases hg; exact ⟨h1, (Array.getElem?_eq_some_iff.1 h2).1⟩
theorem OR.of_heap {W W' : World} {base : Nat} {v : Value} {l : Tl} (h : OR W base v l) (e : ∀ g, v.ownBlock = some g → W'.heap[g]? = W.heap[g]?) : OR W' base v l := by
  rcases h with h | ⟨g, o, c, cur, rfl, h1, h2, h3⟩
  · exact .inl h
  · exact .inr ⟨g, o, c, cur, rfl, h1, (e g rfl).trans h2, h3⟩
theorem OR.of_row {W : World} {base n : Nat} {v : Value} {l : Tl} (h : W.ownsRow base 9 1 v n (sv l)) : OR W base v l := by
  have hl : l.length = n := by have := h.1; rw [sv_len] at this; omega
  rcases h.2 with ⟨rfl, h0⟩ | ⟨g, cap, cur, rfl, hb, hc, hle, hmx, hsz, htk⟩
  · exact .inl ⟨rfl, List.eq_nil_of_length_eq_zero (by omega)⟩
  · refine .inr ⟨g, 0, cap, cur, by rw [hl], hb, hc, by omega, by omega, fun k s hk => ?_⟩
    rw [Nat.mul_one] at htk
    have h1 := sv_get hk
    rw [← htk] at h1
    have hk2 : k < n := by have := (List.getElem?_eq_some_iff.1 hk).1; omega
    rw [List.getElem?_take_of_lt hk2, Array.getElem?_toList] at h1
    rw [Nat.zero_add]; exact h1
theorem OR.base' {W : World} {base base' : Nat} {v : Value} {l : Tl} (h : OR W base v l) (hb : base' ≤ base) : OR W base' v l := by
  rcases h with h | ⟨g, o, c, cur, rfl, h1, h2⟩
  · exact .inl h
  · exact .inr ⟨g, o, c, cur, rfl, by omega, h2⟩
/-- one text appended: as an equation -/
theorem OR.app {W : World} {base : Nat} {v : Value} {l : Tl} (h : OR W base v l) (hn : l.length ≤ 1001) (hb : base ≤ W.heap.size) (p : ByteArray) : ∃ v' W', (Builtin.append_ #[38, 38] 38 #[v, .slice (some ⟨W.heap.size, 0, none⟩) 1 1]).run Try.prog (W.alloc (.cells #[.string p] 9)) = .ok v' W' ∧ OR W' base v' (l ++ [p]) ∧ W.grownBy W' v.ownBlock ∧ ∀ g, v'.ownBlock = some g → v.ownBlock = some g ∨ W.heap.size ≤ g := by
  obtain ⟨i0, hi, hz0, hz1, hz2⟩ := info_parts infoS
  rcases h with ⟨rfl, rfl⟩ | ⟨g, o, c, cur, rfl, h1, h2, h3, h4, h5⟩
  · obtain ⟨v', W', q1, q2, q3, q4⟩ := app_run (p := p) (l := []) (World.ownsRow_nil W base 9 1) (by omega) hb
    exact ⟨v', W', q1, OR.of_row q2, q3, q4⟩
  · have hgl : g < W.heap.size := (Array.getElem?_eq_some_iff.1 h2).1
    have hA := World.grownBy_alloc W (.cells #[.string p] 9) (some g)
    have h2' : (W.alloc (.cells #[.string p] 9)).heap[g]? = some (.cells cur 9 (0, 0)) := ((World.grownBy_alloc W (.cells #[.string p] 9) none).block g hgl (by simp)).trans h2
    have hnews := World.news_of_block (World.alloc_heap_new W (.cells #[.string p] 9))
    by_cases hroom : l.length + 1 ≤ c
    · have hrun := run_append_room_cells (P := Try.prog) (W.alloc (.cells #[.string p] 9)) 38 38 9 i0 Try.underlying38 hi g o l.length c ⟨W.heap.size, 0, none⟩ 1 1 [.string p] (by rw [hz1]; rfl) hnews (by simp [Value.oneCell']) hroom (fun j hj => by
          simp at hj; subst hj; rw [hz1]; exact there_of h2' (by omega)) (fun j hj => frozen_of h2')
      rw [hz1] at hrun
      refine ⟨_, _, hrun, .inr ⟨g, o, c, _, by rw [List.length_append]; rfl, h1, set1 (i := o + l.length * 1) (.string p) h2', by rw [List.length_append]; exact hroom, by rw [Array.size_setIfInBounds]; exact h4, fun k s hk => ?_⟩, grown2 hA (gcell _ g (o + l.length * 1) (.string p)), fun g' e => .inl e⟩
      rw [Nat.mul_one, Array.getElem?_setIfInBounds]
      by_cases hk2 : k < l.length
      · rw [if_neg (by omega)]
        rw [List.getElem?_append_left hk2] at hk
        exact h5 k s hk
      · have : k = l.length := by have := (List.getElem?_eq_some_iff.1 hk).1; rw [List.length_append] at this; simp at this; omega
        subst this
        rw [List.getElem?_append_right (Nat.le_refl _), Nat.sub_self] at hk
        cases hk
        rw [if_pos rfl, if_pos (by omega)]
    · obtain ⟨v', W', q1, q2, q3⟩ := run_append_arg_grows (P := Try.prog) (W.alloc (.cells #[.string p] 9)) 38 38 9 i0 _ 1 16 Try.underlying38 hi hz0 hz1 hz2 rfl (by decide) ⟨g, o, none⟩ l.length c (sv l) (by rw [sv_len, Nat.mul_one]) (fun j u hj => by
          obtain ⟨y, hy⟩ : ∃ y, l[j]? = some y := by
            have := (List.getElem?_eq_some_iff.1 hj).1
            rw [sv_len] at this
            exact ⟨_, List.getElem?_eq_getElem this⟩
          rw [sv_get hy] at hj
          cases hj
          rw [Go.WideShapes.add_plain]
          simp [World.cell?, h2', h5 j y hy]) ⟨W.heap.size, 0, none⟩ 1 1 [.string p] rfl hnews (by omega) (by unfold maxLen; omega) (by omega)
      have hsz := hA.size
      have e1 : sv l ++ [Value.string p] = sv (l ++ [p]) := (sv_app l [p]).symm
      rw [e1] at q2
      refine ⟨v', W', q1, (OR.of_row q2).base' (by omega), grown2 hA ⟨q3.os, q3.tape, q3.output, q3.size, fun k hk _ => q3.block k hk (by simp)⟩, fun g' e => .inr ?_⟩
      have := (row_blk q2 e).2.1
      omega
/-- without its first -/
theorem OR.tail {W : World} {base g o c m : Nat} {x : ByteArray} {l : Tl} (h : OR W base (.slice (some ⟨g, o, none⟩) (m + 1) c) (x :: l)) (hm : 0 < m) :
    (∀ W, (Instr.sliceAt 38 (.slice (some ⟨g, o, none⟩) (m + 1) c) (some (.int .i64 1)) none none).run Try.prog W = .ok (.slice (some ⟨g, o + 1, none⟩) m (c - 1)) W) ∧ OR W base (.slice (some ⟨g, o + 1, none⟩) m (c - 1)) l := by
  rcases h with ⟨h, _⟩ | ⟨g', o', c', cur, e, h1, h2, h3, h4, h5⟩
  · cases h
  obtain ⟨e1, e2, e3⟩ := Value.slice.inj e
  cases e1
  subst e3
  have hl : l.length = m := by simp at e2; omega
  rw [List.length_cons, hl] at h3
  refine ⟨fun W => ?_, .inr ⟨g, o + 1, c - 1, cur, by rw [hl], h1, h2, by omega, by omega, fun k s hk => ?_⟩⟩
  · rw [run_sliceAt_slice _ _ _ _ _ _ unLS, run_slice_l _ _ _ _ _ unLS _ _ (by omega) (by omega), szLS]
    simp only [Result.andThen, sliced, Option.map_some]
    have e1 : (1 : Int).toNat = 1 := rfl
    rw [e1, Nat.add_sub_cancel, if_neg (by omega), Go.WideShapes.add_plain]
  · have := h5 (k + 1) s (by simpa using hk)
    rw [show o + 1 + k = o + (k + 1) by omega]; exact this
/-- a history at rest beside a list of its entries that the law keeps -/
def Pt (w : World) (pb : Nat) (l : Tl) (x : Value) (h : Hs) (W : World) : Prop := ∃ F, Pr W w.heap.size pb F h ∧ (∀ g, x.ownBlock = some g → ¬ F g) ∧ OR W w.heap.size x l ∧ Below w.heap.size w W
theorem Pt.ps {w W : World} {pb : Nat} {l : Tl} {x : Value} {h : Hs} (k : Pt w pb l x h W) : Ps w pb h W := by obtain ⟨F, k1, _, _, k4⟩ := k; exact ⟨⟨F, k1⟩, k4⟩
theorem Pt.below {w W W' : World} {pb : Nat} {l : Tl} {x : Value} {h : Hs} (k : Pt w pb l x h W) (hb : Below W.heap.size W W') : Pt w pb l x h W' := by
  obtain ⟨F, k1, k2, k3, k4⟩ := k
  exact ⟨F, k1.below hb, k2, k3.of_heap (fun g hg => hb.block g (k3.blk hg).2), k4.trans (hb.mono k4.size)⟩
theorem add_pt {w W : World} {pb : Nat} {l : Tl} {x : Value} {h : Hs} (k : Pt w pb l x h W) {t : ByteArray} (ht : t.size ≤ 1099511627776) : Calls Try.prog 11 #[.pointer (some ⟨pb, 0, none⟩), .string t] W fun e W' => e = .returned (.bool (h.took t)) ∧ Pt w pb l x (h.add t) W' := by
  obtain ⟨F, k1, k2, k3, k4⟩ := k
  refine (add_any k1 ht).mono ?_
  rintro e W' ⟨q1, F', q2, q3⟩
  refine ⟨q1, F', q2, fun g hg e => ?_, k3.of_heap (fun g hg => q3.ch.2.2.2.2 g (k3.blk hg).2 (k2 g hg)), (Ps.mv k1 k4 q2 q3).2⟩
  rcases q3.nx g e with e | e
  · exact k2 g hg e
  · have := (k3.blk hg).2; omega
/-- the list turned -/
theorem Pt.app {w W : World} {pb : Nat} {l : Tl} {x : Value} {h : Hs} (k : Pt w pb l x h W) (hn : l.length ≤ 1001) (p : ByteArray) : ∃ x' W', (Builtin.append_ #[38, 38] 38 #[x, .slice (some ⟨W.heap.size, 0, none⟩) 1 1]).run Try.prog (W.alloc (.cells #[.string p] 9)) = .ok x' W' ∧ Pt w pb (l ++ [p]) x' h W' := by
  obtain ⟨F, k1, k2, k3, k4⟩ := k
  obtain ⟨x', W', q1, q2, q3, q4⟩ := k3.app hn k4.size p
  refine ⟨x', W', q1, F, k1.of_heap (fun g hg => q3.block g (k1.fp hg).2 (fun e => k2 g e.symm hg)), fun g hg e => ?_, q2, k4.grown q3 k4.size (fun g e => (k3.blk e).1)⟩
  rcases q4 g hg with e2 | e2
  · exact k2 g e2 e
  · have := (k1.fp e).2; omega
theorem Pt.tail {w W : World} {pb g o c m : Nat} {y : ByteArray} {l : Tl} {h : Hs} (k : Pt w pb (y :: l) (.slice (some ⟨g, o, none⟩) (m + 1) c) h W) (hm : 0 < m) :
    (∀ W, (Instr.sliceAt 38 (.slice (some ⟨g, o, none⟩) (m + 1) c) (some (.int .i64 1)) none none).run Try.prog W = .ok (.slice (some ⟨g, o + 1, none⟩) m (c - 1)) W) ∧ Pt w pb l (.slice (some ⟨g, o + 1, none⟩) m (c - 1)) h W := by
  obtain ⟨F, k1, k2, k3, k4⟩ := k
  obtain ⟨q1, q2⟩ := k3.tail hm
  exact ⟨q1, F, k1, fun g hg => k2 g hg, q2, k4⟩
theorem Pt.sl {w W : World} {pb : Nat} {l : Tl} {x : Value} {h : Hs} (k : Pt w pb l x h W) : ∃ a c, x = .slice a l.length c ∧ (∀ (j : Nat) s, l[j]? = some s → ∃ g o, a = some ⟨g, o, none⟩ ∧ W.cell? ⟨g, o + j, none⟩ = some (.string s)) := by
  obtain ⟨_, _, _, k3, _⟩ := k
  obtain ⟨a, c, rfl, hr⟩ := k3.rds
  refine ⟨a, c, rfl, fun j s hj => ?_⟩
  obtain ⟨g, o, rfl, _, hc⟩ := hr (fun e => by rw [e] at hj; cases hj)
  exact ⟨g, o, rfl, hc j s hj⟩
theorem push_eq {h : Hs} {t : ByteArray} (hk : h.took t = true) (hl : h.es.length ≤ h.b) : (h.add t).es = if h.b < h.es.length + 1 then (h.es ++ [t]).tail else h.es ++ [t] := by
  have e : h.add t = h.push t := by simp [Hs.add, hk]
  rw [e]
  show pushL h.b h.es t = _
  have h0 : 0 < h.b := by simp only [Hs.took, decide_eq_true_eq] at hk; exact hk.2.1
  unfold pushL
  by_cases hf : h.es.length = h.b
  · rw [if_pos hf, if_pos (by omega)]
    cases he : h.es with
    | nil => rw [he] at hf; simp at hf; omega
    | cons x l => rfl
  · rw [if_neg hf, if_neg (by omega)]
theorem add_no {h : Hs} {t : ByteArray} (hk : h.took t = false) : (h.add t).es = h.es := by simp [Hs.add, hk, Hs.home]
theorem add_b (h : Hs) (t : ByteArray) : (h.add t).b = h.b := by unfold Hs.add; split <;> rfl
set_option maxRecDepth 100000 in
set_option maxHeartbeats 8000000 in
theorem walk_of (b : Int) (la : Option Addr) (ln lc : Nat) (w : World) (hb : -9223372036854775808 ≤ b ∧ b ≤ 9223372036854775807) (ls : Tl) (hL : RdS w (.slice la ln lc) ls) (hl : tls ls ≤ 1048576 ∧ True) :
    Calls Try.prog 6 #[.int .i64 b, .slice la ln lc] w fun e w' => e = .returned (.bool true) ∧ Below w.heap.size w w' := by
  have hN : ls.length = ln := by obtain ⟨_, _, e, _⟩ := hL; cases e; rfl
  have hln : ln ≤ 1048576 := by have := tls_len ls; omega
  have HL : Hid (RdS w (.slice la ln lc) ls ∧ ls.length = ln ∧ ∀ s ∈ ls, s.size ≤ 1099511627776) := ⟨hL, hN, fun s hs => by have := tls_mem hs; omega⟩
  have CK : Hid (Calls Try.prog 9 #[] w fun e w' => e = .returned (.bool true) ∧ Hid (Below w.heap.size w w')) := awake_any w
  obtain ⟨B, hB⟩ : ∃ B, (Hs.new b).b = B := ⟨_, rfl⟩
  have hB3 : B ≤ 1000 := hB ▸ (Hs.Ok.new b).b
  have hmin : min (max b 0) 1000 = (B : Int) := by
    rw [← hB]
    show min (max b 0) 1000 = ((if b < 0 then 0 else if 1000 < b then 1000 else b.toNat : Nat) : Int)
    split
    · omega
    · split <;> omega
  have HB : Hid ((Hs.new b).b = B) := hB
  have CN : Hid (∀ W, Below w.heap.size w W → Calls Try.prog 10 #[.int .i64 b] W fun e W' => ∃ pb, e = .returned (.pointer (some ⟨pb, 0, none⟩)) ∧ Hid (Pt w pb [] (.slice none 0 0) (Hs.new b) W')) := fun W hW => (new_ps hb hW).mono (by
    rintro e W' ⟨pb, rfl, ⟨F, q1⟩, q2⟩
    exact ⟨pb, rfl, F, q1, fun g e => (by cases e), .inl ⟨rfl, rfl⟩, q2⟩)
  have CE : Hid (∀ W pb (h : Hs) x (n : Nat), h.es.length = n → Pt w pb h.es x h W → Calls Try.prog 18 #[.pointer (some ⟨pb, 0, none⟩)] W fun e W' => ∃ a c, e = .returned (.slice a n c) ∧ Hid (RdS W' (.slice a n c) h.es ∧ Pt w pb h.es x h W')) := fun W pb h x n hn k => (entries_ps k.ps).mono (by
    rintro e W' ⟨a, c, rfl, q1, q2, q3⟩
    rw [hn] at q1 ⊢
    exact ⟨a, c, rfl, RdS.of_row q1, k.below q3⟩)
  have CS : Hid (∀ W pb (h : Hs) a c a' c' (n : Nat), h.es.length = n → n ≤ 1000 → RdS W (.slice a n c) h.es ∧ Pt w pb h.es (.slice a' n c') h W → Calls Try.prog 19 #[.slice a n c, .slice a' n c'] W fun e W' => e = .returned (.bool true) ∧ Hid (Pt w pb h.es (.slice a' n c') h W')) := fun W pb h a c a' c' n hn hn3 k => by
    have k3 : RdS W (.slice a' n c') h.es := by obtain ⟨_, _, _, k3, _⟩ := k.2; exact k3.rds
    exact (same_any hn (by omega) k.1 k3).mono fun e W' q => ⟨q.1, k.2.below q.2⟩
  have CP : Hid (∀ W pb (h : Hs) x (n : Nat), h.es.length = n → h.Rest → Pt w pb h.es x h W → Calls Try.prog 26 #[.pointer (some ⟨pb, 0, none⟩)] W fun e W' => e = .returned (.int .i64 (n : Int)) ∧ W' = W) := fun W pb h x n hn hr k => by have := place_ps k.ps; rw [hr.1, hn] at this; exact this
  have CL : Hid (∀ W pb (h : Hs) x (n : Nat), h.es.length = n → Pt w pb h.es x h W → Calls Try.prog 16 #[.pointer (some ⟨pb, 0, none⟩)] W fun e W' => e = .returned (.int .i64 (n : Int)) ∧ W' = W) := fun W pb h x n hn k => by have := len_ps k.ps; rw [hn] at this; exact this
  have CD : Hid (∀ W pb h x, h.Rest → Pt w pb h.es x h W → Calls Try.prog 27 #[.pointer (some ⟨pb, 0, none⟩)] W fun e W' => e = .returned (.int .i64 0) ∧ Hid (Pt w pb h.es x h W')) := fun W pb h x hr k => by
    have k0 := k.ps
    obtain ⟨⟨F, v, d, k1, _⟩, _⟩ := k0
    have := drafts_any k1
    rw [hr.2] at this
    exact this.mono fun e W' q => ⟨q.1, k.below q.2⟩
  have CBd : Hid (∀ W pb h x, h.b = B → Pt w pb h.es x h W → Calls Try.prog 28 #[.pointer (some ⟨pb, 0, none⟩)] W fun e W' => e = .returned (.int .i64 (B : Int)) ∧ W' = W) := fun W pb h x hb k => by have := bound_ps k.ps; rw [hb] at this; exact this
  clear hL hl hN hB
  go_enter Try.func6, Try.ntmps6
  go_wp2_with (first
    | (go_at_call 9; refine CK.out.mono ?_; clear CK; rintro e w1 ⟨rfl, H1⟩)
    | (go_at_call 10; refine (CN.out _ H1.out).mono ?_; clear CN H1; rintro e w2 ⟨pb, rfl, H2⟩))
  go_loopw [7, 8] (fun t7 t8 wr => ∃ (k n : Nat) (xa : Option Addr) (xc : Nat), k ≤ ln ∧ n ≤ B ∧ t8 = .int .i64 k ∧ t7 = .slice xa n xc ∧ Hid (∃ h, Pt w pb h.es (.slice xa n xc) h wr ∧ h.Rest ∧ h.b = B ∧ h.es.length = n)) (fun _ t8 _ => ln - (intOf t8).toNat)
  case atStart => exact ⟨0, 0, none, 0, Nat.zero_le _, Nat.zero_le _, rfl, rfl, _, H2.out, Hs.Rest.new b, HB.out, rfl⟩
  case round =>
    obtain ⟨k, n, xa, xc, hk, hnB, rfl, rfl, HK⟩ := hrel
    clear H2
    obtain ⟨h, hp, hr, hbB, hn⟩ := HK.out
    clear HK
    by_cases hlt : k < ln
    · obtain ⟨t, ht⟩ : ∃ t, ls[k]? = some t := ⟨ls[k]'(by rw [HL.out.2.1]; exact hlt), List.getElem?_eq_getElem _⟩
      obtain ⟨lg, lo, rfl, hcl⟩ := HL.out.1.at hp.ps.2 ht
      have hts := HL.out.2.2 t (List.mem_of_getElem? ht)
      have HCt : Hid (∀ W, Below w.heap.size w W → W.cell? ⟨lg, lo + k, none⟩ = some (.string t)) := fun W hb => by obtain ⟨g', o', e, q⟩ := HL.out.1.at hb ht; cases e; exact q
      have hlt' : (k : Int) < (ln : Int) := by omega
      have CA : Hid (∀ W, Pt w pb h.es (.slice xa n xc) h W → Calls Try.prog 11 #[.pointer (some ⟨pb, 0, none⟩), .string t] W fun e W' => e = .returned (.bool (h.took t)) ∧ Hid (Pt w pb h.es (.slice xa n xc) (h.add t) W')) := fun W q => add_pt q hts
      have hr' : (h.add t).Rest := Hs.Rest.add h t
      have hb' : (h.add t).b = B := by rw [add_b]; exact hbB
      have hok : (h.add t).Ok := hp.ps.ok.add hts
      have hlb : h.es.length ≤ h.b := hp.ps.ok.len
      have HP : Hid (Pt w pb h.es (.slice xa n xc) h wr) := hp
      have HPd : Hid (∀ m, Pt w pb h.es (.slice xa n xc) h (wr.drewN m)) := fun m => HP.out.below (drewN_below _ _ _)
      have hn3 : n ≤ 1000 := by omega
      clear hp ht
      by_cases h0 : t = ⟨#[]⟩
      · have hkf : h.took t = false := by simp [Hs.took, h0]
        subst h0
        rw [hkf] at CA
        have hes' : (h.add ⟨#[]⟩).es = h.es := add_no hkf
        have hn' : (h.add ⟨#[]⟩).es.length = n := by rw [hes']; exact hn
        have hgt : ¬ (B : Int) < (n : Int) := by omega
        rw [← hes'] at CA
        generalize h.add ⟨#[]⟩ = h' at CA hr' hb' hok hes' hn'
        have HPd2 : Hid (∀ m, Pt w pb h'.es (.slice xa n xc) h (wr.drewN m)) := fun m => by rw [hes']; exact HPd.out m
        clear hes' hok hlb hr hbB hn HPd hkf
        go_upto_region 9 with fail
        go_quiet (fail)
        have HPx : Hid (Pt w pb h'.es (.slice xa n xc) h (wr.drewN nq)) := HPd2.out nq
        have d0 := HCt.out _ HPx.out.ps.2
        clear HPd2 HP hcl
        obtain ⟨W1, hW1⟩ : ∃ W1, wr.drewN nq = W1 := ⟨_, rfl⟩
        rw [hW1] at HPx d0 ⊢
        clear hW1
        go_wp2_with (first
          | (go_at_call 11; refine (CA.out _ HPx.out).mono ?_; clear CA HPx; rintro e w4 ⟨rfl, H4⟩)
          | (go_at_call 18; refine (CE.out _ _ _ _ _ hn' H4.out).mono ?_; clear CE H4; rintro e w5 ⟨ya, yc, rfl, H5⟩)
          | (go_at_call 19; refine (CS.out _ _ _ _ _ _ _ _ hn' hn3 H5.out).mono ?_; clear CS H5; rintro e w6 ⟨rfl, H6⟩)
          | (go_at_call 26; refine (CP.out _ _ _ _ _ hn' hr' H6.out).mono ?_; clear CP; rintro e w7 ⟨rfl, hw⟩; subst hw)
          | (go_at_call 16; refine (CL.out _ _ _ _ _ hn' H6.out).mono ?_; clear CL; rintro e w7 ⟨rfl, hw⟩; subst hw)
          | (go_at_call 27; refine (CD.out _ _ _ _ hr' H6.out).mono ?_; clear CD H6; rintro e w8 ⟨rfl, H8⟩))
        exact ⟨⟨k + 1, n, xa, xc, by omega, hnB, by go_num, rfl, h', H8.out, hr', hb', hn'⟩, by simp [intOf]; omega⟩
      · have hemp := not_emp h0
        by_cases hB0 : B = 0
        · have hkf : h.took t = false := by simp [Hs.took, hbB, hB0]
          have hB1 : ¬ (0 : Int) < (B : Int) := by omega
          have hB2 : decide ((0 : Int) < (B : Int)) = false := by simp; omega
          have hB4 : decide (0 < B) = false := by simp; omega
          clear hB0 hB1
          rw [hkf] at CA
          have hes' : (h.add t).es = h.es := add_no hkf
          have hn' : (h.add t).es.length = n := by rw [hes']; exact hn
          have hgt : ¬ (B : Int) < (n : Int) := by omega
          rw [← hes'] at CA
          generalize h.add t = h' at CA hr' hb' hok hes' hn'
          have HPd2 : Hid (∀ m, Pt w pb h'.es (.slice xa n xc) h (wr.drewN m)) := fun m => by rw [hes']; exact HPd.out m
          clear hes' hok hlb hr hbB hn HPd hkf
          go_upto_region 9 with fail
          go_quiet (fail)
          have HPx : Hid (Pt w pb h'.es (.slice xa n xc) h (wr.drewN nq)) := HPd2.out nq
          have d0 := HCt.out _ HPx.out.ps.2
          clear HPd2 HP hcl
          obtain ⟨W1, hW1⟩ : ∃ W1, wr.drewN nq = W1 := ⟨_, rfl⟩
          rw [hW1] at HPx d0 ⊢
          clear hW1
          go_wp2_with (first
            | (go_at_call 11; refine (CA.out _ HPx.out).mono ?_; clear CA HPx; rintro e w4 ⟨rfl, H4⟩)
            | (go_at_call 18; refine (CE.out _ _ _ _ _ hn' H4.out).mono ?_; clear CE H4; rintro e w5 ⟨ya, yc, rfl, H5⟩)
            | (go_at_call 19; refine (CS.out _ _ _ _ _ _ _ _ hn' hn3 H5.out).mono ?_; clear CS H5; rintro e w6 ⟨rfl, H6⟩)
            | (go_at_call 26; refine (CP.out _ _ _ _ _ hn' hr' H6.out).mono ?_; clear CP; rintro e w7 ⟨rfl, hw⟩; subst hw)
            | (go_at_call 16; refine (CL.out _ _ _ _ _ hn' H6.out).mono ?_; clear CL; rintro e w7 ⟨rfl, hw⟩; subst hw)
            | (go_at_call 27; refine (CD.out _ _ _ _ hr' H6.out).mono ?_; clear CD H6; rintro e w8 ⟨rfl, H8⟩))
          exact ⟨⟨k + 1, n, xa, xc, by omega, hnB, by go_num, rfl, h', H8.out, hr', hb', hn'⟩, by simp [intOf]; omega⟩
        · have hB1 : (0 : Int) < (B : Int) := by omega
          have hB2 : decide ((0 : Int) < (B : Int)) = true := by simp; omega
          have hB4 : decide (0 < B) = true := by simp; omega
          by_cases hn0 : n = 0
          · have hnil : h.es = [] := List.eq_nil_of_length_eq_zero (by omega)
            have hkt : h.took t = true := by simp [Hs.took, h0, hnil, hbB]; omega
            have hz1 : ((n : Int) == 0) = true := by simp; omega
            have hfull : ¬ B < n + 1 := by omega
            have hz3 : (n == 0) = true := by simp; omega
            have hz4 : decide (n = 0) = true := by simp; omega
            clear hnil hn0
            rw [hkt] at CA
            have hes' := push_eq hkt hlb
            rw [hbB, hn] at hes'
            rw [if_neg hfull] at hes'
            have hn' : (h.add t).es.length = n + 1 := by rw [hes', List.length_append, hn]; rfl
            generalize h.add t = h' at CA hr' hb' hok hes' hn'
            have HAP : Hid (∀ W, Pt w pb h.es (.slice xa n xc) h' W → ∃ a5 c5 W5, (Builtin.append_ #[38, 38] 38 #[.slice xa n xc, .slice (some ⟨W.heap.size, 0, none⟩) 1 1]).run Try.prog (W.alloc (.cells #[.string t] 9)) = .ok (.slice a5 (n + 1) c5) W5 ∧ Hid (Pt w pb h'.es (.slice a5 (n + 1) c5) h' W5)) := fun W q => by
              obtain ⟨x5, W5, q1, q2⟩ := q.app (by omega) t
              obtain ⟨a5, c5, rfl, q3⟩ := q2.sl
              have hlen : (h.es ++ [t]).length = n + 1 := by rw [List.length_append, hn]; rfl
              rw [hlen] at q1 q2
              exact ⟨a5, c5, W5, q1, by rw [hes']; exact q2⟩
            have hgt : ¬ (B : Int) < (n : Int) + 1 := by omega
            have hn13 : n + 1 ≤ 1000 := by omega
            have hn1B : n + 1 ≤ B := by omega
            clear hes' hok hlb hr hbB hn hkt
            go_upto_region 9 with fail
            go_quiet (fail)
            have HPx : Hid (Pt w pb h.es (.slice xa n xc) h (wr.drewN nq)) := HPd.out nq
            have d0 := HCt.out _ HPx.out.ps.2
            clear HPd HP hcl
            obtain ⟨W1, hW1⟩ : ∃ W1, wr.drewN nq = W1 := ⟨_, rfl⟩
            rw [hW1] at HPx d0 ⊢
            clear hW1
            go_wp2_with (first
              | (go_at_call 11; refine (CA.out _ HPx.out).mono ?_; clear CA HPx; rintro e w4 ⟨rfl, H4⟩; have d1 := HCt.out _ H4.out.ps.2; obtain ⟨a5, c5, W5, hrun, HP5⟩ := HAP.out _ H4.out; clear HAP H4)
              | (at_builtin; refine Lib.wpList_append_run _ rfl _ _ 38 38 rfl _ _ rfl rfl _ _ hrun ?_)
              | (go_at_call 18; refine (CE.out _ _ _ _ _ hn' HP5.out).mono ?_; clear CE HP5; rintro e w5 ⟨ya, yc, rfl, H5⟩)
              | (go_at_call 19; refine (CS.out _ _ _ _ _ _ _ _ hn' hn13 H5.out).mono ?_; clear CS H5; rintro e w6 ⟨rfl, H6⟩)
              | (go_at_call 26; refine (CP.out _ _ _ _ _ hn' hr' H6.out).mono ?_; clear CP; rintro e w7 ⟨rfl, hw⟩; subst hw)
              | (go_at_call 16; refine (CL.out _ _ _ _ _ hn' H6.out).mono ?_; clear CL; rintro e w7 ⟨rfl, hw⟩; subst hw)
              | (go_at_call 27; refine (CD.out _ _ _ _ hr' H6.out).mono ?_; clear CD H6; rintro e w8 ⟨rfl, H8⟩))
            exact ⟨⟨k + 1, n + 1, _, _, by omega, hn1B, by go_num, rfl, h', H8.out, hr', hb', hn'⟩, by simp [intOf]; omega⟩
          · obtain ⟨j, hj⟩ : ∃ j, n = j + 1 := ⟨n - 1, by omega⟩
            obtain ⟨s, hs⟩ : ∃ s, h.es[j]? = some s := ⟨h.es[j]'(by omega), List.getElem?_eq_getElem _⟩
            have hlast : h.es.getLast? = some s := by rw [List.getLast?_eq_getElem?, hn, hj, Nat.add_sub_cancel, hs]
            obtain ⟨xa', xc', ex, hxc⟩ := HP.out.sl
            obtain ⟨rfl, -, rfl⟩ := Value.slice.inj ex
            obtain ⟨g, o, rfl, hx0⟩ := hxc j s hs
            have hz1 : ((n : Int) == 0) = false := by simp; omega
            have hz2 : ¬ (n : Int) = 0 := by omega
            have hz3 : (n == 0) = false := by simp; omega
            have hz4 : decide (n = 0) = false := by simp; omega
            have hwr : IntKind.i64.wrap ((n : Int) - 1) = (j : Int) := by rw [IntKind.wrap_i64]; omega
            have hjj : ((n : Int) - 1) = (j : Int) := by omega
            have hj1 : (j : Int) < (n : Int) := by omega
            have hj2 : j < n := by omega
            clear ex hxc hs
            by_cases hst : s = t
            · have hkf : h.took t = false := by simp [Hs.took, hlast, hst]
              subst hst
              clear hlast hj
              rw [hkf] at CA
              have hes' : (h.add s).es = h.es := add_no hkf
              have hn' : (h.add s).es.length = n := by rw [hes']; exact hn
              have hgt : ¬ (B : Int) < (n : Int) := by omega
              rw [← hes'] at CA
              generalize h.add s = h' at CA hr' hb' hok hes' hn'
              have HPd2 : Hid (∀ m, Pt w pb h'.es (.slice (some ⟨g, o, none⟩) n xc) h (wr.drewN m)) := fun m => by rw [hes']; exact HPd.out m
              clear hes' hok hlb hr hbB hn HPd hkf
              go_upto_region 9 with fail
              go_quiet (fail)
              have HPx : Hid (Pt w pb h'.es (.slice (some ⟨g, o, none⟩) n xc) h (wr.drewN nq)) := HPd2.out nq
              have d0 := HCt.out _ HPx.out.ps.2
              clear HPd2 HP hcl hx0
              obtain ⟨W1, hW1⟩ : ∃ W1, wr.drewN nq = W1 := ⟨_, rfl⟩
              rw [hW1] at HPx d0 ⊢
              clear hW1
              go_wp2_with (first
                | (go_at_call 11; refine (CA.out _ HPx.out).mono ?_; clear CA HPx; rintro e w4 ⟨rfl, H4⟩)
                | (go_at_call 18; refine (CE.out _ _ _ _ _ hn' H4.out).mono ?_; clear CE H4; rintro e w5 ⟨ya, yc, rfl, H5⟩)
                | (go_at_call 19; refine (CS.out _ _ _ _ _ _ _ _ hn' hn3 H5.out).mono ?_; clear CS H5; rintro e w6 ⟨rfl, H6⟩)
                | (go_at_call 26; refine (CP.out _ _ _ _ _ hn' hr' H6.out).mono ?_; clear CP; rintro e w7 ⟨rfl, hw⟩; subst hw)
                | (go_at_call 16; refine (CL.out _ _ _ _ _ hn' H6.out).mono ?_; clear CL; rintro e w7 ⟨rfl, hw⟩; subst hw)
                | (go_at_call 27; refine (CD.out _ _ _ _ hr' H6.out).mono ?_; clear CD H6; rintro e w8 ⟨rfl, H8⟩))
              exact ⟨⟨k + 1, n, _, _, by omega, hnB, by go_num, rfl, h', H8.out, hr', hb', hn'⟩, by simp [intOf]; omega⟩
            · have hkt : h.took t = true := by simp [Hs.took, h0, hlast, hbB, hst]; omega
              have hsn := not_same hst
              have hn1 : 1 ≤ n := by omega
              clear hlast hj
              by_cases hfull : B < n + 1
              · rw [hkt] at CA
                have hes' := push_eq hkt hlb
                rw [hbB, hn] at hes'
                rw [if_pos hfull] at hes'
                obtain ⟨y, tl, hy⟩ : ∃ y tl, h.es = y :: tl := List.exists_cons_of_ne_nil (fun e => by rw [e] at hn; simp at hn; omega)
                have hes2 : (h.add t).es = tl ++ [t] := by rw [hes', hy]; rfl
                have hn' : (h.add t).es.length = n := by rw [hes2, List.length_append]; rw [hy] at hn; simp at hn; simp; omega
                generalize h.add t = h' at CA hr' hb' hok hes' hn' hes2
                have HAP : Hid (∀ W, Pt w pb h.es (.slice (some ⟨g, o, none⟩) n xc) h' W → ∃ g5 o5 c5 W5, (Builtin.append_ #[38, 38] 38 #[.slice (some ⟨g, o, none⟩) n xc, .slice (some ⟨W.heap.size, 0, none⟩) 1 1]).run Try.prog (W.alloc (.cells #[.string t] 9)) = .ok (.slice (some ⟨g5, o5, none⟩) (n + 1) c5) W5 ∧ (∀ W, (Instr.sliceAt 38 (.slice (some ⟨g5, o5, none⟩) (n + 1) c5) (some (.int .i64 1)) none none).run Try.prog W = .ok (.slice (some ⟨g5, o5 + 1, none⟩) n (c5 - 1)) W) ∧ Hid (Pt w pb h'.es (.slice (some ⟨g5, o5 + 1, none⟩) n (c5 - 1)) h' W5)) := fun W q => by
                  obtain ⟨x5, W5, q1, q2⟩ := q.app (by omega) t
                  obtain ⟨a5, c5, rfl, q3⟩ := q2.sl
                  have hlen : (h.es ++ [t]).length = n + 1 := by rw [List.length_append, hn]; rfl
                  obtain ⟨g5, o5, rfl, _⟩ := q3 0 y (by rw [hy]; rfl)
                  rw [hlen] at q1 q2
                  rw [hy, List.cons_append] at q2
                  obtain ⟨q4, q5⟩ := q2.tail (by omega)
                  exact ⟨g5, o5, c5, W5, q1, q4, by rw [hes2]; exact q5⟩
                have hgt : (B : Int) < (n : Int) + 1 := by omega
                clear hes' hok hlb hr hbB hn hkt hes2 hy
                go_upto_region 9 with fail
                go_quiet (fail)
                have HPx : Hid (Pt w pb h.es (.slice (some ⟨g, o, none⟩) n xc) h (wr.drewN nq)) := HPd.out nq
                have d0 := HCt.out _ HPx.out.ps.2
                clear HPd HP hcl
                obtain ⟨W1, hW1⟩ : ∃ W1, wr.drewN nq = W1 := ⟨_, rfl⟩
                rw [hW1] at HPx d0 ⊢
                clear hW1 hx0
                go_wp2_with (first
                  | (go_at_call 11; refine (CA.out _ HPx.out).mono ?_; clear CA HPx; rintro e w4 ⟨rfl, H4⟩; have d1 := HCt.out _ H4.out.ps.2; obtain ⟨g5, o5, c5, W5, hrun, hsl, HP5⟩ := HAP.out _ H4.out; clear HAP H4)
                  | (at_builtin; refine Lib.wpList_append_run _ rfl _ _ 38 38 rfl _ _ rfl rfl _ _ hrun ?_)
                  | (go_at_call 18; refine (CE.out _ _ _ _ _ hn' HP5.out).mono ?_; clear CE HP5; rintro e w5 ⟨ya, yc, rfl, H5⟩)
                  | (go_at_call 19; refine (CS.out _ _ _ _ _ _ _ _ hn' hn3 H5.out).mono ?_; clear CS H5; rintro e w6 ⟨rfl, H6⟩)
                  | (go_at_call 26; refine (CP.out _ _ _ _ _ hn' hr' H6.out).mono ?_; clear CP; rintro e w7 ⟨rfl, hw⟩; subst hw)
                  | (go_at_call 16; refine (CL.out _ _ _ _ _ hn' H6.out).mono ?_; clear CL; rintro e w7 ⟨rfl, hw⟩; subst hw)
                  | (go_at_call 27; refine (CD.out _ _ _ _ hr' H6.out).mono ?_; clear CD H6; rintro e w8 ⟨rfl, H8⟩))
                exact ⟨⟨k + 1, n, _, _, by omega, hnB, by go_num, rfl, h', H8.out, hr', hb', hn'⟩, by simp [intOf]; omega⟩
              · rw [hkt] at CA
                have hes' := push_eq hkt hlb
                rw [hbB, hn] at hes'
                rw [if_neg hfull] at hes'
                have hn' : (h.add t).es.length = n + 1 := by rw [hes', List.length_append, hn]; rfl
                generalize h.add t = h' at CA hr' hb' hok hes' hn'
                have HAP : Hid (∀ W, Pt w pb h.es (.slice (some ⟨g, o, none⟩) n xc) h' W → ∃ a5 c5 W5, (Builtin.append_ #[38, 38] 38 #[.slice (some ⟨g, o, none⟩) n xc, .slice (some ⟨W.heap.size, 0, none⟩) 1 1]).run Try.prog (W.alloc (.cells #[.string t] 9)) = .ok (.slice a5 (n + 1) c5) W5 ∧ Hid (Pt w pb h'.es (.slice a5 (n + 1) c5) h' W5)) := fun W q => by
                  obtain ⟨x5, W5, q1, q2⟩ := q.app (by omega) t
                  obtain ⟨a5, c5, rfl, q3⟩ := q2.sl
                  have hlen : (h.es ++ [t]).length = n + 1 := by rw [List.length_append, hn]; rfl
                  rw [hlen] at q1 q2
                  exact ⟨a5, c5, W5, q1, by rw [hes']; exact q2⟩
                have hgt : ¬ (B : Int) < (n : Int) + 1 := by omega
                have hn13 : n + 1 ≤ 1000 := by omega
                have hn1B : n + 1 ≤ B := by omega
                clear hes' hok hlb hr hbB hn hkt
                go_upto_region 9 with fail
                go_quiet (fail)
                have HPx : Hid (Pt w pb h.es (.slice (some ⟨g, o, none⟩) n xc) h (wr.drewN nq)) := HPd.out nq
                have d0 := HCt.out _ HPx.out.ps.2
                clear HPd HP hcl
                obtain ⟨W1, hW1⟩ : ∃ W1, wr.drewN nq = W1 := ⟨_, rfl⟩
                rw [hW1] at HPx d0 ⊢
                clear hW1 hx0
                go_wp2_with (first
                  | (go_at_call 11; refine (CA.out _ HPx.out).mono ?_; clear CA HPx; rintro e w4 ⟨rfl, H4⟩; have d1 := HCt.out _ H4.out.ps.2; obtain ⟨a5, c5, W5, hrun, HP5⟩ := HAP.out _ H4.out; clear HAP H4)
                  | (at_builtin; refine Lib.wpList_append_run _ rfl _ _ 38 38 rfl _ _ rfl rfl _ _ hrun ?_)
                  | (go_at_call 18; refine (CE.out _ _ _ _ _ hn' HP5.out).mono ?_; clear CE HP5; rintro e w5 ⟨ya, yc, rfl, H5⟩)
                  | (go_at_call 19; refine (CS.out _ _ _ _ _ _ _ _ hn' hn13 H5.out).mono ?_; clear CS H5; rintro e w6 ⟨rfl, H6⟩)
                  | (go_at_call 26; refine (CP.out _ _ _ _ _ hn' hr' H6.out).mono ?_; clear CP; rintro e w7 ⟨rfl, hw⟩; subst hw)
                  | (go_at_call 16; refine (CL.out _ _ _ _ _ hn' H6.out).mono ?_; clear CL; rintro e w7 ⟨rfl, hw⟩; subst hw)
                  | (go_at_call 27; refine (CD.out _ _ _ _ hr' H6.out).mono ?_; clear CD H6; rintro e w8 ⟨rfl, H8⟩))
                exact ⟨⟨k + 1, n + 1, _, _, by omega, hn1B, by go_num, rfl, h', H8.out, hr', hb', hn'⟩, by simp [intOf]; omega⟩
    · have HF : Hid (∃ h, Pt w pb h.es (.slice xa n xc) h wr ∧ h.b = B) := ⟨h, hp, hbB⟩
      have CB2 : Hid (Calls Try.prog 28 #[.pointer (some ⟨pb, 0, none⟩)] wr fun e W' => e = .returned (.int .i64 (B : Int)) ∧ W' = wr) := CBd.out _ _ _ _ hbB hp
      clear hp hr hbB hn
      go_wp2_with (go_at_call 28; refine CB2.out.mono ?_; clear CB2; rintro e w4 ⟨rfl, hw⟩; subst hw)
      go_ret
      obtain ⟨h, hp, _⟩ := HF.out
      exact ⟨by simp, hp.ps.2⟩
end Go.Proofs.Ytgakgebhhmkclaa
