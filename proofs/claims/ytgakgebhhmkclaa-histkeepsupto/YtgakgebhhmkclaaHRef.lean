/-
  The document's own history: New, Bound, Len, Place, Drafts, Entry, Entries, Home. Conditions: those of each theorem.
-/
import Derived.Test.YtgakgebhhmkclaaHAdd
namespace Go.Proofs.Ytgakgebhhmkclaa
open Go.RowKit

section
variable {w : World} {base pb : Nat} {v d : Value} {h : Hs}
theorem Rv.small (k : Rv w base pb v d h) : h.es.length ≤ 1000 := by have := k.ok.len; have := k.ok.b; omega
theorem nt_small {h : Hs} (k : h.Ok) : h.nt.length ≤ 1001 := by
  have h1 := gt_count h.nt k.nd _ k.nl
  have h2 := cnt_le h.nt (h.es.length + 1)
  have := k.len
  have := k.b
  omega
set_option maxRecDepth 100000 in
theorem rbound_any (k : Rv w base pb v d h) : Calls Try.prog 35 #[.pointer (some ⟨pb, 0, none⟩)] w fun e w' => e = .returned (.int .i64 (h.b : Int)) ∧ w' = w := by
  obtain ⟨⟨c0, c1, c2, c3⟩, _⟩ := box4 k.box
  clear k
  go_enter Try.func35, Try.ntmps35
  go_wp2
  go_ret
  exact ⟨rfl, rfl⟩
set_option maxRecDepth 100000 in
theorem rlen_any (k : Rv w base pb v d h) : Calls Try.prog 32 #[.pointer (some ⟨pb, 0, none⟩)] w fun e w' => e = .returned (.int .i64 (h.es.length : Int)) ∧ w' = w := by
  obtain ⟨⟨c0, c1, c2, c3⟩, _⟩ := box4 k.box
  obtain ⟨a, c, rfl, _⟩ := k.row.sl
  clear k
  go_enter Try.func32, Try.ntmps32
  go_wp2
  go_ret
  exact ⟨rfl, rfl⟩
set_option maxRecDepth 100000 in
theorem rplace_any (k : Rv w base pb v d h) : Calls Try.prog 33 #[.pointer (some ⟨pb, 0, none⟩)] w fun e w' => e = .returned (.int .i64 (h.pl : Int)) ∧ w' = w := by
  obtain ⟨⟨c0, c1, c2, c3⟩, _⟩ := box4 k.box
  clear k
  go_enter Try.func33, Try.ntmps33
  go_wp2
  go_ret
  exact ⟨rfl, rfl⟩
set_option maxRecDepth 100000 in
theorem rdrafts_any (k : Rv w base pb v d h) : Calls Try.prog 34 #[.pointer (some ⟨pb, 0, none⟩)] w fun e w' => e = .returned (.int .i64 (h.nt.length : Int)) ∧ w' = w := by
  obtain ⟨⟨c0, c1, c2, c3⟩, _⟩ := box4 k.box
  obtain ⟨a, c, rfl, _⟩ := row_slice k.dr
  clear k
  go_enter Try.func34, Try.ntmps34
  go_wp2
  go_ret
  exact ⟨rfl, rfl⟩
theorem Rv.home (k : Rv w base pb v d h) : Rv ((w.setCell ⟨pb, 2, none⟩ (.int .i64 (h.es.length : Int))).setCell ⟨pb, 3, none⟩ (.slice none 0 0)) base pb v (.slice none 0 0) h.home ∧ Mv w (Fp pb v d) ((w.setCell ⟨pb, 2, none⟩ (.int .i64 (h.es.length : Int))).setCell ⟨pb, 3, none⟩ (.slice none 0 0)) (Fp pb v (.slice none 0 0)) := by
  have hm : Mv w (Fp pb v d) ((w.setCell ⟨pb, 2, none⟩ (.int .i64 (h.es.length : Int))).setCell ⟨pb, 3, none⟩ (.slice none 0 0)) (Fp pb v (.slice none 0 0)) :=
    (Mv.cell (F' := Fp pb v d) (.inl rfl) (fun _ e => .inl e)).trans (Mv.cell (.inl rfl) (fun g e => by
      rcases e with e | e | e
      · exact .inl (.inl e)
      · exact .inl (.inr (.inl e))
      · cases e))
  refine ⟨⟨set1 (i := 3) _ (set1 (i := 2) _ k.box), k.row.of_heap (fun g hg => ?_), World.ownsRow_nil _ _ _ _, k.low, k.ok.home⟩, hm⟩
  have hne := k.ne.1 g hg
  have hlt := (k.row.blk g hg).2.1
  rw [(gcell _ pb 3 _).block g (by rw [World.setCell]; simpa using hlt) (fun e => hne (Option.some.inj e)), (gcell w pb 2 _).block g hlt (fun e => hne (Option.some.inj e))]
set_option maxRecDepth 100000 in
theorem rhome_any (k : Rv w base pb v d h) : Calls Try.prog 40 #[.pointer (some ⟨pb, 0, none⟩)] w fun e w' => e = .returned (.tuple #[]) ∧ Rv w' base pb v (.slice none 0 0) h.home ∧ Mv w (Fp pb v d) w' (Fp pb v (.slice none 0 0)) := by
  obtain ⟨⟨c0, c1, c2, c3⟩, f0, f1, f2, f3⟩ := box4 k.box
  have HX : Hid _ := k.home
  obtain ⟨a, c, rfl, _⟩ := k.row.sl
  obtain ⟨n, hn⟩ : ∃ n, h.es.length = n := ⟨_, rfl⟩
  rw [hn] at c1 HX ⊢
  obtain ⟨da, dc, rfl, _⟩ := row_slice k.dr
  clear k hn
  go_enter Try.func40, Try.ntmps40
  go_wp2
  go_end0
  exact ⟨rfl, HX.out⟩
set_option maxRecDepth 100000 in
set_option maxHeartbeats 1000000 in
theorem rentry_any (k : Rv w base pb v d h) {i : Int} (hi : -9223372036854775808 ≤ i ∧ i ≤ 9223372036854775807) : Calls Try.prog 41 #[.pointer (some ⟨pb, 0, none⟩), .int .i64 i] w fun e w' => e = .returned (.tuple #[.string (h.ent i).1, .int .i64 (h.ent i).2]) ∧ w' = w := by
  obtain ⟨⟨c0, c1, c2, c3⟩, _⟩ := box4 k.box
  have hs := k.small
  have hrd := k.row.sl
  obtain ⟨a, c, hv, _, _, hcl⟩ := hrd
  subst hv
  obtain ⟨n, hn⟩ : ∃ n, h.es.length = n := ⟨_, rfl⟩
  rw [hn] at c1 hs
  by_cases h1 : i < 0
  · have e : h.ent i = (⟨#[]⟩, 1) := by rw [Hs.ent, if_neg (by omega)]
    rw [e]
    clear k hcl
    go_enter Try.func41, Try.ntmps41
    go_wp2
    go_ret2
    exact ⟨rfl, rfl⟩
  · by_cases h2 : (n : Int) ≤ i
    · have e : h.ent i = (⟨#[]⟩, 1) := by rw [Hs.ent, if_neg (by omega)]
      rw [e]
      clear k hcl
      go_enter Try.func41, Try.ntmps41
      go_wp2
      go_ret2
      exact ⟨rfl, rfl⟩
    · obtain ⟨j, hj⟩ : ∃ j : Nat, i = (j : Int) := ⟨i.toNat, by omega⟩
      subst hj
      obtain ⟨s, hs2⟩ : ∃ s, h.es[j]? = some s := ⟨h.es[j]'(by omega), List.getElem?_eq_getElem _⟩
      have e : h.ent (j : Int) = (s, 0) := by rw [Hs.ent, if_pos (by omega), Int.toNat_natCast, List.getD_eq_getElem?_getD, hs2]; rfl
      rw [e]
      obtain ⟨g, o, rfl, hc⟩ := hcl j s hs2
      have hlt : j < n := by omega
      have hlt' : (j : Int) < (n : Int) := by omega
      clear k hs2 e h1 h2 hcl
      go_enter Try.func41, Try.ntmps41
      go_wp2
      go_ret2
      exact ⟨rfl, rfl⟩
/-- a row of texts that is only read, appended to a row of the call's own -/
theorem app_src {W : World} {ops : Array Oper} {rest : List Oper} {o : Oper} {a : Act} {Q : Exit → Act → World → Prop} (hgd : o.guard = none) (s x : Operand)
    (ho : o.op = .call { callee := .builtin .append, args := #[s, x], argTypes := #[38, 38] }) (base : Nat) (v : Value) (n : Nat) (xs : List Value) (hs : a.eval s = v) (hown : W.ownsRow base 9 1 v n xs)
    (base' : Nat) (ad : Option Addr) (m c : Nat) (l : Tl) (hx : a.eval x = .slice ad m c) (hrd : RdR W base' (.slice ad m c) l) (h63 : n + m ≤ 4398046511104) (hbase : base ≤ W.heap.size)
    (h : ∀ v' w', w'.ownsRow base 9 1 v' (n + m) (xs ++ sv l) → W.grownBy w' v.ownBlock → (v'.ownBlock = v.ownBlock ∨ v'.ownBlock = some W.heap.size) → wpList Try.prog ops Q rest (a.put o.dst v') w') :
    wpList Try.prog ops Q (o :: rest) a W := by
  obtain ⟨i0, hi, hz0, hz1, hz2⟩ := info_parts infoS
  obtain ⟨ad', c', e, hz, _, hcl⟩ := hrd.sl
  obtain ⟨rfl, hl, rfl⟩ := Value.slice.inj e
  cases ad with
  | none =>
    obtain rfl := hz rfl
    have hln : l = [] := by
      cases l with
      | nil => rfl
      | cons y l => obtain ⟨g, o, e, _⟩ := hcl 0 y rfl; cases e
    subst hln
    subst hl
    have h1 := h v W (by simpa [sv] using hown) (grown0 _ _) (.inl rfl)
    exact wpList_append_own_none hgd s x 38 ho base 9 i0 1 Try.underlying38 hi v n xs hs hown hx h1
  | some ad =>
    refine wpList_append_own_at _ hgd s x 38 ho base 9 i0 _ 1 16 Try.underlying38 hi hz0 hz1 hz2 rfl (by decide) v n xs hs hown ad m c (sv l) hx (by rw [sv_len, hl, Nat.mul_one]) (fun j u hj => ?_) (fun u hu => ?_) (by unfold maxLen; omega) (by omega) hbase (fun v' w' h1 h2 _ h4 => h v' w' h1 h2 h4)
    · obtain ⟨y, hy⟩ : ∃ y, l[j]? = some y := by
        have := (List.getElem?_eq_some_iff.1 hj).1
        rw [sv_len] at this
        exact ⟨_, List.getElem?_eq_getElem this⟩
      rw [sv_get hy] at hj
      obtain ⟨g, o, e, hc⟩ := hcl j y hy
      cases e
      rw [Go.WideShapes.add_plain, hc, hj]
    · obtain ⟨y, _, rfl⟩ := List.mem_map.1 hu
      rfl
set_option maxRecDepth 100000 in
theorem rentries_any (k : Rv w base pb v d h) :
    Calls Try.prog 20 #[.pointer (some ⟨pb, 0, none⟩)] w fun e W' => ∃ u, e = .returned u ∧ W'.ownsRow w.heap.size 9 1 u h.es.length (sv h.es) ∧ Below w.heap.size w W' := by
  obtain ⟨⟨c0, c1, c2, c3⟩, _⟩ := box4 k.box
  obtain ⟨a, c, hv, _⟩ := k.row.sl
  subst hv
  have HR : Hid (RdR w base (.slice a h.es.length c) h.es) := k.row
  have hl3 := k.small
  obtain ⟨n, hn⟩ : ∃ n, h.es.length = n := ⟨_, rfl⟩
  rw [hn] at c1 HR hl3 ⊢
  clear k hn
  go_enter Try.func20, Try.ntmps20
  go_wp2_with (first
    | (at_builtin; refine app_src rfl _ _ rfl w.heap.size (.slice none 0 0) 0 [] rfl (World.ownsRow_nil _ _ _ _) base a n c h.es rfl HR.out (by omega) (Nat.le_refl _) ?_; intro v' w1 hown hg _; have HO : Hid _ := hown; have HG : Hid _ := hg; clear hown hg))
  go_ret
  have h1 := HO.out
  simp only [Nat.zero_add, List.nil_append] at h1
  have h2 := HG.out
  exact ⟨_, rfl, h1, h2.os, h2.tape, h2.output, h2.size, fun k hk => h2.block k hk (fun e => by cases e)⟩
end
set_option maxRecDepth 100000 in
theorem rnew_any {b : Int} (hb : -9223372036854775808 ≤ b ∧ b ≤ 9223372036854775807) (w : World) (base : Nat) (h0 : base ≤ w.heap.size) : Calls Try.prog 12 #[.int .i64 b] w fun e w' => e = .returned (.pointer (some ⟨w.heap.size, 0, none⟩)) ∧ Rv w' base w.heap.size (.slice none 0 0) (.slice none 0 0) (Hs.new b) ∧ Below w.heap.size w w' := by
  have HX : Hid (∀ x : Int, x = ((Hs.new b).b : Int) → Rv (w.alloc (.cells #[.int .i64 x, .slice none 0 0, .int .i64 0, .slice none 0 0] 57)) base w.heap.size (.slice none 0 0) (.slice none 0 0) (Hs.new b) ∧ Below w.heap.size w (w.alloc (.cells #[.int .i64 x, .slice none 0 0, .int .i64 0, .slice none 0 0] 57))) := fun x hn =>
    ⟨⟨by rw [hn]; exact World.alloc_heap_new w _, RdR.nil _ _, World.ownsRow_nil _ _ _ _, h0, Hs.Ok.new b⟩, (Below.refl _ w).alloc (Nat.le_refl _) _⟩
  have HM : Hid (min (max b 0) 1000 = ((Hs.new b).b : Int)) := by
    show min (max b 0) 1000 = ((if b < 0 then 0 else if 1000 < b then 1000 else b.toNat : Nat) : Int)
    split
    · omega
    · split <;> omega
  go_enter Try.func12, Try.ntmps12
  go_wp2
  go_ret
  exact ⟨rfl, HX.out _ HM.out⟩
end Go.Proofs.Ytgakgebhhmkclaa
