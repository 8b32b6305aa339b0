/-
  The document's own history, on: text, Go, Back, Forward, last, Find. Conditions: those of each theorem.
-/
import Derived.Test.YtgakgebhhmkclaaHRefB
namespace Go.Proofs.Ytgakgebhhmkclaa
open Go.RowKit

theorem gt_at {l : List (Nat × ByteArray)} {p k : Nat} {q : Nat × ByteArray} (hk : l[k]? = some q) (hq : q.1 = p) (hf : ∀ (j : Nat) (x : Nat × ByteArray), j < k → l[j]? = some x → x.1 ≠ p) : gt l p = some q.2 := by
  induction l generalizing k with
  | nil => cases hk
  | cons y l ih =>
    rw [gt]
    cases k with
    | zero => cases hk; rw [if_pos hq]
    | succ k =>
      rw [if_neg (hf 0 y (by omega) rfl)]
      exact ih (k := k) (by simpa using hk) (fun j x hj hx => hf (j + 1) x (by omega) (by simpa using hx))
theorem gt_no {l : List (Nat × ByteArray)} {p : Nat} (hf : ∀ (j : Nat) (x : Nat × ByteArray), l[j]? = some x → x.1 ≠ p) : gt l p = none := by
  rw [gt_none]
  intro h
  obtain ⟨x, hx, e⟩ := List.mem_map.1 h
  obtain ⟨j, hj⟩ := List.getElem?_of_mem hx
  exact hf j x hj e
theorem ent_nat (h : Hs) (p : Nat) : (h.ent (p : Int)).1 = h.es.getD p ⟨#[]⟩ := by
  unfold Hs.ent
  split
  · rw [Int.toNat_natCast]
  · rw [List.getD_eq_getElem?_getD, List.getElem?_eq_none (by omega)]; rfl
set_option maxRecDepth 100000 in
set_option maxHeartbeats 2000000 in
theorem rtext_any {w : World} {base pb : Nat} {v d : Value} {h : Hs} (k : Rv w base pb v d h) {p : Nat} (hp : p ≤ 1000) :
    Calls Try.prog 46 #[.pointer (some ⟨pb, 0, none⟩), .int .i64 (p : Int)] w fun e w' => e = .returned (.string (h.txt p)) ∧ w' = w := by
  have CE := rentry_any k (i := (p : Int)) (by omega)
  rw [ent_nat] at CE
  obtain ⟨⟨c0, c1, c2, c3⟩, _⟩ := box4 k.box
  obtain ⟨a, c, rfl, _⟩ := row_slice k.dr
  have hm3 := nt_small k.ok
  have HR : Hid (∀ j q, h.nt[j]? = some q → ∃ g, a = some ⟨g, 0, none⟩ ∧ w.cell? ⟨g, j * 2, none⟩ = some (.int .i64 (q.1 : Int)) ∧ w.cell? ⟨g, j * 2 + 1, none⟩ = some (.string q.2)) := fun j q hj => by
    obtain ⟨g, rfl, q1, _⟩ := row_cell k.dr (nvs_get hj).1
    obtain ⟨g', e, q2, _⟩ := row_cell k.dr (nvs_get hj).2
    cases e
    exact ⟨g, rfl, q1, q2⟩
  have HB : Hid (∀ q ∈ h.nt, q.1 ≤ 1001) := fun q hq => by have := k.ok.nl q hq; have := k.small; omega
  obtain ⟨m, hm⟩ : ∃ m, h.nt.length = m := ⟨_, rfl⟩
  have HM : Hid (h.nt.length = m) := hm
  have HT : Hid (h.txt p = (gt h.nt p).getD (h.es.getD p ⟨#[]⟩)) := rfl
  generalize (h.ent (p : Int)).2 = er at CE
  generalize h.es.getD p ⟨#[]⟩ = s0 at CE HT
  rw [hm] at c3 hm3
  clear k hm
  go_enter Try.func46, Try.ntmps46
  go_wp2
  go_loopw [5] (fun t5 wr => ∃ j : Nat, j ≤ m ∧ t5 = .int .i64 j ∧ w = wr ∧ Hid (∀ i x, i < j → h.nt[i]? = some x → x.1 ≠ p)) (fun t5 _ => m - (intOf t5).toNat)
  case atStart => exact ⟨0, Nat.zero_le _, rfl, rfl, fun i x hi => absurd hi (Nat.not_lt_zero _)⟩
  case round =>
    obtain ⟨j, hj, rfl, rfl, HK⟩ := hrel
    by_cases hlt : j < m
    · obtain ⟨q, hq⟩ : ∃ q, h.nt[j]? = some q := ⟨h.nt[j]'(by rw [HM.out]; exact hlt), List.getElem?_eq_getElem _⟩
      obtain ⟨g, rfl, x0, x1⟩ := HR.out j q hq
      have HQ : Hid (h.nt[j]? = some q) := hq
      have hq3 := HB.out q (List.mem_of_getElem? hq)
      have hlt' : (j : Int) < (m : Int) := by omega
      clear hq
      obtain ⟨qa, qt⟩ := q
      simp only at x0 x1 hq3
      by_cases he : qa = p
      · have he1 : (qa : Int) = (p : Int) := by omega
        have he2 : ((qa : Int) == (p : Int)) = true := by simp; omega
        go_wp2
        go_ret
        rw [HT.out, gt_at HQ.out he HK.out]
        exact ⟨rfl, rfl⟩
      · have he1 : ¬ (qa : Int) = (p : Int) := by omega
        have he2 : ((qa : Int) == (p : Int)) = false := by simp; omega
        go_wp2
        refine ⟨⟨j + 1, by omega, by go_num, by first | trivial | rfl, fun i x hi hx => ?_⟩, by simp [intOf]; omega⟩
        rcases Nat.lt_succ_iff_lt_or_eq.1 hi with h1 | rfl
        · exact HK.out i x h1 hx
        · rw [HQ.out] at hx; cases hx; exact he
    · go_wp2_with (go_at_call 41; refine CE.mono ?_; clear CE; rintro e w1 ⟨rfl, hw⟩; subst hw)
      go_ret
      rw [HT.out, gt_no (fun i x hx => HK.out i x (by have := (List.getElem?_eq_some_iff.1 hx).1; rw [HM.out] at this; omega) hx)]
      exact ⟨rfl, rfl⟩
theorem infoDR : (Try.prog.info? 63).map (fun i => (i.zero, i.size, i.bytes)) = some (some (.agg #[.int .i64 0, .string ⟨#[]⟩]), 2, 24) := by kernel_rfl
/-- one draft appended to a row of the call's own -/
theorem app_dr {W : World} {ops : Array Oper} {rest : List Oper} {o : Oper} {a : Act} {Q : Exit → Act → World → Prop} (hgd : o.guard = none) (s x : Operand)
    (ho : o.op = .call { callee := .builtin .append, args := #[s, x], argTypes := #[55, 55] }) (base : Nat) (v : Value) (n : Nat) (l : List (Nat × ByteArray)) (hs : a.eval s = v) (p : Nat) (t : ByteArray) (hown : W.ownsRow base 63 2 v n (nvs l))
    (hx : a.eval x = .slice (some ⟨W.heap.size, 0, none⟩) 1 1) (h63 : n ≤ 1048576) (hbase : base ≤ W.heap.size)
    (h : ∀ v' w', w'.ownsRow base 63 2 v' (n + 1) (nvs (l ++ [(p, t)])) → W.grownBy w' v.ownBlock → (∀ g, v'.ownBlock = some g → v.ownBlock = some g ∨ W.heap.size ≤ g) → wpList Try.prog ops Q rest (a.put o.dst v') w') :
    wpList Try.prog ops Q (o :: rest) a (W.alloc (.cells #[.int .i64 (p : Int), .string t] 63)) := by
  obtain ⟨i0, hi, hz0, hz1, hz2⟩ := info_parts infoDR
  have hA := World.grownBy_alloc W (.cells #[.int .i64 (p : Int), .string t] 63) v.ownBlock
  refine wpList_append_own_at _ hgd s x 55 ho base 63 i0 _ 2 24 Try.underlying55 hi hz0 hz1 hz2 rfl (by decide) v n (nvs l) hs (hown.alloc _) ⟨W.heap.size, 0, none⟩ 1 1 [.int .i64 (p : Int), .string t] hx rfl (World.news_of_block (World.alloc_heap_new W _)) (by simp [Value.oneCell']) (by unfold maxLen; omega) (by omega) (by have := hA.size; omega) (fun v' w' h1 h2 _ h4 => h v' w' (by rw [nvs_app]; exact h1) (grown2 hA h2) (fun g e => ?_))
  rcases h4 with h | h
  · exact .inl (h ▸ e)
  · rw [h] at e; have := Option.some.inj e; exact .inr (by have := hA.size; omega)
/-- the document's history at another place, with another row of drafts, a new one -/
theorem Rv.noted {w W : World} {base pb : Nat} {v d d' : Value} {h : Hs} {p : Nat} {t : ByteArray} (k : Rv w base pb v d h) (hb : Below w.heap.size w W) (hr : W.ownsRow w.heap.size 63 2 d' (noted h.nt h.pl t).length (nvs (noted h.nt h.pl t))) (hok : (h.go p t).Ok) :
    W.heap[pb]? = some (.cells #[.int .i64 (h.b : Int), v, .int .i64 (h.pl : Int), d] 57 (0, 0)) ∧ Rv ((W.setCell ⟨pb, 3, none⟩ d').setCell ⟨pb, 2, none⟩ (.int .i64 (p : Int))) base pb v d' (h.go p t) ∧ Mv w (Fp pb v d) ((W.setCell ⟨pb, 3, none⟩ d').setCell ⟨pb, 2, none⟩ (.int .i64 (p : Int))) (Fp pb v d') := by
  have hbx := (hb.block pb k.lt).trans k.box
  have hlt := k.lt
  have hst : ∀ g, g < W.heap.size → g ≠ pb → ((W.setCell ⟨pb, 3, none⟩ d').setCell ⟨pb, 2, none⟩ (.int .i64 (p : Int))).heap[g]? = W.heap[g]? := fun g hg hne => by
    rw [(gcell _ pb 2 _).block g (by rw [World.setCell]; simpa using hg) (fun e => hne (Option.some.inj e)), (gcell W pb 3 _).block g hg (fun e => hne (Option.some.inj e))]
  have hs := hb.size
  refine ⟨hbx, ⟨set1 (i := 2) _ (set1 (i := 3) _ hbx), k.row.of_heap (fun g hg => ?_), row_of_heap (row_base hr (by have := k.low; omega)) (fun g hg => hst g (row_blk hr hg).2.2 (by have := (row_blk hr hg).2.1; omega)), k.low, hok⟩, ?_⟩
  · have := (k.row.blk g hg).2.1
    rw [hst g (by omega) (k.ne.1 g hg)]
    exact hb.block g this
  · have m1 : Mv w (Fp pb v d) W (Fp pb v d') := ⟨(Mv.below hb).ch, fun g e => by
      rcases e with e | e | e
      · exact .inl (.inl e)
      · exact .inl (.inr (.inl e))
      · exact .inr (row_blk hr e).2.1⟩
    exact (m1.trans (Mv.cell (F' := Fp pb v d') (.inl rfl) (fun _ e => .inl e))).trans (Mv.cell (.inl rfl) (fun _ e => .inl e))
theorem flt_snoc {l : List (Nat × ByteArray)} {j a : Nat} {q : Nat × ByteArray} (h : l[j]? = some q) : (l.take (j + 1)).filter (fun q => decide (q.1 ≠ a)) = (l.take j).filter (fun q => decide (q.1 ≠ a)) ++ (if q.1 = a then [] else [q]) := by
  rw [List.take_add_one, h, List.filter_append]
  by_cases e : q.1 = a <;> simp [e]
set_option maxRecDepth 100000 in
set_option maxHeartbeats 4000000 in
theorem rgo_any {w : World} {base pb : Nat} {F : Nat → Prop} {h : Hs} (k : Rr w base pb F h) {p : Int} (hp : -9223372036854775808 ≤ p ∧ p ≤ 9223372036854775807) {t : ByteArray} (ht : t.size ≤ 1099511627776) :
    Calls Try.prog 38 #[.pointer (some ⟨pb, 0, none⟩), .int .i64 p, .string t] w fun e w' => e = .returned (.tuple #[.string (h.goA p t).1, .int .i64 (h.goA p t).2]) ∧ ∃ F', Rr w' base pb F' (h.goes p t) ∧ Mv w F w' F' := by
  obtain ⟨v, d, k, rfl⟩ := k
  obtain ⟨⟨c0, c1, c2, c3⟩, _⟩ := box4 k.box
  obtain ⟨va, vc, rfl, _⟩ := k.row.sl
  obtain ⟨n, hn⟩ : ∃ n, h.es.length = n := ⟨_, rfl⟩
  have hs : n ≤ 1000 := hn ▸ k.small
  by_cases h1 : p < 0
  · have e1 : h.goA p t = (⟨#[]⟩, 1) := by rw [Hs.goA, if_neg (by omega)]
    have e2 : h.goes p t = h := by rw [Hs.goes, if_neg (by omega)]
    rw [e1, e2]
    have HX : Hid (∃ F', Rr w base pb F' h ∧ Mv w (Fp pb (.slice va h.es.length vc) d) w F') := ⟨_, ⟨_, d, k, rfl⟩, Mv.refl _ _⟩
    clear k e1 e2
    go_enter Try.func38, Try.ntmps38
    go_wp2
    go_ret2
    exact ⟨rfl, HX.out⟩
  · by_cases h2 : (n : Int) < p
    · have e1 : h.goA p t = (⟨#[]⟩, 1) := by rw [Hs.goA, if_neg (by omega)]
      have e2 : h.goes p t = h := by rw [Hs.goes, if_neg (by omega)]
      rw [e1, e2]
      have HX : Hid (∃ F', Rr w base pb F' h ∧ Mv w (Fp pb (.slice va h.es.length vc) d) w F') := ⟨_, ⟨_, d, k, rfl⟩, Mv.refl _ _⟩
      rw [hn] at c1
      clear k e1 e2 hn
      go_enter Try.func38, Try.ntmps38
      go_wp2
      go_ret2
      exact ⟨rfl, HX.out⟩
    · obtain ⟨j, hj⟩ : ∃ j : Nat, p = (j : Int) := ⟨p.toNat, by omega⟩
      subst hj
      have e1 : h.goA (j : Int) t = ((h.go j t).txt j, 0) := by rw [Hs.goA, if_pos (by omega)]; rfl
      have e2 : h.goes (j : Int) t = h.go j t := by rw [Hs.goes, if_pos (by omega)]; rfl
      rw [e1, e2]
      have hjl : j ≤ h.es.length := by omega
      have hok := k.ok.go (p := j) (now := t) hjl ht
      obtain ⟨da, dc, hd, _⟩ := row_slice k.dr
      subst hd
      have hm3 := nt_small k.ok
      have hpl3 : h.pl ≤ 1000 := by have := k.ok.pl; omega
      have HR : Hid (∀ W, Below w.heap.size w W → (W.cell? ⟨pb, 2, none⟩ = some (.int .i64 (h.pl : Int)) ∧ W.cell? ⟨pb, 3, none⟩ = some (.slice da h.nt.length dc)) ∧ ∀ i q, h.nt[i]? = some q → ∃ g, da = some ⟨g, 0, none⟩ ∧ W.cell? ⟨g, i * 2, none⟩ = some (.int .i64 (q.1 : Int)) ∧ W.cell? ⟨g, i * 2 + 1, none⟩ = some (.string q.2)) := fun W hb => by
        have k1 := k.below hb
        obtain ⟨⟨_, _, y2, y3⟩, _⟩ := box4 k1.box
        refine ⟨⟨y2, y3⟩, fun i q hq => ?_⟩
        obtain ⟨g, rfl, q1, _⟩ := row_cell k1.dr (nvs_get hq).1
        obtain ⟨g', e, q2, _⟩ := row_cell k1.dr (nvs_get hq).2
        cases e
        exact ⟨g, rfl, q1, q2⟩
      have HB : Hid (∀ q ∈ h.nt, q.1 ≤ 1001) := fun q hq => by have := k.ok.nl q hq; omega
      have HF : Hid (∀ W d', W.ownsRow w.heap.size 63 2 d' (noted h.nt h.pl t).length (nvs (noted h.nt h.pl t)) ∧ Below w.heap.size w W → W.heap[pb]? = some (.cells #[.int .i64 (h.b : Int), .slice va h.es.length vc, .int .i64 (h.pl : Int), .slice da h.nt.length dc] 57 (0, 0)) ∧ Hid (Rv ((W.setCell ⟨pb, 3, none⟩ d').setCell ⟨pb, 2, none⟩ (.int .i64 (j : Int))) base pb (.slice va h.es.length vc) d' (h.go j t) ∧ Mv w (Fp pb (.slice va h.es.length vc) (.slice da h.nt.length dc)) ((W.setCell ⟨pb, 3, none⟩ d').setCell ⟨pb, 2, none⟩ (.int .i64 (j : Int))) (Fp pb (.slice va h.es.length vc) d'))) := fun W d' q => k.noted q.2 q.1 hok
      have CT : Hid (∀ W d', Rv W base pb (.slice va h.es.length vc) d' (h.go j t) ∧ Mv w (Fp pb (.slice va h.es.length vc) (.slice da h.nt.length dc)) W (Fp pb (.slice va h.es.length vc) d') → Calls Try.prog 46 #[.pointer (some ⟨pb, 0, none⟩), .int .i64 (j : Int)] W fun e w' => e = .returned (.string ((h.go j t).txt j)) ∧ Hid (∃ F', Rr w' base pb F' (h.go j t) ∧ Mv w (Fp pb (.slice va h.es.length vc) (.slice da h.nt.length dc)) w' F')) := fun W d' q => (rtext_any q.1 (by omega)).mono (by
        rintro e w' ⟨rfl, rfl⟩
        exact ⟨rfl, _, ⟨_, _, q.1, rfl⟩, q.2⟩)
      generalize (h.go j t).txt j = s0 at CT
      obtain ⟨m, hm⟩ : ∃ m, h.nt.length = m := ⟨_, rfl⟩
      have HM : Hid (h.nt.length = m) := hm
      obtain ⟨pl, hpe⟩ : ∃ pl, h.pl = pl := ⟨_, rfl⟩
      rw [hm, hpe] at HR HF
      rw [hm] at c3 hm3 CT ⊢
      rw [hpe] at c2 hpl3
      rw [hn] at c1
      have HNT : Hid (noted h.nt pl t = h.nt.filter (fun q => decide (q.1 ≠ pl)) ++ [(pl, t)]) := rfl
      clear k e1 e2 hok hm hpe hjl hn
      have h1' : ¬ (j : Int) < 0 := h1
      have h2' : ¬ (n : Int) < (j : Int) := h2
      go_enter Try.func38, Try.ntmps38
      go_wp2
      go_loopw [8, 9] (fun t8 t9 wr => ∃ (i : Nat) (tv : Value), i ≤ m ∧ t9 = .int .i64 i ∧ tv = t8 ∧ Hid (wr.ownsRow w.heap.size 63 2 tv ((h.nt.take i).filter (fun q => decide (q.1 ≠ pl))).length (nvs ((h.nt.take i).filter (fun q => decide (q.1 ≠ pl)))) ∧ Below w.heap.size w wr)) (fun _ t9 _ => m - (intOf t9).toNat)
      case atStart => exact ⟨0, _, Nat.zero_le _, rfl, rfl, by simpa [nvs] using World.ownsRow_nil _ _ _ _, Below.refl _ _⟩
      case round =>
        obtain ⟨i, tv, hi, rfl, rfl, HK⟩ := hrel
        clear c0 c1 c2 c3
        obtain ⟨⟨c2, c3⟩, hcells⟩ := HR.out _ HK.out.2
        have hfl : ((h.nt.take i).filter (fun q => decide (q.1 ≠ pl))).length ≤ 1048576 := by
          have h1 := List.length_filter_le (fun q : Nat × ByteArray => decide (q.1 ≠ pl)) (h.nt.take i)
          have h2 := List.length_take_le i h.nt
          omega
        by_cases hlt : i < m
        · obtain ⟨q, hq⟩ : ∃ q, h.nt[i]? = some q := ⟨h.nt[i]'(by rw [HM.out]; exact hlt), List.getElem?_eq_getElem _⟩
          obtain ⟨g, rfl, x0, x1⟩ := hcells i q hq
          have HS : Hid _ := flt_snoc (a := pl) hq
          have hq3 := HB.out q (List.mem_of_getElem? hq)
          have hlt' : (i : Int) < (m : Int) := by omega
          clear hq hcells
          obtain ⟨qa, qt⟩ := q
          simp only at x0 x1 hq3 HS
          by_cases he : qa = pl
          · have he1 : (qa : Int) = (pl : Int) := by omega
            have he2 : ((qa : Int) != (pl : Int)) = false := by simp; omega
            have he3 : decide ((qa : Int) = (pl : Int)) = true := by simp; omega
            go_wp2
            go_quiet (fail)
            go_wp2
            refine ⟨⟨i + 1, _, by omega, by go_num, rfl, ?_⟩, by simp [intOf]; omega⟩
            rw [HS.out, if_pos he, List.append_nil]
            exact ⟨row_of_heap HK.out.1 (fun _ _ => rfl), HK.out.2.trans (drewN_below _ _ _)⟩
          · have he1 : ¬ (qa : Int) = (pl : Int) := by omega
            have he2 : ((qa : Int) != (pl : Int)) = true := by simp; omega
            have he3 : decide ((qa : Int) = (pl : Int)) = false := by simp; omega
            go_wp2
            go_quiet (fail)
            go_upto_region 8 with fail
            have HK2 : Hid ((wr.drewN nq).ownsRow w.heap.size 63 2 tv ((h.nt.take i).filter (fun q => decide (q.1 ≠ pl))).length (nvs ((h.nt.take i).filter (fun q => decide (q.1 ≠ pl)))) ∧ Below w.heap.size w (wr.drewN nq)) := ⟨row_of_heap HK.out.1 (fun _ _ => rfl), HK.out.2.trans (drewN_below _ _ _)⟩
            obtain ⟨W1, hW1⟩ : ∃ W1, wr.drewN nq = W1 := ⟨_, rfl⟩
            rw [hW1] at HK2
            have y0 : W1.cell? ⟨g, i * 2, none⟩ = some (.int .i64 (qa : Int)) := by rw [← hW1]; exact x0
            have y1 : W1.cell? ⟨g, i * 2 + 1, none⟩ = some (.string qt) := by rw [← hW1]; exact x1
            have y3 : W1.cell? ⟨pb, 3, none⟩ = some (.slice (some ⟨g, 0, none⟩) m dc) := by rw [← hW1]; exact c3
            rw [hW1]
            clear hW1 x0 x1 c2 c3 HK
            obtain ⟨f, hf⟩ : ∃ f, ((h.nt.take i).filter (fun q => decide (q.1 ≠ pl))).length = f := ⟨_, rfl⟩
            have HFe : Hid (((h.nt.take i).filter (fun q => decide (q.1 ≠ pl))).length = f) := hf
            have HK3 : Hid (W1.ownsRow w.heap.size 63 2 tv f (nvs ((h.nt.take i).filter (fun q => decide (q.1 ≠ pl)))) ∧ Below w.heap.size w W1) := ⟨hf ▸ HK2.out.1, HK2.out.2⟩
            rw [hf] at hfl
            clear hf HK2
            go_wp2_with (first
              | (at_builtin; refine app_dr rfl _ _ rfl w.heap.size tv f _ rfl qa qt HK3.out.1 rfl hfl HK3.out.2.size ?_; intro v6 w6 hown6 hg6 _; have H6 : Hid (w6.ownsRow w.heap.size 63 2 v6 (f + 1) (nvs ((h.nt.take i).filter (fun q => decide (q.1 ≠ pl)) ++ [(qa, qt)])) ∧ Below w.heap.size w w6) := ⟨hown6, HK3.out.2.grown hg6 HK3.out.2.size (fun j e => (HK3.out.1.lt j e).1)⟩; clear hown6 hg6))
            refine ⟨⟨i + 1, _, by omega, by go_num, rfl, ?_⟩, by simp [intOf]; omega⟩
            rw [HS.out, if_neg he, List.length_append, HFe.out]
            exact H6.out
        · obtain rfl : i = m := by omega
          have HK2 : Hid (wr.ownsRow w.heap.size 63 2 tv (h.nt.filter (fun q => decide (q.1 ≠ pl))).length (nvs (h.nt.filter (fun q => decide (q.1 ≠ pl)))) ∧ Below w.heap.size w wr) := by
            have := HK.out
            rw [List.take_of_length_le (by rw [HM.out]; omega)] at this
            exact this
          obtain ⟨f, hf⟩ : ∃ f, (h.nt.filter (fun q => decide (q.1 ≠ pl))).length = f := ⟨_, rfl⟩
          have HFe : Hid ((h.nt.filter (fun q => decide (q.1 ≠ pl))).length = f) := hf
          have hfl2 : f ≤ 1048576 := by
            have h1 := List.length_filter_le (fun q : Nat × ByteArray => decide (q.1 ≠ pl)) h.nt
            rw [HM.out] at h1
            omega
          rw [hf] at HK2
          clear hf HK hcells hfl
          go_upto_region 10 with (first
              | (at_builtin; refine app_dr rfl _ _ rfl w.heap.size tv f _ rfl pl t HK2.out.1 rfl hfl2 HK2.out.2.size ?_; intro v6 w6 hown6 hg6 _; have H6 : Hid (w6.ownsRow w.heap.size 63 2 v6 (noted h.nt pl t).length (nvs (noted h.nt pl t)) ∧ Below w.heap.size w w6) := ⟨(by rw [HNT.out, List.length_append, HFe.out]; exact hown6), HK2.out.2.grown hg6 HK2.out.2.size (fun j e => (HK2.out.1.lt j e).1)⟩; clear hown6 hg6; obtain ⟨hb6, H7⟩ := HF.out _ _ H6.out; obtain ⟨da6, dc6, hv6, -⟩ := row_slice H6.out.1; subst hv6; obtain ⟨⟨z0, z1, z2, z3⟩, f0, f1, f2, f3⟩ := box4 hb6; clear hb6 HF H6))
          go_wp2_with (go_at_call 46; refine (CT.out _ _ H7.out).mono ?_; clear CT; rintro e w7 ⟨rfl, H8⟩)
          go_ret2
          exact ⟨rfl, H8.out⟩
end Go.Proofs.Ytgakgebhhmkclaa
