/-
  Where motions lead, in plain words: words in pieces of a text, steps, lines by clusters. No program is walked in this text; no conditions.
-/
import Derived.Test.YtplieccalmkloaaGreatDoorPkDK
import Derived.Test.YtplieccalmkloaaGreatDoorPkC
import Derived.Test.YtplieccalmkloaaGreatDoorPkDB
import Derived.Test.YtplieccalmkloaaGreatDoorPkR
namespace Go.Proofs.YtplieccalmkloaaGreatDoor.Sto
open Go.RowKit Go.Shelf Bod Wid Go.Lib

theorem tiled_sh (d : Nat) : ∀ (l : List Clu) (i j : Nat), tiled i l j → tiled (i + d) (l.map (sh d)) (j + d)
  | [], i, j, h => by
    have e : i = j := h
    show i + d = j + d
    omega
  | c :: r, i, j, ⟨h1, h2, h3⟩ => ⟨by show c.fr + d = i + d; omega, by show i + d < c.to + d; omega, tiled_sh d r c.to j h3⟩
theorem tiled_end : ∀ (l : List Clu) (i j : Nat), tiled i l j → i ≤ j ∧ (i = j → l = [])
  | [], i, j, h => by
    have e : i = j := h
    exact ⟨by omega, fun _ => rfl⟩
  | c :: r, i, j, ⟨h1, h2, h3⟩ => by
    have := (tiled_end r c.to j h3).1
    exact ⟨by omega, fun e => by omega⟩
theorem til_app : ∀ (a b : List Clu) (i m n : Nat), tiled i a m → tiled m b n → tiled i (a ++ b) n
  | [], b, i, m, n, h, k => by
    have e : i = m := h
    rw [e]; exact k
  | c :: r, b, i, m, n, ⟨h1, h2, h3⟩, k => ⟨h1, h2, til_app r b c.to m n h3 k⟩
theorem til_mem : ∀ (l : List Clu) (i j : Nat), tiled i l j → ∀ c ∈ l, i ≤ c.fr ∧ c.fr < c.to ∧ c.to ≤ j
  | [], i, j, h, c, hc => by simp at hc
  | d :: r, i, j, ⟨h1, h2, h3⟩, c, hc => by
    have e := (tiled_end r d.to j h3).1
    rcases List.mem_cons.1 hc with rfl | hc
    · omega
    · have := til_mem r d.to j h3 c hc
      omega
theorem cut1 {s : ByteArray} {a : Nat} (ha : cbZ s a = true) : cl s = cl (s.extract 0 a) ++ (cl (s.extract a s.size)).map (sh a) := by
  obtain ⟨m, h1, h2⟩ := cb_B ha
  have hb := h2.1
  have hz : (s.extract 0 a).size = a := by rw [size_extract s 0 a (by omega)]; omega
  have ec := extract_cut s a (by omega)
  have := cl_cut (a := s.extract 0 a) (b := s.extract a s.size) (by rw [ec, hz]; exact ha)
  rw [ec, hz] at this
  exact this
/-- the clusters of a text by a piece of it -/
structure Mid (s : ByteArray) (a b : Nat) (pre post : List Clu) : Prop where
  eq : cl s = pre ++ ((cl (s.extract a b)).map (sh a) ++ post)
  l : tiled 0 pre a
  m : tiled a ((cl (s.extract a b)).map (sh a)) b
  r : tiled b post s.size
theorem mid_ex {s : ByteArray} {a b : Nat} (ha : cbZ s a = true) (hb : cbZ s b = true) (h : a ≤ b) : ∃ pre post, Mid s a b pre post := by
  obtain ⟨m, h1, h2⟩ := cb_B hb
  have hbs := h2.1
  have hx : (s.extract a s.size).size = s.size - a := size_extract s a s.size (Nat.le_refl _)
  have hz : (s.extract a b).size = b - a := size_extract s a b (by omega)
  have e1 := cut1 ha
  have hc := sub_cb (k := b - a) ha (cb_end s) (by omega)
  rw [show a + (b - a) = b by omega, hb] at hc
  have e2 := cut1 hc
  rw [ext_ext (by omega), show a + (b - a) = b by omega] at e2
  rw [e2, List.map_append] at e1
  have t1 := cl_tile (s.extract 0 a)
  rw [show (s.extract 0 a).size = a by rw [size_extract s 0 a (by omega)]; omega] at t1
  have t2 := tiled_sh a _ _ _ (cl_tile (s.extract a b))
  rw [hz, show 0 + a = a by omega, show b - a + a = b by omega] at t2
  have t3 := cl_tile ((s.extract a s.size).extract (b - a) (s.extract a s.size).size)
  rw [size_extract _ (b - a) _ (Nat.le_refl _), hx] at t3
  have t3 := tiled_sh a _ _ _ (tiled_sh (b - a) _ _ _ t3)
  rw [show 0 + (b - a) + a = b by omega, show s.size - a - (b - a) + (b - a) + a = s.size by omega] at t3
  rw [hx] at e1
  exact ⟨_, _, e1, t1, t2, t3⟩
/-- the end of the first word of a list of clusters, or n -/
def fstp (p : Clu → Bool) (n : Nat) (l : List Clu) : Nat := ((wrun p none l).head?.map (·.2)).getD n
theorem fst_nil (p : Clu → Bool) (n : Nat) : fstp p n [] = n := rfl
theorem fst_not {p : Clu → Bool} {n : Nat} {c : Clu} {r : List Clu} (h : p c = false) : fstp p n (c :: r) = fstp p n r := by simp [fstp, wrun, h]
theorem fst_in {p : Clu → Bool} {n : Nat} {c : Clu} {r : List Clu} (h : p c = true) : fstp p n (c :: r) = lastTo p c.to r := by simp [fstp, wrun, h, wrun_some]
theorem lastTo_sh (d : Nat) {p q : Clu → Bool} : ∀ (l : List Clu) (t : Nat), (∀ c ∈ l, p (sh d c) = q c) → lastTo p (t + d) (l.map (sh d)) = lastTo q t l + d
  | [], t, _ => rfl
  | c :: r, t, h => by
    have h1 := h c (by simp)
    have ih := lastTo_sh d (p := p) (q := q) r c.to (fun x hx => h x (by simp [hx]))
    simp only [List.map_cons, lastTo, h1]
    by_cases e : q c = true
    · rw [if_pos e, if_pos e]; exact ih
    · rw [if_neg e, if_neg e]
theorem fst_sh (d : Nat) {p q : Clu → Bool} (n : Nat) : ∀ (l : List Clu), (∀ c ∈ l, p (sh d c) = q c) → fstp p (n + d) (l.map (sh d)) = fstp q n l + d
  | [], _ => rfl
  | c :: r, h => by
    have h1 := h c (by simp)
    rw [List.map_cons]
    cases e : q c with
    | false => rw [fst_not e, fst_not (h1.trans e)]; exact fst_sh d n r (fun x hx => h x (by simp [hx]))
    | true => rw [fst_in e, fst_in (h1.trans e)]; exact lastTo_sh d r c.to (fun x hx => h x (by simp [hx]))
theorem lastTo_app {p : Clu → Bool} (rest : List Clu) : ∀ (l : List Clu) (i j : Nat), tiled i l j → lastTo p i l < j → lastTo p i (l ++ rest) = lastTo p i l
  | [], i, j, h, k => by
    have e : i = j := h
    have k : i < j := k
    omega
  | c :: r, i, j, ⟨h1, h2, h3⟩, k => by
    rw [List.cons_append]
    unfold lastTo at k ⊢
    by_cases e : p c = true
    · rw [if_pos e] at k; rw [if_pos e, if_pos e]; exact lastTo_app rest r c.to j h3 k
    · rw [if_neg e, if_neg e]
theorem fst_app {p : Clu → Bool} (n : Nat) (rest : List Clu) : ∀ (l : List Clu) (i j : Nat), tiled i l j → fstp p j l < j → fstp p n (l ++ rest) = fstp p j l
  | [], i, j, h, k => by rw [fst_nil] at k; omega
  | c :: r, i, j, ⟨h1, h2, h3⟩, k => by
    rw [List.cons_append]
    cases e : p c with
    | false => rw [fst_not e] at k ⊢; rw [fst_not e]; exact fst_app n rest r c.to j h3 k
    | true => rw [fst_in e] at k ⊢; rw [fst_in e]; exact lastTo_app rest r c.to j h3 k
theorem wcl_sub {s : ByteArray} {a b : Nat} (hb : cbZ s b = true) (h : a ≤ b) : ∀ c ∈ cl (s.extract a b), wcl s (sh a c) = wcl (s.extract a b) c := fun c hc => by
  obtain ⟨m, h1, h2⟩ := cb_B hb
  obtain rfl : b = m := by omega
  have hz : (s.extract a b).size = b - a := size_extract s a b h2.1
  have := til_mem _ _ _ (cl_tile (s.extract a b)) c hc
  unfold wcl
  rw [sub_ch h2 (by omega)]
  show wch (ch s (c.fr + a)) = _
  rw [Nat.add_comm]
theorem ahead_piece {s : ByteArray} {a b : Nat} (ha : cbZ s a = true) (hb : cbZ s b = true) (h : a ≤ b) (hc : a + aheadW (words (s.extract a b)) (s.extract a b).size 0 < b ∨ b = s.size) : aheadW (words s) s.size a = a + aheadW (words (s.extract a b)) (s.extract a b).size 0 := by
  obtain ⟨pre, post, hm⟩ := mid_ex ha hb h
  have hF : Fr s a pre ((cl (s.extract a b)).map (sh a) ++ post) := ⟨hm.eq.symm, hm.l, til_app _ _ _ _ _ hm.m hm.r⟩
  have hX : Fr (s.extract a b) 0 [] (cl (s.extract a b)) := ⟨rfl, rfl, cl_tile _⟩
  obtain ⟨m, h1, h2⟩ := cb_B hb
  have hbs := h2.1
  have hz : (s.extract a b).size = b - a := size_extract s a b (by omega)
  rw [ahead_first hX] at hc ⊢
  rw [ahead_first hF]
  have e := fst_sh a (p := wcl s) (q := wcl (s.extract a b)) (b - a) (cl (s.extract a b)) (wcl_sub hb h)
  rw [show b - a + a = b by omega] at e
  have ex : firstW (s.extract a b) (cl (s.extract a b)) = fstp (wcl (s.extract a b)) (b - a) (cl (s.extract a b)) := by rw [← hz]; rfl
  rw [ex] at hc ⊢
  show fstp (wcl s) s.size _ = _
  rcases hc with hc | hc
  · rw [fst_app s.size post _ a b hm.m (by omega), e, Nat.add_comm]
  · have := (tiled_end _ _ _ hm.r).2 hc
    rw [this, List.append_nil, ← hc, e, Nat.add_comm]
theorem last_sh {s x : ByteArray} {f : Nat} {init : List Clu} (hi : tiled 0 init f) : ∀ (n : Nat) (L : List Clu) (j : Nat), L.length = n → tiled 0 L j → (∀ c ∈ L, wcl s (sh f c) = wcl x c) → 0 < lastW x L → lastW s (init ++ L.map (sh f)) = lastW x L + f
  | 0, L, j, hn, ht, hw, hp => by
    have : L = [] := List.length_eq_zero_iff.1 hn
    subst this
    rw [last_nil] at hp; omega
  | n + 1, L, j, hn, ht, hw, hp => by
    rcases List.eq_nil_or_concat L with e | ⟨q, c, e⟩
    · subst e; simp at hn
    rw [List.concat_eq_append] at e
    subst e
    have hq : q.length = n := by simpa using hn
    have tS : tiled 0 (init ++ (q ++ [c]).map (sh f)) (j + f) := til_app _ _ _ f _ hi (by have := tiled_sh f _ _ _ ht; rw [Nat.zero_add] at this; exact this)
    obtain ⟨t1, t2, t3⟩ := tiled_last ht
    have hc := hw c (by simp)
    have ih := last_sh (s := s) (x := x) hi n q c.fr hq t1 (fun d hd => hw d (by simp [hd]))
    rw [List.map_append, List.map_cons, List.map_nil, ← List.append_assoc] at tS ⊢
    cases ec : wcl x c with
    | false =>
      rw [last_not ht ec] at hp ⊢
      rw [last_not tS (hc.trans ec)]
      exact ih hp
    | true =>
      rcases List.eq_nil_or_concat q with e | ⟨p, d, e⟩
      · subst e
        rw [last_new ht ec (.inl rfl)] at hp
        have : 0 = c.fr := t1
        omega
      rw [List.concat_eq_append] at e
      subst e
      have hd := hw d (by simp)
      cases ed : wcl x d with
      | true =>
        rw [last_on ht ec ed] at hp ⊢
        have ih := ih hp
        rw [List.map_append, List.map_cons, List.map_nil, ← List.append_assoc] at tS ih ⊢
        rw [last_on tS (hc.trans ec) (hd.trans ed)]
        exact ih
      | false =>
        rw [last_new ht ec (.inr ⟨p, d, rfl, ed⟩)]
        rw [last_new tS (hc.trans ec) (.inr ⟨init ++ p.map (sh f), sh f d, by simp, hd.trans ed⟩)]
        rfl
theorem wrun_congr {p q : Clu → Bool} : ∀ (l : List Clu) (o : Option (Nat × Nat)), (∀ c ∈ l, p c = q c) → wrun p o l = wrun q o l
  | [], none, _ => rfl
  | [], some _, _ => rfl
  | c :: r, none, h => by
    have h1 := h c (by simp)
    have h2 := fun o => wrun_congr (p := p) (q := q) r o (fun d hd => h d (by simp [hd]))
    simp only [wrun, h1, h2]
  | c :: r, some x, h => by
    have h1 := h c (by simp)
    have h2 := fun o => wrun_congr (p := p) (q := q) r o (fun d hd => h d (by simp [hd]))
    simp only [wrun, h1, h2]
theorem behind_piece {s : ByteArray} {f a : Nat} (hf : cbZ s f = true) (ha : cbZ s a = true) (h : f ≤ a) (hc : 0 < behindW (words (s.extract f a)) (s.extract f a).size ∨ f = 0) : behindW (words s) a = f + behindW (words (s.extract f a)) (s.extract f a).size := by
  obtain ⟨pre, post, hm⟩ := mid_ex hf ha h
  have hF : Fr s a (pre ++ (cl (s.extract f a)).map (sh f)) post := ⟨by rw [hm.eq, List.append_assoc], til_app _ _ _ _ _ hm.l hm.m, hm.r⟩
  have hX : Fr (s.extract f a) (s.extract f a).size (cl (s.extract f a)) [] := ⟨by simp, cl_tile _, rfl⟩
  rw [behind_last (bh_fr hX)] at hc ⊢
  rw [behind_last (bh_fr hF)]
  rcases hc with hc | hc
  · rw [last_sh hm.l _ _ _ rfl (cl_tile _) (wcl_sub ha h) hc, Nat.add_comm]
  · subst hc
    have hp := (tiled_end _ _ _ hm.l).2 rfl
    subst hp
    have hw := wcl_sub ha h
    have e0 : ∀ c : Clu, sh 0 c = c := fun c => rfl
    have e1 : (cl (s.extract 0 a)).map (sh 0) = cl (s.extract 0 a) := by rw [show sh 0 = id from funext e0]; exact List.map_id _
    rw [List.nil_append, Nat.zero_add, e1]
    unfold lastW
    rw [wrun_congr (p := wcl s) (q := wcl (s.extract 0 a)) _ _ (fun c hc => by have := hw c hc; rwa [e0] at this)]
theorem words_ahead (s : ByteArray) (a : Nat) : (∃ w ∈ words s, a < w.2 ∧ aheadW (words s) s.size a = w.2) ∨ aheadW (words s) s.size a = s.size := by
  unfold aheadW
  cases e : (words s).find? (fun w => decide (a < w.2)) with
  | none => exact .inr rfl
  | some w => exact .inl ⟨w, List.mem_of_find?_eq_some e, by simpa using List.find?_some e, rfl⟩
theorem ahead_ok (s : ByteArray) (a : Nat) : cbZ s (aheadW (words s) s.size a : Nat) = true ∧ aheadW (words s) s.size a ≤ s.size ∧ (a < s.size → a < aheadW (words s) s.size a) := by
  have h0 := words_ahead s a
  generalize aheadW (words s) s.size a = V at h0 ⊢
  rcases h0 with ⟨w, h1, h2, rfl⟩ | rfl
  · have e1 := (words_cb h1).2
    have e2 := (words_mem h1).2
    exact ⟨e1, e2, fun _ => h2⟩
  · exact ⟨cb_end s, Nat.le_refl _, fun e => e⟩
theorem words_behind (s : ByteArray) (a : Nat) : (∃ w ∈ words s, w.1 < a ∧ behindW (words s) a = w.1) ∨ behindW (words s) a = 0 := by
  unfold behindW
  cases e : (((words s).map (·.1)).filter fun x => decide (x < a)).getLast? with
  | none => exact .inr rfl
  | some x =>
    have := List.mem_of_getLast? e
    rw [List.mem_filter, List.mem_map] at this
    obtain ⟨⟨w, h1, h2⟩, h3⟩ := this
    exact .inl ⟨w, h1, by rw [h2]; simpa using h3, h2.symm⟩
theorem behind_ok (s : ByteArray) (a : Nat) : cbZ s (behindW (words s) a : Nat) = true ∧ behindW (words s) a ≤ s.size ∧ (0 < a → behindW (words s) a < a) := by
  have h0 := words_behind s a
  generalize behindW (words s) a = V at h0 ⊢
  rcases h0 with ⟨w, h1, h2, rfl⟩ | rfl
  · have e1 := (words_cb h1).1
    have e2 := words_mem h1
    exact ⟨e1, by omega, fun _ => h2⟩
  · exact ⟨cb_zero s, Nat.zero_le _, fun e => e⟩
/-- steps one behind the other, none from the edge e -/
def itr (f : Nat → Nat) (e : Nat) : Nat → Nat → Nat
  | 0, a => a
  | n + 1, a => if a = e then a else itr f e n (f a)
theorem itr_edge (f : Nat → Nat) (e : Nat) : ∀ n, itr f e n e = e
  | 0 => rfl
  | n + 1 => by simp [itr]
theorem itr_on {f : Nat → Nat} {e a : Nat} (n : Nat) (h : a ≠ e) : itr f e (n + 1) a = itr f e n (f a) := by simp [itr, h]
theorem itr_inv {f : Nat → Nat} {e : Nat} {P : Nat → Prop} (h : ∀ a, P a → a ≠ e → P (f a)) : ∀ (n a : Nat), P a → P (itr f e n a)
  | 0, a, ha => ha
  | n + 1, a, ha => by
    unfold itr
    split
    · exact ha
    · exact itr_inv h n _ (h a ha (by assumption))
/-- the next boundary above a, or the end -/
def nxt (s : ByteArray) (a : Nat) : Nat := if a < s.size then nxC s a else s.size
theorem nxt_is (s : ByteArray) (a : Nat) : IsNext s a (nxt s a) := by
  unfold nxt
  split
  · exact nxC_is (by assumption)
  · exact next_high (by omega)
theorem isSnap_ex (s : ByteArray) (i : Int) : ∃ m : Nat, IsSnap s i m := by
  by_cases h0 : i < 0
  · exact ⟨0, cb_zero s, .inl (by omega), fun j _ h2 => cb_out (.inl h2)⟩
  · obtain ⟨a, rfl⟩ := Int.eq_ofNat_of_zero_le (show 0 ≤ i by omega)
    cases hc : cbZ s a with
    | true => exact ⟨a, IsSnap.self hc⟩
    | false => exact ⟨_, (nxt_is s a).snap hc⟩
noncomputable def snp (s : ByteArray) (i : Int) : Nat := Classical.choose (isSnap_ex s i)
theorem snp_is (s : ByteArray) (i : Int) : IsSnap s i (snp s i) := Classical.choose_spec (isSnap_ex s i)
theorem snp_le (s : ByteArray) (i : Int) : snp s i ≤ s.size := by obtain ⟨m, h1, h2⟩ := cb_B (snp_is s i).cb; have := h2.1; omega
theorem snp_self {s : ByteArray} {a : Nat} (h : cbZ s a = true) : snp s a = a := (snp_is s a).uniq (IsSnap.self h)
theorem cb_le {s : ByteArray} {a : Nat} (h : cbZ s a = true) : a ≤ s.size := by obtain ⟨m, h1, h2⟩ := cb_B h; have := h2.1; omega
/-- a boundary in its line -/
structure Pl (s : ByteArray) (at' p b : Nat) : Prop where
  sp : IsS s (cn s 0 at' : Int) (some (p, b))
  lo : p ≤ at'
  hi : at' ≤ b
  cb : cbZ s at' = true
  l : IsL s at' p
theorem pl_ex {s : ByteArray} {n : Nat} (hc : cbZ s n = true) : ∃ p b, Pl s n p b := by
  have hn := cb_le hc
  obtain ⟨p, hp⟩ := isL_ex (s := s) n hn
  have hp0 := hp
  obtain ⟨p1, p2, p3⟩ := hp
  have e1 := cn_add (s := s) (a := 0) (b := p) (c := n) (by omega) p1
  have hN : IsN s (cn s 0 n : Int) p := ⟨by omega, p2, by omega⟩
  obtain ⟨o, ho⟩ := isS_ex s (cn s 0 n : Int)
  cases o with
  | none =>
    have h' : (cn s 0 n : Int) < 0 ∨ (cn s 0 s.size : Int) < (cn s 0 n : Int) := ho
    have := cn_mono (s := s) (a := 0) (b := n) (c := s.size) (by omega) hn
    omega
  | some x =>
    obtain ⟨a, b⟩ := x
    obtain rfl : a = p := ho.1.uniq hN
    refine ⟨a, b, ho, p1, ?_, hc, hp0⟩
    rcases Nat.lt_or_ge b n with hb | hb
    · have ho' := ho
      obtain ⟨-, r, hr, hl⟩ := ho
      simp only at hr hl
      cases r with
      | none => have : b = s.size := hl; omega
      | some q =>
        obtain ⟨k1, k2, k3, k4, k5, k6, k7⟩ := ho'.nl hr
        have hq : n < q := by
          rcases Nat.lt_or_ge n q with e | e
          · exact e
          · have := cn_mono (s := s) (a := a) (b := q) (c := n) (by have := hr.1; omega) e
            have := hr.2.2.2
            omega
        have := k3.no n (by omega) (by omega)
        rw [hc] at this; cases this
    · exact hb
section
variable {s : ByteArray} {n p b : Nat}
theorem Pl.col (h : Pl s n p b) : IsCo s n (some (cw s p n)) := by
  refine ⟨n, rfl, by have := h.sp.le; have := h.hi; omega, p, n, h.l, ⟨h.cb, .inl (by omega), fun j j1 j2 => by omega⟩, (cw_ce s p n).symm⟩
theorem Pl.more (h : Pl s n p b) {j : Nat} (h1 : n < j) (h2 : j ≤ b) (hj : cbZ s j = true) : cw s p j = cw s p n + cw s n j ∧ 1 ≤ cw s n j := by
  obtain ⟨ca, -⟩ := h.sp.cb
  have hbs := h.sp.le.2
  have hlo := h.lo
  refine ⟨cw_add ca h.cb hj h.lo (by omega), cw_pos ?_ h1 (by omega)⟩
  have e0 := h.sp.cn0
  have e1 := cn_add (s := s) (a := p) (b := n) (c := b) h.lo h.hi
  have e2 := cn_mono (s := s) (a := n) (b := j) (c := b) (by omega) h2
  omega
theorem Pl.at' (h : Pl s n p b) {c : Int} (h0 : 0 ≤ c) (h1 : cw s p n ≤ c) (h2 : ∀ j, n < j → j ≤ b → cbZ s j = true → c < cw s p j) : IsA s (cn s 0 n : Int) c (some n) :=
  ⟨p, b, h.sp, by rw [show max c 0 = c by omega]; exact ⟨h.lo, h.hi, h.cb, h1, h2⟩⟩
theorem Pl.back (h : Pl s n p b) : IsA s (cn s 0 n : Int) (cw s p n) (some n) :=
  h.at' (cw_nonneg _ _ _) (Int.le_refl _) fun j j1 j2 j3 => by have := h.more j1 j2 j3; omega
theorem cw_le (s : ByteArray) {a b : Nat} (h : b ≤ s.size) : cw s a b ≤ 2 * s.size := by
  have h1 := (sumN_bd _ (cl_n (s.extract a b))).2
  have h2 := cl_len (s.extract a b)
  rw [size_extract s a b h] at h2
  unfold cw
  omega
/-- a place within a line's span has that line's number -/
theorem IsS.num {l : Int} {x y m : Nat} (h : IsS s l (some (x, y))) (h1 : x ≤ m) (h2 : m ≤ y) : (cn s 0 m : Int) = l := by
  have e0 := h.cn0
  have e1 := cn_add (s := s) (a := 0) (b := x) (c := m) (by omega) h1
  have e2 := cn_mono (s := s) (a := x) (b := m) (c := y) h1 h2
  have e3 : (cn s 0 x : Int) = l := h.1.2.2
  omega
end
end Go.Proofs.YtplieccalmkloaaGreatDoor.Sto
namespace Go.Proofs.YtplieccalmkloaaGreatDoor.Sto
open Go.RowKit Go.Shelf Bod Wid Go.Lib

noncomputable def lspF (s : ByteArray) (l : Int) : Option (Nat × Nat) := Classical.choose (isS_ex s l)
theorem lspF_is (s : ByteArray) (l : Int) : IsS s l (lspF s l) := Classical.choose_spec (isS_ex s l)
noncomputable def colF (s : ByteArray) (a : Nat) : Int := (Classical.choose (isCo_ex s a)).getD 0
noncomputable def plcF (s : ByteArray) (l c : Int) : Nat := (Classical.choose (isA_ex s l c)).getD 0
/-- the line that a number counts as -/
def hl (s : ByteArray) (l : Int) : Int := min (max l 0) (cn s 0 s.size)
theorem hl_in (s : ByteArray) (l : Int) : 0 ≤ hl s l ∧ hl s l ≤ cn s 0 s.size := by unfold hl; omega
theorem hl_self {s : ByteArray} {l : Int} (h : 0 ≤ l ∧ l ≤ cn s 0 s.size) : hl s l = l := by unfold hl; omega
theorem hl_of (s : ByteArray) {a : Nat} (h : a ≤ s.size) : hl s (cn s 0 a : Int) = cn s 0 a := by
  have := cn_mono (s := s) (a := 0) (b := a) (c := s.size) (by omega) h
  exact hl_self ⟨by omega, by omega⟩
section
variable {s : ByteArray}
theorem line_ex {l : Int} (h : 0 ≤ l ∧ l ≤ cn s 0 s.size) : ∃ x y, IsS s l (some (x, y)) := by
  have := lspF_is s l
  cases e : lspF s l with
  | none =>
    rw [e] at this
    have : l < 0 ∨ (cn s 0 s.size : Int) < l := this
    omega
  | some x => rw [e] at this; exact ⟨x.1, x.2, this⟩
theorem lspF_eq {l : Int} {o : Option (Nat × Nat)} (h : IsS s l o) : lspF s l = o := (lspF_is s l).uniq h
theorem isCo_uniq {a : Int} {x y : Option Int} (h : IsCo s a x) (k : IsCo s a y) : x = y := by
  match x, y, h, k with
  | none, none, _, _ => rfl
  | some z, none, ⟨n, e, h1, _⟩, k => exact absurd ⟨by omega, by omega⟩ k
  | none, some z, k, ⟨n, e, h1, _⟩ => exact absurd ⟨by omega, by omega⟩ k
  | some z, some z', ⟨n, e, h1, h2⟩, ⟨n', e', h1', h2'⟩ =>
    obtain rfl : n = n' := by omega
    rw [h2.uniq h1 h2']
theorem colF_eq {a : Nat} {z : Int} (h : IsCo s a (some z)) : colF s a = z := by
  unfold colF
  rw [isCo_uniq (Classical.choose_spec (isCo_ex s a)) h]
  rfl
theorem plcF_eq {l c : Int} {m : Nat} (h : IsA s l c (some m)) : plcF s l c = m := by
  unfold plcF
  rw [(Classical.choose_spec (isA_ex s l c)).uniq h]
  rfl
theorem plc_is {l c : Int} {x y : Nat} (h : IsS s l (some (x, y))) : IsR s x y (max c 0) (plcF s l c) := by
  obtain ⟨o, ho⟩ := isA_ex s l c
  match o, ho with
  | none, ho => have := h.uniq (show IsS s l none from ho); cases this
  | some m, ⟨a, b, h1, h2⟩ =>
    have e := h.uniq h1
    injection e with e
    injection e with e1 e2
    subst e1 e2
    rw [plcF_eq ⟨x, y, h1, h2⟩]
    exact h2
theorem plc_isA {l c : Int} (h : 0 ≤ l ∧ l ≤ cn s 0 s.size) : IsA s l c (some (plcF s l c)) := by
  obtain ⟨x, y, hS⟩ := line_ex h
  exact ⟨x, y, hS, plc_is hS⟩
theorem col_pl {n p b : Nat} (h : Pl s n p b) : colF s n = cw s p n := colF_eq h.col
theorem col_isCo {n : Nat} (h : cbZ s n = true) : IsCo s n (some (colF s n)) := by
  obtain ⟨p, b, hP⟩ := pl_ex h
  rw [col_pl hP]; exact hP.col
theorem col_bd {n : Nat} (h : cbZ s n = true) : 0 ≤ colF s n ∧ colF s n ≤ 2 * s.size := by
  obtain ⟨p, b, hP⟩ := pl_ex h
  rw [col_pl hP]
  exact ⟨cw_nonneg _ _ _, cw_le s (cb_le h)⟩
end
/-- so many lines away, at a column: where it leads, and whether there is any -/
noncomputable def away (s : ByteArray) (a : Nat) (want d : Int) : Nat × Bool := (plcF s (hl s ((cn s 0 a : Int) + d)) want, !decide (hl s ((cn s 0 a : Int) + d) = (cn s 0 a : Int)))
/-- where as many of c steps as can be done lead from the boundary a, and whether the first one can be done -/
noncomputable def lead (s : ByteArray) (k : Int) (a : Nat) (want : Int) (c : Nat) : Nat × Bool :=
  if k = 4 then (itr (pvC s) 0 c a, !decide ((a : Int) = (0 : Nat)))
  else if k = 5 then (itr (nxt s) s.size c a, !decide ((a : Int) = s.size))
  else if k = 6 then (itr (behindW (words s)) 0 c a, !decide ((a : Int) = (0 : Nat)))
  else if k = 7 then (itr (aheadW (words s) s.size) s.size c a, !decide ((a : Int) = s.size))
  else if k = 8 then (((lspF s (cn s 0 a)).getD (0, 0)).1, true)
  else if k = 9 then (((lspF s (cn s 0 a)).getD (0, 0)).2, true)
  else if k = 10 then away s a want (-(c : Int))
  else if k = 11 then away s a want c
  else if k = 12 then (0, true)
  else (s.size, true)
/-- a count as it counts -/
def cnt (n : Int) : Nat := (min (max n 1) 1000).toNat
theorem cnt_eq (n : Int) : ((cnt n : Nat) : Int) = min (max n 1) 1000 := by unfold cnt; omega
/-- the column that a motion goes by -/
noncomputable def wantF (s : ByteArray) (k : Int) (p : Nat) (g : Int) : Int := if k = 10 ∨ k = 11 then (if g = -1 then colF s p else g) else -1
/-- what Go answers -/
noncomputable def goP (s : ByteArray) (k at' goal count : Int) : Int × Int × Int :=
  if 4 ≤ k ∧ k ≤ 13 then
    if (lead s k (snp s at') (wantF s k (snp s at') (max goal (-1))) (cnt count)).2 = true then (((lead s k (snp s at') (wantF s k (snp s at') (max goal (-1))) (cnt count)).1 : Nat), wantF s k (snp s at') (max goal (-1)), 0)
    else ((snp s at' : Nat), max goal (-1), 8)
  else (0, -1, 13)
/-- what Span answers -/
noncomputable def spP (s : ByteArray) (k at' count : Int) : (Int × Int) × Int :=
  if (goP s k at' (-1) count).2.2 = 0 then ((min (snp s at' : Int) (goP s k at' (-1) count).1, max (snp s at' : Int) (goP s k at' (-1) count).1), 0) else ((0, 0), (goP s k at' (-1) count).2.2)
end Go.Proofs.YtplieccalmkloaaGreatDoor.Sto
namespace Go.Proofs.YtplieccalmkloaaGreatDoor.Sto
open Go.RowKit Go.Shelf Bod Wid Go.Lib

section
variable {s : ByteArray}
theorem plc_cb {l c : Int} (h : 0 ≤ l ∧ l ≤ cn s 0 s.size) : cbZ s (plcF s l c : Nat) = true ∧ (cn s 0 (plcF s l c) : Int) = l ∧ plcF s l c ≤ s.size := by
  obtain ⟨x, y, hS⟩ := line_ex h
  have hR := plc_is (c := c) hS
  exact ⟨hR.cb, hS.num hR.lo hR.hi, cb_le hR.cb⟩
theorem cn_lt {m a : Nat} (h : cn s 0 m < cn s 0 a) : m < a := by
  rcases Nat.lt_or_ge m a with e | e
  · exact e
  · have := cn_mono (s := s) (a := 0) (b := a) (c := m) (by omega) e
    omega
theorem line_at {a : Nat} (ha : cbZ s a = true) : ∃ x y, lspF s (cn s 0 a) = some (x, y) ∧ x ≤ a ∧ a ≤ y ∧ cbZ s x = true ∧ cbZ s y = true ∧ cn s 0 x = cn s 0 a ∧ cn s 0 y = cn s 0 a := by
  obtain ⟨x, y, hP⟩ := pl_ex ha
  have h1 := hP.sp.num (Nat.le_refl _) hP.sp.le.1
  have h2 := hP.sp.num hP.sp.le.1 (Nat.le_refl _)
  exact ⟨x, y, lspF_eq hP.sp, hP.lo, hP.hi, hP.sp.cb.1, hP.sp.cb.2, by omega, by omega⟩
theorem lead_cb (k : Int) {a : Nat} (ha : cbZ s a = true) (want : Int) (c : Nat) : cbZ s ((lead s k a want c).1 : Nat) = true := by
  obtain ⟨x, y, h1, -, -, h2, h3, -, -⟩ := line_at ha
  unfold lead away
  rw [h1]
  split
  · exact itr_inv (P := fun b => cbZ s (b : Nat) = true) (fun b _ _ => (pvC_is s b).cb) c a ha
  split
  · exact itr_inv (P := fun b => cbZ s (b : Nat) = true) (fun b _ _ => (nxt_is s b).cb) c a ha
  split
  · exact itr_inv (P := fun b => cbZ s (b : Nat) = true) (fun b _ _ => (behind_ok s b).1) c a ha
  split
  · exact itr_inv (P := fun b => cbZ s (b : Nat) = true) (fun b _ _ => (ahead_ok s b).1) c a ha
  split
  · exact h2
  split
  · exact h3
  split
  · exact (plc_cb (hl_in s _)).1
  split
  · exact (plc_cb (hl_in s _)).1
  split
  · exact cb_zero s
  · exact cb_end s
/-- the motions that go back -/
def bck (k : Int) : Bool := decide (k = 4 ∨ k = 6 ∨ k = 8 ∨ k = 10 ∨ k = 12)
theorem pv_le (s : ByteArray) {b : Nat} (h : 0 < b) : pvC s b < b := by rcases (pvC_is s b).dn with e | ⟨e, e'⟩ <;> omega
theorem nx_ge (s : ByteArray) {b : Nat} (h : b < s.size) : b < nxt s b := by rcases (nxt_is s b).up with e | ⟨e, e'⟩ <;> omega
theorem lead_dir {k : Int} (hk : 4 ≤ k ∧ k ≤ 13) {a : Nat} (ha : cbZ s a = true) (want : Int) (c : Nat) (h : (lead s k a want c).2 = true) : (bck k = true → (lead s k a want c).1 ≤ a) ∧ (bck k = false → a ≤ (lead s k a want c).1) := by
  obtain ⟨x, y, h1, hx, hy, -, -, -, -⟩ := line_at ha
  have hal := cb_le ha
  have hin := fun d => plc_cb (c := want) (hl_in s ((cn s 0 a : Int) + d))
  have hcl := cn_mono (s := s) (a := 0) (b := a) (c := s.size) (by omega) hal
  have hkc : k = 4 ∨ k = 5 ∨ k = 6 ∨ k = 7 ∨ k = 8 ∨ k = 9 ∨ k = 10 ∨ k = 11 ∨ k = 12 ∨ k = 13 := by omega
  rcases hkc with rfl | rfl | rfl | rfl | rfl | rfl | rfl | rfl | rfl | rfl
  · refine ⟨fun _ => ?_, fun e => by simp [bck] at e⟩
    exact itr_inv (P := fun b => b ≤ a) (fun b hb hne => by have := pv_le s (b := b) (by omega); omega) c a (Nat.le_refl _)
  · refine ⟨fun e => by simp [bck] at e, fun _ => ?_⟩
    exact (itr_inv (P := fun b => a ≤ b ∧ b ≤ s.size) (fun b hb hne => by have := nx_ge s (b := b) (by omega); have := cb_le (nxt_is s b).cb; omega) c a ⟨Nat.le_refl _, hal⟩).1
  · refine ⟨fun _ => ?_, fun e => by simp [bck] at e⟩
    exact itr_inv (P := fun b => b ≤ a) (fun b hb hne => by have := (behind_ok s b).2.2 (by omega); omega) c a (Nat.le_refl _)
  · refine ⟨fun e => by simp [bck] at e, fun _ => ?_⟩
    exact (itr_inv (P := fun b => a ≤ b ∧ b ≤ s.size) (fun b hb hne => by have := (ahead_ok s b).2; have := this.2 (by omega); omega) c a ⟨Nat.le_refl _, hal⟩).1
  · refine ⟨fun _ => ?_, fun e => by simp [bck] at e⟩
    show ((lspF s (cn s 0 a)).getD (0, 0)).1 ≤ a
    rw [h1]; exact hx
  · refine ⟨fun e => by simp [bck] at e, fun _ => ?_⟩
    show a ≤ ((lspF s (cn s 0 a)).getD (0, 0)).2
    rw [h1]; exact hy
  · refine ⟨fun _ => ?_, fun e => by simp [bck] at e⟩
    have h' : (!decide (hl s ((cn s 0 a : Int) + -(c : Int)) = (cn s 0 a : Int))) = true := h
    simp only [Bool.not_eq_true', decide_eq_false_iff_not] at h'
    obtain ⟨-, q2, q3⟩ := hin (-(c : Int))
    have : hl s ((cn s 0 a : Int) + -(c : Int)) < cn s 0 a := by unfold hl at h' ⊢; omega
    have := cn_lt (s := s) (m := plcF s (hl s ((cn s 0 a : Int) + -(c : Int))) want) (a := a) (by omega)
    exact Nat.le_of_lt this
  · refine ⟨fun e => by simp [bck] at e, fun _ => ?_⟩
    have h' : (!decide (hl s ((cn s 0 a : Int) + (c : Int)) = (cn s 0 a : Int))) = true := h
    simp only [Bool.not_eq_true', decide_eq_false_iff_not] at h'
    obtain ⟨-, q2, q3⟩ := hin (c : Int)
    have : (cn s 0 a : Int) < hl s ((cn s 0 a : Int) + (c : Int)) := by unfold hl at h' ⊢; omega
    have := cn_lt (s := s) (m := a) (a := plcF s (hl s ((cn s 0 a : Int) + (c : Int))) want) (by omega)
    exact Nat.le_of_lt this
  · exact ⟨fun _ => Nat.zero_le _, fun e => by simp [bck] at e⟩
  · exact ⟨fun e => by simp [bck] at e, fun _ => hal⟩
/-- what Go answers, in three cases -/
theorem goP_in {k : Int} (hk : 4 ≤ k ∧ k ≤ 13) (i g n : Int) : goP s k i g n = if (lead s k (snp s i) (wantF s k (snp s i) (max g (-1))) (cnt n)).2 = true then ((((lead s k (snp s i) (wantF s k (snp s i) (max g (-1))) (cnt n)).1 : Nat) : Int), wantF s k (snp s i) (max g (-1)), 0) else (((snp s i : Nat) : Int), max g (-1), 8) := by
  unfold goP
  rw [if_pos hk]
/-- where Go ends: at a boundary; with an error the place stays -/
theorem goP_ends {k : Int} (hk : 4 ≤ k ∧ k ≤ 13) (i g n : Int) : ∃ m : Nat, (goP s k i g n).1 = m ∧ cbZ s m = true ∧ m ≤ s.size ∧ ((goP s k i g n).2.2 = 0 ∨ ((goP s k i g n).2.2 = 8 ∧ m = snp s i)) ∧ (bck k = true → m ≤ snp s i) ∧ (bck k = false → snp s i ≤ m) := by
  rw [goP_in hk]
  have hp := (snp_is s i).cb
  split
  · rename_i h
    have hd := lead_dir hk hp _ _ h
    have hc := lead_cb k hp (wantF s k (snp s i) (max g (-1))) (cnt n)
    exact ⟨_, rfl, hc, cb_le hc, .inl rfl, hd.1, hd.2⟩
  · exact ⟨_, rfl, hp, cb_le hp, .inr ⟨rfl, rfl⟩, fun _ => Nat.le_refl _, fun _ => Nat.le_refl _⟩
/-- one step from a boundary -/
theorem goP_one {k : Int} (hk : 4 ≤ k ∧ k ≤ 13) {p : Nat} (hp : cbZ s p = true) {g : Int} (hg : -1 ≤ g) : goP s k p g 1 = if (lead s k p (wantF s k p g) 1).2 = true then ((((lead s k p (wantF s k p g) 1).1 : Nat) : Int), wantF s k p g, 0) else (((p : Nat) : Int), g, 8) := by
  rw [goP_in hk, snp_self hp, show max g (-1) = g by omega, show cnt 1 = 1 from rfl]
/-- steps one behind the other, until one can't be done -/
noncomputable def wlk (s : ByteArray) (k : Int) : Nat → Int → Int → Int × Int
  | 0, p, g => (p, g)
  | n + 1, p, g => if (goP s k p g 1).2.2 = 0 then wlk s k n (goP s k p g 1).1 (goP s k p g 1).2.1 else ((goP s k p g 1).1, (goP s k p g 1).2.1)
theorem wlk_yes {k : Int} (hk : 4 ≤ k ∧ k ≤ 13) {p : Nat} (hp : cbZ s p = true) {g : Int} (hg : -1 ≤ g) {m : Nat} {y : Int} (hw : wantF s k p g = y) (h : lead s k p y 1 = (m, true)) (n : Nat) : wlk s k (n + 1) p g = wlk s k n m y := by
  have e : goP s k p g 1 = ((m : Int), y, 0) := by rw [goP_one hk hp hg, hw, h]; rfl
  conv => lhs; unfold wlk
  rw [e, if_pos rfl]
theorem wlk_no {k : Int} (hk : 4 ≤ k ∧ k ≤ 13) {p : Nat} (hp : cbZ s p = true) {g : Int} (hg : -1 ≤ g) (h : (lead s k p (wantF s k p g) 1).2 = false) (n : Nat) : wlk s k (n + 1) p g = ((p : Int), g) := by
  have e : goP s k p g 1 = ((p : Int), g, 8) := by rw [goP_one hk hp hg, if_neg (by rw [h]; simp)]
  unfold wlk
  rw [e, if_neg (by simp)]
theorem wlk_itr {k : Int} (hk : 4 ≤ k ∧ k ≤ 13) {f : Nat → Nat} {e : Nat} (hl : ∀ a want c, lead s k a want c = (itr f e c a, !decide ((a : Int) = (e : Nat)))) (hw : ∀ p g, wantF s k p g = -1) (hf : ∀ a, cbZ s (a : Nat) = true → a ≠ e → cbZ s (f a : Nat) = true) : ∀ (n p : Nat) (g : Int), cbZ s p = true → -1 ≤ g → (wlk s k n p g).1 = itr f e n p
  | 0, p, g, hp, hg => rfl
  | n + 1, p, g, hp, hg => by
    by_cases h : p = e
    · subst h
      rw [itr_edge, wlk_no hk hp hg (by rw [hl]; simp)]
    · rw [wlk_yes hk hp hg (hw p g) (m := f p) (by rw [hl, itr_on 0 h]; simp [itr]; omega), itr_on _ h]
      exact wlk_itr hk hl hw hf n (f p) (-1) (hf p hp h) (by omega)
theorem wlk_fix {k : Int} (hk : 4 ≤ k ∧ k ≤ 13) {X : Nat → Nat} (hl : ∀ a want c, lead s k a want c = (X a, true)) (hw : ∀ p g, wantF s k p g = -1) (hf : ∀ a, cbZ s (a : Nat) = true → cbZ s (X a : Nat) = true ∧ X (X a) = X a) : ∀ (n p : Nat) (g : Int), cbZ s p = true → -1 ≤ g → X p = p ∨ 0 < n → (wlk s k n p g).1 = X p
  | 0, p, g, hp, hg, h => by
    rcases h with h | h
    · rw [h]; rfl
    · omega
  | n + 1, p, g, hp, hg, h => by
    rw [wlk_yes hk hp hg (hw p g) (hl _ _ _)]
    have := wlk_fix hk hl hw hf n (X p) (-1) (hf p hp).1 (by omega) (.inl (hf p hp).2)
    rw [this, (hf p hp).2]
theorem want_pos {p : Nat} (hp : cbZ s p = true) {g : Int} (hg : -1 ≤ g) : 0 ≤ (if g = -1 then colF s p else g) := by
  have := col_bd hp
  split <;> omega
theorem wlk_up {k D : Int} (hk : k = 10 ∨ k = 11) (hD : D = 1 ∨ D = -1) (hl0 : ∀ (a : Nat) (want : Int) (c : Nat), lead s k a want c = away s a want (D * c)) : ∀ (n p : Nat) (g : Int), cbZ s p = true → -1 ≤ g → wlk s k n p g = if hl s ((cn s 0 p : Int) + D * n) = (cn s 0 p : Int) then ((p : Int), g) else (((plcF s (hl s ((cn s 0 p : Int) + D * n)) (if g = -1 then colF s p else g) : Nat) : Int), if g = -1 then colF s p else g)
  | 0, p, g, hp, hg => by
    rw [if_pos (by rw [show (cn s 0 p : Int) + D * (0 : Nat) = cn s 0 p by simp]; exact hl_of s (cb_le hp))]
    rfl
  | n + 1, p, g, hp, hg => by
    have hk' : 4 ≤ k ∧ k ≤ 13 := by omega
    have hw : wantF s k p g = if g = -1 then colF s p else g := by unfold wantF; rw [if_pos hk]
    have hwp := want_pos hp hg
    have hcl := cn_mono (s := s) (a := 0) (b := p) (c := s.size) (by omega) (cb_le hp)
    generalize (if g = -1 then colF s p else g) = W at hw hwp ⊢
    by_cases h1 : hl s ((cn s 0 p : Int) + D) = (cn s 0 p : Int)
    · have e1 : hl s ((cn s 0 p : Int) + D * ((n + 1 : Nat) : Int)) = (cn s 0 p : Int) := by
        rcases hD with rfl | rfl <;> (unfold hl at h1 ⊢; omega)
      rw [if_pos e1]
      refine wlk_no hk' hp hg ?_ n
      rw [hw, hl0]
      unfold away
      simp [h1]
    · obtain ⟨q1, q2, q3⟩ := plc_cb (s := s) (c := W) (hl_in s ((cn s 0 p : Int) + D))
      have e1 : hl s ((cn s 0 p : Int) + D) = (cn s 0 p : Int) + D := by rcases hD with rfl | rfl <;> (unfold hl at h1 ⊢; omega)
      have e2 : (cn s 0 p : Int) + D + D * (n : Nat) = (cn s 0 p : Int) + D * ((n + 1 : Nat) : Int) := by
        rcases hD with rfl | rfl <;> omega
      have e3 : hl s ((cn s 0 p : Int) + D * ((n + 1 : Nat) : Int)) ≠ (cn s 0 p : Int) := by
        rcases hD with rfl | rfl <;> (unfold hl at h1 ⊢; omega)
      rw [wlk_yes hk' hp hg hw (m := plcF s (hl s ((cn s 0 p : Int) + D)) W) (by rw [hl0]; unfold away; simp [h1])]
      rw [wlk_up hk hD hl0 n _ W q1 (by omega), q2, if_neg (show ¬ W = -1 by omega), e1, e2, if_neg e3]
      split
      · rename_i h2
        rw [h2]
      · rfl
/-- a count is so many steps, as far as they go -/
theorem wlk_all {k : Int} (hk : 4 ≤ k ∧ k ≤ 13) (i n : Int) : (wlk s k (cnt n) (snp s i : Nat) (-1)).1 = (goP s k i (-1) n).1 ∧ ((wlk s k (cnt n) (snp s i : Nat) (-1)).2 = (goP s k i (-1) n).2.1 ∨ (goP s k i (-1) n).2.1 = -1) := by
  have hp := (snp_is s i).cb
  have hc : 0 < cnt n := by have := cnt_eq n; omega
  rw [goP_in hk, show max (-1 : Int) (-1) = -1 from rfl]
  generalize snp s i = p at hp ⊢
  generalize cnt n = c at hc ⊢
  have nv : k ≠ 10 → k ≠ 11 → ∀ (p : Nat) (g : Int), wantF s k p g = -1 := fun h1 h2 p g => by unfold wantF; rw [if_neg (by omega)]
  have hkc : k = 4 ∨ k = 5 ∨ k = 6 ∨ k = 7 ∨ k = 8 ∨ k = 9 ∨ k = 10 ∨ k = 11 ∨ k = 12 ∨ k = 13 := by omega
  have fin1 : ∀ {f : Nat → Nat} {e : Nat}, (∀ a want c, lead s k a want c = (itr f e c a, !decide ((a : Int) = (e : Nat)))) → (∀ p g, wantF s k p g = -1) → (∀ a, cbZ s (a : Nat) = true → a ≠ e → cbZ s (f a : Nat) = true) → (wlk s k c (p : Nat) (-1)).1 = (if (lead s k p (wantF s k p (-1)) c).2 = true then ((((lead s k p (wantF s k p (-1)) c).1 : Nat) : Int), wantF s k p (-1), (0 : Int)) else (((p : Nat) : Int), (-1 : Int), (8 : Int))).1 ∧ ((wlk s k c (p : Nat) (-1)).2 = (if (lead s k p (wantF s k p (-1)) c).2 = true then ((((lead s k p (wantF s k p (-1)) c).1 : Nat) : Int), wantF s k p (-1), (0 : Int)) else (((p : Nat) : Int), (-1 : Int), (8 : Int))).2.1 ∨ (if (lead s k p (wantF s k p (-1)) c).2 = true then ((((lead s k p (wantF s k p (-1)) c).1 : Nat) : Int), wantF s k p (-1), (0 : Int)) else (((p : Nat) : Int), (-1 : Int), (8 : Int))).2.1 = -1) := by
    intro f e a1 a2 a3
    rw [wlk_itr hk a1 a2 a3 c p (-1) hp (by omega), a1, a2]
    by_cases h : p = e
    · subst h; rw [itr_edge]; simp
    · rw [if_pos (by simp; omega)]; simp
  have fin2 : ∀ {X : Nat → Nat}, (∀ a want c, lead s k a want c = (X a, true)) → (∀ p g, wantF s k p g = -1) → (∀ a, cbZ s (a : Nat) = true → cbZ s (X a : Nat) = true ∧ X (X a) = X a) → (wlk s k c (p : Nat) (-1)).1 = (if (lead s k p (wantF s k p (-1)) c).2 = true then ((((lead s k p (wantF s k p (-1)) c).1 : Nat) : Int), wantF s k p (-1), (0 : Int)) else (((p : Nat) : Int), (-1 : Int), (8 : Int))).1 ∧ ((wlk s k c (p : Nat) (-1)).2 = (if (lead s k p (wantF s k p (-1)) c).2 = true then ((((lead s k p (wantF s k p (-1)) c).1 : Nat) : Int), wantF s k p (-1), (0 : Int)) else (((p : Nat) : Int), (-1 : Int), (8 : Int))).2.1 ∨ (if (lead s k p (wantF s k p (-1)) c).2 = true then ((((lead s k p (wantF s k p (-1)) c).1 : Nat) : Int), wantF s k p (-1), (0 : Int)) else (((p : Nat) : Int), (-1 : Int), (8 : Int))).2.1 = -1) := by
    intro X a1 a2 a3
    rw [wlk_fix hk a1 a2 a3 c p (-1) hp (by omega) (.inr hc), a1, a2, if_pos rfl]
    simp
  have fin3 : ∀ {D : Int}, (k = 10 ∨ k = 11) → (D = 1 ∨ D = -1) → (∀ (a : Nat) (want : Int) (c : Nat), lead s k a want c = away s a want (D * c)) → (wlk s k c (p : Nat) (-1)).1 = (if (lead s k p (wantF s k p (-1)) c).2 = true then ((((lead s k p (wantF s k p (-1)) c).1 : Nat) : Int), wantF s k p (-1), (0 : Int)) else (((p : Nat) : Int), (-1 : Int), (8 : Int))).1 ∧ ((wlk s k c (p : Nat) (-1)).2 = (if (lead s k p (wantF s k p (-1)) c).2 = true then ((((lead s k p (wantF s k p (-1)) c).1 : Nat) : Int), wantF s k p (-1), (0 : Int)) else (((p : Nat) : Int), (-1 : Int), (8 : Int))).2.1 ∨ (if (lead s k p (wantF s k p (-1)) c).2 = true then ((((lead s k p (wantF s k p (-1)) c).1 : Nat) : Int), wantF s k p (-1), (0 : Int)) else (((p : Nat) : Int), (-1 : Int), (8 : Int))).2.1 = -1) := by
    intro D a1 a2 a3
    have hw : wantF s k p (-1) = colF s p := by unfold wantF; rw [if_pos a1, if_pos rfl]
    rw [wlk_up a1 a2 a3 c p (-1) hp (by omega), a3, hw, if_pos rfl]
    unfold away
    by_cases h : hl s ((cn s 0 p : Int) + D * c) = (cn s 0 p : Int)
    · rw [if_pos h, if_neg (by simp [h])]; simp
    · rw [if_neg h, if_pos (by simp [h])]; simp
  rcases hkc with rfl | rfl | rfl | rfl | rfl | rfl | rfl | rfl | rfl | rfl
  · exact fin1 (f := pvC s) (e := 0) (fun _ _ _ => rfl) (nv (by decide) (by decide)) (fun a _ _ => (pvC_is s a).cb)
  · exact fin1 (f := nxt s) (e := s.size) (fun _ _ _ => rfl) (nv (by decide) (by decide)) (fun a _ _ => (nxt_is s a).cb)
  · exact fin1 (f := behindW (words s)) (e := 0) (fun _ _ _ => rfl) (nv (by decide) (by decide)) (fun a _ _ => (behind_ok s a).1)
  · exact fin1 (f := aheadW (words s) s.size) (e := s.size) (fun _ _ _ => rfl) (nv (by decide) (by decide)) (fun a _ _ => (ahead_ok s a).1)
  · refine fin2 (X := fun a => ((lspF s (cn s 0 a)).getD (0, 0)).1) (fun _ _ _ => rfl) (nv (by decide) (by decide)) (fun a ha => ?_)
    obtain ⟨x, y, h1, -, -, h2, h3, h4, h5⟩ := line_at ha
    simp only [h1, Option.getD_some, h4]
    exact ⟨h2, trivial⟩
  · refine fin2 (X := fun a => ((lspF s (cn s 0 a)).getD (0, 0)).2) (fun _ _ _ => rfl) (nv (by decide) (by decide)) (fun a ha => ?_)
    obtain ⟨x, y, h1, -, -, h2, h3, h4, h5⟩ := line_at ha
    simp only [h1, Option.getD_some, h5]
    exact ⟨h3, trivial⟩
  · exact fin3 (D := -1) (.inl rfl) (.inr rfl) (fun a want c => by rw [show (-1 : Int) * c = -(c : Int) by omega]; rfl)
  · exact fin3 (D := 1) (.inr rfl) (.inl rfl) (fun a want c => by rw [Int.one_mul]; rfl)
  · exact fin2 (X := fun _ => 0) (fun _ _ _ => rfl) (nv (by decide) (by decide)) (fun a ha => ⟨cb_zero s, rfl⟩)
  · exact fin2 (X := fun _ => s.size) (fun _ _ _ => rfl) (nv (by decide) (by decide)) (fun a ha => ⟨cb_end s, rfl⟩)
theorem goP_goal {k : Int} (hk : 4 ≤ k ∧ k ≤ 13) (hs : s.size ≤ 1073741824) (i : Int) {g : Int} (hg : g ≤ 9223372036854775807) (n : Int) : -1 ≤ (goP s k i g n).2.1 ∧ (goP s k i g n).2.1 ≤ 9223372036854775807 := by
  rw [goP_in hk]
  have hb := col_bd (snp_is s i).cb
  split
  · show -1 ≤ wantF s k (snp s i) (max g (-1)) ∧ wantF s k (snp s i) (max g (-1)) ≤ 9223372036854775807
    unfold wantF
    split
    · split <;> omega
    · omega
  · show -1 ≤ max g (-1) ∧ max g (-1) ≤ 9223372036854775807
    omega
theorem wlk_zero (s : ByteArray) (k : Int) (p g : Int) : wlk s k 0 p g = (p, g) := rfl
theorem wlk_ok {k : Int} {p g x y : Int} (h : goP s k p g 1 = (x, y, 0)) (n : Nat) : wlk s k (n + 1) p g = wlk s k n x y := by
  conv => lhs; unfold wlk
  rw [h, if_pos rfl]
theorem wlk_end {k : Int} {p g x y e : Int} (h : goP s k p g 1 = (x, y, e)) (he : e ≠ 0) (n : Nat) : wlk s k (n + 1) p g = (x, y) := by
  unfold wlk
  rw [h, if_neg he]
end
end Go.Proofs.YtplieccalmkloaaGreatDoor.Sto
namespace Go.Proofs.YtplieccalmkloaaGreatDoor.Sto
open Go.RowKit Go.Shelf Bod Wid Go.Lib

theorem cn_zero {s : ByteArray} {a : Nat} : ∀ (d : Nat), a + d ≤ s.size → (∀ j, a ≤ j → j < a + d → byt s j ≠ 10) → cn s a (a + d) = 0
  | 0, _, _ => cn_self _ _
  | d + 1, h, hn => by
    have ih := cn_zero d (by omega) (fun j h1 h2 => hn j h1 (by omega))
    have e := cn_add (s := s) (a := a) (b := a + d) (c := a + d + 1) (by omega) (by omega)
    rw [cn_one (by omega), if_neg (hn (a + d) (by omega) (by omega))] at e
    show cn s a (a + d + 1) = 0
    omega
theorem clF_k (s : ByteArray) : ∀ (f i p : Nat) (c : Clu), s.size - i ≤ f → B s p → p < s.size → i = p + sz s p → c.to = i → (c.k = 1 ↔ ch s p = 10) → ∀ d ∈ clF s c (ch s p) (offs s i), ∃ q, B s q ∧ q < s.size ∧ d.to = q + sz s q ∧ (d.k = 1 ↔ ch s q = 10)
  | f, i, p, c, hf, hp, hps, hip, hto, hk, d, hd => by
    have hb : B s i := by rw [hip]; exact B_next hp hps
    by_cases h : i < s.size
    · have h1 := sz_pos h
      cases f with
      | zero => omega
      | succ f =>
        rw [offs_step h] at hd
        simp only [clF] at hd
        by_cases hj : jn (ch s p) (ch s i) = true
        · rw [if_pos hj] at hd
          refine clF_k s f (i + sz s i) i (gro s c i) (by omega) hb h rfl (by show c.to + _ = _; omega) ?_ d hd
          show (if ch s i = 10 then (1 : Int) else c.k) = 1 ↔ ch s i = 10
          by_cases e : ch s i = 10
          · rw [if_pos e]; exact ⟨fun _ => e, fun _ => rfl⟩
          · rw [if_neg e]
            have hne : ch s p ≠ 10 := fun e2 => by
              rw [e2, jn_lf] at hj; cases hj
            exact ⟨fun x => absurd (hk.1 x) hne, fun x => absurd x e⟩
        · rw [if_neg hj] at hd
          rcases List.mem_cons.1 hd with rfl | hd
          · exact ⟨p, hp, hps, by omega, hk⟩
          · exact clF_k s f (i + sz s i) i (beg s i) (by omega) hb h rfl rfl cls_lf d hd
    · rw [offs_end (by omega)] at hd
      simp only [clF, List.mem_singleton] at hd
      subst hd
      exact ⟨p, hp, hps, by omega, hk⟩
/-- a cluster is a newline just where it ends with LF -/
theorem cl_k (s : ByteArray) : ∀ d ∈ cl s, (d.k = 1 ↔ byt s (d.to - 1) = 10) := by
  intro d hd
  have hmem := til_mem _ _ _ (cl_tile s) d hd
  obtain ⟨q, q1, q2, q3, q4⟩ : ∃ q, B s q ∧ q < s.size ∧ d.to = q + sz s q ∧ (d.k = 1 ↔ ch s q = 10) := by
    by_cases h : 0 < s.size
    · have h1 := sz_pos h
      unfold cl at hd
      rw [offs_step h] at hd
      exact clF_k s s.size (0 + sz s 0) 0 (beg s 0) (by omega) (B_zero s) h rfl rfl cls_lf d hd
    · rw [cl_nil (by omega)] at hd; simp at hd
  rw [q4]
  have hz := sz_pos q2
  constructor
  · intro e
    obtain ⟨e1, e2⟩ := ch_lf e
    rw [bt_byt q2] at e1
    rw [show d.to - 1 = q by omega]
    exact UInt8.toNat_inj.1 e1
  · intro e
    have hB := lf_B (s := s) (i := d.to - 1) (by omega) e
    have hq : q = d.to - 1 := by
      rcases Nat.lt_or_ge q (d.to - 1) with x | x
      · have := hB.2 q x; omega
      · omega
    have := (lf_ch (lf_bt (by omega) e)).1
    rw [← hq] at this
    exact this
theorem cl_cn {s : ByteArray} {d : Clu} (hd : d ∈ cl s) : cn s d.fr d.to = if d.k = 1 then 1 else 0 := by
  have hmem := til_mem _ _ _ (cl_tile s) d hd
  have hs := cl_cb s d hd
  have h0 : cn s d.fr (d.to - 1) = 0 := by
    have := cn_zero (s := s) (a := d.fr) (d.to - 1 - d.fr) (by omega) (fun j h1 h2 e => by
      have h3 := lf_cb (s := s) (p := j + 1) (by omega) (by omega) (by simpa using e)
      have h4 := hs.2 ((j + 1 : Nat) : Int) (by omega) (by omega)
      rw [h3] at h4; cases h4)
    rw [show d.fr + (d.to - 1 - d.fr) = d.to - 1 by omega] at this
    exact this
  have e := cn_add (s := s) (a := d.fr) (b := d.to - 1) (c := d.to) (by omega) (by omega)
  have e1 := cn_one (s := s) (i := d.to - 1) (by omega)
  rw [show d.to - 1 + 1 = d.to by omega] at e1
  rw [e, h0, e1]
  have := cl_k s d hd
  by_cases hk : d.k = 1
  · rw [if_pos hk, if_pos (this.1 hk)]
  · rw [if_neg hk, if_neg (fun x => hk (this.2 x))]
theorem tiled_split : ∀ (p1 p2 q1 q2 : List Clu) (i a : Nat), p1 ++ q1 = p2 ++ q2 → tiled i p1 a → tiled i p2 a → p1 = p2 ∧ q1 = q2
  | [], [], _, _, _, _, h, _, _ => ⟨rfl, h⟩
  | [], c :: p2, _, _, i, a, _, h1, h2 => by
    have e : i = a := h1
    have := (tiled_end _ _ _ h2.2.2).1
    have := h2.2.1
    omega
  | c :: p1, [], _, _, i, a, _, h1, h2 => by
    have e : i = a := h2
    have := (tiled_end _ _ _ h1.2.2).1
    have := h1.2.1
    omega
  | c :: p1, d :: p2, q1, q2, i, a, h, h1, h2 => by
    injection h with e1 e2
    subst e1
    obtain ⟨e3, e4⟩ := tiled_split p1 p2 q1 q2 c.to a e2 h1.2.2 h2.2.2
    exact ⟨by rw [e3], e4⟩
/-- what lies between two boundaries are the clusters of that piece -/
theorem mid_uniq {s : ByteArray} {a b : Nat} {pre m post : List Clu} (h : pre ++ (m ++ post) = cl s) (h1 : tiled 0 pre a) (h2 : tiled a m b) (_h3 : tiled b post s.size) (ha : cbZ s a = true) (hb : cbZ s b = true) : m = (cl (s.extract a b)).map (sh a) := by
  obtain ⟨pre', post', hm⟩ := mid_ex ha hb (tiled_end _ _ _ h2).1
  rw [hm.eq] at h
  obtain ⟨e1, e2⟩ := tiled_split _ _ _ _ _ _ h h1 hm.l
  exact (tiled_split _ _ _ _ _ _ e2 h2 hm.m).1
abbrev Lz := Nat × Nat × List Clu
/-- the lines from the one that begins at f, of which the clusters acc are read -/
def lnL (n : Nat) : Nat → List Clu → List Clu → List Lz
  | f, acc, [] => [(f, n, acc)]
  | f, acc, c :: r => if c.k = 1 then (f, c.fr, acc) :: lnL n c.to [] r else lnL n f (acc ++ [c]) r
/-- the lines of a text: beginning, end, clusters -/
def lsL (s : ByteArray) : List Lz := lnL s.size 0 [] (cl s)
theorem lnL_is {s : ByteArray} : ∀ (rest acc pre : List Clu) (f a : Nat) (l : Nat), pre ++ (acc ++ rest) = cl s → tiled 0 pre f → tiled f acc a → tiled a rest s.size → cbZ s f = true → cbZ s a = true → IsN s l f → cn s f a = 0 →
    (∀ (j : Nat) (z : Lz), (lnL s.size f acc rest)[j]? = some z → IsS s ((l + j : Nat) : Int) (some (z.1, z.2.1)) ∧ z.2.2 = (cl (s.extract z.1 z.2.1)).map (sh z.1)) ∧ l + (lnL s.size f acc rest).length = cn s 0 s.size + 1
  | [], acc, pre, f, a, l, he, h1, h2, h3, hf, ha, hN, hc => by
    have e : a = s.size := h3
    subst e
    have hacc := mid_uniq he h1 h2 h3 hf ha
    have e1 := cn_add (s := s) (a := 0) (b := f) (c := s.size) (by omega) hN.1
    have e2 := hN.2.2
    refine ⟨fun j z hz => ?_, ?_⟩
    · cases j with
      | zero =>
        simp only [lnL, List.getElem?_cons_zero, Option.some.injEq] at hz
        subst hz
        exact ⟨⟨hN, none, by show cn s f s.size < 1; omega, rfl⟩, hacc⟩
      | succ j => simp [lnL] at hz
    · simp only [lnL, List.length_cons, List.length_nil]; omega
  | c :: r, acc, pre, f, a, l, he, h1, h2, ⟨g1, g2, g3⟩, hf, ha, hN, hc => by
    have hmem : c ∈ cl s := by rw [← he]; simp
    have hcs := cl_cb s c hmem
    have hcn := cl_cn hmem
    rw [g1] at hcn
    unfold Sp at hcs
    rw [g1] at hcs
    have hto := (tiled_end _ _ _ g3).1
    have hfa := (tiled_end _ _ _ h2).1
    have e1 := cn_add (s := s) (a := f) (b := a) (c := c.to) hfa (by omega)
    unfold lnL
    by_cases hk : c.k = 1
    · rw [if_pos hk] at hcn ⊢
      have hb10 := (cl_k s c hmem).1 hk
      have hB : IsB s f s.size 1 (some c.to) := ⟨by omega, hto, hb10, by omega⟩
      have hS : IsS s (l : Int) (some (f, lend s f (some c.to))) := ⟨hN, some c.to, hB, rfl⟩
      have hnl := hS.nl hB
      have hbl := hS.cb.2
      have hla : lend s f (some c.to) = a := by
        rcases Nat.lt_trichotomy (lend s f (some c.to)) a with x | x | x
        · have := hnl.2.2.1.no a (by omega) (by omega); rw [ha] at this; cases this
        · exact x
        · have := hcs.2 (lend s f (some c.to) : Nat) (by omega) (by have := hnl.1; omega); rw [hbl] at this; cases this
      rw [hla] at hS
      have hacc := mid_uniq he h1 h2 ⟨g1, g2, g3⟩ hf ha
      have hN2 := hnl.2.2.2.2.2.2
      have ih := lnL_is (s := s) r [] (pre ++ acc ++ [c]) c.to c.to (l + 1) (by rw [← he]; simp) (til_app _ _ _ a _ (til_app _ _ _ f _ h1 h2) ⟨g1, g2, rfl⟩) rfl g3 hcs.1 hcs.1 (by exact_mod_cast hN2) (cn_self _ _)
      refine ⟨fun j z hz => ?_, ?_⟩
      · cases j with
        | zero =>
          simp only [List.getElem?_cons_zero, Option.some.injEq] at hz
          subst hz
          rw [g1]
          exact ⟨hS, hacc⟩
        | succ j =>
          have := ih.1 j z (by simpa using hz)
          rw [show l + 1 + j = l + (j + 1) by omega] at this
          exact this
      · have := ih.2
        simp only [List.length_cons]; omega
    · rw [if_neg hk] at hcn ⊢
      exact lnL_is (s := s) r (acc ++ [c]) pre f c.to l (by rw [← he]; simp) h1 (til_app _ _ _ a _ h2 ⟨g1, g2, rfl⟩) g3 hf hcs.1 hN (by omega)
section
variable {s : ByteArray}
theorem lsL_is (s : ByteArray) : (∀ (j : Nat) (z : Lz), (lsL s)[j]? = some z → IsS s (j : Int) (some (z.1, z.2.1)) ∧ z.2.2 = (cl (s.extract z.1 z.2.1)).map (sh z.1)) ∧ (lsL s).length = cn s 0 s.size + 1 := by
  have := lnL_is (s := s) (cl s) [] [] 0 0 0 rfl rfl rfl (cl_tile s) (cb_zero s) (cb_zero s) ⟨Nat.zero_le _, .inl rfl, by rw [cn_self]⟩ (cn_self _ _)
  refine ⟨fun j z hz => ?_, by have := this.2; unfold lsL; omega⟩
  have h := this.1 j z hz
  rw [Nat.zero_add] at h
  exact h
/-- the line of a number, in the list -/
theorem lsL_at {l : Nat} (h : l ≤ cn s 0 s.size) : ∃ z : Lz, (lsL s)[l]? = some z ∧ IsS s (l : Int) (some (z.1, z.2.1)) ∧ z.2.2 = (cl (s.extract z.1 z.2.1)).map (sh z.1) := by
  have hl := (lsL_is s).2
  have : l < (lsL s).length := by omega
  exact ⟨_, List.getElem?_eq_getElem this, (lsL_is s).1 l _ (List.getElem?_eq_getElem this)⟩
/-- no line ahead of a boundary's holds it -/
theorem lsL_no {p j : Nat} {z : Lz} (hz : (lsL s)[j]? = some z) (hj : j < cn s 0 p) : ¬ (z.1 ≤ p ∧ p ≤ z.2.1) := fun h => by
  have := ((lsL_is s).1 j z hz).1.num h.1 h.2
  omega
theorem lsL_in {p : Nat} (hp : cbZ s p = true) {z : Lz} (hz : (lsL s)[cn s 0 p]? = some z) : z.1 ≤ p ∧ p ≤ z.2.1 := by
  obtain ⟨x, y, hP⟩ := pl_ex hp
  have e := ((lsL_is s).1 _ z hz).1.uniq hP.sp
  injection e with e
  injection e with e1 e2
  rw [e1, e2]
  exact ⟨hP.lo, hP.hi⟩
/-- the sum of the cells of the clusters that end at p or ahead of it -/
def colS (p : Nat) : List Clu → Int
  | [] => 0
  | c :: r => (if c.to ≤ p then c.n else 0) + colS p r
theorem colS_app (p : Nat) : ∀ a b : List Clu, colS p (a ++ b) = colS p a + colS p b
  | [], b => by simp [colS]
  | c :: r, b => by
    have := colS_app p r b
    simp only [List.cons_append, colS]
    omega
theorem colS_all (p : Nat) : ∀ (l : List Clu) (i : Nat), tiled i l p → colS p l = sumN l
  | [], _, _ => rfl
  | c :: r, i, ⟨h1, h2, h3⟩ => by
    have := (tiled_end _ _ _ h3).1
    simp only [colS, sumN, if_pos this, colS_all p r c.to h3]
theorem colS_no (p : Nat) : ∀ (l : List Clu) (i j : Nat), tiled i l j → p ≤ i → colS p l = 0
  | [], _, _, _, _ => rfl
  | c :: r, i, j, ⟨h1, h2, h3⟩, h => by
    have h4 := colS_no p r c.to j h3 (by omega)
    simp only [colS, if_neg (show ¬ c.to ≤ p by omega), h4]
    rfl
theorem map_sh_til {s : ByteArray} {x y : Nat} (h : x ≤ y) (hy : y ≤ s.size) : tiled x ((cl (s.extract x y)).map (sh x)) y := by
  have hz : (s.extract x y).size = y - x := size_extract s x y hy
  have t2 := tiled_sh x _ _ _ (cl_tile (s.extract x y))
  rw [hz, show 0 + x = x by omega, show y - x + x = y by omega] at t2
  exact t2
theorem map_split {s : ByteArray} {x p y : Nat} (hx : cbZ s x = true) (hp : cbZ s p = true) (hy : cbZ s y = true) (h1 : x ≤ p) (h2 : p ≤ y) : (cl (s.extract x y)).map (sh x) = (cl (s.extract x p)).map (sh x) ++ (cl (s.extract p y)).map (sh p) := by
  obtain ⟨pre, post, hm⟩ := mid_ex hx hp h1
  obtain ⟨pre2, post2, hm2⟩ := mid_ex hp hy h2
  have e := hm.eq.symm.trans hm2.eq
  rw [← List.append_assoc] at e
  obtain ⟨e1, e2⟩ := tiled_split _ _ _ _ 0 p e (til_app _ _ _ _ _ hm.l hm.m) hm2.l
  refine (mid_uniq (m := (cl (s.extract x p)).map (sh x) ++ (cl (s.extract p y)).map (sh p)) (pre := pre) (post := post2) ?_ hm.l (til_app _ _ _ _ _ hm.m hm2.m) hm2.r hx hy).symm
  rw [hm.eq, e2, List.append_assoc]
theorem col_sum {p : Nat} (hp : cbZ s p = true) {z : Lz} (hz : (lsL s)[cn s 0 p]? = some z) : colS p z.2.2 = colF s p := by
  obtain ⟨x, y, hP⟩ := pl_ex hp
  have h0 := (lsL_is s).1 _ z hz
  have e := h0.1.uniq hP.sp
  injection e with e
  injection e with e1 e2
  have hx := hP.sp.cb
  have hle := hP.sp.le
  rw [h0.2, e1, e2, col_pl hP, map_split hx.1 hp hx.2 hP.lo hP.hi, colS_app, colS_all p _ x (map_sh_til hP.lo (cb_le hp)), colS_no p _ p y (map_sh_til hP.hi hle.2) (Nat.le_refl _), sumN_sh]
  show sumN (cl (s.extract x p)) + 0 = cw s x p
  unfold cw; omega
/-- the end of the last cluster up to which there are at most c cells; b, if there is none -/
def plcS (c : Int) : Nat → Int → List Clu → Nat
  | b, _, [] => b
  | b, n, d :: r => plcS c (if n + d.n ≤ c then d.to else b) (n + d.n) r
theorem plcS_is {x y : Nat} {c : Int} (hx : cbZ s x = true) (hy : cbZ s y = true) : ∀ (r pre : List Clu) (a b : Nat), pre ++ r = (cl (s.extract x y)).map (sh x) → tiled x pre a → tiled a r y → cbZ s a = true → IsR s x a c b → IsR s x y c (plcS c b (sumN pre) r)
  | [], pre, a, b, he, h1, h2, ha, hR => by
    have e : a = y := h2
    subst e
    exact hR
  | d :: r, pre, a, b, he, h1, ⟨g1, g2, g3⟩, ha, hR => by
    unfold plcS
    have hay : d.to ≤ y := (tiled_end _ _ _ g3).1
    have hxa := (tiled_end _ _ _ h1).1
    have hys := cb_le hy
    obtain ⟨d', hd', rfl⟩ : ∃ d', d' ∈ cl (s.extract x y) ∧ sh x d' = d := by
      have : d ∈ (cl (s.extract x y)).map (sh x) := by rw [← he]; simp
      simpa using this
    have hz : (s.extract x y).size = y - x := size_extract s x y hys
    have hm := til_mem _ _ _ (cl_tile (s.extract x y)) d' hd'
    have hsp := cl_cb (s.extract x y) d' hd'
    have t1 : (sh x d').to = d'.to + x := rfl
    have t0 : (sh x d').fr = d'.fr + x := rfl
    have hcb : cbZ s ((sh x d').to : Nat) = true := by
      rw [← hsp.1, sub_cb hx hy (by omega), t1, Nat.add_comm]
    have hno : ∀ j : Nat, a < j → j < (sh x d').to → cbZ s (j : Nat) = false := fun j j1 j2 => by
      have := hsp.2 ((j - x : Nat) : Int) (by omega) (by omega)
      rw [sub_cb hx hy (by omega), show x + (j - x) = j by omega] at this
      exact this
    have hcw : cw s x (sh x d').to = sumN (pre ++ [sh x d']) := by
      have e1 : pre ++ [sh x d'] = (cl (s.extract x (sh x d').to)).map (sh x) := by
        have e2 := map_split hx hcb hy (by omega) hay
        rw [← he] at e2
        have e2' := e2
        rw [show pre ++ sh x d' :: r = (pre ++ [sh x d']) ++ r by simp] at e2'
        exact (tiled_split _ _ _ _ x (sh x d').to e2' (til_app _ _ _ a _ h1 ⟨g1, g2, rfl⟩) (map_sh_til (by omega) (by omega))).1
      rw [e1, sumN_sh]; rfl
    have hsum : sumN (pre ++ [sh x d']) = sumN pre + (sh x d').n := by rw [sumN_app]; show _ + ((sh x d').n + 0) = _; omega
    rw [hsum] at hcw
    have key : IsR s x (sh x d').to c (if sumN pre + (sh x d').n ≤ c then (sh x d').to else b) := by
      split
      · rename_i hle
        exact ⟨by omega, Nat.le_refl _, hcb, by rw [hcw]; exact hle, fun j j1 j2 => by omega⟩
      · rename_i hgt
        refine ⟨hR.lo, by have := hR.hi; omega, hR.cb, hR.fit, fun j j1 j2 j3 => ?_⟩
        rcases Nat.lt_or_ge a j with q | q
        · rcases Nat.lt_or_ge j (sh x d').to with q2 | q2
          · rw [hno j q q2] at j3; cases j3
          · obtain rfl : j = (sh x d').to := by omega
            rw [hcw]; omega
        · exact hR.no j j1 q j3
    have := plcS_is (x := x) (y := y) (c := c) hx hy r (pre ++ [sh x d']) (sh x d').to _ (by rw [← he]; simp) (til_app _ _ _ a _ h1 ⟨g1, g2, rfl⟩) g3 hcb key
    rw [hsum] at this
    exact this
theorem plc_sum {l : Nat} {c : Int} (hc : 0 ≤ c) {z : Lz} (hz : (lsL s)[l]? = some z) : plcS c z.1 0 z.2.2 = plcF s l c := by
  have h0 := (lsL_is s).1 _ z hz
  have hx := h0.1.cb
  have hle := h0.1.le
  have hR := plc_is (c := c) h0.1
  rw [show max c 0 = c by omega] at hR
  have := plcS_is (c := c) hx.1 hx.2 (cl (s.extract z.1 z.2.1) |>.map (sh z.1)) [] z.1 z.1 rfl rfl (map_sh_til hle.1 hle.2) hx.1 ⟨Nat.le_refl _, Nat.le_refl _, hx.1, by rw [cw_self]; exact hc, fun j j1 j2 => by omega⟩
  rw [← h0.2] at this
  exact this.uniq hR
end
end Go.Proofs.YtplieccalmkloaaGreatDoor.Sto
