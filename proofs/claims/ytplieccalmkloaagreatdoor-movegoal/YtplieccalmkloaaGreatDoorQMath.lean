/-
  Where words lead in a piece of a text, steps one behind the other, a boundary in its line: in plain words. No program in this text; no conditions.
-/
import Derived.Test.YtplieccalmkloaaGreatDoorPkDK
import Derived.Test.YtplieccalmkloaaGreatDoorPkC
import Derived.Test.YtplieccalmkloaaGreatDoorPkDB
import Derived.Test.YtplieccalmkloaaGreatDoorPkR
namespace Go.Proofs.YtplieccalmkloaaGreatDoor.Sto
open Go.RowKit Go.Shelf Bod Wid Go.Lib

theorem tiled_sh (d : Nat) : ∀ (l : List Clu) (i j : Nat), tiled i l j → tiled (i + d) (l.map (sh d)) (j + d)
  | [], i, j, h => by
    have e : i = j := h
    show i + d = j + d
    omega
  | c :: r, i, j, ⟨h1, h2, h3⟩ => ⟨by show c.fr + d = i + d; omega, by show i + d < c.to + d; omega, tiled_sh d r c.to j h3⟩
theorem tiled_end : ∀ (l : List Clu) (i j : Nat), tiled i l j → i ≤ j ∧ (i = j → l = [])
  | [], i, j, h => by
    have e : i = j := h
    exact ⟨by omega, fun _ => rfl⟩
  | c :: r, i, j, ⟨h1, h2, h3⟩ => by
    have := (tiled_end r c.to j h3).1
    exact ⟨by omega, fun e => by omega⟩
theorem til_app : ∀ (a b : List Clu) (i m n : Nat), tiled i a m → tiled m b n → tiled i (a ++ b) n
  | [], b, i, m, n, h, k => by
    have e : i = m := h
    rw [e]; exact k
  | c :: r, b, i, m, n, ⟨h1, h2, h3⟩, k => ⟨h1, h2, til_app r b c.to m n h3 k⟩
theorem til_mem : ∀ (l : List Clu) (i j : Nat), tiled i l j → ∀ c ∈ l, i ≤ c.fr ∧ c.fr < c.to ∧ c.to ≤ j
  | [], i, j, h, c, hc => by simp at hc
  | d :: r, i, j, ⟨h1, h2, h3⟩, c, hc => by
    have e := (tiled_end r d.to j h3).1
    rcases List.mem_cons.1 hc with rfl | hc
    · omega
    · have := til_mem r d.to j h3 c hc
      omega
theorem cut1 {s : ByteArray} {a : Nat} (ha : cbZ s a = true) : cl s = cl (s.extract 0 a) ++ (cl (s.extract a s.size)).map (sh a) := by
  obtain ⟨m, h1, h2⟩ := cb_B ha
  have hb := h2.1
  have hz : (s.extract 0 a).size = a := by rw [size_extract s 0 a (by omega)]; omega
  have ec := extract_cut s a (by omega)
  have := cl_cut (a := s.extract 0 a) (b := s.extract a s.size) (by rw [ec, hz]; exact ha)
  rw [ec, hz] at this
  exact this
/-- the clusters of a text by a piece of it -/
structure Mid (s : ByteArray) (a b : Nat) (pre post : List Clu) : Prop where
  eq : cl s = pre ++ ((cl (s.extract a b)).map (sh a) ++ post)
  l : tiled 0 pre a
  m : tiled a ((cl (s.extract a b)).map (sh a)) b
  r : tiled b post s.size
theorem mid_ex {s : ByteArray} {a b : Nat} (ha : cbZ s a = true) (hb : cbZ s b = true) (h : a ≤ b) : ∃ pre post, Mid s a b pre post := by
  obtain ⟨m, h1, h2⟩ := cb_B hb
  have hbs := h2.1
  have hx : (s.extract a s.size).size = s.size - a := size_extract s a s.size (Nat.le_refl _)
  have hz : (s.extract a b).size = b - a := size_extract s a b (by omega)
  have e1 := cut1 ha
  have hc := sub_cb (k := b - a) ha (cb_end s) (by omega)
  rw [show a + (b - a) = b by omega, hb] at hc
  have e2 := cut1 hc
  rw [ext_ext (by omega), show a + (b - a) = b by omega] at e2
  rw [e2, List.map_append] at e1
  have t1 := cl_tile (s.extract 0 a)
  rw [show (s.extract 0 a).size = a by rw [size_extract s 0 a (by omega)]; omega] at t1
  have t2 := tiled_sh a _ _ _ (cl_tile (s.extract a b))
  rw [hz, show 0 + a = a by omega, show b - a + a = b by omega] at t2
  have t3 := cl_tile ((s.extract a s.size).extract (b - a) (s.extract a s.size).size)
  rw [size_extract _ (b - a) _ (Nat.le_refl _), hx] at t3
  have t3 := tiled_sh a _ _ _ (tiled_sh (b - a) _ _ _ t3)
  rw [show 0 + (b - a) + a = b by omega, show s.size - a - (b - a) + (b - a) + a = s.size by omega] at t3
  rw [hx] at e1
  exact ⟨_, _, e1, t1, t2, t3⟩
/-- the end of the first word of a list of clusters, or n -/
def fstp (p : Clu → Bool) (n : Nat) (l : List Clu) : Nat := ((wrun p none l).head?.map (·.2)).getD n
theorem fst_nil (p : Clu → Bool) (n : Nat) : fstp p n [] = n := rfl
theorem fst_not {p : Clu → Bool} {n : Nat} {c : Clu} {r : List Clu} (h : p c = false) : fstp p n (c :: r) = fstp p n r := by simp [fstp, wrun, h]
theorem fst_in {p : Clu → Bool} {n : Nat} {c : Clu} {r : List Clu} (h : p c = true) : fstp p n (c :: r) = lastTo p c.to r := by simp [fstp, wrun, h, wrun_some]
theorem lastTo_sh (d : Nat) {p q : Clu → Bool} : ∀ (l : List Clu) (t : Nat), (∀ c ∈ l, p (sh d c) = q c) → lastTo p (t + d) (l.map (sh d)) = lastTo q t l + d
  | [], t, _ => rfl
  | c :: r, t, h => by
    have h1 := h c (by simp)
    have ih := lastTo_sh d (p := p) (q := q) r c.to (fun x hx => h x (by simp [hx]))
    simp only [List.map_cons, lastTo, h1]
    by_cases e : q c = true
    · rw [if_pos e, if_pos e]; exact ih
    · rw [if_neg e, if_neg e]
theorem fst_sh (d : Nat) {p q : Clu → Bool} (n : Nat) : ∀ (l : List Clu), (∀ c ∈ l, p (sh d c) = q c) → fstp p (n + d) (l.map (sh d)) = fstp q n l + d
  | [], _ => rfl
  | c :: r, h => by
    have h1 := h c (by simp)
    rw [List.map_cons]
    cases e : q c with
    | false => rw [fst_not e, fst_not (h1.trans e)]; exact fst_sh d n r (fun x hx => h x (by simp [hx]))
    | true => rw [fst_in e, fst_in (h1.trans e)]; exact lastTo_sh d r c.to (fun x hx => h x (by simp [hx]))
theorem lastTo_app {p : Clu → Bool} (rest : List Clu) : ∀ (l : List Clu) (i j : Nat), tiled i l j → lastTo p i l < j → lastTo p i (l ++ rest) = lastTo p i l
  | [], i, j, h, k => by
    have e : i = j := h
    have k : i < j := k
    omega
  | c :: r, i, j, ⟨h1, h2, h3⟩, k => by
    rw [List.cons_append]
    unfold lastTo at k ⊢
    by_cases e : p c = true
    · rw [if_pos e] at k; rw [if_pos e, if_pos e]; exact lastTo_app rest r c.to j h3 k
    · rw [if_neg e, if_neg e]
theorem fst_app {p : Clu → Bool} (n : Nat) (rest : List Clu) : ∀ (l : List Clu) (i j : Nat), tiled i l j → fstp p j l < j → fstp p n (l ++ rest) = fstp p j l
  | [], i, j, h, k => by rw [fst_nil] at k; omega
  | c :: r, i, j, ⟨h1, h2, h3⟩, k => by
    rw [List.cons_append]
    cases e : p c with
    | false => rw [fst_not e] at k ⊢; rw [fst_not e]; exact fst_app n rest r c.to j h3 k
    | true => rw [fst_in e] at k ⊢; rw [fst_in e]; exact lastTo_app rest r c.to j h3 k
theorem wcl_sub {s : ByteArray} {a b : Nat} (hb : cbZ s b = true) (h : a ≤ b) : ∀ c ∈ cl (s.extract a b), wcl s (sh a c) = wcl (s.extract a b) c := fun c hc => by
  obtain ⟨m, h1, h2⟩ := cb_B hb
  obtain rfl : b = m := by omega
  have hz : (s.extract a b).size = b - a := size_extract s a b h2.1
  have := til_mem _ _ _ (cl_tile (s.extract a b)) c hc
  unfold wcl
  rw [sub_ch h2 (by omega)]
  show wch (ch s (c.fr + a)) = _
  rw [Nat.add_comm]
theorem ahead_piece {s : ByteArray} {a b : Nat} (ha : cbZ s a = true) (hb : cbZ s b = true) (h : a ≤ b) (hc : a + aheadW (words (s.extract a b)) (s.extract a b).size 0 < b ∨ b = s.size) : aheadW (words s) s.size a = a + aheadW (words (s.extract a b)) (s.extract a b).size 0 := by
  obtain ⟨pre, post, hm⟩ := mid_ex ha hb h
  have hF : Fr s a pre ((cl (s.extract a b)).map (sh a) ++ post) := ⟨hm.eq.symm, hm.l, til_app _ _ _ _ _ hm.m hm.r⟩
  have hX : Fr (s.extract a b) 0 [] (cl (s.extract a b)) := ⟨rfl, rfl, cl_tile _⟩
  obtain ⟨m, h1, h2⟩ := cb_B hb
  have hbs := h2.1
  have hz : (s.extract a b).size = b - a := size_extract s a b (by omega)
  rw [ahead_first hX] at hc ⊢
  rw [ahead_first hF]
  have e := fst_sh a (p := wcl s) (q := wcl (s.extract a b)) (b - a) (cl (s.extract a b)) (wcl_sub hb h)
  rw [show b - a + a = b by omega] at e
  have ex : firstW (s.extract a b) (cl (s.extract a b)) = fstp (wcl (s.extract a b)) (b - a) (cl (s.extract a b)) := by rw [← hz]; rfl
  rw [ex] at hc ⊢
  show fstp (wcl s) s.size _ = _
  rcases hc with hc | hc
  · rw [fst_app s.size post _ a b hm.m (by omega), e, Nat.add_comm]
  · have := (tiled_end _ _ _ hm.r).2 hc
    rw [this, List.append_nil, ← hc, e, Nat.add_comm]
theorem last_sh {s x : ByteArray} {f : Nat} {init : List Clu} (hi : tiled 0 init f) : ∀ (n : Nat) (L : List Clu) (j : Nat), L.length = n → tiled 0 L j → (∀ c ∈ L, wcl s (sh f c) = wcl x c) → 0 < lastW x L → lastW s (init ++ L.map (sh f)) = lastW x L + f
  | 0, L, j, hn, ht, hw, hp => by
    have : L = [] := List.length_eq_zero_iff.1 hn
    subst this
    rw [last_nil] at hp; omega
  | n + 1, L, j, hn, ht, hw, hp => by
    rcases List.eq_nil_or_concat L with e | ⟨q, c, e⟩
    · subst e; simp at hn
    rw [List.concat_eq_append] at e
    subst e
    have hq : q.length = n := by simpa using hn
    have tS : tiled 0 (init ++ (q ++ [c]).map (sh f)) (j + f) := til_app _ _ _ f _ hi (by have := tiled_sh f _ _ _ ht; rw [Nat.zero_add] at this; exact this)
    obtain ⟨t1, t2, t3⟩ := tiled_last ht
    have hc := hw c (by simp)
    have ih := last_sh (s := s) (x := x) hi n q c.fr hq t1 (fun d hd => hw d (by simp [hd]))
    rw [List.map_append, List.map_cons, List.map_nil, ← List.append_assoc] at tS ⊢
    cases ec : wcl x c with
    | false =>
      rw [last_not ht ec] at hp ⊢
      rw [last_not tS (hc.trans ec)]
      exact ih hp
    | true =>
      rcases List.eq_nil_or_concat q with e | ⟨p, d, e⟩
      · subst e
        rw [last_new ht ec (.inl rfl)] at hp
        have : 0 = c.fr := t1
        omega
      rw [List.concat_eq_append] at e
      subst e
      have hd := hw d (by simp)
      cases ed : wcl x d with
      | true =>
        rw [last_on ht ec ed] at hp ⊢
        have ih := ih hp
        rw [List.map_append, List.map_cons, List.map_nil, ← List.append_assoc] at tS ih ⊢
        rw [last_on tS (hc.trans ec) (hd.trans ed)]
        exact ih
      | false =>
        rw [last_new ht ec (.inr ⟨p, d, rfl, ed⟩)]
        rw [last_new tS (hc.trans ec) (.inr ⟨init ++ p.map (sh f), sh f d, by simp, hd.trans ed⟩)]
        rfl
theorem wrun_congr {p q : Clu → Bool} : ∀ (l : List Clu) (o : Option (Nat × Nat)), (∀ c ∈ l, p c = q c) → wrun p o l = wrun q o l
  | [], none, _ => rfl
  | [], some _, _ => rfl
  | c :: r, none, h => by
    have h1 := h c (by simp)
    have h2 := fun o => wrun_congr (p := p) (q := q) r o (fun d hd => h d (by simp [hd]))
    simp only [wrun, h1, h2]
  | c :: r, some x, h => by
    have h1 := h c (by simp)
    have h2 := fun o => wrun_congr (p := p) (q := q) r o (fun d hd => h d (by simp [hd]))
    simp only [wrun, h1, h2]
theorem behind_piece {s : ByteArray} {f a : Nat} (hf : cbZ s f = true) (ha : cbZ s a = true) (h : f ≤ a) (hc : 0 < behindW (words (s.extract f a)) (s.extract f a).size ∨ f = 0) : behindW (words s) a = f + behindW (words (s.extract f a)) (s.extract f a).size := by
  obtain ⟨pre, post, hm⟩ := mid_ex hf ha h
  have hF : Fr s a (pre ++ (cl (s.extract f a)).map (sh f)) post := ⟨by rw [hm.eq, List.append_assoc], til_app _ _ _ _ _ hm.l hm.m, hm.r⟩
  have hX : Fr (s.extract f a) (s.extract f a).size (cl (s.extract f a)) [] := ⟨by simp, cl_tile _, rfl⟩
  rw [behind_last (bh_fr hX)] at hc ⊢
  rw [behind_last (bh_fr hF)]
  rcases hc with hc | hc
  · rw [last_sh hm.l _ _ _ rfl (cl_tile _) (wcl_sub ha h) hc, Nat.add_comm]
  · subst hc
    have hp := (tiled_end _ _ _ hm.l).2 rfl
    subst hp
    have hw := wcl_sub ha h
    have e0 : ∀ c : Clu, sh 0 c = c := fun c => rfl
    have e1 : (cl (s.extract 0 a)).map (sh 0) = cl (s.extract 0 a) := by rw [show sh 0 = id from funext e0]; exact List.map_id _
    rw [List.nil_append, Nat.zero_add, e1]
    unfold lastW
    rw [wrun_congr (p := wcl s) (q := wcl (s.extract 0 a)) _ _ (fun c hc => by have := hw c hc; rwa [e0] at this)]
theorem words_ahead (s : ByteArray) (a : Nat) : (∃ w ∈ words s, a < w.2 ∧ aheadW (words s) s.size a = w.2) ∨ aheadW (words s) s.size a = s.size := by
  unfold aheadW
  cases e : (words s).find? (fun w => decide (a < w.2)) with
  | none => exact .inr rfl
  | some w => exact .inl ⟨w, List.mem_of_find?_eq_some e, by simpa using List.find?_some e, rfl⟩
theorem ahead_ok (s : ByteArray) (a : Nat) : cbZ s (aheadW (words s) s.size a : Nat) = true ∧ aheadW (words s) s.size a ≤ s.size ∧ (a < s.size → a < aheadW (words s) s.size a) := by
  have h0 := words_ahead s a
  generalize aheadW (words s) s.size a = V at h0 ⊢
  rcases h0 with ⟨w, h1, h2, rfl⟩ | rfl
  · have e1 := (words_cb h1).2
    have e2 := (words_mem h1).2
    exact ⟨e1, e2, fun _ => h2⟩
  · exact ⟨cb_end s, Nat.le_refl _, fun e => e⟩
theorem words_behind (s : ByteArray) (a : Nat) : (∃ w ∈ words s, w.1 < a ∧ behindW (words s) a = w.1) ∨ behindW (words s) a = 0 := by
  unfold behindW
  cases e : (((words s).map (·.1)).filter fun x => decide (x < a)).getLast? with
  | none => exact .inr rfl
  | some x =>
    have := List.mem_of_getLast? e
    rw [List.mem_filter, List.mem_map] at this
    obtain ⟨⟨w, h1, h2⟩, h3⟩ := this
    exact .inl ⟨w, h1, by rw [h2]; simpa using h3, h2.symm⟩
theorem behind_ok (s : ByteArray) (a : Nat) : cbZ s (behindW (words s) a : Nat) = true ∧ behindW (words s) a ≤ s.size ∧ (0 < a → behindW (words s) a < a) := by
  have h0 := words_behind s a
  generalize behindW (words s) a = V at h0 ⊢
  rcases h0 with ⟨w, h1, h2, rfl⟩ | rfl
  · have e1 := (words_cb h1).1
    have e2 := words_mem h1
    exact ⟨e1, by omega, fun _ => h2⟩
  · exact ⟨cb_zero s, Nat.zero_le _, fun e => e⟩
/-- steps one behind the other, none from the edge e -/
def itr (f : Nat → Nat) (e : Nat) : Nat → Nat → Nat
  | 0, a => a
  | n + 1, a => if a = e then a else itr f e n (f a)
theorem itr_edge (f : Nat → Nat) (e : Nat) : ∀ n, itr f e n e = e
  | 0 => rfl
  | n + 1 => by simp [itr]
theorem itr_on {f : Nat → Nat} {e a : Nat} (n : Nat) (h : a ≠ e) : itr f e (n + 1) a = itr f e n (f a) := by simp [itr, h]
theorem itr_inv {f : Nat → Nat} {e : Nat} {P : Nat → Prop} (h : ∀ a, P a → a ≠ e → P (f a)) : ∀ (n a : Nat), P a → P (itr f e n a)
  | 0, a, ha => ha
  | n + 1, a, ha => by
    unfold itr
    split
    · exact ha
    · exact itr_inv h n _ (h a ha (by assumption))
/-- the next boundary above a, or the end -/
def nxt (s : ByteArray) (a : Nat) : Nat := if a < s.size then nxC s a else s.size
theorem nxt_is (s : ByteArray) (a : Nat) : IsNext s a (nxt s a) := by
  unfold nxt
  split
  · exact nxC_is (by assumption)
  · exact next_high (by omega)
theorem isSnap_ex (s : ByteArray) (i : Int) : ∃ m : Nat, IsSnap s i m := by
  by_cases h0 : i < 0
  · exact ⟨0, cb_zero s, .inl (by omega), fun j _ h2 => cb_out (.inl h2)⟩
  · obtain ⟨a, rfl⟩ := Int.eq_ofNat_of_zero_le (show 0 ≤ i by omega)
    cases hc : cbZ s a with
    | true => exact ⟨a, IsSnap.self hc⟩
    | false => exact ⟨_, (nxt_is s a).snap hc⟩
noncomputable def snp (s : ByteArray) (i : Int) : Nat := Classical.choose (isSnap_ex s i)
theorem snp_is (s : ByteArray) (i : Int) : IsSnap s i (snp s i) := Classical.choose_spec (isSnap_ex s i)
theorem snp_le (s : ByteArray) (i : Int) : snp s i ≤ s.size := by obtain ⟨m, h1, h2⟩ := cb_B (snp_is s i).cb; have := h2.1; omega
theorem snp_self {s : ByteArray} {a : Nat} (h : cbZ s a = true) : snp s a = a := (snp_is s a).uniq (IsSnap.self h)
theorem cb_le {s : ByteArray} {a : Nat} (h : cbZ s a = true) : a ≤ s.size := by obtain ⟨m, h1, h2⟩ := cb_B h; have := h2.1; omega
/-- a boundary in its line -/
structure Pl (s : ByteArray) (at' p b : Nat) : Prop where
  sp : IsS s (cn s 0 at' : Int) (some (p, b))
  lo : p ≤ at'
  hi : at' ≤ b
  cb : cbZ s at' = true
  l : IsL s at' p
theorem pl_ex {s : ByteArray} {n : Nat} (hc : cbZ s n = true) : ∃ p b, Pl s n p b := by
  have hn := cb_le hc
  obtain ⟨p, hp⟩ := isL_ex (s := s) n hn
  have hp0 := hp
  obtain ⟨p1, p2, p3⟩ := hp
  have e1 := cn_add (s := s) (a := 0) (b := p) (c := n) (by omega) p1
  have hN : IsN s (cn s 0 n : Int) p := ⟨by omega, p2, by omega⟩
  obtain ⟨o, ho⟩ := isS_ex s (cn s 0 n : Int)
  cases o with
  | none =>
    have h' : (cn s 0 n : Int) < 0 ∨ (cn s 0 s.size : Int) < (cn s 0 n : Int) := ho
    have := cn_mono (s := s) (a := 0) (b := n) (c := s.size) (by omega) hn
    omega
  | some x =>
    obtain ⟨a, b⟩ := x
    obtain rfl : a = p := ho.1.uniq hN
    refine ⟨a, b, ho, p1, ?_, hc, hp0⟩
    rcases Nat.lt_or_ge b n with hb | hb
    · have ho' := ho
      obtain ⟨-, r, hr, hl⟩ := ho
      simp only at hr hl
      cases r with
      | none => have : b = s.size := hl; omega
      | some q =>
        obtain ⟨k1, k2, k3, k4, k5, k6, k7⟩ := ho'.nl hr
        have hq : n < q := by
          rcases Nat.lt_or_ge n q with e | e
          · exact e
          · have := cn_mono (s := s) (a := a) (b := q) (c := n) (by have := hr.1; omega) e
            have := hr.2.2.2
            omega
        have := k3.no n (by omega) (by omega)
        rw [hc] at this; cases this
    · exact hb
section
variable {s : ByteArray} {n p b : Nat}
theorem Pl.col (h : Pl s n p b) : IsCo s n (some (cw s p n)) := by
  refine ⟨n, rfl, by have := h.sp.le; have := h.hi; omega, p, n, h.l, ⟨h.cb, .inl (by omega), fun j j1 j2 => by omega⟩, (cw_ce s p n).symm⟩
theorem Pl.more (h : Pl s n p b) {j : Nat} (h1 : n < j) (h2 : j ≤ b) (hj : cbZ s j = true) : cw s p j = cw s p n + cw s n j ∧ 1 ≤ cw s n j := by
  obtain ⟨ca, -⟩ := h.sp.cb
  have hbs := h.sp.le.2
  have hlo := h.lo
  refine ⟨cw_add ca h.cb hj h.lo (by omega), cw_pos ?_ h1 (by omega)⟩
  have e0 := h.sp.cn0
  have e1 := cn_add (s := s) (a := p) (b := n) (c := b) h.lo h.hi
  have e2 := cn_mono (s := s) (a := n) (b := j) (c := b) (by omega) h2
  omega
theorem Pl.at' (h : Pl s n p b) {c : Int} (h0 : 0 ≤ c) (h1 : cw s p n ≤ c) (h2 : ∀ j, n < j → j ≤ b → cbZ s j = true → c < cw s p j) : IsA s (cn s 0 n : Int) c (some n) :=
  ⟨p, b, h.sp, by rw [show max c 0 = c by omega]; exact ⟨h.lo, h.hi, h.cb, h1, h2⟩⟩
theorem Pl.back (h : Pl s n p b) : IsA s (cn s 0 n : Int) (cw s p n) (some n) :=
  h.at' (cw_nonneg _ _ _) (Int.le_refl _) fun j j1 j2 j3 => by have := h.more j1 j2 j3; omega
theorem cw_le (s : ByteArray) {a b : Nat} (h : b ≤ s.size) : cw s a b ≤ 2 * s.size := by
  have h1 := (sumN_bd _ (cl_n (s.extract a b))).2
  have h2 := cl_len (s.extract a b)
  rw [size_extract s a b h] at h2
  unfold cw
  omega
/-- a place within a line's span has that line's number -/
theorem IsS.num {l : Int} {x y m : Nat} (h : IsS s l (some (x, y))) (h1 : x ≤ m) (h2 : m ≤ y) : (cn s 0 m : Int) = l := by
  have e0 := h.cn0
  have e1 := cn_add (s := s) (a := 0) (b := x) (c := m) (by omega) h1
  have e2 := cn_mono (s := s) (a := x) (b := m) (c := y) h1 h2
  have e3 : (cn s 0 x : Int) = l := h.1.2.2
  omega
end
end Go.Proofs.YtplieccalmkloaaGreatDoor.Sto
