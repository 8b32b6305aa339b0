/-
  Rows as they are laid: cells of one column, and pairs of a wide one and its right half; what each cell's text is like. No program is walked in this text; no conditions.
-/
import Derived.Test.YtfjoklbiocniiaaDoorOClu
import Derived.Test.YtfjoklbiocniiaaDoorOTrm
import Derived.Test.YtfjoklbiocniiaaDoorOLyb
namespace Go.Proofs.YtfjoklbiocniiaaDoor
open Bod Wid
/-- a text that is one cluster of so many cells, drawn as itself -/
def Gn (t : ByteArray) (n : Int) : Prop := (cl t).length = 1 ∧ sumN (cl t) = n ∧ (⟨(drawnL t (cl t)).toArray⟩ : ByteArray) = t
theorem nf_zero : ∀ l : List (Int × Int), nf 0 l = 0
  | [] => rfl
  | q :: l => by unfold nf; split <;> exact nf_zero l
theorem nf_no : ∀ (l : List (Int × Int)) (k : Int), nf k l ≠ 0 → ∀ q ∈ l, q.1 ≠ 10
  | [], _, _, _, h => by cases h
  | p :: l, k, h, q, hq => by
    unfold nf at h
    split at h
    · exact absurd (nf_zero l) h
    · rename_i hp
      rcases List.mem_cons.1 hq with e | e
      · subst e; exact hp
      · exact nf_no l k h q e
theorem kn_of {s : ByteArray} {c : Clu} (hc : c ∈ cl s) (hn : c.n ≠ 0) : ∃ p : Int, c.k = cls p ∧ c.n = cel p := by
  obtain ⟨P, p, l, R, h⟩ := cl_part hc
  have h1 : ∀ q ∈ l, q.1 ≠ 10 := nf_no l (cel p.1) (by rw [← h.n]; exact hn)
  exact ⟨p.1, h.k.trans (kf_same _ h1).1, h.n.trans (kf_same _ h1).2⟩
theorem two_k {s : ByteArray} {c : Clu} (hc : c ∈ cl s) (hn : c.n = 2) : c.k = 4 ∨ c.k = 2 := by
  obtain ⟨p, h1, h2⟩ := kn_of hc (by omega)
  rw [h1]
  rw [hn] at h2
  unfold cel at h2
  by_cases e1 : cls p = 1
  · rw [if_pos e1] at h2; omega
  · rw [if_neg e1] at h2
    by_cases e4 : cls p = 4
    · exact .inl e4
    · rw [if_neg e4] at h2
      by_cases e2 : cls p = 2 ∧ p ≤ 127
      · exact .inr e2.1
      · rw [if_neg e2] at h2; omega
theorem pos_n {t : ByteArray} {c : Clu} (hc : c ∈ cl t) (hk : c.k = 0 ∨ c.k = 4) : 1 ≤ c.n := by
  by_cases h0 : c.n = 0
  · obtain ⟨P, p, l, R, h⟩ := cl_part hc
    have hb := cel_bd p.1
    have : cls p.1 ≠ 1 := fun e => by
      have : ∀ (l : List (Int × Int)), kf 1 l = 1 := by
        intro l
        induction l with
        | nil => rfl
        | cons q l ih => unfold kf; split <;> exact ih
      have := h.k
      rw [e] at this
      rename_i h1
      rw [h1 l] at this
      omega
    have hkk : ∀ (l : List (Int × Int)) (k : Int), kf k l ≠ 1 → ∀ q ∈ l, q.1 ≠ 10 := by
      intro l
      induction l with
      | nil => intro k _ q hq; cases hq
      | cons q l ih =>
        intro k hk r hr
        unfold kf at hk
        split at hk
        · exact absurd (by
            have : ∀ (l : List (Int × Int)), kf 1 l = 1 := by
              intro l
              induction l with
              | nil => rfl
              | cons q l ih => unfold kf; split <;> exact ih
            exact this l) hk
        · rename_i hq
          rcases List.mem_cons.1 hr with e | e
          · subst e; exact hq
          · exact ih k hk r e
    have h1 := hkk l (cls p.1) (by rw [← h.k]; rcases hk with e | e <;> omega)
    have h2 := h.n
    rw [(kf_same (cel p.1) h1).2] at h2
    have h3 := h.k
    rw [(kf_same (cls p.1) h1).1] at h3
    unfold cel at h2
    rw [if_neg this] at h2
    rw [h0] at h2
    split at h2
    · omega
    · split at h2 <;> omega
  · have := cl_n t c hc; omega
theorem sum_pos : ∀ l : List Clu, (∀ c ∈ l, 1 ≤ c.n) → (l.length : Int) ≤ sumN l
  | [], _ => by simp [sumN]
  | c :: l, h => by
    have := sum_pos l (fun d hd => h d (List.mem_cons_of_mem _ hd))
    have := h c List.mem_cons_self
    simp only [sumN, List.length_cons]
    omega
theorem self_of {t : ByteArray} {n : Int} (h : Good t n) : (⟨(drawnL t (cl t)).toArray⟩ : ByteArray) = t := by
  rw [drawn_self (cl_tile t) (Nat.le_refl _) h.kls, sub_all]
theorem gn_one {t : ByteArray} (h : Good t 1) : Gn t 1 := by
  have hp := sum_pos (cl t) (fun c hc => pos_n hc (h.kls c hc))
  rw [h.sum] at hp
  refine ⟨?_, h.sum, self_of h⟩
  rcases Nat.eq_zero_or_pos (cl t).length with e | e
  · have := h.sum; rw [List.eq_nil_of_length_eq_zero e] at this; cases this
  · omega
theorem sub_ex (s : ByteArray) (i j : Nat) : (⟨(sub s i j).toArray⟩ : ByteArray) = s.extract i j := by
  unfold sub
  rw [Array.toArray_toList]
theorem gn_wide {s : ByteArray} {c : Clu} (hc : c ∈ cl s) (hk : c.k = 4) : Gn (drC s c) c.n := by
  have hd : drC s c = s.extract c.fr c.to := by
    rw [← sub_ex]
    unfold drC
    cases e : sub s c.fr c.to with
    | nil => rfl
    | cons x r => unfold drw; simp [hk]
  have h1 := cl_one hc
  rw [← hd] at h1
  refine ⟨by rw [h1]; rfl, by rw [h1]; simp [sumN], ?_⟩
  have := drawn_one hc
  rw [← hd] at this
  exact this
theorem gn_fffd : Gn fffd 1 := ⟨by decide +kernel, by decide +kernel, by decide +kernel⟩
theorem gn_caret : Gn ⟨#[94]⟩ 1 := ⟨by decide +kernel, by decide +kernel, by decide +kernel⟩
theorem xor_ctl : ∀ n : Fin 256, (n.val < 32 ∨ n.val = 127) → 32 ≤ n.val ^^^ 64 ∧ n.val ^^^ 64 < 127 := by decide +kernel
theorem gn_ctl {s : ByteArray} {c : Clu} (hc : c ∈ cl s) (hn : c.n = 2) (hk : c.k ≠ 4) : Gn ((drC s c).extract 0 1) 1 ∧ Gn ((drC s c).extract 1 (drC s c).size) 1 := by
  have hk2 : c.k = 2 := by rcases two_k hc hn with e | e; exact absurd e hk; exact e
  have hg := piece_good hc
  have hsp := cl_span hc
  obtain ⟨x, r, hx⟩ : ∃ x r, sub s c.fr c.to = x :: r := by
    cases e : sub s c.fr c.to with
    | nil => have := sub_len (s := s) (i := c.fr) hsp.2; rw [e] at this; simp at this; omega
    | cons x r => exact ⟨x, r, rfl⟩
  have hb := ctl_byte hc hk2 hx
  have hlt : x.toNat < 128 := by
    by_cases h : x.toNat < 128
    · exact h
    · have := hg.sum
      rw [hx] at this
      unfold drw at this
      simp only [hk2, h, if_false] at this
      have e : sumN (cl (⟨#[239, 191, 189]⟩ : ByteArray)) = 1 := by decide +kernel
      simp at this
      rw [hn] at this
      rw [e] at this
      cases this
  have hd : drC s c = ⟨#[94, x ^^^ 64]⟩ := by
    unfold drC
    rw [hx]
    unfold drw
    simp [hk2, hlt]
  rw [hd]
  have e1 : (⟨#[94, x ^^^ 64]⟩ : ByteArray).extract 0 1 = ⟨#[94]⟩ := by apply ByteArray.ext; rfl
  have e2 : (⟨#[94, x ^^^ 64]⟩ : ByteArray).extract 1 (⟨#[94, x ^^^ 64]⟩ : ByteArray).size = ⟨#[x ^^^ 64]⟩ := by apply ByteArray.ext; rfl
  rw [e1, e2]
  refine ⟨gn_caret, gn_one (good_byte ?_)⟩
  have := xor_ctl ⟨x.toNat, x.toNat_lt⟩ (by rcases hb with e | e | e; exact .inl e; exact .inr e; omega)
  rw [UInt8.toNat_xor]
  exact this
/-- a row in pieces -/
inductive PcR : List Cel → Prop
  | nil : PcR []
  | one {l : List Cel} {t : ByteArray} : PcR l → Gn t 1 → PcR (l ++ [⟨t, 1⟩])
  | two {l : List Cel} {t : ByteArray} : PcR l → Gn t 2 → PcR (l ++ [⟨t, 2⟩, ⟨⟨#[]⟩, 0⟩])
theorem put_pc {W : Nat} {s : ByteArray} {c : Clu} (hc : c ∈ cl s) {l : List Cel} (h : PcR l) : PcR (l ++ putC W (cuOf s c)) := by
  obtain ⟨hn2, hn⟩ := cuOf_n hc
  have hk4 : (cuOf s c).wide = decide (c.k = 4) := rfl
  have hdr : (cuOf s c).dr = drC s c := rfl
  have h012 : (cuOf s c).n = 0 ∨ (cuOf s c).n = 1 ∨ (cuOf s c).n = 2 := by omega
  unfold putC
  rcases h012 with e | e | e
  · rw [if_pos e, List.append_nil]; exact h
  · rw [if_neg (by omega), if_pos e]
    exact .one h (gn_one (by have := piece_good hc; rw [hn, e] at this; exact this))
  · rw [if_neg (by omega), if_neg (by omega)]
    by_cases hw : W = 1
    · rw [if_pos hw]; exact .one h gn_fffd
    · rw [if_neg hw, hk4, hdr]
      by_cases hk : c.k = 4
      · rw [if_pos (by simp [hk])]
        exact .two h (by have := gn_wide hc hk; rw [hn, e] at this; exact this)
      · rw [if_neg (by simp [hk])]
        obtain ⟨g1, g2⟩ := gn_ctl hc (by rw [hn, e]; rfl) hk
        rw [show l ++ [(⟨(drC s c).extract 0 1, 1⟩ : Cel), ⟨(drC s c).extract 1 (drC s c).size, 1⟩] = (l ++ [⟨(drC s c).extract 0 1, 1⟩]) ++ [⟨(drC s c).extract 1 (drC s c).size, 1⟩] by simp]
        exact .one (.one h g1) g2
def PcS (s : Lst) : Prop := ∀ r ∈ s.all, PcR r
theorem lst0_pc : PcS lst0 := fun r hr => by simp [Lst.all, lst0] at hr; subst hr; exact .nil
theorem dwn_pc {s : Lst} (h : PcS s) : PcS (dwn s) := fun r hr => by
  simp only [Lst.all, dwn, List.mem_append, List.mem_singleton] at hr
  rcases hr with hr | rfl
  · exact h r (by simp only [Lst.all, List.mem_append, List.mem_singleton]; exact hr)
  · exact .nil
theorem stpL_pc {W : Nat} {s : ByteArray} {c : Clu} (hc : c ∈ cl s) {st : Lst} (h : PcS st) : PcS (stpL W st (cuOf s c)) := by
  unfold stpL
  split
  · exact dwn_pc h
  · have hf : PcS (fitS W (min (cuOf s c).n W) st) := by unfold fitS; split; exact dwn_pc h; exact h
    simp only
    generalize fitS W (min (cuOf s c).n W) st = t at hf
    have ht : PcS ⟨t.rows, t.cur ++ putC W (cuOf s c), t.col + min (cuOf s c).n W⟩ := fun r hr => by
      simp only [Lst.all, List.mem_append, List.mem_singleton] at hr
      rcases hr with hr | rfl
      · exact hf r (by simp only [Lst.all, List.mem_append]; exact .inl hr)
      · exact put_pc hc (hf t.cur (by simp [Lst.all]))
    unfold fulS
    split
    · exact dwn_pc ht
    · exact ht
theorem layL_pc {W : Nat} {s : ByteArray} : ∀ {l : List Clu} {st : Lst}, (∀ c ∈ l, c ∈ cl s) → PcS st → PcS (layL W st (cus s l))
  | [], _, _, h => h
  | c :: l, st, hl, h => by
    show PcS (layL W (stpL W st (cuOf s c)) (cus s l))
    exact layL_pc (fun d hd => hl d (List.mem_cons_of_mem _ hd)) (stpL_pc (hl c List.mem_cons_self) h)
theorem trm_pc : ∀ {l : List Cel}, PcR l → PcR (trmL l) := by
  intro l h
  induction h with
  | nil => exact .nil
  | one h g ih =>
    rename_i l t
    cases hb : blkC ⟨t, 1⟩ with
    | true => rw [trm_snoc_blk hb]; exact ih
    | false => rw [trm_snoc_no hb]; exact .one h g
  | @two l t h g _ =>
    rw [show l ++ [(⟨t, 2⟩ : Cel), ⟨⟨#[]⟩, 0⟩] = (l ++ [⟨t, 2⟩]) ++ [⟨⟨#[]⟩, 0⟩] by simp, trm_snoc_no (by simp [blkC])]
    rw [List.append_assoc]
    exact .two h g
/-- what holds of each cell that is put holds of each cell that is laid -/
theorem layL_cells {P : Cel → Prop} {W : Nat} : ∀ {l : List Cu} {st : Lst}, (∀ u ∈ l, ∀ c ∈ putC W u, P c) → (∀ r ∈ st.all, ∀ c ∈ r, P c) → ∀ r ∈ (layL W st l).all, ∀ c ∈ r, P c
  | [], _, _, h => h
  | u :: l, st, hl, h => by
    show ∀ r ∈ (layL W (stpL W st u) l).all, ∀ c ∈ r, P c
    refine layL_cells (fun v hv => hl v (List.mem_cons_of_mem _ hv)) ?_
    have hd : ∀ {t : Lst}, (∀ r ∈ t.all, ∀ c ∈ r, P c) → ∀ r ∈ (dwn t).all, ∀ c ∈ r, P c := fun ht r hr c hc => by
      simp only [Lst.all, dwn, List.mem_append, List.mem_singleton] at hr
      rcases hr with hr | rfl
      · exact ht r (by simp only [Lst.all, List.mem_append, List.mem_singleton]; exact hr) c hc
      · cases hc
    unfold stpL
    split
    · exact hd h
    · have hf : ∀ r ∈ (fitS W (min u.n W) st).all, ∀ c ∈ r, P c := by unfold fitS; split; exact hd h; exact h
      simp only
      generalize fitS W (min u.n W) st = t at hf
      have ht : ∀ r ∈ (⟨t.rows, t.cur ++ putC W u, t.col + min u.n W⟩ : Lst).all, ∀ c ∈ r, P c := fun r hr c hc => by
        simp only [Lst.all, List.mem_append, List.mem_singleton] at hr
        rcases hr with hr | rfl
        · exact hf r (by simp only [Lst.all, List.mem_append]; exact .inl hr) c hc
        · rcases List.mem_append.1 hc with q | q
          · exact hf t.cur (by simp [Lst.all]) c q
          · exact hl u List.mem_cons_self c q
      unfold fulS
      split
      · exact hd ht
      · exact ht
theorem drC_size {s : ByteArray} {c : Clu} (hc : c ∈ cl s) : (drC s c).size ≤ s.size + 2 := by
  have h1 := drw_len c.k (sub s c.fr c.to)
  have h2 := cl_span hc
  have h3 := sub_len (s := s) (i := c.fr) h2.2
  unfold drC
  show (drw c.k (sub s c.fr c.to)).toArray.size ≤ _
  rw [List.size_toArray]
  omega
theorem put_size {W : Nat} {s : ByteArray} : ∀ u ∈ cus s (cl s), ∀ c ∈ putC W u, c.tx.size ≤ s.size + 3 := fun u hu c hc => by
  obtain ⟨d, hd, rfl⟩ := List.mem_map.1 hu
  have h1 := drC_size hd
  have h2 : (cuOf s d).dr = drC s d := rfl
  unfold putC at hc
  rw [h2] at hc
  split at hc
  · cases hc
  · split at hc
    · simp only [List.mem_singleton] at hc; subst hc; simp only; omega
    · split at hc
      · simp only [List.mem_singleton] at hc; subst hc; show fffd.size ≤ _; have : fffd.size = 3 := rfl; omega
      · split at hc
        · simp only [List.mem_cons, List.mem_nil_iff, or_false] at hc
          rcases hc with rfl | rfl
          · simp only; omega
          · exact Nat.zero_le _
        · simp only [List.mem_cons, List.mem_nil_iff, or_false] at hc
          rcases hc with rfl | rfl
          · simp only [ByteArray.size_extract]; omega
          · simp only [ByteArray.size_extract]; omega
theorem trm_mem {l : List Cel} {c : Cel} (h : c ∈ trmL l) : c ∈ l := by
  obtain ⟨n, _, h2⟩ := trm_pre l
  rw [h2] at h
  exact List.mem_of_mem_take h
theorem trm_last (l : List Cel) {c : Cel} (h : (trmL l).getLast? = some c) : blkC c = false := by
  have : ∀ (m : List Cel), (m.dropWhile blkC).head? = some c → blkC c = false := by
    intro m
    induction m with
    | nil => intro h; cases h
    | cons d m ih =>
      intro h
      rw [List.dropWhile_cons] at h
      split at h
      · exact ih h
      · rename_i hd
        simp only [List.head?_cons, Option.some.injEq] at h
        subst h
        simpa using hd
  unfold trmL at h
  rw [List.getLast?_reverse] at h
  exact this _ h
theorem trm_le (l : List Cel) : (trmL l).length ≤ l.length := by
  obtain ⟨n, h1, h2⟩ := trm_pre l
  rw [h2, List.length_take]; omega
/-- what a row's cells are like -/
theorem PcR.at {l : List Cel} (h : PcR l) : ∀ {k : Nat} {c : Cel}, l[k]? = some c → (c.sp = 0 ∧ c.tx = ⟨#[]⟩ ∧ ∃ j d, k = j + 1 ∧ l[j]? = some d ∧ d.sp = 2) ∨ (c.sp = 1 ∧ Gn c.tx 1) ∨ (c.sp = 2 ∧ Gn c.tx 2 ∧ ∃ d, l[k + 1]? = some d ∧ d.sp = 0) := by
  have ext : ∀ {l m : List Cel} {j : Nat} {d : Cel}, l[j]? = some d → (l ++ m)[j]? = some d := fun h => by
    rw [List.getElem?_append_left (List.getElem?_eq_some_iff.1 h).1]; exact h
  induction h with
  | nil => intro k c h; cases h
  | one h g ih =>
    rename_i l t
    intro k c hk
    by_cases hlt : k < l.length
    · rw [List.getElem?_append_left hlt] at hk
      rcases ih hk with ⟨a, b, j, d, e1, e2, e3⟩ | q | ⟨a, b, d, e1, e2⟩
      · exact .inl ⟨a, b, j, d, e1, ext e2, e3⟩
      · exact .inr (.inl q)
      · exact .inr (.inr ⟨a, b, d, ext e1, e2⟩)
    · rw [List.getElem?_append_right (by omega)] at hk
      obtain ⟨j, hj⟩ : ∃ j, k - l.length = j := ⟨_, rfl⟩
      rw [hj] at hk
      rcases j with _ | j
      · cases hk; exact .inr (.inl ⟨rfl, g⟩)
      · simp at hk
  | two h g ih =>
    rename_i l t
    intro k c hk
    by_cases hlt : k < l.length
    · rw [List.getElem?_append_left hlt] at hk
      rcases ih hk with ⟨a, b, j, d, e1, e2, e3⟩ | q | ⟨a, b, d, e1, e2⟩
      · exact .inl ⟨a, b, j, d, e1, ext e2, e3⟩
      · exact .inr (.inl q)
      · exact .inr (.inr ⟨a, b, d, ext e1, e2⟩)
    · rw [List.getElem?_append_right (by omega)] at hk
      obtain ⟨j, hj⟩ : ∃ j, k - l.length = j := ⟨_, rfl⟩
      rw [hj] at hk
      rcases j with _ | _ | j
      · cases hk
        refine .inr (.inr ⟨rfl, g, ⟨⟨#[]⟩, 0⟩, ?_, rfl⟩)
        rw [List.getElem?_append_right (by omega), show k + 1 - l.length = 1 by omega]
        rfl
      · cases hk
        refine .inl ⟨rfl, rfl, l.length, ⟨t, 2⟩, by omega, ?_, rfl⟩
        rw [List.getElem?_append_right (by omega), Nat.sub_self]
        rfl
      · simp at hk
end Go.Proofs.YtfjoklbiocniiaaDoor
