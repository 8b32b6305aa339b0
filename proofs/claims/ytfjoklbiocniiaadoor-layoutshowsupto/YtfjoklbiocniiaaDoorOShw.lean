/-
  Plain facts on what is shown of a frame: the texts of its cells without blanks, row by row, are what is drawn for the two texts, without blanks (widths above 1). No program is walked in this text; no conditions.
-/
import Derived.Test.YtfjoklbiocniiaaDoorOFit
import Derived.Test.YtfjoklbiocniiaaDoorORws
namespace Go.Proofs.YtfjoklbiocniiaaDoor
open Bod Wid
/-- nothing, of a blank -/
def txL (t : List UInt8) : List UInt8 := if t = [32] then [] else t
/-- a text without blanks that bear no mark -/
def barL (t : ByteArray) : List UInt8 := (cl t).flatMap fun c => txL (sub t c.fr c.to)
def shC (l : List Cel) : List UInt8 := l.flatMap fun c => txL c.tx.data.toList
def shR (R : List (List Cel)) : List UInt8 := R.flatMap shC
/-- what is to be shown of a text -/
def wnt (s : ByteArray) : List UInt8 := (cl s).flatMap fun c => barL (drC s c)
theorem txL_nil : txL [] = [] := by unfold txL; split <;> rfl
theorem bar_one {t : ByteArray} (h : (cl t).length = 1) : barL t = txL t.data.toList := by
  obtain ⟨c, hc⟩ : ∃ c, cl t = [c] := by
    match e : cl t, h with
    | [c], _ => exact ⟨c, rfl⟩
  have ht := cl_tile t
  rw [hc] at ht
  obtain ⟨h1, -, h2⟩ := ht
  unfold barL
  rw [hc]
  simp only [List.flatMap_cons, List.flatMap_nil, List.append_nil]
  have h2 : c.to = t.size := h2
  rw [h1, h2, sub_all]
theorem bar_nil {t : ByteArray} (h : t.size = 0) : barL t = [] := by unfold barL; rw [cl_nil h]; rfl
theorem dr_zero {s : ByteArray} {c : Clu} (hc : c ∈ cl s) (hn : c.n = 0) : (drC s c).size = 0 := by
  have hg := piece_good hc
  rw [hn] at hg
  have hp := sum_pos (cl (drC s c)) (fun d hd => pos_n hd (hg.kls d hd))
  have hs : sumN (cl (drC s c)) = 0 := hg.sum
  rw [hs] at hp
  have hl : cl (drC s c) = [] := List.eq_nil_of_length_eq_zero (by omega)
  have ht := cl_tile (drC s c)
  rw [hl] at ht
  exact ht.symm
/-- what is drawn for a control character of two cells -/
theorem dr_ctl3 {s : ByteArray} {c : Clu} (hc : c ∈ cl s) (hn : c.n = 2) (hk : c.k ≠ 4) : ∃ x : UInt8, drC s c = ⟨#[94, x]⟩ ∧ 32 ≤ x.toNat ∧ x.toNat < 127 := by
  have hk2 : c.k = 2 := by rcases two_k hc hn with e | e; exact absurd e hk; exact e
  have hg := piece_good hc
  have hsp := cl_span hc
  obtain ⟨x, r, hx⟩ : ∃ x r, sub s c.fr c.to = x :: r := by
    cases e : sub s c.fr c.to with
    | nil => have := sub_len (s := s) (i := c.fr) hsp.2; rw [e] at this; simp at this; omega
    | cons x r => exact ⟨x, r, rfl⟩
  have hb := ctl_byte hc hk2 hx
  have hlt : x.toNat < 128 := by
    by_cases h : x.toNat < 128
    · exact h
    · have := hg.sum
      rw [hx] at this
      unfold drw at this
      simp only [hk2, h, if_false] at this
      have e : sumN (cl (⟨#[239, 191, 189]⟩ : ByteArray)) = 1 := by decide +kernel
      simp at this
      rw [hn] at this
      rw [e] at this
      cases this
  refine ⟨x ^^^ 64, ?_, ?_⟩
  · unfold drC
    rw [hx]
    unfold drw
    simp [hk2, hlt]
  · have := xor_ctl ⟨x.toNat, x.toNat_lt⟩ (by rcases hb with e | e | e; exact .inl e; exact .inr e; omega)
    rw [UInt8.toNat_xor]
    exact this
theorem bar_two {x : UInt8} (h : 32 ≤ x.toNat ∧ x.toNat < 127) : barL ⟨#[94, x]⟩ = txL [94] ++ txL [x] := by
  have hb0 : bt (⟨#[94, x]⟩ : ByteArray) 0 = 94 := by rw [bt_eq]; rfl
  have hb1 : bt (⟨#[94, x]⟩ : ByteArray) 1 = x.toNat := by rw [bt_eq]; rfl
  have a0 := ch_ascii (s := ⟨#[94, x]⟩) (i := 0) (by rw [hb0]; omega)
  have a1 := ch_ascii (s := ⟨#[94, x]⟩) (i := 1) (by rw [hb1]; omega)
  have hk : cls (x.toNat : Int) = 0 := by
    unfold cls bad
    rw [if_neg (by omega), if_neg (by omega), if_neg (by omega), if_pos (by omega)]
  have hu : us (⟨#[94, x]⟩ : ByteArray) 0 = [((94 : Int), 1), ((x.toNat : Int), 1)] := by
    rw [us_step (by show 0 < 2; omega), a0.2, us_step (by show 0 + 1 < 2; omega)]
    show _ :: _ :: us _ (0 + 1 + sz _ 1) = _
    rw [a1.2, us_end (by show 2 ≤ 0 + 1 + 1; omega)]
    unfold pr
    rw [a0.1, a0.2, a1.1, a1.2, hb0, hb1]
    rfl
  unfold barL
  rw [cl_us, hu]
  simp only [clU, clG, jn_no (.inl hk), Bool.false_eq_true, if_false, List.flatMap_cons, List.flatMap_nil, List.append_nil]
  rfl
theorem put_sh {W : Nat} {s : ByteArray} {c : Clu} (hc : c ∈ cl s) (hW : 2 ≤ W) : shC (putC W (cuOf s c)) = barL (drC s c) := by
  obtain ⟨hn2, hn⟩ := cuOf_n hc
  have hk4 : (cuOf s c).wide = decide (c.k = 4) := rfl
  have hdr : (cuOf s c).dr = drC s c := rfl
  have h012 : (cuOf s c).n = 0 ∨ (cuOf s c).n = 1 ∨ (cuOf s c).n = 2 := by omega
  unfold putC
  rcases h012 with e | e | e
  · rw [if_pos e, bar_nil (dr_zero hc (by omega))]; rfl
  · rw [if_neg (by omega), if_pos e]
    have hg := gn_one (t := drC s c) (by have := piece_good hc; rw [hn, e] at this; exact this)
    rw [bar_one hg.1]
    simp [shC, hdr]
  · rw [if_neg (by omega), if_neg (by omega), if_neg (by omega), hk4, hdr]
    by_cases hk : c.k = 4
    · rw [if_pos (by simp [hk]), bar_one (gn_wide hc hk).1]
      simp only [shC, List.flatMap_cons, List.flatMap_nil, List.append_nil]
      show txL _ ++ txL [] = _
      rw [txL_nil, List.append_nil]
    · rw [if_neg (by simp [hk])]
      obtain ⟨x, hx, h1⟩ := dr_ctl3 hc (by rw [hn, e]; rfl) hk
      rw [hx, bar_two h1]
      simp only [shC, List.flatMap_cons, List.flatMap_nil, List.append_nil]
      rfl
theorem shR_snoc (R : List (List Cel)) (l : List Cel) : shR (R ++ [l]) = shR R ++ shC l := by simp [shR]
theorem shC_app (l m : List Cel) : shC (l ++ m) = shC l ++ shC m := by simp [shC]
theorem sh_dwn (st : Lst) : shR (dwn st).all = shR st.all := by
  show shR ((st.rows ++ [st.cur]) ++ [[]]) = shR (st.rows ++ [st.cur])
  rw [shR_snoc]
  show _ ++ [] = _
  rw [List.append_nil]
theorem sh_stp {W : Nat} {s : ByteArray} {c : Clu} (hc : c ∈ cl s) (hW : 2 ≤ W) (st : Lst) : shR (stpL W st (cuOf s c)).all = shR st.all ++ barL (drC s c) := by
  rw [← put_sh hc hW]
  unfold stpL
  split
  · rename_i h0
    rw [sh_dwn]
    unfold putC
    rw [if_pos h0]
    show _ = _ ++ []
    rw [List.append_nil]
  · simp only
    have hf : shR (fitS W (min (cuOf s c).n W) st).all = shR st.all := by
      unfold fitS
      split
      · exact sh_dwn st
      · rfl
    rw [← hf]
    generalize fitS W (min (cuOf s c).n W) st = t
    have ht : shR (⟨t.rows, t.cur ++ putC W (cuOf s c), t.col + min (cuOf s c).n W⟩ : Lst).all = shR t.all ++ shC (putC W (cuOf s c)) := by
      show shR (t.rows ++ [t.cur ++ putC W (cuOf s c)]) = shR (t.rows ++ [t.cur]) ++ _
      rw [shR_snoc, shR_snoc, shC_app, List.append_assoc]
    unfold fulS
    split
    · rw [sh_dwn]; exact ht
    · exact ht
theorem sh_lay {W : Nat} {s : ByteArray} (hW : 2 ≤ W) : ∀ {l : List Clu} {st : Lst}, (∀ c ∈ l, c ∈ cl s) → shR (layL W st (cus s l)).all = shR st.all ++ l.flatMap fun c => barL (drC s c)
  | [], st, _ => by simp [layL, cus]
  | c :: l, st, hl => by
    show shR (layL W (stpL W st (cuOf s c)) (cus s l)).all = _
    rw [sh_lay hW (fun d hd => hl d (List.mem_cons_of_mem _ hd)), sh_stp (hl c List.mem_cons_self) hW, List.flatMap_cons, List.append_assoc]
theorem shC_trm (l : List Cel) : shC (trmL l) = shC l := by
  have : ∀ n, ∀ l : List Cel, l.length = n → shC (trmL l) = shC l := fun n => by
    induction n with
    | zero => intro l h; have := List.eq_nil_of_length_eq_zero h; subst this; rfl
    | succ n ih =>
      intro l h
      have hne : l ≠ [] := by rintro rfl; simp at h
      have e : l = l.dropLast ++ [l.getLast hne] := (List.dropLast_concat_getLast hne).symm
      rw [e]
      generalize l.getLast hne = c
      cases hb : blkC c with
      | true =>
        rw [trm_snoc_blk hb, ih _ (by rw [List.length_dropLast]; omega), shC_app]
        have : c.tx = ⟨#[32]⟩ := by unfold blkC at hb; simp at hb; exact hb.1
        have h2 : shC [c] = [] := by
          simp only [shC, List.flatMap_cons, List.flatMap_nil, List.append_nil, this]
          rfl
        rw [h2, List.append_nil]
      | false => rw [trm_snoc_no hb]
  exact this _ l rfl
theorem sh_all {W : Nat} (hW : 2 ≤ W) (p s : ByteArray) : shR ((layPT W p s).all.map trmL) = wnt p ++ wnt s := by
  have h1 : ∀ R : List (List Cel), shR (R.map trmL) = shR R := fun R => by
    induction R with
    | nil => rfl
    | cons l R ih =>
      show shC (trmL l) ++ shR (R.map trmL) = shC l ++ shR R
      rw [shC_trm, ih]
  rw [h1]
  unfold layPT
  rw [sh_lay hW (fun _ h => h), sh_lay hW (fun _ h => h)]
  rfl
theorem txL_len (t : List UInt8) : (txL t).length ≤ t.length := by
  unfold txL
  split
  · simp
  · exact Nat.le_refl _
theorem tile_len {s : ByteArray} {f : Clu → List UInt8} {m : Nat} (hf : ∀ c ∈ cl s, (f c).length ≤ m * (c.to - c.fr)) : ∀ {l : List Clu} {i j : Nat}, (∀ c ∈ l, c ∈ cl s) → tiled i l j → i ≤ j ∧ (l.flatMap f).length ≤ m * (j - i)
  | [], i, j, _, h => by
    have h : i = j := h
    subst h
    exact ⟨Nat.le_refl _, by simp⟩
  | c :: l, i, j, hl, ⟨h1, h2, h3⟩ => by
    obtain ⟨h4, h5⟩ := tile_len hf (l := l) (fun d hd => hl d (List.mem_cons_of_mem _ hd)) h3
    have h6 := hf c (hl c List.mem_cons_self)
    have h1 : c.fr = i := h1
    refine ⟨by omega, ?_⟩
    rw [List.flatMap_cons, List.length_append]
    have e : m * (j - i) = m * (c.to - c.fr) + m * (j - c.to) := by rw [← Nat.mul_add]; congr 1; omega
    omega
theorem bar_len (t : ByteArray) : (barL t).length ≤ t.size := by
  have := (tile_len (s := t) (f := fun c => txL (sub t c.fr c.to)) (m := 1) (fun c hc => by
    have h1 := txL_len (sub t c.fr c.to)
    have h2 := sub_len (s := t) (i := c.fr) (cl_span hc).2
    omega) (fun _ h => h) (cl_tile t)).2
  unfold barL
  omega
theorem dr_len {s : ByteArray} {c : Clu} (hc : c ∈ cl s) : (drC s c).size ≤ 3 * (c.to - c.fr) := by
  have h1 := drw_len c.k (sub s c.fr c.to)
  rw [sub_len (cl_span hc).2] at h1
  have h2 := (cl_span hc).1
  unfold drC
  rw [Lib.size_eq]
  show (drw c.k (sub s c.fr c.to)).length ≤ _
  omega
theorem wnt_len (s : ByteArray) : (wnt s).length ≤ 3 * s.size := by
  have := (tile_len (s := s) (f := fun c => barL (drC s c)) (m := 3) (fun c hc => Nat.le_trans (bar_len _) (dr_len hc)) (fun _ h => h) (cl_tile s)).2
  unfold wnt
  omega
end Go.Proofs.YtfjoklbiocniiaaDoor
