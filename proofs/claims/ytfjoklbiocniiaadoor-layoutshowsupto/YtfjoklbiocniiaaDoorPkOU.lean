/-
  Package layout's grid: put. Conditions: those of each theorem.
-/
import Derived.Deep.RegionHeld3
import Derived.Test.YtfjoklbiocniiaaDoorOGrd
import Derived.Test.YtfjoklbiocniiaaDoorPkUD
namespace Go.Proofs.YtfjoklbiocniiaaDoor
open Go.RowKit Go.Shelf Bod Wid
/-- how many rows a grid lacks -/
def oml (gb row : Nat) (X : World) : Nat := match X.cell? ⟨gb, 3, none⟩ with | some (.slice _ n _) => row + 1 - n | _ => 0
theorem oml_of {gb row n k : Nat} {a : Option Addr} {X : World} (h : X.cell? ⟨gb, 3, none⟩ = some (.slice a n k)) : oml gb row X = row + 1 - n := by unfold oml; rw [h]
set_option maxRecDepth 100000 in
set_option maxHeartbeats 1000000 in
theorem rch_any {w X : World} {lo hi gb : Nat} {W r c : Int} {ov : Value} {vs : List (List Cel × Value)} (row : Nat) (h : Gd w lo hi W r c gb ov vs X) (hX : hi ≤ X.heap.size) (hr : row ≤ vs.length) (hl : vs.length ≤ 2147483648) :
    Calls Tryd.prog 48 #[.pointer (some ⟨gb, 0, none⟩), .int .i64 row] X fun e Y => (∃ u, e = .returned u) ∧ ∃ ov' vs', Hid (Gd w lo hi W r c gb ov' vs' Y ∧ Fg lo hi X Y ∧ ((row < vs.length ∧ vs' = vs) ∨ (row = vs.length ∧ vs' = vs ++ [([], .slice none 0 0)]))) := by
  obtain ⟨i0, hi0, hz0, hz1, hz2⟩ := info_parts infoLCE
  have HL : Hid (row ≤ vs.length ∧ vs.length ≤ 2147483648) := ⟨hr, hl⟩
  clear hr hl
  go_enter Tryd.func48, Tryd.ntmps48
  go_wp2
  go_loopw [10] (fun _ wr => ∃ (ov' : Value) (vs' : List (List Cel × Value)), Hid (Gd w lo hi W r c gb ov' vs' wr ∧ Fg lo hi X wr ∧ hi ≤ wr.heap.size ∧ (vs' = vs ∨ (row = vs.length ∧ vs' = vs ++ [([], .slice none 0 0)])))) (fun _ wr => oml gb row wr)
  case atStart => exact ⟨ov, vs, h, Fg.refl _ _ _, hX, .inl rfl⟩
  case round =>
    clear h hX
    obtain ⟨ov', vs', HG⟩ := hrel
    obtain ⟨a', k', hov⟩ := o_slice HG.out.1.orow
    obtain ⟨m, hm⟩ : ∃ m, vs'.length = m := ⟨_, rfl⟩
    rw [hm] at hov
    subst hov
    obtain ⟨⟨-, -, -, c3⟩, -, -, -, f3⟩ := HG.out.1.cells
    by_cases hlt : row < m
    · have hd : ¬ (m : Int) ≤ row := by omega
      have HE : Hid (m = vs'.length ∧ row < m) := ⟨hm.symm, hlt⟩
      clear hm hlt
      go_wp2
      go_end0
      refine ⟨⟨_, rfl⟩, _, vs', HG.out.1, HG.out.2.1, ?_⟩
      obtain ⟨he, hl⟩ := HE.out
      rcases HG.out.2.2.2 with q | ⟨q, q'⟩
      · subst q; exact .inl ⟨by omega, rfl⟩
      · exact .inr ⟨q, q'⟩
    · have hd : (m : Int) ≤ row := by omega
      have hvs : vs' = vs := by
        rcases HG.out.2.2.2 with q | ⟨q, q'⟩
        · exact q
        · rw [q'] at hm; simp at hm; omega
      subst hvs
      have HM : Hid (vs'.length = m ∧ m ≤ 2147483648 ∧ row = m) := ⟨hm, by have := HL.out; omega, by have := HL.out; omega⟩
      have hrow : wr.ownsRow w.heap.size 40 1 (.slice a' m k') m (vs'.map Prod.snd) := by rw [← hm]; have := HG.out.1.orow; rw [hm] at this ⊢; exact this
      have hb : w.heap.size ≤ wr.heap.size := HG.out.1.bel.size
      clear hm hlt
      go_wp2_with (at_builtin; refine wpList_append_own_at _ rfl _ _ 26 rfl w.heap.size 40 i0 _ 1 24 Tryd.underlying26 hi0 hz0 hz1 hz2 rfl (by decide) _ _ _ rfl (hrow.alloc _) ⟨wr.heap.size, 0, none⟩ 1 1 [.slice none 0 0] rfl rfl (World.news_of_block (World.alloc_heap_new _ _)) (by simp [Value.oneCell']) (by have := HM.out; unfold maxLen; omega) (by have := HM.out; omega) (by simp; omega) ?_; intro v' w6 hown' hgrow _ hob; have HA : Hid (w6.heap[gb]? = some (.cells #[.int .i64 W, .int .i64 r, .int .i64 c, .slice a' m k'] 66 (0, 0)) ∧ Gd w lo hi W r c gb v' (vs' ++ [([], .slice none 0 0)]) (w6.setCell ⟨gb, 3, none⟩ v') ∧ Fg lo hi wr (w6.setCell ⟨gb, 3, none⟩ v')) := HG.out.1.app HG.out.2.2.1 (by rw [HM.out.1]; exact hown') hgrow hob; obtain ⟨g', q', hv'⟩ := o_slice hown'; subst hv'; clear hown' hgrow hob c3 f3; obtain ⟨⟨-, -, -, c3⟩, -, -, -, f3⟩ := box4 HA.out.1)
      go_roundw
      case rel => exact ⟨_, _, HA.out.2.1, HG.out.2.1.trans HA.out.2.2, Nat.le_trans HG.out.2.2.1 HA.out.2.2.size, .inr ⟨by rw [HM.out.2.2, HM.out.1], rfl⟩⟩
      case measure =>
        have e1 := HA.out.2.1.cells.1.2.2.2
        rw [oml_of e1, oml_of (HG.out.1.cells.1.2.2.2)]
        have := HM.out
        omega
theorem gd_new (w : World) (W : Int) : Gd w 0 0 W 0 0 (w.heap.size + 1) (.slice (some ⟨w.heap.size, 0, none⟩) 1 1) [([], .slice none 0 0)] ((w.alloc (.cells #[.slice none 0 0] 40)).alloc (.cells #[.int .i64 W, .int .i64 0, .int .i64 0, .slice (some ⟨w.heap.size, 0, none⟩) 1 1] 66)) := by
  have hb := World.alloc_heap_new (w.alloc (.cells #[.slice none 0 0] 40)) (.cells #[.int .i64 W, .int .i64 0, .int .i64 0, .slice (some ⟨w.heap.size, 0, none⟩) 1 1] 66)
  rw [World.size_alloc] at hb
  refine ⟨((Below.refl _ w).alloc (Nat.le_refl _) _).alloc (by simp) _, Nat.le_succ _, hb, .inr (Nat.zero_le _), ?_, fun _ _ => .inr (Nat.zero_le _), ?_, List.pairwise_singleton _ _⟩
  · exact (World.ownsRow_lit (base := w.heap.size) (e := 40) (size := 1) w #[.slice none 0 0] 1 (Nat.le_refl _) (by unfold maxLen; omega) rfl).alloc _
  · intro o ho
    simp only [List.mem_singleton] at ho
    subst ho
    exact ⟨World.ownsRow_nil _ _ _ _, fun g e => by cases e⟩
theorem mk_one (W : World) : (Instr.makeSlice 26 (.int .i64 1) (.int .i64 1)).run Tryd.prog W = .ok (.slice (some ⟨W.heap.size, 0, none⟩) 1 1) (W.alloc (.cells #[.slice none 0 0] 40)) := by kernel_rfl
set_option maxRecDepth 100000 in
set_option maxHeartbeats 1000000 in
theorem ngr_any (x : Int) (w : World) : Calls Tryd.prog 25 #[.int .i64 x] w fun e Y => ∃ gb ov, e = .returned (.pointer (some ⟨gb, 0, none⟩)) ∧ Hid (Gd w 0 0 (couW x) 0 0 gb ov [([], .slice none 0 0)] Y) := by
  have CC : Hid (∀ X : World, Calls Tryd.prog 29 #[.int .i64 x] X fun e w' => e = .returned (.int .i64 (couW x)) ∧ w' = X) := fun X => cou_any x X
  have hmk := mk_one
  go_enter Tryd.func25, Tryd.ntmps25
  go_wp2_with (fail)
  go_region_with (go_at_call 29; refine (CC.out _).mono ?_; rintro e w1 ⟨rfl, rfl⟩)
  all_goals
    go_wp2
    go_ret
    exact ⟨_, _, rfl, (gd_new w (couW x)).drew⟩
end Go.Proofs.YtfjoklbiocniiaaDoor
namespace Go.Proofs.YtfjoklbiocniiaaDoor
open Go.RowKit Go.Shelf Bod Wid
/-- what put leaves -/
def Pw (base : Nat) (v : Value) (l new : List Cel) (X : World) (e : Ending) (Y : World) : Prop :=
  ∃ v', e = .returned v' ∧ Hid (Y.ownsRow base 42 2 v' (l.length + new.length) (ccs (l ++ new)) ∧ X.grownBy Y v.ownBlock ∧ ∀ g, v'.ownBlock = some g → v.ownBlock = some g ∨ X.heap.size ≤ g)
theorem o_news (X : World) (o : Obj) (cs : Array Value) (e : TypeId) : ∀ j u, cs.toList[j]? = some u → ((X.alloc o).alloc (.cells cs e)).cell? ((⟨X.heap.size + 1, 0, none⟩ : Addr).add j) = some u :=
  World.news_of_block (by have := World.alloc_heap_new (X.alloc o) (.cells cs e); rwa [World.size_alloc] at this)
theorem o_news2 (X : World) (o : Obj) (cs : Array Value) (e : TypeId) : ∀ j u, cs.toList[j]? = some u → ((X.alloc o).drew.alloc (.cells cs e)).cell? ((⟨X.heap.size + 1, 0, none⟩ : Addr).add j) = some u :=
  World.news_of_block (by have := World.alloc_heap_new (X.alloc o).drew (.cells cs e); rwa [show (X.alloc o).drew.heap.size = X.heap.size + 1 from World.size_alloc _ _] at this)
theorem pw_app {base n : Nat} {v v' : Value} {l new : List Cel} {X Y : World} {o o' : Obj} (hn : l.length = n) (hr : Y.ownsRow base 42 2 v' (n + new.length) (ccs l ++ ccs new)) (hg : ((X.alloc o).alloc o').grownBy Y v.ownBlock) (hob : v'.ownBlock = v.ownBlock ∨ v'.ownBlock = some ((X.alloc o).alloc o').heap.size) : Pw base v l new X (.returned v') Y := by
  subst hn
  refine ⟨v', rfl, by rw [ccs_app]; exact hr, o_grown2 (World.grownBy_alloc X o _) (o_grown2 (World.grownBy_alloc _ o' _) hg), fun g e => ?_⟩
  rcases hob with q | q
  · exact .inl (q ▸ e)
  · rw [q] at e; have := Option.some.inj e; simp at this; exact .inr (by omega)
section
set_option maxRecDepth 100000
set_option maxHeartbeats 1000000
variable {base gb : Nat} {W f t k : Int} {a : Option Addr} {n kk : Nat} {l : List Cel} {dr : ByteArray} {X : World}
theorem put_0 (hr : X.ownsRow base 42 2 (.slice a n kk) n (ccs l)) (hn : l.length = n) : Calls Tryd.prog 49 #[.pointer (some ⟨gb, 0, none⟩), .slice a n kk, .agg #[.int .i64 f, .int .i64 t, .int .i64 k, .int .i64 0], .string dr] X fun e Y => Pw base (.slice a n kk) l [] X e Y := by
  have HR : Hid (Pw base (.slice a n kk) l [] X (.returned (.slice a n kk)) (X.alloc (.cells #[.int .i64 f, .int .i64 t, .int .i64 k, .int .i64 0] 56))) :=
    ⟨_, rfl, by rw [List.append_nil, hn]; exact hr.alloc _, World.grownBy_alloc X _ _, fun g e => .inl e⟩
  clear hr hn
  go_enter Tryd.func49, Tryd.ntmps49
  go_wp2
  go_ret
  exact HR.out
theorem put_1 (hb : base ≤ X.heap.size) (hr : X.ownsRow base 42 2 (.slice a n kk) n (ccs l)) (hn : l.length = n) (hm : n ≤ 2147483648) : Calls Tryd.prog 49 #[.pointer (some ⟨gb, 0, none⟩), .slice a n kk, .agg #[.int .i64 f, .int .i64 t, .int .i64 k, .int .i64 1], .string dr] X fun e Y => Pw base (.slice a n kk) l [⟨dr, 1⟩] X e Y := by
  obtain ⟨i0, hi0, hz0, hz1, hz2⟩ := info_parts infoCE
  have HN : Hid (l.length = n) := hn
  clear hn
  go_enter Tryd.func49, Tryd.ntmps49
  go_wp2_with (at_builtin; refine wpList_append_own_at _ rfl _ _ 40 rfl base 42 i0 _ 2 24 Tryd.underlying40 hi0 hz0 hz1 hz2 rfl (by decide) _ _ _ rfl ((hr.alloc _).alloc _) ⟨X.heap.size + 1, 0, none⟩ 1 1 [.string dr, .int .i64 1] rfl rfl (o_news X _ _ 42) (by simp [Value.oneCell']) (by unfold maxLen; omega) (by omega) (by simp; omega) ?_; intro v' w6 hown' hgrow _ hob; have HF : Hid (Pw base (.slice a n kk) l [⟨dr, 1⟩] X (.returned v') w6) := pw_app HN.out hown' hgrow hob; clear hown' hgrow hob)
  go_ret
  exact HF.out
theorem put_w (hw : X.cell? ⟨gb, 0, none⟩ = some (.int .i64 1)) (hb : base ≤ X.heap.size) (hr : X.ownsRow base 42 2 (.slice a n kk) n (ccs l)) (hn : l.length = n) (hm : n ≤ 2147483648) : Calls Tryd.prog 49 #[.pointer (some ⟨gb, 0, none⟩), .slice a n kk, .agg #[.int .i64 f, .int .i64 t, .int .i64 k, .int .i64 2], .string dr] X fun e Y => Pw base (.slice a n kk) l [⟨fffd, 1⟩] X e Y := by
  obtain ⟨i0, hi0, hz0, hz1, hz2⟩ := info_parts infoCE
  have HN : Hid (l.length = n) := hn
  clear hn
  have hlt := World.block_lt_of_cell? X _ hw
  go_enter Tryd.func49, Tryd.ntmps49
  go_wp2_with (at_builtin; refine wpList_append_own_at _ rfl _ _ 40 rfl base 42 i0 _ 2 24 Tryd.underlying40 hi0 hz0 hz1 hz2 rfl (by decide) _ _ _ rfl ((hr.alloc _).alloc _) ⟨X.heap.size + 1, 0, none⟩ 1 1 [.string ⟨#[239, 191, 189]⟩, .int .i64 1] rfl rfl (o_news X _ _ 42) (by simp [Value.oneCell']) (by unfold maxLen; omega) (by omega) (by simp; omega) ?_; intro v' w6 hown' hgrow _ hob; have HF : Hid (Pw base (.slice a n kk) l [⟨fffd, 1⟩] X (.returned v') w6) := pw_app HN.out hown' hgrow hob; clear hown' hgrow hob)
  go_ret
  exact HF.out
theorem put_4 (hw : X.cell? ⟨gb, 0, none⟩ = some (.int .i64 W)) (hW : (W == 1) = false) (hb : base ≤ X.heap.size) (hr : X.ownsRow base 42 2 (.slice a n kk) n (ccs l)) (hn : l.length = n) (hm : n ≤ 2147483648) : Calls Tryd.prog 49 #[.pointer (some ⟨gb, 0, none⟩), .slice a n kk, .agg #[.int .i64 f, .int .i64 t, .int .i64 4, .int .i64 2], .string dr] X fun e Y => Pw base (.slice a n kk) l [⟨dr, 2⟩, ⟨⟨#[]⟩, 0⟩] X e Y := by
  obtain ⟨i0, hi0, hz0, hz1, hz2⟩ := info_parts infoCE
  have HN : Hid (l.length = n) := hn
  clear hn
  have hlt := World.block_lt_of_cell? X _ hw
  go_enter Tryd.func49, Tryd.ntmps49
  go_wp2_with (at_builtin; refine wpList_append_own_at _ rfl _ _ 40 rfl base 42 i0 _ 2 24 Tryd.underlying40 hi0 hz0 hz1 hz2 rfl (by decide) _ _ _ rfl ((hr.alloc _).alloc _) ⟨X.heap.size + 1, 0, none⟩ 2 2 [.string dr, .int .i64 2, .string ⟨#[]⟩, .int .i64 0] rfl rfl (o_news X _ _ 42) (by simp [Value.oneCell']) (by unfold maxLen; omega) (by omega) (by simp; omega) ?_; intro v' w6 hown' hgrow _ hob; have HF : Hid (Pw base (.slice a n kk) l [⟨dr, 2⟩, ⟨⟨#[]⟩, 0⟩] X (.returned v') w6) := pw_app HN.out hown' hgrow hob; clear hown' hgrow hob)
  go_ret
  exact HF.out
end
end Go.Proofs.YtfjoklbiocniiaaDoor
namespace Go.Proofs.YtfjoklbiocniiaaDoor
open Go.RowKit Go.Shelf Bod Wid
theorem pw_lies {base n g c : Nat} {v : Value} {l new : List Cel} {X Y : World} {o o' : Obj} (hn : l.length = n) (hr : Y.ownsRow base 42 2 (.slice (some ⟨g, 0, none⟩) (n + new.length) c) (n + new.length) (ccs l ++ ccs new)) (hg : ((X.alloc o).alloc o').drew.grownBy Y v.ownBlock) (hob : v.ownBlock = some g ∨ g = ((X.alloc o).alloc o').drew.heap.size) : Pw base v l new X (.returned (.slice (some ⟨g, 0, none⟩) (n + new.length) c)) Y :=
  pw_app hn hr ⟨hg.os, hg.tape, hg.output, hg.size, hg.block⟩ (by
    rcases hob with q | q
    · exact .inl q.symm
    · exact .inr (by rw [q]; rfl))
section
set_option maxRecDepth 100000
set_option maxHeartbeats 1000000
variable {base gb : Nat} {W f t k : Int} {a : Option Addr} {n kk : Nat} {l : List Cel} {dr : ByteArray} {X : World}
theorem put_c (hw : X.cell? ⟨gb, 0, none⟩ = some (.int .i64 W)) (hW : (W == 1) = false) (hk : (k == 4) = false) (hd : 1 ≤ dr.size) (hb : base ≤ X.heap.size) (hr : X.ownsRow base 42 2 (.slice a n kk) n (ccs l)) (hn : l.length = n) (hm : n ≤ 2147483648) : Calls Tryd.prog 49 #[.pointer (some ⟨gb, 0, none⟩), .slice a n kk, .agg #[.int .i64 f, .int .i64 t, .int .i64 k, .int .i64 2], .string dr] X fun e Y => Pw base (.slice a n kk) l [⟨dr.extract 0 1, 1⟩, ⟨dr.extract 1 dr.size, 1⟩] X e Y := by
  obtain ⟨i0, hi0, hz0, hz1, hz2⟩ := info_parts infoCE
  have HN : Hid (l.length = n) := hn
  clear hn
  have hlt := World.block_lt_of_cell? X _ hw
  have hd' : (1 : Int) ≤ (dr.size : Int) := by omega
  go_enter Tryd.func49, Tryd.ntmps49
  go_wp2_with (fail)
  go_region_law (refine step_append_lies _ rfl (.tmp 43) (.tmp 50) 40 rfl base 42 i0 _ 2 24 Tryd.underlying40 hi0 hz0 hz1 hz2 rfl (by decide) _ n _ rfl ((hr.alloc _).drew.alloc _) ⟨X.heap.size + 1, 0, none⟩ 2 2 [.string (dr.extract 0 1), .int .i64 1, .string (dr.extract 1 dr.size), .int .i64 1] rfl rfl (o_news2 X _ _ 42) (by simp [Value.oneCell']) (by decide) (by unfold maxLen; omega) (by omega) (by simp; omega) _ rfl ?_; intro g3 c3 w3 hown3 hg3 hat3 hlt3)
  all_goals
    have HF : Hid (Pw base (.slice a n kk) l [⟨dr.extract 0 1, 1⟩, ⟨dr.extract 1 dr.size, 1⟩] X (.returned (.slice (some ⟨g3, 0, none⟩) (n + 2) c3)) w3) := pw_lies HN.out hown3 hg3 hat3
    clear hown3 hg3 hat3 hlt3
    go_wp2
    go_ret
    exact HF.out
end
end Go.Proofs.YtfjoklbiocniiaaDoor
