/-
  Package layout's put: a row with the cells of a cluster behind it. Conditions: the row is the call's own and has no more than 2^31 cells.
-/
import Derived.Deep.RegionHeld3
import Derived.Test.YtoopbccpclgciaaDoorOPut
import Derived.Test.YtoopbccpclgciaaDoorUThenC
namespace Go.Proofs.YtoopbccpclgciaaDoor
open Go.RowKit Go.Shelf Bod Wid
/-- what put leaves -/
def Pw (base : Nat) (v : Value) (l new : List Cel) (X : World) (e : Ending) (Y : World) : Prop :=
  ∃ v', e = .returned v' ∧ Hid (Y.ownsRow base 42 2 v' (l.length + new.length) (ccs (l ++ new)) ∧ X.grownBy Y v.ownBlock ∧ ∀ g, v'.ownBlock = some g → v.ownBlock = some g ∨ X.heap.size ≤ g)
theorem o_news (X : World) (o : Obj) (cs : Array Value) (e : TypeId) : ∀ j u, cs.toList[j]? = some u → ((X.alloc o).alloc (.cells cs e)).cell? ((⟨X.heap.size + 1, 0, none⟩ : Addr).add j) = some u :=
  World.news_of_block (by have := World.alloc_heap_new (X.alloc o) (.cells cs e); rwa [World.size_alloc] at this)
theorem o_news2 (X : World) (o : Obj) (cs : Array Value) (e : TypeId) : ∀ j u, cs.toList[j]? = some u → ((X.alloc o).drew.alloc (.cells cs e)).cell? ((⟨X.heap.size + 1, 0, none⟩ : Addr).add j) = some u :=
  World.news_of_block (by have := World.alloc_heap_new (X.alloc o).drew (.cells cs e); rwa [show (X.alloc o).drew.heap.size = X.heap.size + 1 from World.size_alloc _ _] at this)
theorem pw_app {base n : Nat} {v v' : Value} {l new : List Cel} {X Y : World} {o o' : Obj} (hn : l.length = n) (hr : Y.ownsRow base 42 2 v' (n + new.length) (ccs l ++ ccs new)) (hg : ((X.alloc o).alloc o').grownBy Y v.ownBlock) (hob : v'.ownBlock = v.ownBlock ∨ v'.ownBlock = some ((X.alloc o).alloc o').heap.size) : Pw base v l new X (.returned v') Y := by
  subst hn
  refine ⟨v', rfl, by rw [ccs_app]; exact hr, o_grown2 (World.grownBy_alloc X o _) (o_grown2 (World.grownBy_alloc _ o' _) hg), fun g e => ?_⟩
  rcases hob with q | q
  · exact .inl (q ▸ e)
  · rw [q] at e; have := Option.some.inj e; simp at this; exact .inr (by omega)
section
set_option maxRecDepth 100000
set_option maxHeartbeats 1000000
variable {base gb : Nat} {W f t k : Int} {a : Option Addr} {n kk : Nat} {l : List Cel} {dr : ByteArray} {X : World}
theorem put_0 (hr : X.ownsRow base 42 2 (.slice a n kk) n (ccs l)) (hn : l.length = n) : Calls Tryd.prog 55 #[.pointer (some ⟨gb, 0, none⟩), .slice a n kk, .agg #[.int .i64 f, .int .i64 t, .int .i64 k, .int .i64 0], .string dr] X fun e Y => Pw base (.slice a n kk) l [] X e Y := by
  have HR : Hid (Pw base (.slice a n kk) l [] X (.returned (.slice a n kk)) (X.alloc (.cells #[.int .i64 f, .int .i64 t, .int .i64 k, .int .i64 0] 57))) :=
    ⟨_, rfl, by rw [List.append_nil, hn]; exact hr.alloc _, World.grownBy_alloc X _ _, fun g e => .inl e⟩
  clear hr hn
  go_enter Tryd.func55, Tryd.ntmps55
  go_wp2
  go_ret
  exact HR.out
theorem put_1 (hb : base ≤ X.heap.size) (hr : X.ownsRow base 42 2 (.slice a n kk) n (ccs l)) (hn : l.length = n) (hm : n ≤ 2147483648) : Calls Tryd.prog 55 #[.pointer (some ⟨gb, 0, none⟩), .slice a n kk, .agg #[.int .i64 f, .int .i64 t, .int .i64 k, .int .i64 1], .string dr] X fun e Y => Pw base (.slice a n kk) l [⟨dr, 1⟩] X e Y := by
  obtain ⟨i0, hi0, hz0, hz1, hz2⟩ := info_parts infoCE
  have HN : Hid (l.length = n) := hn
  clear hn
  go_enter Tryd.func55, Tryd.ntmps55
  go_wp2_with (at_builtin; refine wpList_append_own_at _ rfl _ _ 40 rfl base 42 i0 _ 2 24 Tryd.underlying40 hi0 hz0 hz1 hz2 rfl (by decide) _ _ _ rfl ((hr.alloc _).alloc _) ⟨X.heap.size + 1, 0, none⟩ 1 1 [.string dr, .int .i64 1] rfl rfl (o_news X _ _ 42) (by simp [Value.oneCell']) (by unfold maxLen; omega) (by omega) (by simp; omega) ?_; intro v' w6 hown' hgrow _ hob; have HF : Hid (Pw base (.slice a n kk) l [⟨dr, 1⟩] X (.returned v') w6) := pw_app HN.out hown' hgrow hob; clear hown' hgrow hob)
  go_ret
  exact HF.out
theorem put_w (hw : X.cell? ⟨gb, 0, none⟩ = some (.int .i64 1)) (hb : base ≤ X.heap.size) (hr : X.ownsRow base 42 2 (.slice a n kk) n (ccs l)) (hn : l.length = n) (hm : n ≤ 2147483648) : Calls Tryd.prog 55 #[.pointer (some ⟨gb, 0, none⟩), .slice a n kk, .agg #[.int .i64 f, .int .i64 t, .int .i64 k, .int .i64 2], .string dr] X fun e Y => Pw base (.slice a n kk) l [⟨fffd, 1⟩] X e Y := by
  obtain ⟨i0, hi0, hz0, hz1, hz2⟩ := info_parts infoCE
  have HN : Hid (l.length = n) := hn
  clear hn
  have hlt := World.block_lt_of_cell? X _ hw
  go_enter Tryd.func55, Tryd.ntmps55
  go_wp2_with (at_builtin; refine wpList_append_own_at _ rfl _ _ 40 rfl base 42 i0 _ 2 24 Tryd.underlying40 hi0 hz0 hz1 hz2 rfl (by decide) _ _ _ rfl ((hr.alloc _).alloc _) ⟨X.heap.size + 1, 0, none⟩ 1 1 [.string ⟨#[239, 191, 189]⟩, .int .i64 1] rfl rfl (o_news X _ _ 42) (by simp [Value.oneCell']) (by unfold maxLen; omega) (by omega) (by simp; omega) ?_; intro v' w6 hown' hgrow _ hob; have HF : Hid (Pw base (.slice a n kk) l [⟨fffd, 1⟩] X (.returned v') w6) := pw_app HN.out hown' hgrow hob; clear hown' hgrow hob)
  go_ret
  exact HF.out
theorem put_4 (hw : X.cell? ⟨gb, 0, none⟩ = some (.int .i64 W)) (hW : (W == 1) = false) (hb : base ≤ X.heap.size) (hr : X.ownsRow base 42 2 (.slice a n kk) n (ccs l)) (hn : l.length = n) (hm : n ≤ 2147483648) : Calls Tryd.prog 55 #[.pointer (some ⟨gb, 0, none⟩), .slice a n kk, .agg #[.int .i64 f, .int .i64 t, .int .i64 4, .int .i64 2], .string dr] X fun e Y => Pw base (.slice a n kk) l [⟨dr, 2⟩, ⟨⟨#[]⟩, 0⟩] X e Y := by
  obtain ⟨i0, hi0, hz0, hz1, hz2⟩ := info_parts infoCE
  have HN : Hid (l.length = n) := hn
  clear hn
  have hlt := World.block_lt_of_cell? X _ hw
  go_enter Tryd.func55, Tryd.ntmps55
  go_wp2_with (at_builtin; refine wpList_append_own_at _ rfl _ _ 40 rfl base 42 i0 _ 2 24 Tryd.underlying40 hi0 hz0 hz1 hz2 rfl (by decide) _ _ _ rfl ((hr.alloc _).alloc _) ⟨X.heap.size + 1, 0, none⟩ 2 2 [.string dr, .int .i64 2, .string ⟨#[]⟩, .int .i64 0] rfl rfl (o_news X _ _ 42) (by simp [Value.oneCell']) (by unfold maxLen; omega) (by omega) (by simp; omega) ?_; intro v' w6 hown' hgrow _ hob; have HF : Hid (Pw base (.slice a n kk) l [⟨dr, 2⟩, ⟨⟨#[]⟩, 0⟩] X (.returned v') w6) := pw_app HN.out hown' hgrow hob; clear hown' hgrow hob)
  go_ret
  exact HF.out
end
end Go.Proofs.YtoopbccpclgciaaDoor
