/-
  Package layout's put of a control of two cells. Conditions: as put_4's; what is drawn has a byte.
-/
import Derived.Test.YtoopbccpclgciaaDoorOPuc
namespace Go.Proofs.YtoopbccpclgciaaDoor
open Go.RowKit Go.Shelf Bod Wid
theorem pw_lies {base n g c : Nat} {v : Value} {l new : List Cel} {X Y : World} {o o' : Obj} (hn : l.length = n) (hr : Y.ownsRow base 42 2 (.slice (some ⟨g, 0, none⟩) (n + new.length) c) (n + new.length) (ccs l ++ ccs new)) (hg : ((X.alloc o).alloc o').drew.grownBy Y v.ownBlock) (hob : v.ownBlock = some g ∨ g = ((X.alloc o).alloc o').drew.heap.size) : Pw base v l new X (.returned (.slice (some ⟨g, 0, none⟩) (n + new.length) c)) Y :=
  pw_app hn hr ⟨hg.os, hg.tape, hg.output, hg.size, hg.block⟩ (by
    rcases hob with q | q
    · exact .inl q.symm
    · exact .inr (by rw [q]; rfl))
section
set_option maxRecDepth 100000
set_option maxHeartbeats 1000000
variable {base gb : Nat} {W f t k : Int} {a : Option Addr} {n kk : Nat} {l : List Cel} {dr : ByteArray} {X : World}
theorem put_c (hw : X.cell? ⟨gb, 0, none⟩ = some (.int .i64 W)) (hW : (W == 1) = false) (hk : (k == 4) = false) (hd : 1 ≤ dr.size) (hb : base ≤ X.heap.size) (hr : X.ownsRow base 42 2 (.slice a n kk) n (ccs l)) (hn : l.length = n) (hm : n ≤ 2147483648) : Calls Tryd.prog 55 #[.pointer (some ⟨gb, 0, none⟩), .slice a n kk, .agg #[.int .i64 f, .int .i64 t, .int .i64 k, .int .i64 2], .string dr] X fun e Y => Pw base (.slice a n kk) l [⟨dr.extract 0 1, 1⟩, ⟨dr.extract 1 dr.size, 1⟩] X e Y := by
  obtain ⟨i0, hi0, hz0, hz1, hz2⟩ := info_parts infoCE
  have HN : Hid (l.length = n) := hn
  clear hn
  have hlt := World.block_lt_of_cell? X _ hw
  have hd' : (1 : Int) ≤ (dr.size : Int) := by omega
  go_enter Tryd.func55, Tryd.ntmps55
  go_wp2_with (fail)
  go_region_law (refine step_append_lies _ rfl (.tmp 43) (.tmp 50) 40 rfl base 42 i0 _ 2 24 Tryd.underlying40 hi0 hz0 hz1 hz2 rfl (by decide) _ n _ rfl ((hr.alloc _).drew.alloc _) ⟨X.heap.size + 1, 0, none⟩ 2 2 [.string (dr.extract 0 1), .int .i64 1, .string (dr.extract 1 dr.size), .int .i64 1] rfl rfl (o_news2 X _ _ 42) (by simp [Value.oneCell']) (by decide) (by unfold maxLen; omega) (by omega) (by simp; omega) _ rfl ?_; intro g3 c3 w3 hown3 hg3 hat3 hlt3)
  all_goals
    have HF : Hid (Pw base (.slice a n kk) l [⟨dr.extract 0 1, 1⟩, ⟨dr.extract 1 dr.size, 1⟩] X (.returned (.slice (some ⟨g3, 0, none⟩) (n + 2) c3)) w3) := pw_lies HN.out hown3 hg3 hat3
    clear hown3 hg3 hat3 hlt3
    go_wp2
    go_ret
    exact HF.out
end
end Go.Proofs.YtoopbccpclgciaaDoor
