/-
  The document's examples, which each law of package bind asks ahead of all; rows of keys. Conditions: the tables lie in memory.
-/
import Derived.Test.YtmaolbibbjngcaaDoorISam
namespace Go.Proofs.YtmaolbibbjngcaaDoor
open Go.RowKit Go.Shelf Bod

deriving instance DecidableEq for Cm
/-- the cells of keys -/
def kyl (l : List Ky) : List Value := l.flatMap fun k => [.int .i64 k.kd, .int .i32 k.ch, .bool k.ct, .bool k.me, .bool k.sh, .string k.tx]
theorem kyl_at : ∀ (l : List Ky) (i : Nat) (x : Ky), l[i]? = some x → ∀ j, j < 6 → (kyl l)[i * 6 + j]? = (kyc x)[j]?
  | [], _, _, h => by simp at h
  | y :: l, 0, x, h => fun j hj => by
    simp at h; subst h
    show ([Value.int .i64 y.kd, .int .i32 y.ch, .bool y.ct, .bool y.me, .bool y.sh, .string y.tx] ++ kyl l)[0 * 6 + j]? = _
    rw [List.getElem?_append_left (by simp; omega)]
    simp [kyc]
  | y :: l, i + 1, x, h => fun j hj => by
    have := kyl_at l i x (by simpa using h) j hj
    show ([Value.int .i64 y.kd, .int .i32 y.ch, .bool y.ct, .bool y.me, .bool y.sh, .string y.tx] ++ kyl l)[(i + 1) * 6 + j]? = _
    rw [List.getElem?_append_right (by simp; omega), ← this]
    congr 1
    simp; omega
theorem rdky_row {W : World} {base n : Nat} {v : Value} {l : List Ky} (h : W.ownsRow base 30 6 v n (kyl l)) (hn : n = l.length) : RdKy W v l := by
  subst hn
  have hc := fun g e => h.cells (g := g) e
  rcases h.2 with ⟨rfl, h0⟩ | ⟨g, cap, cur, rfl, -, hg, hcap, -⟩
  · have : l = [] := List.eq_nil_of_length_eq_zero h0
    subst this
    exact ⟨none, 0, rfl, Nat.le_refl _, fun h => absurd rfl h⟩
  · refine ⟨_, cap, rfl, hcap, fun _ => ⟨g, 0, rfl, (Array.getElem?_eq_some_iff.1 hg).1, fun k x hk j hj => ?_⟩⟩
    have q := kyl_at l k x hk j hj
    obtain ⟨u, hu⟩ : ∃ u, (kyc x)[j]? = some u := ⟨_, Array.getElem?_eq_getElem (by simpa [kyc] using hj)⟩
    rw [hu] at q ⊢
    have := hc g rfl _ _ q
    rwa [Go.WideShapes.add_plain, ← Nat.add_assoc] at this
def bk1 : List Ky := [⟨1, 49, false, true, false, ⟨#[]⟩⟩, ⟨1, 50, false, false, false, ⟨#[]⟩⟩, ⟨2, 70, true, false, false, ⟨#[]⟩⟩]
def bk2 : List Ky := [⟨2, 81, true, false, false, ⟨#[]⟩⟩, ⟨2, 77, true, false, false, ⟨#[]⟩⟩, ⟨1, 109, false, true, false, ⟨#[]⟩⟩, ⟨1, 97, false, false, false, ⟨#[]⟩⟩]
theorem bk1_run : (runP bsz bk1).1 = [⟨5, 12, ⟨#[]⟩, 0⟩] := by decide +kernel
theorem bk2_run : (runP bsz bk2).1 = [⟨1, 1, ⟨#[13]⟩, 0⟩, ⟨29, 1, ⟨#[]⟩, 97⟩] := by decide +kernel
theorem bk1_ok : ∀ k ∈ bk1, k.Ok := by
  intro k hk
  simp only [bk1, List.mem_cons, List.not_mem_nil, or_false] at hk
  rcases hk with rfl | rfl | rfl <;> exact ⟨by decide, by decide, by decide, by decide, by decide⟩
theorem bk2_ok : ∀ k ∈ bk2, k.Ok := by
  intro k hk
  simp only [bk2, List.mem_cons, List.not_mem_nil, or_false] at hk
  rcases hk with rfl | rfl | rfl | rfl <;> exact ⟨by decide, by decide, by decide, by decide, by decide⟩
/-- Commands of keys that are laid right ahead of it -/
theorem cms_new (hM : Tryd.prog.follows .mixedOrders = true) {w : World} (hT : Tb w) (l : List Ky) (hl : l.length ≤ 2097152) (hk : ∀ k ∈ l, k.Ok) (W : World) (hW : Below w.heap.size w W) (cs : Array Value) (hcs : cs.toList = kyl l) (n : Nat) (hn : l.length = n) (ys : List Cm) (hy : (runP bsz l).1 = ys) :
    Calls Tryd.prog 19 #[.slice (some ⟨W.heap.size, 0, none⟩) n n] (W.alloc (.cells cs 30)) fun e W' => ∃ v, e = .returned v ∧ W'.ownsRow w.heap.size 34 4 v ys.length (ccl ys) ∧ Below w.heap.size w W' := by
  subst hn
  subst hy
  have hsz : cs.size = l.length * 6 := by
    rw [← Array.length_toList, hcs]
    have : ∀ l : List Ky, (kyl l).length = l.length * 6 := fun l => by
      induction l with
      | nil => rfl
      | cons x l ih => show (_ ++ kyl l).length = _; rw [List.length_append, ih]; simp; omega
    exact this l
  have hrow := World.ownsRow_lit (base := W.heap.size) (e := 30) (size := 6) W cs l.length (Nat.le_refl _) (by unfold maxLen; omega) hsz
  rw [hcs] at hrow
  have hB := hW.alloc hW.size (.cells cs 30)
  refine (cms_any hM _ _ l _ (rdky_row hrow rfl) hl hk (hT.below hB)).mono ?_
  rintro e W' ⟨v, rfl, r, b⟩
  refine ⟨v, rfl, ?_, hB.trans (b.mono hB.size)⟩
  have hle := hB.size
  exact ⟨r.1, r.2.imp id fun ⟨g, c, u, h1, h2, h3⟩ => ⟨g, c, u, h1, Nat.le_trans hle h2, h3⟩⟩
set_option maxRecDepth 100000 in
set_option maxHeartbeats 2000000 in
theorem bds_any (hM : Tryd.prog.follows .mixedOrders = true) (w : World) (hT : Tb w) : Calls Tryd.prog 9 #[] w fun e w' => e = .returned (.bool true) ∧ Below w.heap.size w w' := by
  have HB : Hid (Below w.heap.size w w) := Below.refl _ w
  have CC : Hid (∀ (c : Int) (m : Bool) (W : World), Below w.heap.size w W → Calls Tryd.prog 25 #[.int .i32 c, .bool m] W fun e w' => e = .returned (kyv ⟨1, c, false, m, false, ⟨#[]⟩⟩) ∧ Hid (Below w.heap.size w w')) := fun c m W hW => (hkey_any c m W).mono fun e w' q => ⟨q.1, hW.trans (q.2.mono hW.size)⟩
  have CT : Hid (∀ (c : Int) (W : World), Below w.heap.size w W → Calls Tryd.prog 24 #[.int .i32 c] W fun e w' => e = .returned (kyv ⟨2, c, true, false, false, ⟨#[]⟩⟩) ∧ Hid (Below w.heap.size w w')) := fun c W hW => (ckey_any c W).mono fun e w' q => ⟨q.1, hW.trans (q.2.mono hW.size)⟩
  have M1 : Hid (∀ (W : World), Below w.heap.size w W → ∀ cs : Array Value, cs.toList = kyl bk1 → Calls Tryd.prog 19 #[.slice (some ⟨W.heap.size, 0, none⟩) 3 3] (W.alloc (.cells cs 30)) fun e W' => ∃ g cap, e = .returned (.slice (some ⟨g, 0, none⟩) 1 cap) ∧ 1 ≤ cap ∧ (W'.cell? ⟨g, 0, none⟩ = some (.int .i64 5) ∧ W'.cell? ⟨g, 1, none⟩ = some (.int .i64 12) ∧ W'.cell? ⟨g, 2, none⟩ = some (.string ⟨#[]⟩) ∧ W'.cell? ⟨g, 3, none⟩ = some (.int .u8 0)) ∧ Hid (Below w.heap.size w W')) := fun W hW cs hcs => by
    refine (cms_new hM hT bk1 (by decide) bk1_ok W hW cs hcs 3 rfl _ bk1_run).mono ?_
    rintro e W' ⟨v, rfl, r, b⟩
    obtain ⟨a, cap, rfl, hcap, hc⟩ := row_cm r rfl
    obtain ⟨g, rfl, q⟩ := hc 0 _ rfl
    exact ⟨g, cap, rfl, hcap, by simpa using q, b⟩
  have M2 : Hid (∀ (W : World), Below w.heap.size w W → ∀ cs : Array Value, cs.toList = kyl bk2 → Calls Tryd.prog 19 #[.slice (some ⟨W.heap.size, 0, none⟩) 4 4] (W.alloc (.cells cs 30)) fun e W' => ∃ g cap, e = .returned (.slice (some ⟨g, 0, none⟩) 2 cap) ∧ 2 ≤ cap ∧ ((W'.cell? ⟨g, 0, none⟩ = some (.int .i64 1) ∧ W'.cell? ⟨g, 1, none⟩ = some (.int .i64 1) ∧ W'.cell? ⟨g, 2, none⟩ = some (.string ⟨#[13]⟩) ∧ W'.cell? ⟨g, 3, none⟩ = some (.int .u8 0)) ∧ (W'.cell? ⟨g, 4, none⟩ = some (.int .i64 29) ∧ W'.cell? ⟨g, 5, none⟩ = some (.int .i64 1) ∧ W'.cell? ⟨g, 6, none⟩ = some (.string ⟨#[]⟩) ∧ W'.cell? ⟨g, 7, none⟩ = some (.int .u8 97))) ∧ Hid (Below w.heap.size w W')) := fun W hW cs hcs => by
    refine (cms_new hM hT bk2 (by decide) bk2_ok W hW cs hcs 4 rfl _ bk2_run).mono ?_
    rintro e W' ⟨v, rfl, r, b⟩
    obtain ⟨a, cap, rfl, hcap, hc⟩ := row_cm r rfl
    obtain ⟨g, rfl, q⟩ := hc 0 _ rfl
    obtain ⟨g', e', q'⟩ := hc 1 _ rfl
    cases e'
    exact ⟨g, cap, rfl, hcap, ⟨by simpa using q, by simpa using q'⟩, b⟩
  clear hM hT
  unfold kyv at CC CT
  go_enter Tryd.func9, Tryd.ntmps9
  go_upto_region 2 with (first
    | (go_at_call 25; refine (CC.out _ _ _ HB.out).mono ?_; clear HB; rintro e w1 ⟨rfl, HB⟩)
    | (go_at_call 24; refine (CT.out _ _ HB.out).mono ?_; clear HB; rintro e w1 ⟨rfl, HB⟩)
    | (go_at_call 19; refine (M1.out _ HB.out _ rfl).mono ?_; clear HB M1; rintro e w1 ⟨g, cap, rfl, hcap, ⟨q0, q1, q2, q3⟩, HB⟩))
  go_upto_region 5 with (first
    | (go_at_call 25; refine (CC.out _ _ _ HB.out).mono ?_; clear HB; rintro e w1 ⟨rfl, HB⟩)
    | (go_at_call 24; refine (CT.out _ _ HB.out).mono ?_; clear HB; rintro e w1 ⟨rfl, HB⟩)
    | (go_at_call 19; refine (M2.out _ HB.out _ rfl).mono ?_; clear HB M2; rintro e w1 ⟨g, cap, rfl, hcap, ⟨⟨q0, q1, q2, q3⟩, ⟨q4, q5, q6, q7⟩⟩, HB⟩))
  go_wp2
  go_ret
  exact ⟨rfl, HB.out⟩
end Go.Proofs.YtmaolbibbjngcaaDoor
