/-
  A history in plain words, and how package hist's and the document's own lie in memory; what stays while something else is turned. No program is walked in this text; no conditions.
-/
import Derived.Test.YtgakgebhhmkclabHRow
namespace Go.Proofs.Ytgakgebhhmkclab
open Go.RowKit

/-- nothing but the blocks of F is turned -/
def Ch (F : Nat → Prop) (w w' : World) : Prop := w'.os = w.os ∧ w'.tape = w.tape ∧ w'.output = w.output ∧ w.heap.size ≤ w'.heap.size ∧ ∀ k, k < w.heap.size → ¬ F k → w'.heap[k]? = w.heap[k]?
/-- what is turned in w, F, and later, F': no more but what is new -/
structure Mv (w : World) (F : Nat → Prop) (w' : World) (F' : Nat → Prop) : Prop where
  ch : Ch F w w'
  nx : ∀ k, F' k → F k ∨ w.heap.size ≤ k
theorem Mv.refl (w : World) (F : Nat → Prop) : Mv w F w F := ⟨⟨rfl, rfl, rfl, Nat.le_refl _, fun _ _ _ => rfl⟩, fun _ h => .inl h⟩
theorem Mv.below {w w' : World} {F : Nat → Prop} (h : Below w.heap.size w w') : Mv w F w' F := ⟨⟨h.os, h.tape, h.output, h.size, fun k hk _ => h.block k hk⟩, fun _ h => .inl h⟩
theorem Mv.trans {w w1 w2 : World} {F F1 F2 : Nat → Prop} (h : Mv w F w1 F1) (g : Mv w1 F1 w2 F2) : Mv w F w2 F2 := by
  obtain ⟨⟨a1, a2, a3, a4, a5⟩, a6⟩ := h
  obtain ⟨⟨b1, b2, b3, b4, b5⟩, b6⟩ := g
  refine ⟨⟨b1.trans a1, b2.trans a2, b3.trans a3, Nat.le_trans a4 b4, fun k hk hn => (b5 k (by omega) (fun e => ?_)).trans (a5 k hk hn)⟩, fun k e => ?_⟩
  · rcases a6 k e with h | h
    · exact hn h
    · omega
  · rcases b6 k e with h | h
    · exact a6 k h
    · exact .inr (by omega)
theorem Mv.grown {w w' : World} {r : Option Nat} {F F' : Nat → Prop} (h : w.grownBy w' r) (hr : ∀ k, r = some k → F k) (hF : ∀ k, F' k → F k ∨ w.heap.size ≤ k) : Mv w F w' F' :=
  ⟨⟨h.os, h.tape, h.output, h.size, fun k hk hn => h.block k hk (fun e => hn (hr k e.symm))⟩, hF⟩
theorem Mv.cell {w : World} {b i : Nat} {u : Value} {F F' : Nat → Prop} (hb : F b) (hF : ∀ k, F' k → F k ∨ w.heap.size ≤ k) : Mv w F (w.setCell ⟨b, i, none⟩ u) F' := Mv.grown (gcell w b i u) (fun k e => by cases e; exact hb) hF
theorem Mv.low {w w' : World} {F F' : Nat → Prop} {n : Nat} (h : Mv w F w' F') (hn : ∀ k, F k → n ≤ k) (h0 : n ≤ w.heap.size) : Below n w w' :=
  ⟨h.ch.1, h.ch.2.1, h.ch.2.2.1, h.ch.2.2.2.1, fun k hk => h.ch.2.2.2.2 k (by omega) (fun e => by have := hn k e; omega)⟩
theorem Mv.mono {w w' : World} {F F' G G' : Nat → Prop} (h : Mv w F w' F') (hf : ∀ k, F k → G k) (hg : ∀ k, G' k → F' k ∨ G k ∨ w.heap.size ≤ k) : Mv w G w' G' :=
  ⟨⟨h.ch.1, h.ch.2.1, h.ch.2.2.1, h.ch.2.2.2.1, fun k hk hn => h.ch.2.2.2.2 k hk (fun e => hn (hf k e))⟩, fun k e => by
    rcases hg k e with h1 | h1
    · rcases h.nx k h1 with h2 | h2
      · exact .inl (hf k h2)
      · exact .inr h2
    · exact h1⟩

/-- what is noted to a place -/
def gt : List (Nat × ByteArray) → Nat → Option ByteArray
  | [], _ => none
  | q :: l, p => if q.1 = p then some q.2 else gt l p
theorem gt_app (l m : List (Nat × ByteArray)) (p : Nat) : gt (l ++ m) p = (gt l p).or (gt m p) := by
  induction l with
  | nil => simp [gt]
  | cons q l ih => simp only [List.cons_append, gt]; split <;> simp [ih]
theorem gt_filter (l : List (Nat × ByteArray)) (a p : Nat) : gt (l.filter fun q => decide (q.1 ≠ a)) p = if p = a then none else gt l p := by
  induction l with
  | nil => simp [gt]
  | cons q l ih =>
    rw [List.filter_cons]
    by_cases h : q.1 = a
    · rw [if_neg (by simp [h]), ih]
      split
      · rfl
      · rename_i h2; rw [gt, if_neg (by omega)]
    · rw [if_pos (by simp [h]), gt, gt, ih]
      by_cases h1 : q.1 = p
      · rw [if_pos h1, if_pos h1, if_neg (by omega)]
      · rw [if_neg h1, if_neg h1]
theorem gt_mem {l : List (Nat × ByteArray)} {p : Nat} {t : ByteArray} (h : gt l p = some t) : (p, t) ∈ l := by
  induction l with
  | nil => simp [gt] at h
  | cons q l ih =>
    rw [gt] at h
    split at h
    · rename_i e; cases h; rw [← e]; exact List.mem_cons_self
    · exact List.mem_cons_of_mem _ (ih h)
theorem gt_none {l : List (Nat × ByteArray)} {p : Nat} : gt l p = none ↔ p ∉ l.map (·.1) := by
  induction l with
  | nil => simp [gt]
  | cons q l ih =>
    rw [gt, List.map_cons, List.mem_cons]
    split
    · rename_i e; simp [e]
    · rename_i e; rw [ih]; simp; intro h; exact fun e2 => e e2.symm
/-- as many places below m are noted as there are notes -/
theorem gt_count (l : List (Nat × ByteArray)) (hn : (l.map (·.1)).Nodup) (m : Nat) (hm : ∀ q ∈ l, q.1 < m) : (List.range m).countP (fun p => (gt l p).isSome) = l.length := by
  induction l with
  | nil => rw [List.countP_eq_zero.2]; · rfl
           · intro p _; simp [gt]
  | cons q l ih =>
    rw [List.map_cons, List.nodup_cons] at hn
    have h1 := ih hn.2 (fun x hx => hm x (List.mem_cons_of_mem _ hx))
    have h2 : ∀ n, (List.range n).countP (fun p => (gt (q :: l) p).isSome) = (List.range n).countP (fun p => (gt l p).isSome) + (if q.1 < n then 1 else 0) := fun n => by
      induction n with
      | zero => simp
      | succ n ih2 =>
        rw [List.range_succ, List.countP_append, List.countP_append, ih2]
        simp only [List.countP_cons, List.countP_nil]
        have h3 := gt_none.2 hn.1
        by_cases e : q.1 = n
        · subst e
          simp [gt, h3]
        · simp only [gt, if_neg e]
          have : (q.1 < n + 1) ↔ (q.1 < n) := by omega
          simp only [this]
          omega
    rw [h2, h1, if_pos (hm q List.mem_cons_self), List.length_cons]

/-- a history: its bound, its entries, the oldest first, its place, its drafts in the order in which they were left last -/
structure Hs where
  b : Nat
  es : Tl
  pl : Nat
  nt : List (Nat × ByteArray)
structure Hs.Ok (h : Hs) : Prop where
  b : h.b ≤ 1000
  len : h.es.length ≤ h.b
  pl : h.pl ≤ h.es.length
  nd : (h.nt.map (·.1)).Nodup
  nl : ∀ q ∈ h.nt, q.1 < h.es.length + 1
  fe : ∀ s ∈ h.es, s.size ≤ 1099511627776
  fn : ∀ q ∈ h.nt, q.2.size ≤ 1099511627776
def Hs.new (b : Int) : Hs := ⟨if b < 0 then 0 else if 1000 < b then 1000 else b.toNat, [], 0, []⟩
def Hs.home (h : Hs) : Hs := ⟨h.b, h.es, h.es.length, []⟩
def Hs.took (t : ByteArray) (h : Hs) : Bool := decide (t ≠ ⟨#[]⟩ ∧ 0 < h.b ∧ h.es.getLast? ≠ some t)
def pushL (b : Nat) (es : Tl) (t : ByteArray) : Tl := if es.length = b then es.tail ++ [t] else es ++ [t]
def Hs.push (t : ByteArray) (h : Hs) : Hs := ⟨h.b, pushL h.b h.es t, (pushL h.b h.es t).length, []⟩
def Hs.add (t : ByteArray) (h : Hs) : Hs := if h.took t then h.push t else h.home
/-- the notes with another one -/
def noted (l : List (Nat × ByteArray)) (p : Nat) (t : ByteArray) : List (Nat × ByteArray) := (l.filter fun q => decide (q.1 ≠ p)) ++ [(p, t)]
theorem gt_noted (l : List (Nat × ByteArray)) (p : Nat) (t : ByteArray) (q : Nat) : gt (noted l p t) q = if q = p then some t else gt l q := by
  rw [noted, gt_app, gt_filter]
  by_cases h : q = p
  · subst h; simp [gt]
  · rw [if_neg h, if_neg h, gt, if_neg (by omega), gt]; simp
def Hs.go (p : Nat) (now : ByteArray) (h : Hs) : Hs := ⟨h.b, h.es, p, noted h.nt h.pl now⟩
/-- the text at a place -/
def Hs.txt (h : Hs) (p : Nat) : ByteArray := (gt h.nt p).getD (h.es.getD p ⟨#[]⟩)

theorem Hs.Ok.new (b : Int) : (Hs.new b).Ok := by
  refine ⟨?_, Nat.zero_le _, Nat.zero_le _, List.nodup_nil, fun q h => (by cases h), fun q h => (by cases h), fun q h => (by cases h)⟩
  show (if b < 0 then 0 else if 1000 < b then 1000 else b.toNat) ≤ 1000
  split
  · omega
  · split <;> omega
theorem Hs.Ok.home {h : Hs} (k : h.Ok) : h.home.Ok := ⟨k.b, k.len, Nat.le_refl _, List.nodup_nil, fun q h => (by cases h), k.fe, fun q h => (by cases h)⟩
theorem pushL_len {b : Nat} {es : Tl} {t : ByteArray} (hb : 0 < b) (h : es.length ≤ b) : (pushL b es t).length ≤ b ∧ 0 < (pushL b es t).length := by
  unfold pushL
  split
  · simp; omega
  · simp; omega
theorem Hs.Ok.push {h : Hs} (k : h.Ok) {t : ByteArray} (hb : 0 < h.b) (ht : t.size ≤ 1099511627776) : (h.push t).Ok := by
  refine ⟨k.b, (pushL_len hb k.len).1, Nat.le_refl _, List.nodup_nil, fun q h => (by cases h), fun s hs => ?_, fun q h => (by cases h)⟩
  change s ∈ pushL h.b h.es t at hs
  unfold pushL at hs
  split at hs
  · rcases List.mem_append.1 hs with hs | hs
    · exact k.fe s (List.mem_of_mem_tail hs)
    · rw [List.mem_singleton.1 hs]; exact ht
  · rcases List.mem_append.1 hs with hs | hs
    · exact k.fe s hs
    · rw [List.mem_singleton.1 hs]; exact ht
theorem Hs.Ok.add {h : Hs} (k : h.Ok) {t : ByteArray} (ht : t.size ≤ 1099511627776) : (h.add t).Ok := by
  unfold Hs.add
  split
  · rename_i e
    simp only [Hs.took, decide_eq_true_eq] at e
    exact k.push e.2.1 ht
  · exact k.home
theorem Hs.Ok.go {h : Hs} (k : h.Ok) {p : Nat} {now : ByteArray} (hp : p ≤ h.es.length) (ht : now.size ≤ 1099511627776) : (h.go p now).Ok := by
  refine ⟨k.b, k.len, hp, ?_, fun q hq => ?_, k.fe, fun q hq => ?_⟩
  · show (((h.nt.filter fun q => decide (q.1 ≠ h.pl)) ++ [(h.pl, now)]).map (·.1)).Nodup
    rw [List.map_append, List.nodup_append]
    refine ⟨(List.filter_sublist.map _).nodup k.nd, by simp, fun a ha b hb => ?_⟩
    obtain ⟨x, hx, rfl⟩ := List.mem_map.1 ha
    have h2 := (List.mem_filter.1 hx).2
    simp at hb h2
    rw [hb]; exact h2
  · rcases List.mem_append.1 hq with hq | hq
    · exact k.nl q (List.mem_filter.1 hq).1
    · rw [List.mem_singleton.1 hq]
      exact Nat.lt_succ_of_le k.pl
  · rcases List.mem_append.1 hq with hq | hq
    · exact k.fn q (List.mem_filter.1 hq).1
    · rw [List.mem_singleton.1 hq]; exact ht
theorem Hs.Ok.txt {h : Hs} (k : h.Ok) (p : Nat) : (h.txt p).size ≤ 1099511627776 := by
  unfold Hs.txt
  cases e : gt h.nt p with
  | some t => exact k.fn _ (gt_mem e)
  | none =>
    show (h.es.getD p ⟨#[]⟩).size ≤ _
    rw [List.getD_eq_getElem?_getD]
    cases e2 : h.es[p]? with
    | none => exact Nat.zero_le _
    | some s => exact k.fe s (List.mem_of_getElem? e2)

/-- the cells of drafts, place by place -/
def dvs (nt : List (Nat × ByteArray)) : Nat → List Value
  | 0 => []
  | m + 1 => dvs nt m ++ [.bool (gt nt m).isSome, .string ((gt nt m).getD ⟨#[]⟩)]
theorem dvs_len (nt : List (Nat × ByteArray)) (m : Nat) : (dvs nt m).length = m * 2 := by
  induction m with
  | zero => rfl
  | succ m ih => simp [dvs, ih]; omega
theorem dvs_get (nt : List (Nat × ByteArray)) {m p : Nat} (h : p < m) : (dvs nt m)[p * 2]? = some (.bool (gt nt p).isSome) ∧ (dvs nt m)[p * 2 + 1]? = some (.string ((gt nt p).getD ⟨#[]⟩)) := by
  induction m with
  | zero => omega
  | succ m ih =>
    have hl := dvs_len nt m
    rw [dvs]
    by_cases e : p = m
    · subst e
      rw [List.getElem?_append_right (by omega), List.getElem?_append_right (by omega), hl]
      simp
    · have := ih (by omega)
      rw [List.getElem?_append_left (by omega), List.getElem?_append_left (by omega)]
      exact this
theorem dvs_noted (nt : List (Nat × ByteArray)) (p : Nat) (t : ByteArray) {m : Nat} (h : p < m) : dvs (noted nt p t) m = ((dvs nt m).set (p * 2) (.bool true)).set (p * 2 + 1) (.string t) := by
  apply List.ext_getElem?
  intro j
  by_cases hj : j < m * 2
  · obtain ⟨q, hq⟩ : ∃ q, j = q * 2 ∨ j = q * 2 + 1 := ⟨j / 2, by omega⟩
    have hqm : q < m := by omega
    have h1 := dvs_get (noted nt p t) hqm
    have h2 := dvs_get nt hqm
    rw [gt_noted] at h1
    rw [List.getElem?_set, List.getElem?_set, List.length_set, dvs_len]
    rcases hq with rfl | rfl
    · rw [h1.1]
      by_cases e : q = p
      · subst e; rw [if_pos rfl, if_neg (by omega), if_pos rfl, if_pos (by omega)]; rfl
      · rw [if_neg e, if_neg (by omega), if_neg (by omega), h2.1]
    · rw [h1.2]
      by_cases e : q = p
      · subst e; rw [if_pos rfl, if_pos rfl, if_pos (by omega)]; rfl
      · rw [if_neg e, if_neg (by omega), if_neg (by omega), h2.2]
  · rw [List.getElem?_eq_none (by rw [dvs_len]; omega), List.getElem?_eq_none (by simp [dvs_len]; omega)]
/-- the cells of the document's drafts -/
def nvs (nt : List (Nat × ByteArray)) : List Value := nt.flatMap fun q => [.int .i64 (q.1 : Int), .string q.2]
theorem nvs_len (nt : List (Nat × ByteArray)) : (nvs nt).length = nt.length * 2 := by
  induction nt with
  | nil => rfl
  | cons q l ih => simp only [nvs, List.flatMap_cons, List.length_append, List.length_cons, List.length_nil] at ih ⊢; omega
theorem nvs_app (l m : List (Nat × ByteArray)) : nvs (l ++ m) = nvs l ++ nvs m := List.flatMap_append
theorem nvs_get {nt : List (Nat × ByteArray)} {k : Nat} {q : Nat × ByteArray} (h : nt[k]? = some q) : (nvs nt)[k * 2]? = some (.int .i64 (q.1 : Int)) ∧ (nvs nt)[k * 2 + 1]? = some (.string q.2) := by
  induction nt generalizing k with
  | nil => cases h
  | cons x l ih =>
    have e : nvs (x :: l) = .int .i64 (x.1 : Int) :: .string x.2 :: nvs l := rfl
    rw [e]
    cases k with
    | zero => cases h; exact ⟨rfl, rfl⟩
    | succ k =>
      have := ih (by simpa using h)
      rw [show (k + 1) * 2 = k * 2 + 1 + 1 by omega]
      simpa using this

/-- a row that is only read: its texts, its block -/
structure RdR (W : World) (base : Nat) (v : Value) (l : Tl) : Prop where
  sl : ∃ a c, v = .slice a l.length c ∧ (a = none → c = 0) ∧ (a ≠ none → l.length ≤ c) ∧ ∀ (k : Nat) s, l[k]? = some s → ∃ g o, a = some ⟨g, o, none⟩ ∧ W.cell? ⟨g, o + k, none⟩ = some (.string s)
  blk : ∀ g, v.ownBlock = some g → base ≤ g ∧ g < W.heap.size ∧ ∃ cur, W.heap[g]? = some (.cells cur 9 (0, 0))
theorem RdR.of_heap {W W' : World} {base : Nat} {v : Value} {l : Tl} (h : RdR W base v l) (e : ∀ g, v.ownBlock = some g → W'.heap[g]? = W.heap[g]?) : RdR W' base v l := by
  obtain ⟨a, c, rfl, hz, hl, hc⟩ := h.sl
  refine ⟨⟨a, c, rfl, hz, hl, fun k s hk => ?_⟩, fun g hg => ?_⟩
  · obtain ⟨g, o, rfl, hx⟩ := hc k s hk
    exact ⟨g, o, rfl, (World.cell?_of_block (e g rfl)).trans hx⟩
  · obtain ⟨h1, h2, cur, h3⟩ := h.blk g hg
    have h4 := (e g hg).trans h3
    exact ⟨h1, (Array.getElem?_eq_some_iff.1 h4).1, cur, h4⟩
theorem RdR.rds {W : World} {base : Nat} {v : Value} {l : Tl} (h : RdR W base v l) : RdS W v l := by
  obtain ⟨a, c, rfl, hz, hl, hc⟩ := h.sl
  refine ⟨a, c, rfl, fun h0 => ?_⟩
  obtain ⟨x, l', rfl⟩ := List.exists_cons_of_ne_nil h0
  obtain ⟨g, o, rfl, hx⟩ := hc 0 x rfl
  refine ⟨g, o, rfl, (h.blk g rfl).2.1, fun k s hk => ?_⟩
  obtain ⟨g', o', e, hy⟩ := hc k s hk
  cases e
  exact hy
theorem RdR.nil (W : World) (base : Nat) : RdR W base (.slice none 0 0) [] := ⟨⟨none, 0, rfl, fun _ => rfl, fun h => absurd rfl h, fun k s h => (by cases h)⟩, fun g h => (by cases h)⟩
theorem RdR.of_row {W : World} {base n : Nat} {v : Value} {l : Tl} (h : W.ownsRow base 9 1 v n (sv l)) : RdR W base v l := by
  have hl : l.length = n := by have := h.1; rw [sv_len] at this; omega
  subst hl
  obtain ⟨a, c, rfl, hz⟩ := row_slice h
  refine ⟨⟨a, c, rfl, hz, fun ha => ?_, fun k s hk => ?_⟩, fun g hg => ?_⟩
  · rcases h.2 with ⟨e, _⟩ | ⟨g, cap, cur, e, _, _, hle, _⟩
    · exact absurd (Value.slice.inj e).1 ha
    · obtain ⟨_, _, rfl⟩ := Value.slice.inj e; exact hle
  · obtain ⟨g, e, hc⟩ := row_at h hk
    exact ⟨g, 0, e, by rw [Nat.zero_add]; exact hc⟩
  · obtain ⟨h1, h2, h3⟩ := row_blk h hg
    exact ⟨h2, h3, h1⟩
/-- the block pb is a history of package hist, its entries in the row v, its drafts in the row d -/
structure Pv (W : World) (base pb : Nat) (v d : Value) (h : Hs) : Prop where
  box : W.heap[pb]? = some (.cells #[.int .i64 (h.b : Int), v, .int .i64 (h.pl : Int), d] 40 (0, 0))
  row : W.ownsRow base 9 1 v h.es.length (sv h.es)
  dr : ∃ m, (m = 0 ∧ h.nt = [] ∨ m = h.es.length + 1) ∧ W.ownsRow base 43 2 d m (dvs h.nt m)
  low : base ≤ pb
  ok : h.Ok
/-- where a history lies -/
def Fp (pb : Nat) (v d : Value) (k : Nat) : Prop := k = pb ∨ v.ownBlock = some k ∨ d.ownBlock = some k
theorem Pv.lt {W : World} {base pb : Nat} {v d : Value} {h : Hs} (k : Pv W base pb v d h) : pb < W.heap.size := (Array.getElem?_eq_some_iff.1 k.box).1
theorem blk_ne {W : World} {g k : Nat} {c1 c2 : Array Value} {t1 t2 : TypeId} (h1 : W.heap[g]? = some (.cells c1 t1 (0, 0))) (h2 : W.heap[k]? = some (.cells c2 t2 (0, 0))) (ht : t1 ≠ t2) : g ≠ k := fun e => by
  rw [e, h2] at h1; injection h1 with h; injection h with _ h _; exact ht h.symm
theorem Pv.fp {W : World} {base pb : Nat} {v d : Value} {h : Hs} (k : Pv W base pb v d h) {g : Nat} (hg : Fp pb v d g) : base ≤ g ∧ g < W.heap.size := by
  rcases hg with rfl | hg | hg
  · exact ⟨k.low, k.lt⟩
  · exact (row_blk k.row hg).2
  · obtain ⟨m, _, hr⟩ := k.dr; exact (row_blk hr hg).2
/-- the three blocks of a history are three -/
theorem Pv.ne {W : World} {base pb : Nat} {v d : Value} {h : Hs} (k : Pv W base pb v d h) : (∀ g, v.ownBlock = some g → g ≠ pb) ∧ (∀ g, d.ownBlock = some g → g ≠ pb) ∧ ∀ g, v.ownBlock = some g → d.ownBlock ≠ some g := by
  obtain ⟨m, _, hr⟩ := k.dr
  refine ⟨fun g hg => ?_, fun g hg => ?_, fun g hg hd => ?_⟩
  · obtain ⟨⟨c, hc⟩, _⟩ := row_blk k.row hg; exact blk_ne hc k.box (by decide)
  · obtain ⟨⟨c, hc⟩, _⟩ := row_blk hr hg; exact blk_ne hc k.box (by decide)
  · obtain ⟨⟨c, hc⟩, _⟩ := row_blk k.row hg
    obtain ⟨⟨c2, hc2⟩, _⟩ := row_blk hr hd
    exact blk_ne hc hc2 (by decide) rfl
theorem Pv.of_heap {W W' : World} {base pb : Nat} {v d : Value} {h : Hs} (k : Pv W base pb v d h) (e : ∀ g, Fp pb v d g → W'.heap[g]? = W.heap[g]?) : Pv W' base pb v d h := by
  obtain ⟨m, hm, hr⟩ := k.dr
  exact ⟨(e pb (.inl rfl)).trans k.box, row_of_heap k.row (fun g hg => e g (.inr (.inl hg))), ⟨m, hm, row_of_heap hr (fun g hg => e g (.inr (.inr hg)))⟩, k.low, k.ok⟩
theorem Pv.below {W W' : World} {base pb : Nat} {v d : Value} {h : Hs} (k : Pv W base pb v d h) (hb : Below W.heap.size W W') : Pv W' base pb v d h := k.of_heap fun g hg => hb.block g (k.fp hg).2
/-- the same, its rows unnamed: F is where it lies -/
def Pr (W : World) (base pb : Nat) (F : Nat → Prop) (h : Hs) : Prop := ∃ v d, Pv W base pb v d h ∧ F = Fp pb v d
theorem Pr.fp {W : World} {base pb : Nat} {F : Nat → Prop} {h : Hs} (k : Pr W base pb F h) {g : Nat} (hg : F g) : base ≤ g ∧ g < W.heap.size := by obtain ⟨v, d, k, rfl⟩ := k; exact k.fp hg
theorem Pr.ok {W : World} {base pb : Nat} {F : Nat → Prop} {h : Hs} (k : Pr W base pb F h) : h.Ok := by obtain ⟨v, d, k, rfl⟩ := k; exact k.ok
theorem Pr.of_heap {W W' : World} {base pb : Nat} {F : Nat → Prop} {h : Hs} (k : Pr W base pb F h) (e : ∀ g, F g → W'.heap[g]? = W.heap[g]?) : Pr W' base pb F h := by obtain ⟨v, d, k, rfl⟩ := k; exact ⟨v, d, k.of_heap e, rfl⟩
theorem Pr.below {W W' : World} {base pb : Nat} {F : Nat → Prop} {h : Hs} (k : Pr W base pb F h) (hb : Below W.heap.size W W') : Pr W' base pb F h := k.of_heap fun g hg => hb.block g (k.fp hg).2
/-- it stays while something apart from it is turned -/
theorem Pr.kept {W W' : World} {base pb : Nat} {F G G' : Nat → Prop} {h : Hs} (k : Pr W base pb F h) (hm : Mv W G W' G') (ha : ∀ g, F g → ¬ G g) : Pr W' base pb F h ∧ ∀ g, F g → ¬ G' g :=
  ⟨k.of_heap fun g hg => hm.ch.2.2.2.2 g (k.fp hg).2 (ha g hg), fun g hg hg2 => by
    rcases hm.nx g hg2 with e | e
    · exact ha g hg e
    · have := (k.fp hg).2; omega⟩
/-- two cells of a row, others -/
theorem row_put2 {W : World} {base n c g i : Nat} {e : TypeId} {x y : Value} {xs : List Value} (h : W.ownsRow base e 2 (.slice (some ⟨g, 0, none⟩) n c) n xs) : ((W.setCell ⟨g, i, none⟩ x).setCell ⟨g, i + 1, none⟩ y).ownsRow base e 2 (.slice (some ⟨g, 0, none⟩) n c) n ((xs.set i x).set (i + 1) y) := by
  obtain ⟨hl, h⟩ := h
  refine ⟨by rw [List.length_set, List.length_set]; exact hl, ?_⟩
  rcases h with ⟨h1, _⟩ | ⟨g', cap, cur, h1, h2, h3, h4, h5, h6, h7⟩
  · cases h1
  · obtain ⟨e, _, rfl⟩ := Value.slice.inj h1
    cases e
    refine .inr ⟨g, c, _, rfl, h2, set1 _ (set1 _ h3), h4, h5, by simpa using h6, ?_⟩
    rw [← h7, Array.toList_setIfInBounds, Array.toList_setIfInBounds, List.take_set, List.take_set]
/-- the cells of a row of any kind -/
theorem row_cell {W : World} {base c m cap : Nat} {e : TypeId} {a : Option Addr} {xs : List Value} (h : W.ownsRow base e c (.slice a m cap) m xs) {j : Nat} {u : Value} (hu : xs[j]? = some u) : ∃ g, a = some ⟨g, 0, none⟩ ∧ W.cell? ⟨g, j, none⟩ = some u ∧ W.frozen? ⟨g, j, none⟩ = false := by
  rcases h.2 with ⟨h1, h2⟩ | ⟨g, cap, cur, h1, hb, hc, _, _, _, h3⟩
  · have := h.1
    rw [h2, Nat.zero_mul] at this
    rw [List.eq_nil_of_length_eq_zero this] at hu; cases hu
  · obtain ⟨rfl, _, _⟩ := Value.slice.inj h1
    have := cells_of hc h3 j _ hu
    rw [Nat.zero_add] at this
    exact ⟨g, rfl, this, frozen_of hc⟩
end Go.Proofs.Ytgakgebhhmkclab
