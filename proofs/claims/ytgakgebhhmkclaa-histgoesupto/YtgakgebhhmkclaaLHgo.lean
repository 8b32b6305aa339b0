/-
  The walk of the law HistGoes: Go to a place and back is where one was, with the text that was there. Conditions: what the law reads is of at most 1048576 values and letters.
-/
import Derived.Test.YtgakgebhhmkclaaHLaw
import Derived.Test.YtgakgebhhmkclaaUHop
namespace Go.Proofs.Ytgakgebhhmkclaa
open Go.RowKit

/-- what Go to a place below the bottom and back does -/
theorem goes_facts {h : Hs} (hr : h.Rest) {p : Nat} (hp : p < h.es.length) (now th : ByteArray) :
    (h.go p now).txt p = h.es.getD p ⟨#[]⟩ ∧ (h.go p now).nt.length = 1 ∧ ((h.go p now).go h.es.length th).txt h.es.length = now ∧ (((h.go p now).go h.es.length th).go p now).txt p = th ∧ (((h.go p now).go h.es.length th).go p now).nt.length = 2 := by
  obtain ⟨h1, h2⟩ := hr
  have hne : ¬ h.es.length = p := by omega
  have hne2 : ¬ p = h.es.length := by omega
  have n1 : (h.go p now).nt = [(h.es.length, now)] := by simp [Hs.go, noted, h2, h1]
  have n2 : ((h.go p now).go h.es.length th).nt = [(h.es.length, now), (p, th)] := by
    show noted (h.go p now).nt p th = _
    rw [n1]; simp [noted, hne]
  have n3 : (((h.go p now).go h.es.length th).go p now).nt = [(p, th), (h.es.length, now)] := by
    show noted ((h.go p now).go h.es.length th).nt h.es.length now = _
    rw [n2]; simp [noted, hne2]
  have e1 : (h.go p now).es = h.es := rfl
  have e2 : ((h.go p now).go h.es.length th).es = h.es := rfl
  refine ⟨?_, by rw [n1]; rfl, ?_, ?_, by rw [n3]; rfl⟩
  · rw [Hs.txt, n1, e1]; simp [gt, hne]
  · rw [Hs.txt, n2]; simp [gt]
  · rw [Hs.txt, n3]; simp [gt]
theorem goes_end {h : Hs} (hr : h.Rest) (now : ByteArray) : (h.go h.es.length now).txt h.es.length = now ∧ (h.go h.es.length now).nt.length = 1 := by
  obtain ⟨h1, h2⟩ := hr
  have n1 : (h.go h.es.length now).nt = [(h.es.length, now)] := by simp [Hs.go, noted, h2, h1]
  exact ⟨by rw [Hs.txt, n1]; simp [gt], by rw [n1]; rfl⟩
set_option maxRecDepth 100000 in
set_option maxHeartbeats 4000000 in
theorem walk_of (b : Int) (la : Option Addr) (ln lc : Nat) (p : Int) (now : ByteArray) (w : World) (hb : -9223372036854775808 ≤ b ∧ b ≤ 9223372036854775807) (ls : Tl) (hL : RdS w (.slice la ln lc) ls) (hl : tls ls ≤ 1048576 ∧ True) (hp : -9223372036854775808 ≤ p ∧ p ≤ 9223372036854775807) (hnow : now.size ≤ 1048576) :
    Calls Try.prog 8 #[.int .i64 b, .slice la ln lc, .int .i64 p, .string now] w fun e w' => e = .returned (.bool true) ∧ Below w.heap.size w w' := by
  have hN : ls.length = ln := by obtain ⟨_, _, e, _⟩ := hL; cases e; rfl
  have hln : ln ≤ 1048576 := by have := tls_len ls; omega
  have CK : Hid (Calls Try.prog 9 #[] w fun e w' => e = .returned (.bool true) ∧ Hid (Below w.heap.size w w')) := awake_any w
  have CF : Hid (∀ W, Below w.heap.size w W → Calls Try.prog 29 #[.int .i64 b, .slice la ln lc] W fun e W' => ∃ pb, e = .returned (.pointer (some ⟨pb, 0, none⟩)) ∧ Hid (Ps w pb ((Hs.new b).fill ls) W')) := fun W hW => filled_any hb hL (fun s hs => by have := tls_mem hs; omega) hln hW
  have hok : ((Hs.new b).fill ls).Ok := (Hs.Ok.new b).fill (fun s hs => by have := tls_mem hs; omega)
  have hrest : ((Hs.new b).fill ls).Rest := (Hs.Rest.new b).fill ls
  generalize (Hs.new b).fill ls = H at CF hok hrest
  have CL : Hid (∀ W pb, Ps w pb H W → Calls Try.prog 16 #[.pointer (some ⟨pb, 0, none⟩)] W fun e W' => e = .returned (.int .i64 (H.es.length : Int)) ∧ W' = W) := fun W pb k => len_ps k
  obtain ⟨n, hn⟩ : ∃ n, H.es.length = n := ⟨_, rfl⟩
  have hn3 : n ≤ 1000 := by have := hok.len; have := hok.b; omega
  have hpl : H.pl = n := by rw [hrest.1, hn]
  have ht : (⟨#[116, 104, 101, 114, 101]⟩ : ByteArray).size ≤ 1099511627776 := by decide
  have hB : ∀ W pb h, Ps w pb h W → Below w.heap.size w W := fun W pb h k => k.2
  by_cases hin : 0 ≤ p ∧ p ≤ (n : Int)
  · obtain ⟨j, hj⟩ : ∃ j : Nat, p = (j : Int) := ⟨p.toNat, by omega⟩
    subst hj
    have hjn : j ≤ n := by omega
    have e1 : H.goA (j : Int) now = ((H.go j now).txt j, 0) := by rw [Hs.goA, if_pos (by omega)]; rfl
    have e2 : H.goes (j : Int) now = H.go j now := by rw [Hs.goes, if_pos (by omega)]; rfl
    have CG : Hid (∀ W pb, Ps w pb H W → Calls Try.prog 21 #[.pointer (some ⟨pb, 0, none⟩), .int .i64 (j : Int), .string now] W fun e W' => e = .returned (.tuple #[.string ((H.go j now).txt j), .int .i64 0]) ∧ Hid (Ps w pb (H.go j now) W')) := fun W pb k => by have := go_ps k hp (t := now) (by omega); rw [e1, e2] at this; exact this
    have CP : Hid (∀ W pb, Ps w pb (H.go j now) W → Calls Try.prog 26 #[.pointer (some ⟨pb, 0, none⟩)] W fun e W' => e = .returned (.int .i64 (j : Int)) ∧ W' = W) := fun W pb k => place_ps k
    by_cases hend : j = n
    · obtain ⟨f1, f2⟩ := goes_end hrest now
      rw [hn, ← hend] at f1 f2
      have CD : Hid (∀ W pb, Ps w pb (H.go j now) W → Calls Try.prog 27 #[.pointer (some ⟨pb, 0, none⟩)] W fun e W' => e = .returned (.int .i64 1) ∧ Hid (Below w.heap.size w W')) := fun W pb k => by have := drafts_ps k; rw [f2] at this; exact this.mono fun e W' q => ⟨q.1, q.2.2⟩
      rw [f1] at CG
      rw [hn, ← hend] at CL
      clear hL hl hN e1 e2 hok hrest hn hpl f1 f2 hin hjn hB hend ht
      go_enter Try.func8, Try.ntmps8
      go_wp2_with (first
        | (go_at_call 9; refine CK.out.mono ?_; clear CK; rintro e w1 ⟨rfl, H1⟩)
        | (go_at_call 29; refine (CF.out _ H1.out).mono ?_; clear CF H1; rintro e w2 ⟨pb, rfl, H2⟩)
        | (go_at_call 16; refine (CL.out _ _ H2.out).mono ?_; clear CL; rintro e w3 ⟨rfl, hw⟩; subst hw)
        | (go_at_call 21; refine (CG.out _ _ H2.out).mono ?_; clear CG H2; rintro e w4 ⟨rfl, H4⟩)
        | (go_at_call 26; refine (CP.out _ _ H4.out).mono ?_; clear CP; rintro e w5 ⟨rfl, hw⟩; subst hw)
        | (go_at_call 27; refine (CD.out _ _ H4.out).mono ?_; clear CD; rintro e w6 ⟨rfl, H6⟩))
      go_ret
      exact ⟨rfl, H6.out⟩
    · have hjl : j < H.es.length := by omega
      obtain ⟨f1, f2, f3, f4, f5⟩ := goes_facts hrest hjl now ⟨#[116, 104, 101, 114, 101]⟩
      have g1 : (H.go j now).goA (n : Int) ⟨#[116, 104, 101, 114, 101]⟩ = (now, 0) := by
        rw [Hs.goA, if_pos (by show 0 ≤ (n : Int) ∧ (n : Int) ≤ (H.es.length : Int); omega), Int.toNat_natCast, ← hn, f3]
      have g2 : (H.go j now).goes (n : Int) ⟨#[116, 104, 101, 114, 101]⟩ = (H.go j now).go H.es.length ⟨#[116, 104, 101, 114, 101]⟩ := by
        rw [Hs.goes, if_pos (by show 0 ≤ (n : Int) ∧ (n : Int) ≤ (H.es.length : Int); omega), Int.toNat_natCast, ← hn]
      generalize hH2 : (H.go j now).go H.es.length ⟨#[116, 104, 101, 114, 101]⟩ = H2 at f4 f5 g2
      have hes2 : H2.es.length = n := by rw [← hH2]; exact hn
      have g3 : H2.goA (j : Int) now = (⟨#[116, 104, 101, 114, 101]⟩, 0) := by rw [Hs.goA, if_pos (by omega), Int.toNat_natCast, f4]
      have g4 : H2.goes (j : Int) now = H2.go j now := by rw [Hs.goes, if_pos (by omega), Int.toNat_natCast]
      have g5 : (H.go j now).ent (j : Int) = (H.es.getD j ⟨#[]⟩, 0) := by rw [Hs.ent, if_pos (by show 0 ≤ (j : Int) ∧ (j : Int) < (H.es.length : Int); omega), Int.toNat_natCast]; rfl
      have CD : Hid (∀ W pb, Ps w pb (H.go j now) W → Calls Try.prog 27 #[.pointer (some ⟨pb, 0, none⟩)] W fun e W' => e = .returned (.int .i64 1) ∧ Hid (Ps w pb (H.go j now) W')) := fun W pb k => by have := drafts_ps k; rw [f2] at this; exact this
      have CE : Hid (∀ W pb, Ps w pb (H.go j now) W → Calls Try.prog 24 #[.pointer (some ⟨pb, 0, none⟩), .int .i64 (j : Int)] W fun e W' => e = .returned (.tuple #[.string (H.es.getD j ⟨#[]⟩), .int .i64 0]) ∧ Hid (Ps w pb (H.go j now) W')) := fun W pb k => by have := entry_ps k hp; rw [g5] at this; exact this
      have CG2 : Hid (∀ W pb, Ps w pb (H.go j now) W → Calls Try.prog 21 #[.pointer (some ⟨pb, 0, none⟩), .int .i64 (n : Int), .string ⟨#[116, 104, 101, 114, 101]⟩] W fun e W' => e = .returned (.tuple #[.string now, .int .i64 0]) ∧ Hid (Ps w pb H2 W')) := fun W pb k => by have := go_ps k (p := (n : Int)) (by omega) ht; rw [g1, g2] at this; exact this
      have CG3 : Hid (∀ W pb, Ps w pb H2 W → Calls Try.prog 21 #[.pointer (some ⟨pb, 0, none⟩), .int .i64 (j : Int), .string now] W fun e W' => e = .returned (.tuple #[.string ⟨#[116, 104, 101, 114, 101]⟩, .int .i64 0]) ∧ Hid (Ps w pb (H2.go j now) W')) := fun W pb k => by have := go_ps k hp (t := now) (by omega); rw [g3, g4] at this; exact this
      have CD2 : Hid (∀ W pb, Ps w pb (H2.go j now) W → Calls Try.prog 27 #[.pointer (some ⟨pb, 0, none⟩)] W fun e W' => e = .returned (.int .i64 2) ∧ Hid (Below w.heap.size w W')) := fun W pb k => by have := drafts_ps k; rw [f5] at this; exact this.mono fun e W' q => ⟨q.1, q.2.2⟩
      rw [f1] at CG
      rw [hn] at CL
      generalize H.es.getD j ⟨#[]⟩ = s0 at CG CE
      have hne1 : ¬ (j : Int) = (n : Int) := by omega
      have hne2 : ((j : Int) == (n : Int)) = false := by simp; omega
      clear hL hl hN e1 e2 hok hrest hn hpl f1 f2 f3 f4 f5 g1 g2 g3 g4 g5 hB hend ht hH2 hes2 hjl
      go_enter Try.func8, Try.ntmps8
      go_wp2_with (first
        | (go_at_call 9; refine CK.out.mono ?_; clear CK; rintro e w1 ⟨rfl, H1⟩)
        | (go_at_call 29; refine (CF.out _ H1.out).mono ?_; clear CF H1; rintro e w2 ⟨pb, rfl, H2⟩)
        | (go_at_call 16; refine (CL.out _ _ H2.out).mono ?_; clear CL; rintro e w3 ⟨rfl, hw⟩; subst hw)
        | (go_at_call 21; refine (CG.out _ _ H2.out).mono ?_; clear CG H2; rintro e w4 ⟨rfl, H4⟩)
        | (go_at_call 26; refine (CP.out _ _ H4.out).mono ?_; clear CP; rintro e w5 ⟨rfl, hw⟩; subst hw)
        | (go_at_call 27; refine (CD.out _ _ H4.out).mono ?_; clear CD H4; rintro e w6 ⟨rfl, H6⟩)
        | (go_at_call 24; refine (CE.out _ _ H6.out).mono ?_; clear CE H6; rintro e w7 ⟨rfl, H7⟩)
        | (go_at_call 21; refine (CG2.out _ _ H7.out).mono ?_; clear CG2 H7; rintro e w8 ⟨rfl, H8⟩)
        | (go_at_call 21; refine (CG3.out _ _ H8.out).mono ?_; clear CG3 H8; rintro e w9 ⟨rfl, H9⟩)
        | (go_at_call 27; refine (CD2.out _ _ H9.out).mono ?_; clear CD2 H9; rintro e w10 ⟨rfl, H10⟩))
      go_ret
      exact ⟨by simp, H10.out⟩
  · have e1 : H.goA p now = (⟨#[]⟩, 1) := by rw [Hs.goA, if_neg (by omega)]
    have e2 : H.goes p now = H := by rw [Hs.goes, if_neg (by omega)]
    have CG : Hid (∀ W pb, Ps w pb H W → Calls Try.prog 21 #[.pointer (some ⟨pb, 0, none⟩), .int .i64 p, .string now] W fun e W' => e = .returned (.tuple #[.string ⟨#[]⟩, .int .i64 1]) ∧ Hid (Ps w pb H W')) := fun W pb k => by have := go_ps k hp (t := now) (by omega); rw [e1, e2] at this; exact this
    have CP : Hid (∀ W pb, Ps w pb H W → Calls Try.prog 26 #[.pointer (some ⟨pb, 0, none⟩)] W fun e W' => e = .returned (.int .i64 (n : Int)) ∧ W' = W) := fun W pb k => by have := place_ps k; rw [hpl] at this; exact this
    have CD : Hid (∀ W pb, Ps w pb H W → Calls Try.prog 27 #[.pointer (some ⟨pb, 0, none⟩)] W fun e W' => e = .returned (.int .i64 0) ∧ Hid (Below w.heap.size w W')) := fun W pb k => by have := drafts_ps k; rw [hrest.2] at this; exact this.mono fun e W' q => ⟨q.1, q.2.2⟩
    rw [hn] at CL
    clear hL hl hN e1 e2 hok hrest hn hpl hB ht
    by_cases hneg : p < 0
    · clear hin
      go_enter Try.func8, Try.ntmps8
      go_wp2_with (first
        | (go_at_call 9; refine CK.out.mono ?_; clear CK; rintro e w1 ⟨rfl, H1⟩)
        | (go_at_call 29; refine (CF.out _ H1.out).mono ?_; clear CF H1; rintro e w2 ⟨pb, rfl, H2⟩)
        | (go_at_call 16; refine (CL.out _ _ H2.out).mono ?_; clear CL; rintro e w3 ⟨rfl, hw⟩; subst hw)
        | (go_at_call 21; refine (CG.out _ _ H2.out).mono ?_; clear CG H2; rintro e w4 ⟨rfl, H4⟩)
        | (go_at_call 26; refine (CP.out _ _ H4.out).mono ?_; clear CP; rintro e w5 ⟨rfl, hw⟩; subst hw)
        | (go_at_call 27; refine (CD.out _ _ H4.out).mono ?_; clear CD; rintro e w6 ⟨rfl, H6⟩))
      go_ret
      exact ⟨rfl, H6.out⟩
    · have hgt : (n : Int) < p := by omega
      clear hin
      go_enter Try.func8, Try.ntmps8
      go_wp2_with (first
        | (go_at_call 9; refine CK.out.mono ?_; clear CK; rintro e w1 ⟨rfl, H1⟩)
        | (go_at_call 29; refine (CF.out _ H1.out).mono ?_; clear CF H1; rintro e w2 ⟨pb, rfl, H2⟩)
        | (go_at_call 16; refine (CL.out _ _ H2.out).mono ?_; clear CL; rintro e w3 ⟨rfl, hw⟩; subst hw)
        | (go_at_call 21; refine (CG.out _ _ H2.out).mono ?_; clear CG H2; rintro e w4 ⟨rfl, H4⟩)
        | (go_at_call 26; refine (CP.out _ _ H4.out).mono ?_; clear CP; rintro e w5 ⟨rfl, hw⟩; subst hw)
        | (go_at_call 27; refine (CD.out _ _ H4.out).mono ?_; clear CD; rintro e w6 ⟨rfl, H6⟩))
      go_ret
      exact ⟨rfl, H6.out⟩
end Go.Proofs.Ytgakgebhhmkclaa
