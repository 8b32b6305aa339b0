/-
  The walks of the document's own drawn, Count and Cells of package cluster: what CMath tells. Conditions: of drawn: the bytes are those of a cluster of its class; the text is so short that its list can be made.
-/
import Derived.Test.YtjgeeimkcghmoaaDoorYListW
import Derived.Test.YtjgeeimkcghmoaaDoorYMath
namespace Go.Proofs.YtjgeeimkcghmoaaDoor
open Go.RowKit Go.Sort Bod Wid

theorem app_str (a b : List UInt8) : ((⟨a.toArray⟩ : ByteArray) ++ (⟨b.toArray⟩ : ByteArray)) = ⟨(a ++ b).toArray⟩ := by
  apply ByteArray.ext
  simp
theorem own_str {own : ByteArray} {l : List UInt8} (h : own.data.toList = l) : own = ⟨l.toArray⟩ := by
  subst h; rfl
theorem ret_str {a b : ByteArray} (h : a = b) : Ending.returned (.string a) = .returned (.string b) := by rw [h]

theorem xor_low : ∀ n : Fin 32, n.val ^^^ 64 = n.val + 64 := by decide +kernel

set_option maxRecDepth 100000 in
set_option maxHeartbeats 1000000 in
theorem rdrawn1_any (k : Int) (own : ByteArray) (c : UInt8) (r : List UInt8) (ho : own.data.toList = c :: r) (hl : own.size ≤ 140737488351232) (hk : k = 2 → c.toNat < 32 ∨ c.toNat = 127 ∨ 128 ≤ c.toNat) (w : World) :
    Calls Tryd.prog 42 #[.string own, .int .i64 k] w fun e w' => e = .returned (.string ⟨(drw k (c :: r)).toArray⟩) ∧ Below w.heap.size w w' := by
  have HO : Hid (own.data.toList = c :: r) := ho
  simp only [drw]
  by_cases k1 : k = 1
  · subst k1
    rw [if_pos rfl]
    clear ho hk
    go_enter Tryd.func42, Tryd.ntmps42
    go_wp2
    go_ret
    exact ⟨rfl, Below.refl _ _⟩
  rw [if_neg k1]
  by_cases k2 : k = 2
  · subst k2
    rw [if_pos rfl]
    obtain ⟨hs, hc⟩ := own_head ho
    have hpos : 0 < own.size := by omega
    have hb := hk rfl
    clear hk k1 ho
    by_cases h127 : c.toNat = 127
    · have h0 : ((own[0].toNat : Int) == 127) = true := by rw [hc hpos, h127]; rfl
      have hx : c ^^^ 64 = 63 := by
        apply UInt8.toNat_inj.1
        rw [UInt8.toNat_xor, h127]
        rfl
      rw [if_pos (by omega), hx]
      clear hc hs hb
      go_enter Tryd.func42, Tryd.ntmps42
      go_wp2
      go_ret
      exact ⟨rfl, Below.refl _ _⟩
    · have h0 : ((own[0].toNat : Int) == 127) = false := by rw [hc hpos]; simp; omega
      by_cases h32 : c.toNat < 32
      · have h1 : own[0].toNat < 32 := by rw [hc hpos]; exact h32
        rw [if_pos (by omega)]
        have HC : Hid (own[0] = c) := hc hpos
        have hxn : (c ^^^ 64).toNat = c.toNat + 64 := by rw [UInt8.toNat_xor]; exact xor_low ⟨c.toNat, h32⟩
        have hcv : (convert 58 9 (.slice (some ⟨w.heap.size, 0, none⟩) 1 1)).run Tryd.prog (w.alloc (.cells #[.int .u8 ((own[0].toNat : Int) + 64)] 5)) = .ok (.string ⟨[c ^^^ 64].toArray⟩) (w.alloc (.cells #[.int .u8 ((own[0].toNat : Int) + 64)] 5)) := by
          refine run_convert_bytes_back _ 58 9 5 ⟨w.heap.size, 0, none⟩ 1 [c ^^^ 64] Tryd.underlying58 Tryd.underlying5 Tryd.underlying9 (fun j hj => ?_)
          have hj0 : j = 0 := by simpa using hj
          subst hj0
          have e : ((own[0].toNat : Int) + 64) = ((c ^^^ 64).toNat : Int) := by rw [hxn, hc hpos]; omega
          rw [e]
          simp [Addr.add]
        clear hc hs hb hxn
        go_enter Tryd.func42, Tryd.ntmps42
        go_wp2
        go_ret
        exact ⟨ret_str (app_str [94] [c ^^^ 64]), (Below.refl _ w).alloc (Nat.le_refl _) _⟩
      · have h1 : ¬ own[0].toNat < 32 := by rw [hc hpos]; exact h32
        rw [if_neg (by omega)]
        clear hc hs hb
        go_enter Tryd.func42, Tryd.ntmps42
        go_wp2
        go_ret
        exact ⟨rfl, Below.refl _ _⟩
  rw [if_neg k2]
  clear hk
  by_cases k3 : k = 3
  · subst k3
    rw [if_pos rfl]
    clear ho k1 k2
    go_enter Tryd.func42, Tryd.ntmps42
    go_wp2
    go_ret
    exact ⟨ret_str (by rw [own_str HO.out]; exact app_str [32] (c :: r)), Below.refl _ _⟩
  rw [if_neg k3]
  by_cases k5 : k = 5
  · subst k5
    rw [if_pos rfl]
    obtain ⟨hs, _⟩ := own_head ho
    have hpos : 1 ≤ own.size := by omega
    have hex : (own.extract 1 own.size).size ≤ own.size := by simp
    have HT : Hid (own.extract 1 own.size = ⟨r.toArray⟩) := own_str (own_tail ho)
    clear ho k1 k2 k3 hs
    go_enter Tryd.func42, Tryd.ntmps42
    go_wp2
    go_ret
    exact ⟨ret_str (by rw [HT.out]; exact app_str [239, 191, 189] r), Below.refl _ _⟩
  rw [if_neg k5]
  clear ho
  go_enter Tryd.func42, Tryd.ntmps42
  go_wp2
  go_ret
  exact ⟨ret_str (own_str HO.out), Below.refl _ _⟩
end Go.Proofs.YtjgeeimkcghmoaaDoor
