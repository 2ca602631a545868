/-
  Plain at minus one and a half: the text.
-/
import Derived.Test.YtmfnjmgdindlaaaDoorPl2
import Derived.Test.YtmfnjmgdindlaaaDoorFmu
namespace Go.Proofs.YtmfnjmgdindlaaaDoor
open Flo Go.RowKit
theorem dec150 : Lib.decDigits 150000000000000000 = [49, 53, 48, 48, 48, 48, 48, 48, 48, 48, 48, 48, 48, 48, 48, 48, 48, 48] := by
  simp [Lib.decDigits]
theorem itoa0 : Lib.itoa 0 = [48] := by
  simp [Lib.itoa, Lib.decDigits]
theorem B_at {x : UInt8} {m : List UInt8} {s : ByteArray} {k : Nat} (hs : s = B (m ++ [x])) (hk : k = m.length) (h : k < s.size) : s[k] = x := by
  subst hk
  have h1 := ba_get s m.length h
  have h2 : s.data.toList = m ++ [x] := by rw [hs, B_data]
  rw [h2] at h1
  simp at h1
  exact h1.symm
/-- without noughts at the end -/
def rz (l : List UInt8) : List UInt8 := (Dg.tz l.reverse).reverse
set_option maxRecDepth 100000 in
set_option maxHeartbeats 400000 in
theorem trimRightByte_c (l : List UInt8) (w : World) (hl : l.length ≤ 1000) :
    Calls Tryd.prog 47 #[.string (B l), .int .u8 48] w fun e w' => e = .returned (.string (B (rz l))) ∧ w = w' := by
  go_enter Tryd.func47, Tryd.ntmps47
  go_wp2
  go_loop [0] (fun ss => ∃ m : List UInt8, m.length ≤ l.length ∧ ss = .string (B m) ∧ Hid (rz m = rz l)) (fun ss => strLen ss)
  case atStart => exact ⟨l, Nat.le_refl _, rfl, rfl⟩
  case round =>
    obtain ⟨m, hm, rfl, htz⟩ := hrel
    rcases List.eq_nil_or_concat m with rfl | ⟨n, x, hmx⟩
    · have hz : (B []).size = 0 := rfl
      have htz2 : Hid (rz l = []) := htz.out.symm
      go_wp2
      go_ret
      rw [htz2.out]
      exact ⟨rfl, rfl⟩
    · rw [List.concat_eq_append] at hmx
      subst hmx
      rw [List.length_append, List.length_singleton] at hm
      obtain ⟨s, hs⟩ : ∃ s, s = B (n ++ [x]) := ⟨_, rfl⟩
      have hz : s.size = n.length + 1 := by rw [hs, B_size]; simp
      have h0 : 0 < s.size := by omega
      obtain ⟨k, hk⟩ : ∃ k, k = s.size - 1 := ⟨_, rfl⟩
      have hkl : k < s.size := by omega
      have hxk : s[k] = x := B_at hs (by omega) hkl
      have hkI : (s.size : Int) - 1 = (k : Int) := by omega
      have hpre : Hid (s.extract 0 k = B n) := by show _ = _; rw [hs, B_pre, show k = n.length by omega]; simp
      rw [← hs]
      have hsH : Hid (s = B (n ++ [x])) := hs
      have hzH : Hid (s.size = n.length + 1) := hz
      have hsl : s.size ≤ 1000 := by omega
      have hxH : Hid (s[k] = x) := hxk
      clear hs hz hxk hk
      by_cases hc : x.toNat = 48
      · have c1 : ((s[k].toNat : Int) == 48) = true := by rw [hxH.out, beq_iff_eq]; omega
        have hnew : Hid (rz n = rz l) := by
          rw [← htz.out]
          show rz n = rz (n ++ [x])
          unfold rz
          rw [List.reverse_append]
          show _ = (Dg.tz (x :: n.reverse)).reverse
          conv => rhs; unfold Dg.tz; rw [if_pos hc]
        go_wp2
        exact ⟨⟨n, by omega, by rw [hpre.out], hnew⟩, by rw [hpre.out]; show (B n).size < s.size; rw [B_size]; have := hzH.out; omega⟩
      · have c1 : ((s[k].toNat : Int) == 48) = false := by rw [hxH.out]; exact beq_eq_false_iff_ne.2 (by omega)
        have hfin : Hid (s = B (rz l)) := by
          rw [← htz.out]
          show s = B (rz (n ++ [x]))
          rw [hsH.out]
          unfold rz
          rw [List.reverse_append]
          show _ = B (Dg.tz (x :: n.reverse)).reverse
          unfold Dg.tz
          rw [if_neg hc]
          simp
        go_wp2
        go_ret
        exact ⟨by rw [← hfin.out]; rfl, rfl⟩
end Go.Proofs.YtmfnjmgdindlaaaDoor
