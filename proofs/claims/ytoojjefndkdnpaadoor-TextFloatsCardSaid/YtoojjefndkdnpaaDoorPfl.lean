/-
  ParseFloat.
-/
import Derived.Test.YtoojjefndkdnpaaDoorHxv
import Derived.Test.YtoojjefndkdnpaaDoorFlt
import Derived.Test.YtoojjefndkdnpaaDoorPsp
import Derived.Test.YtoojjefndkdnpaaDoorRef
namespace Go.Proofs.YtoojjefndkdnpaaDoor
open Flo Go.RowKit
theorem ibs_r (s : ByteArray) (c : Nat) (w : World) : (callFunc 47 #[.string s, .int .u8 (c : Int)]).run Tryd.prog w = .ok (.value (.int .i64 (firstIdx s c.toUInt8))) w := by
  rw [run_callFunc_extern (P := Tryd.prog) (f := 47) (fn := Tryd.f47) (by kernel_rfl) (by kernel_rfl) (by kernel_rfl) (by kernel_rfl) (e := Extern.BytealgIndexByte.indexByte) (by kernel_rfl), run_indexByte_string]
  rfl
/-- a digit's value, or -1 -/
def hxi (c : Nat) : Int := match Hx.hexv c with | some d => (d : Int) | none => -1
set_option maxRecDepth 100000 in
theorem idx_hex : ∀ n : Nat, n < 256 → firstIdx (⟨#[48, 49, 50, 51, 52, 53, 54, 55, 56, 57, 97, 98, 99, 100, 101, 102]⟩ : ByteArray) n.toUInt8 = hxi n := by decide
set_option maxRecDepth 100000 in
set_option maxHeartbeats 400000 in
theorem indexByte_c (c : Nat) (w : World) (hc : c < 256) :
    Calls Tryd.prog 19 #[.string ⟨#[48, 49, 50, 51, 52, 53, 54, 55, 56, 57, 97, 98, 99, 100, 101, 102]⟩, .int .u8 (c : Int)] w fun e w' => e = .returned (.int .i64 (hxi c)) ∧ w = w' := by
  have h1 := ibs_r (⟨#[48, 49, 50, 51, 52, 53, 54, 55, 56, 57, 97, 98, 99, 100, 101, 102]⟩ : ByteArray) c w
  rw [idx_hex c hc] at h1
  generalize hxi c = r at h1
  go_enter Tryd.func19, Tryd.ntmps19
  go_wp2
  go_ret
  exact ⟨rfl, rfl⟩
/-- what a float's text is read as, if it is one -/
def pf (l : List UInt8) : Option Nat := if l.length = 16 then (Hx.hxs l).bind fun b => if bt b = b then some b else none else none
theorem pf_len {l : List UInt8} (h : l.length ≠ 16) : pf l = none := by unfold pf; rw [if_neg h]
theorem pf_none {l : List UInt8} (h : Hx.hxs l = none) : pf l = none := by unfold pf; rw [h]; split <;> rfl
theorem pf_some {l : List UInt8} {b : Nat} (h16 : l.length = 16) (h : Hx.hxs l = some b) (hb : bt b = b) : pf l = some b := by
  unfold pf; rw [if_pos h16, h]; exact if_pos hb
theorem pf_bad {l : List UInt8} {b : Nat} (h : Hx.hxs l = some b) (hb : ¬ bt b = b) : pf l = none := by
  unfold pf; rw [h]; split
  · exact if_neg hb
  · rfl
/-- ParseFloat's answer -/
def pfr (l : List UInt8) (et : Value) : Value := match pf l with | some b => tup b .nilIface | none => tup 0 et
theorem pfr_none {l : List UInt8} {et : Value} (h : pf l = none) : pfr l et = tup 0 et := by unfold pfr; rw [h]
theorem pfr_some {l : List UInt8} {et : Value} {b : Nat} (h : pf l = some b) : pfr l et = tup b .nilIface := by unfold pfr; rw [h]
set_option maxRecDepth 100000 in
set_option maxHeartbeats 400000 in
theorem parseFloat_len (l : List UInt8) (w : World) (et : Value) (ht : w.cell? ⟨0, 0, none⟩ = some et) (hl : l.length ≠ 16) :
    Calls Tryd.prog 7 #[.string (B l)] w fun e w' => e = .returned (pfr l et) ∧ ∃ q, w' = w.drewN q := by
  have hsz : (B l).size = l.length := B_size l
  have hne : ((l.length : Int) == 16) = false := beq_eq_false_iff_ne.2 (by omega)
  have hne2 : ((l.length : Int) != 16) = true := by simp [bne, hne]
  go_enter Tryd.func7, Tryd.ntmps7
  go_wp2_with fail
  go_quiet (fail)
  go_wp2
  go_ret2
  exact ⟨by rw [pfr_none (pf_len hl)]; rfl, _, rfl⟩
set_option maxRecDepth 100000 in
set_option maxHeartbeats 400000 in
theorem parseFloat_16 (l : List UInt8) (w : World) (et : Value) (ht : w.cell? ⟨0, 0, none⟩ = some et) (hl : l.length = 16) :
    Calls Tryd.prog 7 #[.string (B l)] w fun e w' => e = .returned (pfr l et) ∧ ∃ q, w' = w.drewN q := by
  obtain ⟨s, hs⟩ : ∃ s, s = B l := ⟨_, rfl⟩
  have hsz : s.size = 16 := by rw [hs, B_size]; exact hl
  have hdata : Hid (s.data.toList = l) := by show _ = _; rw [hs, B_data]
  rw [← hs]
  clear hs
  go_enter Tryd.func7, Tryd.ntmps7
  go_wp2_with fail
  go_loop [4, 14] (fun sb si => ∃ i b : Nat, i ≤ 16 ∧ sb = .int .u64 b ∧ si = .int .i64 i ∧ Hid (Hx.hxs (l.take i) = some b)) (fun _ si => 16 - (intOf si).toNat)
  case atStart => exact ⟨0, 0, by omega, rfl, rfl, by show _ = _; rw [List.take_zero]; rfl⟩
  case round =>
    obtain ⟨i, b, hi, rfl, rfl, hx⟩ := hrel
    have hbl : Hid (b < 16 ^ i) := by
      have h1 := Hx.hxs_lt _ _ hx.out
      rw [List.length_take] at h1
      exact Nat.lt_of_lt_of_le h1 (Nat.pow_le_pow_right (by decide) (Nat.min_le_left _ _))
    by_cases hlt : i < 16
    · have hlt' : (i : Int) < 16 := by omega
      have hiz : i < s.size := by omega
      have hb := ba_get s i hiz
      rw [hdata.out] at hb
      have hbH : Hid (l[i]? = some s[i]) := hb
      have hcl : Hid (s[i].toNat < 256) := UInt8.toNat_lt s[i]
      have hbl15 : b < 1152921504606846976 := Nat.lt_of_lt_of_le hbl.out (Nat.pow_le_pow_right (by decide : 0 < 16) (by omega : i ≤ 15))
      have hix : Hid (Calls Tryd.prog 19 #[.string ⟨#[48, 49, 50, 51, 52, 53, 54, 55, 56, 57, 97, 98, 99, 100, 101, 102]⟩, .int .u8 (s[i].toNat : Int)] w fun e w' => e = .returned (.int .i64 (hxi s[i].toNat)) ∧ w = w') := indexByte_c s[i].toNat w hcl.out
      clear hb
      cases hv : Hx.hexv s[i].toNat with
      | none =>
        have hI : hxi s[i].toNat = -1 := by unfold hxi; rw [hv]
        rw [hI] at hix
        have hno : Hid (Hx.hxs l = none) := Hx.hxs_fail hbH.out hv
        clear hI hv hbl15
        go_wp2_with fail
        refine Calls.mono hix.out ?_
        rintro e w' ⟨rfl, rfl⟩
        go_wp2_with fail
        go_quiet (fail)
        go_wp2
        go_ret2
        exact ⟨by rw [pfr_none (pf_none hno.out)]; rfl, _, rfl⟩
      | some d =>
        have hI : hxi s[i].toNat = (d : Int) := by unfold hxi; rw [hv]
        rw [hI] at hix
        have hd := Hx.hexv_lt hv
        have hnew : Hid (Hx.hxs (l.take (i + 1)) = some (16 * b + d)) := Hx.hxs_step hbH.out hx.out hv
        have hor : bits .or .u64 ((b : Int) * 16) (d : Int) = ((16 * b + d : Nat) : Int) := by
          rw [show (b : Int) * 16 = ((16 * b : Nat) : Int) by omega, bits_or_u64_nat _ _ (by omega) (by omega)]
          exact congrArg _ (Nat.two_pow_add_eq_or_of_lt (i := 4) hd b).symm
        clear hI hv
        go_wp2_with fail
        refine Calls.mono hix.out ?_
        rintro e w' ⟨rfl, rfl⟩
        go_wp2
        refine ⟨⟨i + 1, 16 * b + d, by omega, by go_num, by go_num, hnew⟩, by simp [intOf]; omega⟩
    · have hlt' : decide ((i : Int) < 16) = false := decide_eq_false (by omega)
      have hi16 : i = 16 := by omega
      subst hi16
      have hxl : Hid (Hx.hxs l = some b) := by
        have h := hx.out
        rw [List.take_of_length_le (by omega)] at h
        exact h
      have hb64 : Hid (b < 18446744073709551616) := Nat.lt_of_lt_of_le hbl.out (by decide)
      have hof : Hid (Calls Tryd.prog 20 #[.int .u64 (b : Int)] w fun e w' => e = .returned (.float .f64 b) ∧ w = w') := of_c (b : Int) w
      have hbi : Hid (Calls Tryd.prog 21 #[.float .f64 b] w fun e w' => e = .returned (.int .u64 (bt b : Nat)) ∧ w = w') := bits_c b w hb64.out
      by_cases hbb : bt b = b
      · rw [hbb] at hbi
        have hbbH : Hid (bt b = b) := hbb
        clear hbb hbl
        go_wp2_with fail
        refine Calls.mono hof.out ?_
        rintro e w' ⟨rfl, rfl⟩
        go_wp2_with fail
        refine Calls.mono hbi.out ?_
        rintro e w' ⟨rfl, rfl⟩
        go_wp2
        go_ret2
        exact ⟨by rw [pfr_some (pf_some hl hxl.out hbbH.out)]; rfl, 0, rfl⟩
      · have hne : ((bt b : Int) == (b : Int)) = false := beq_eq_false_iff_ne.2 (by omega)
        have hne2 : ((bt b : Int) != (b : Int)) = true := by simp [bne, hne]
        have hpf : Hid (pf l = none) := pf_bad hxl.out hbb
        clear hbb hbl hne
        generalize bt b = c at hbi hne2
        go_wp2_with fail
        refine Calls.mono hof.out ?_
        rintro e w' ⟨rfl, rfl⟩
        go_wp2_with fail
        refine Calls.mono hbi.out ?_
        rintro e w' ⟨rfl, rfl⟩
        go_wp2_with fail
        go_quiet (fail)
        go_wp2
        go_ret2
        exact ⟨by rw [pfr_none hpf.out]; rfl, _, rfl⟩
theorem parseFloat_c (l : List UInt8) (w : World) (et : Value) (ht : w.cell? ⟨0, 0, none⟩ = some et) :
    Calls Tryd.prog 7 #[.string (B l)] w fun e w' => e = .returned (pfr l et) ∧ Below w.heap.size w w' := by
  by_cases h : l.length = 16
  · refine (parseFloat_16 l w et ht h).mono ?_
    rintro e w' ⟨rfl, q, rfl⟩
    exact ⟨rfl, below_drewN (Below.refl _ _) q⟩
  · refine (parseFloat_len l w et ht h).mono ?_
    rintro e w' ⟨rfl, q, rfl⟩
    exact ⟨rfl, below_drewN (Below.refl _ _) q⟩
end Go.Proofs.YtoojjefndkdnpaaDoor
