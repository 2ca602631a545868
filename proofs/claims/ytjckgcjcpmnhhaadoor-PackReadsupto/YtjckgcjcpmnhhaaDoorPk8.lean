/-
  Package pack: zigzag and zagzig; Int of a Writer and of a Reader.
-/
import Derived.Test.YtjckgcjcpmnhhaaDoorPk7
import Derived.Lib.Zigzag
namespace Go.Proofs.YtjckgcjcpmnhhaaDoor
open Flo Go.RowKit
theorem xor_neg1 (x : Nat) (hx : x < 9223372036854775808) : bits .xor .i64 (x : Int) (-1) = -1 - (x : Int) := by
  show IntKind.i64.wrap ((BitVec.ofInt 64 (x : Int) ^^^ BitVec.ofInt 64 (-1)).toNat : Int) = _
  have h1 : (BitVec.ofInt 64 (-1)).toNat = 2 ^ 64 - 1 := by decide
  have h2 : (BitVec.ofInt 64 (x : Int)).toNat = x := by
    rw [BitVec.ofInt_natCast, BitVec.toNat_ofNat]; exact Nat.mod_eq_of_lt (by omega)
  rw [BitVec.toNat_xor, h1, h2, Nat.xor_comm, Go.Lib.xor_ones64 x (by omega), IntKind.wrap_i64]
  omega
theorem xor_0 (x : Nat) (hx : x < 9223372036854775808) : bits .xor .i64 (x : Int) 0 = (x : Int) := by
  show IntKind.i64.wrap ((BitVec.ofInt 64 (x : Int) ^^^ BitVec.ofInt 64 0).toNat : Int) = _
  have h1 : (BitVec.ofInt 64 0).toNat = 0 := by decide
  have h2 : (BitVec.ofInt 64 (x : Int)).toNat = x := by
    rw [BitVec.ofInt_natCast, BitVec.toNat_ofNat]; exact Nat.mod_eq_of_lt (by omega)
  rw [BitVec.toNat_xor, h1, h2, Nat.xor_zero, IntKind.wrap_i64]
  omega
/-- the unsigned number of a signed one -/
def zg (x : Int) : Nat := if x < 0 then (2 * (-1 - x) + 1).toNat else (2 * x).toNat
/-- and back -/
def zz (x : Nat) : Int := if x % 2 = 1 then -1 - ((x / 2 : Nat) : Int) else ((x / 2 : Nat) : Int)
theorem zz_zg (x : Int) : zz (zg x) = x := by unfold zz zg; split <;> split <;> omega
theorem zg_zz (x : Nat) : zg (zz x) = x := by unfold zz zg; split <;> split <;> omega
theorem zg_lt {x : Int} (h1 : -9223372036854775808 ≤ x) (h2 : x ≤ 9223372036854775807) : zg x < 18446744073709551616 := by unfold zg; split <;> omega
theorem zz_bd {x : Nat} (h : x < 18446744073709551616) : -9223372036854775808 ≤ zz x ∧ zz x ≤ 9223372036854775807 := by unfold zz; split <;> omega
set_option maxHeartbeats 1000000 in
theorem zig_c (x : Int) (w : World) (h1 : -9223372036854775808 ≤ x) (h2 : x ≤ 9223372036854775807) :
    Calls Tryd.prog 75 #[.int .i64 x] w fun e w' => e = .returned (.int .u64 ((zg x : Nat) : Int)) ∧ w = w' := by
  go_enter Tryd.func75, Tryd.ntmps75
  go_wp2
  go_ret
  refine ⟨ret_int ?_, rfl⟩
  by_cases hx : x < 0
  · have e1 : IntKind.u64.wrap (IntKind.u64.wrap x * 2) = (((2 * x + 18446744073709551616).toNat : Nat) : Int) := by
      rw [IntKind.wrap_u64, IntKind.wrap_u64]
      omega
    have e2 : IntKind.u64.wrap (x / 9223372036854775808) = ((2 ^ 64 - 1 : Nat) : Int) := by
      rw [IntKind.wrap_u64]; omega
    rw [e1, e2, u64_xor_nat _ _ (by omega) (by decide), Nat.xor_comm, Go.Lib.xor_ones64 _ (by omega)]
    unfold zg
    rw [if_pos hx]
    omega
  · have e1 : IntKind.u64.wrap (IntKind.u64.wrap x * 2) = (((2 * x).toNat : Nat) : Int) := by
      rw [IntKind.wrap_u64, IntKind.wrap_u64]
      omega
    have e2 : IntKind.u64.wrap (x / 9223372036854775808) = ((0 : Nat) : Int) := by
      rw [IntKind.wrap_u64]; omega
    rw [e1, e2, u64_xor_nat _ _ (by omega) (by decide), Nat.xor_zero]
    unfold zg
    rw [if_neg hx]
set_option maxHeartbeats 1000000 in
theorem zag_c (x : Nat) (w : World) (h : x < 18446744073709551616) :
    Calls Tryd.prog 85 #[.int .u64 (x : Int)] w fun e w' => e = .returned (.int .i64 (zz x)) ∧ w = w' := by
  have h1 := Go.Lib.u64_and1 (x : Int) (by omega) (by omega)
  by_cases hp : x % 2 = 1
  · obtain ⟨Z, hZ⟩ : ∃ Z : Int, Hid (Z = zz x) := ⟨_, rfl⟩
    have hxx : bits .xor .i64 ((x : Int) / 2) (-1) = Z := by
      have hd : (x : Int) / 2 = ((x / 2 : Nat) : Int) := by omega
      rw [hd, xor_neg1 (x / 2) (by omega), hZ.out]
      exact (if_pos hp).symm
    have hx1 : (x : Int) % 2 = 1 := by omega
    rw [hx1] at h1
    clear hx1 hp
    go_enter Tryd.func85, Tryd.ntmps85
    go_wp2
    go_ret
    exact ⟨ret_int hZ.out, rfl⟩
  · obtain ⟨Z, hZ⟩ : ∃ Z : Int, Hid (Z = zz x) := ⟨_, rfl⟩
    have hxx : bits .xor .i64 ((x : Int) / 2) 0 = Z := by
      have hd : (x : Int) / 2 = ((x / 2 : Nat) : Int) := by omega
      rw [hd, xor_0 (x / 2) (by omega), hZ.out]
      exact (if_neg hp).symm
    have hx1 : (x : Int) % 2 = 0 := by omega
    rw [hx1] at h1
    clear hx1 hp
    go_enter Tryd.func85, Tryd.ntmps85
    go_wp2
    go_ret
    exact ⟨ret_int hZ.out, rfl⟩
set_option maxHeartbeats 1000000 in
theorem wint_c (F : Nat → Prop) (g : Nat) (ys : List Nat) (x : Int) (w : World) (h : Wr F w g ys) (hF : ∀ k, w.heap.size ≤ k → F k) (h1 : -9223372036854775808 ≤ x) (h2 : x ≤ 9223372036854775807) (hl : ys.length ≤ 140737488350000) :
    Calls Tryd.prog 33 #[.pointer (some ⟨g, 0, none⟩), .int .i64 x] w fun e w' => e = .returned (.tuple #[]) ∧ Wr F w' g (ys ++ Pk.vi (zg x)) ∧ Fr F w w' := by
  have hH : Hid (Wr F w g ys) := h
  have hFH : Hid (∀ k, w.heap.size ≤ k → F k) := hF
  have hz := zg_lt h1 h2
  clear h hF
  go_enter Tryd.func33, Tryd.ntmps33
  go_wp2_with fail
  refine (zig_c x w h1 h2).mono ?_
  rintro e w' ⟨rfl, rfl⟩
  go_wp2_with fail
  refine (wuint_c F g ys (zg x) w hH.out hFH.out hz hl).mono ?_
  rintro e w' ⟨rfl, h3, h4⟩
  go_wp2
  go_end0
  exact ⟨rfl, h3, h4⟩
set_option maxRecDepth 100000 in
set_option maxHeartbeats 1000000 in
theorem rint_c (R : Nat → Prop) (g k : Nat) (bs : List Nat) (al : List Addr) (w : World) (h : Rr R w g bs k) (he : E5 w al) :
    Calls Tryd.prog 52 #[.pointer (some ⟨g, 0, none⟩)] w fun e w' => e = .returned (.tuple #[.int .i64 (zz (Pk.ux (Pk.rv 0 0 (bs.drop k)))), ue al (Pk.rv 0 0 (bs.drop k))]) ∧ Rr R w' g bs (k + Pk.ud (Pk.rv 0 0 (bs.drop k))) ∧ Fr (fun k => k = g) w w' := by
  have hbd := (Pk.rv_bd h.byt k h.le).1
  have hH : Hid (Rr R w g bs k) := h
  have heH : Hid (E5 w al) := he
  clear h he
  go_enter Tryd.func52, Tryd.ntmps52
  go_wp2_with fail
  refine (ruint_c R g k bs al w hH.out heH.out).mono ?_
  rintro e w1 ⟨rfl, h1, h2⟩
  have h1H : Hid (Rr R w1 g bs (k + Pk.ud (Pk.rv 0 0 (bs.drop k)))) := h1
  have h2H : Hid (Fr (fun k => k = g) w w1) := h2
  clear h1 h2
  go_wp2_with fail
  refine (zag_c _ w1 hbd).mono ?_
  rintro e w' ⟨rfl, rfl⟩
  go_wp2
  go_ret2
  exact ⟨rfl, h1H.out, h2H.out⟩
end Go.Proofs.YtjckgcjcpmnhhaaDoor
