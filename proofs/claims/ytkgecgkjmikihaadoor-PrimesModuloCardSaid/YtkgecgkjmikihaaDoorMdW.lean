/-
  The walk of the statement PrimesModulo, out of the contracts of package primes.
-/
import Derived.Test.YtkgecgkjmikihaaDoorLy5
namespace Go.Proofs.YtkgecgkjmikihaaDoor
open Flo Go.RowKit

set_option maxHeartbeats 2000000 in
theorem modulo_w (H : P5) (a b m n : Nat) (w : World) (al : List Addr) (he : Errs w al) (ha : a < 18446744073709551616) (hb : b < 18446744073709551616) (hm : m < 18446744073709551616) (hn : n < 18446744073709551616) :
    Calls Tryd.prog 4 #[.int .u64 a, .int .u64 b, .int .u64 m, .int .u64 n] w fun e w' => e = .returned (.bool true) ∧ Below w.heap.size w w' := by
  have hi : Hid P5 := H
  have h0 : Hid (Errs w al) := he
  clear H he
  go_enter Tryd.func4, Tryd.ntmps4
  go_wp2_with (first
    | (go_at_call 9; refine (fixed_c hi.out _).mono ?_; rintro e w1 ⟨rfl, b1⟩; have h1 : Hid (Errs w1 al) := h0.out.below b1)
    | (go_at_call 22; refine (pInv_c hi.out _ _ _ al h1.out ha hm).mono ?_; rintro e w2 ⟨e1, rfl, n1, b2⟩; have h2 : Hid (Errs w2 al) := h1.out.below b2)
    | (go_at_call 23; refine (r5Inv_c _ _ _ ha hm).mono ?_; rintro e w3 ⟨rfl, k3, rfl⟩; have h3 : Hid (Errs (w2.drewN k3) al) := h2.out.drewN k3)
    | (go_at_call 24; refine (pJoin_c hi.out _ _ _ _ _ al h3.out ha hm hb hn).mono ?_; rintro e w4 ⟨e2, rfl, n2, b4⟩; have h4 : Hid (Errs w4 al) := h3.out.below b4)
    | (go_at_call 25; refine (r5Join_c _ _ _ _ _ ha hm hb hn).mono ?_; rintro e w5 ⟨rfl, k5, rfl⟩; have h5 : Hid (Errs (w4.drewN k5) al) := h4.out.drewN k5))
  have B5 : Hid (Below w.heap.size w (w4.drewN k5)) := below_drewN ((below_drewN (b1.trans (b2.mono b1.size)) k3).trans (b4.mono (Nat.le_trans b1.size b2.size))) k5
  clear b1 b2 b4 h1 h2 h3 h4
  generalize w4.drewN k5 = w5 at B5 h5 ⊢
  refine (num_c n1 _ h5.out).mono ?_
  rintro e w6 ⟨rfl, b6⟩
  have h6 : Hid (Errs w6 al) := h5.out.below b6
  have B6 : Hid (Below w.heap.size w w6) := B5.out.trans (b6.mono B5.out.size)
  clear b6 B5 h5 n1
  go_wp2_with fail
  refine (num_c n2 _ h6.out).mono ?_
  rintro e w7 ⟨rfl, b7⟩
  have B7 : Hid (Below w.heap.size w w7) := B6.out.trans (b7.mono B6.out.size)
  clear b7 B6 h6 n2
  go_wp2_with (first
    | (go_at_call 26; refine (hi.out.mulB _ _ _ _ ha hb hm).mono ?_; rintro e w8 ⟨rfl, b8⟩)
    | (go_at_call 27; refine (r5Mul_c _ _ _ _ ha hb hm).mono ?_; rintro e w9 ⟨rfl, k9, rfl⟩)
    | (go_at_call 28; refine (hi.out.powB _ _ _ _ ha hb hm).mono ?_; rintro e w10 ⟨rfl, b10⟩)
    | (go_at_call 29; refine (r5Pow_c _ _ _ _ ha hb hm).mono ?_; rintro e w11 ⟨rfl, k11, rfl⟩))
  go_ret
  exact ⟨rfl, below_drewN ((below_drewN (B7.out.trans (b8.mono B7.out.size)) k9).trans (b10.mono (Nat.le_trans B7.out.size b8.size))) k11⟩
end Go.Proofs.YtkgecgkjmikihaaDoor
