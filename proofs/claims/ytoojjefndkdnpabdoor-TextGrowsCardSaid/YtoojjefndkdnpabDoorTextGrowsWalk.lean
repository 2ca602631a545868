/-
  The walk of the statement TextGrows.
-/
import Derived.Test.YtoojjefndkdnpabDoorGrx
import Derived.Test.YtoojjefndkdnpabDoorLy3
namespace Go.Proofs.YtoojjefndkdnpabDoor
open Flo Go.RowKit
set_option maxRecDepth 100000 in
set_option maxHeartbeats 1000000 in
theorem grows_out (a b : Nat) (x y : Int) (w : World) (r t : Addr) (ho : (decide (x < -100000) || decide (y < x) || decide (100000 < y)) = true) (he : Hid (E2 w r t)) (htb : Hid (Tb w)) :
    Calls Tryd.prog 3 #[.int .u32 a, .int .u32 b, .int .i64 x, .int .i64 y] w fun e w' => e = .returned (.bool true) ∧ Below w.heap.size w w' := by
  go_enter Tryd.func3, Tryd.ntmps3
  go_wp2_with fail
  refine Calls.mono (lives_c w (ev t) (ev r) he.out.text he.out.range htb) ?_
  rintro e w1 ⟨rfl, hb1⟩
  have b1 : Hid (Below w.heap.size w w1) := hb1
  clear hb1 he
  go_wp2
  all_goals (go_ret; exact ⟨rfl, b1.out⟩)
theorem grows_e2 {W : World} (hL : laidMetH Tryd.prog Rows.textGrowsRow.laid W) : ∃ r t, E2 W r t := by
  have h1 := hL.filter (fun x => !(x.1 == "math/bits.deBruijn32tab" || x.1 == "math/bits.deBruijn64tab" || x.1 == "internal/strconv.uint64pow10" || x.1 == "unicode/utf8.acceptRanges" || x.1 == "unicode/utf8.first"))
  refine e2_of (W := W) ?_
  have e : Rows.textGrowsRow.laid.filter (fun x => !(x.1 == "math/bits.deBruijn32tab" || x.1 == "math/bits.deBruijn64tab" || x.1 == "internal/strconv.uint64pow10" || x.1 == "unicode/utf8.acceptRanges" || x.1 == "unicode/utf8.first")) = e2Names.map fun x => (x.1, errD x.2) := by kernel_rfl
  rw [e] at h1
  exact h1
namespace textGrows
theorem walk (x0 x1 x2 x3 : Int) (w : World) (h0 : 0 ≤ x0) (h1 : x0 ≤ 4294967295) (h2 : 0 ≤ x1) (h3 : x1 ≤ 4294967295) (h4 : -9223372036854775808 ≤ x2) (h5 : x2 ≤ 9223372036854775807) (h6 : -9223372036854775808 ≤ x3) (h7 : x3 ≤ 9223372036854775807) (hL : laidMetH Tryd.prog Rows.textGrowsRow.laid w) :
    Calls Tryd.prog 3 #[.int .u32 x0, .int .u32 x1, .int .i64 x2, .int .i64 x3] w fun e w' => e = .returned (.bool true) ∧ Below w.heap.size w w' := by
  obtain ⟨r, t, he⟩ := grows_e2 hL
  obtain ⟨a, rfl⟩ := Int.eq_ofNat_of_zero_le h0
  obtain ⟨b, rfl⟩ := Int.eq_ofNat_of_zero_le h2
  have htb : Hid (Tb w) := tb_of hL (by kernel_rfl)
  by_cases hx : x2 < -100000
  · exact grows_out a b x2 x3 w r t (by rw [decide_eq_true hx]; rfl) he htb
  · by_cases hxy : x3 < x2
    · exact grows_out a b x2 x3 w r t (by rw [decide_eq_true hxy, Bool.or_true]; rfl) he htb
    · by_cases hy : 100000 < x3
      · exact grows_out a b x2 x3 w r t (by rw [decide_eq_true hy, Bool.or_true]) he htb
      · exact grows_w a b (min a b) (max a b) x2 x3 w r t (by omega) (by omega) (by omega) (by omega) (by omega) (by omega) (by omega) he htb
end textGrows
end Go.Proofs.YtoojjefndkdnpabDoor
