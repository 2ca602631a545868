/-
  The walk of the statement TextPlains.
-/
import Derived.Test.YtmdnmhbfdceliaaGreatDoorQm
import Derived.Test.YtmdnmhbfdceliaaGreatDoorRf3
import Derived.Test.YtmdnmhbfdceliaaGreatDoorLvt
import Derived.Test.YtmdnmhbfdceliaaGreatDoorLy3
import Derived.Test.YtmdnmhbfdceliaaGreatDoorErs
namespace Go.Proofs.YtmdnmhbfdceliaaGreatDoor
open Flo Go.RowKit
set_option maxRecDepth 100000 in
set_option maxHeartbeats 1000000 in
theorem plains_w (b : Nat) (w : World) (r t : Addr) (hb : Hid (b < 18446744073709551616)) (he : Hid (E2 w r t)) (htb : Hid (Tb w)) :
    Calls Tryz.prog 3 #[.int .u64 b] w fun e w' => e = .returned (.bool true) ∧ Below w.heap.size w w' := by
  have hbt : Hid (bt b < 18446744073709551616) := bt_lt hb.out
  go_enter Tryz.func3, Tryz.ntmps3
  go_wp2_with fail
  refine Calls.mono (lives_c w (ev t) (ev r) he.out.text he.out.range htb) ?_
  rintro e w1 ⟨rfl, hb1⟩
  have b1 : Hid (Below w.heap.size w w1) := hb1
  have t1 : Hid (Tb w1) := htb.out.below hb1
  clear hb1 he
  go_wp2_with fail
  refine Calls.mono (natFloat_c b w1 hb.out) ?_
  rintro e w' ⟨rfl, rfl⟩
  go_wp2_with fail
  refine Calls.mono (plain_c (bt b) w1 t1 hbt.out) ?_
  rintro e w2 ⟨txt, rfl, hPT, hb2⟩
  have hP : Hid (PT (bt (bt b)) txt) := hPT
  have b2 : Hid (Below w.heap.size w w2) := b1.out.trans (hb2.mono b1.out.size)
  clear hb2 b1 hPT
  go_wp2_with fail
  refine Calls.mono (r3Plain_c' (bt b) txt w2 hbt.out hP.out) ?_
  rintro e w3 ⟨rfl, hb3⟩
  have b3 : Hid (Below w.heap.size w w3) := b2.out.trans (hb3.mono b2.out.size)
  clear hb3 b2
  have hBB : ((B txt).toList == (B txt).toList) = true := by simp
  go_wp2
  go_ret
  exact ⟨rfl, b3.out⟩
theorem plains_e2 {W : World} (hL : laidMetH Tryz.prog Rows.textPlainsRow.laid W) : ∃ r t, E2 W r t := by
  have h1 := hL.filter (fun x => !(x.1 == "math/bits.deBruijn32tab" || x.1 == "math/bits.deBruijn64tab" || x.1 == "internal/strconv.uint64pow10" || x.1 == "unicode/utf8.acceptRanges" || x.1 == "unicode/utf8.first"))
  refine e2_of (W := W) ?_
  have e : Rows.textPlainsRow.laid.filter (fun x => !(x.1 == "math/bits.deBruijn32tab" || x.1 == "math/bits.deBruijn64tab" || x.1 == "internal/strconv.uint64pow10" || x.1 == "unicode/utf8.acceptRanges" || x.1 == "unicode/utf8.first")) = e2Names.map fun x => (x.1, errD x.2) := by kernel_rfl
  rw [e] at h1
  exact h1
namespace textPlains
theorem walk (x0 : Int) (w : World) (h0 : 0 ≤ x0) (h1 : x0 ≤ 18446744073709551615) (hL : laidMetH Tryz.prog Rows.textPlainsRow.laid w) :
    Calls Tryz.prog 3 #[.int .u64 x0] w fun e w' => e = .returned (.bool true) ∧ Below w.heap.size w w' := by
  obtain ⟨r, t, he⟩ := plains_e2 hL
  obtain ⟨b, rfl⟩ := Int.eq_ofNat_of_zero_le h0
  exact plains_w b w r t (by show b < _; omega) he (tb_of hL (by kernel_rfl))
end textPlains
end Go.Proofs.YtmdnmhbfdceliaaGreatDoor
