/-
  The walk of the statement TextFloats.
-/
import Derived.Test.YtoojjefndkdnpaaDoorRf3
import Derived.Test.YtoojjefndkdnpaaDoorLvt
import Derived.Test.YtoojjefndkdnpaaDoorLy3
import Derived.Test.YtoojjefndkdnpaaDoorLaid
import Derived.Test.YtoojjefndkdnpaaDoorNum
namespace Go.Proofs.YtoojjefndkdnpaaDoor
open Flo Go.RowKit
theorem errText_cell {w : World} {al : List Addr} (he : Errs w al) : w.cell? ⟨0, 0, none⟩ = some (ek al 5) := by
  obtain ⟨a0, a1, a2, a3, a4, a5, a6, a7, a8, a9, a10, a11, a12, a13, a14, a15, a16, a17, a18, rfl⟩ := he.len
  obtain ⟨_, _, _, _, _, h, _⟩ := he.sent
  exact h
theorem bt_bt (b : Nat) : bt (bt b) = bt b := by unfold bt; split <;> simp_all
set_option maxRecDepth 100000 in
set_option maxHeartbeats 1000000 in
theorem floats_w (b : Nat) (l : List UInt8) (w : World) (al : List Addr) (hb : Hid (b < 18446744073709551616)) (he : Hid (Errs w al)) (htb : Hid (Tb w)) :
    Calls Tryd.prog 3 #[.int .u64 b, .string (B l)] w fun e w' => e = .returned (.bool true) ∧ Below w.heap.size w w' := by
  have hbt : Hid (bt b < 18446744073709551616) := bt_lt hb.out
  have hBB : ((B (hxl (bt b))).toList == (B (hxl (bt b))).toList) = true := by simp
  go_enter Tryd.func3, Tryd.ntmps3
  go_wp2_with fail
  refine Calls.mono (lives_c w (ek al 5) (ek al 4) (errText_cell he.out) (errRange_cell he.out) htb) ?_
  rintro e w1 ⟨rfl, hb1⟩
  have b1 : Hid (Below w.heap.size w w1) := hb1
  have e1 : Hid (Errs w1 al) := he.out.below hb1
  clear hb1 he
  go_wp2_with fail
  refine Calls.mono (natFloat_c b w1 hb.out) ?_
  rintro e w' ⟨rfl, rfl⟩
  go_wp2_with fail
  refine Calls.mono (parseFloat_c l w1 (ek al 5) (errText_cell e1.out)) ?_
  rintro e w2 ⟨rfl, hb2⟩
  have b2 : Hid (Below w.heap.size w w2) := b1.out.trans (hb2.mono b1.out.size)
  have e2 : Hid (Errs w2 al) := e1.out.below hb2
  clear hb2 b1 e1
  have hfin : Hid (∃ (g : Nat) (ev : Value) (n : Int), pfr l (ek al 5) = .tuple #[.float .f64 g, ev] ∧ r3r l = .tuple #[.float .f64 g, .int .i64 n] ∧ g < 18446744073709551616 ∧ ∀ w, Errs w al → Calls Tryd.prog 12 #[ev] w fun e w' => e = .returned (.int .i64 n) ∧ Below w.heap.size w w') := by
    cases hp : pf l with
    | none => exact ⟨0, ek al 5, 6, by rw [pfr_none hp]; rfl, r3r_none hp, by decide, fun w he => num_err al 5 (by decide) w he⟩
    | some g =>
      refine ⟨g, .nilIface, 0, by rw [pfr_some hp]; rfl, r3r_some hp, ?_, fun w _ => (num_nil w).mono fun e w' h => ⟨h.1, h.2 ▸ Below.refl _ _⟩⟩
      unfold pf at hp
      by_cases h16 : l.length = 16
      · rw [if_pos h16] at hp
        cases hx : Hx.hxs l with
        | none => rw [hx] at hp; cases hp
        | some y =>
          rw [hx] at hp
          have hy := Hx.hxs_lt _ _ hx
          rw [h16] at hy
          have : (if bt y = y then some y else none) = some g := hp
          split at this
          · cases this; exact Nat.lt_of_lt_of_le hy (by decide)
          · cases this
      · rw [if_neg h16] at hp; cases hp
  obtain ⟨g, ev, n, p1, p2, p3, p4⟩ := hfin.out
  have p3H : Hid (g < 18446744073709551616) := p3
  have p4H : Hid (∀ w, Errs w al → Calls Tryd.prog 12 #[ev] w fun e w' => e = .returned (.int .i64 n) ∧ Below w.heap.size w w') := p4
  rw [p1]
  clear p1 p3 p4 hfin
  go_wp2_with fail
  refine Calls.mono (r3Parse_c l w2) ?_
  rintro e w3 ⟨rfl, hb3⟩
  rw [p2]
  have b3 : Hid (Below w.heap.size w w3) := b2.out.trans (hb3.mono b2.out.size)
  have e3 : Hid (Errs w3 al) := e2.out.below hb3
  clear hb3 b2 e2 p2
  go_wp2_with fail
  refine Calls.mono (float_c (bt b) w3 hbt) ?_
  rintro e w4 ⟨rfl, hb4⟩
  rw [bt_bt]
  have b4 : Hid (Below w.heap.size w w4) := b3.out.trans (hb4.mono b3.out.size)
  have e4 : Hid (Errs w4 al) := e3.out.below hb4
  clear hb4 b3 e3
  go_wp2_with fail
  refine Calls.mono (r3Float_c (bt b) w4 hbt) ?_
  rintro e w5 ⟨rfl, hb5⟩
  rw [bt_bt]
  have b5 : Hid (Below w.heap.size w w5) := b4.out.trans (hb5.mono b4.out.size)
  have e5 : Hid (Errs w5 al) := e4.out.below hb5
  clear hb5 b4 e4
  go_wp2_with fail
  refine Calls.mono (rsame_c g g w5 p3H.out p3H.out) ?_
  rintro e w' ⟨rfl, rfl⟩
  have hgg : ((bt g : Int) == (bt g : Int)) = true := by simp
  rw [hgg]
  clear hgg
  go_wp2_with fail
  refine Calls.mono (p4H.out w5 e5.out) ?_
  rintro e w6 ⟨rfl, hb6⟩
  have b6 : Hid (Below w.heap.size w w6) := b5.out.trans (hb6.mono b5.out.size)
  clear hb6 b5
  go_wp2
  go_ret
  exact ⟨rfl, b6.out⟩
theorem floats_errs {W : World} (hL : laidMetH Tryd.prog Rows.textFloatsRow.laid W) : ∃ al, Errs W al := by
  have h1 := hL.filter (fun x => !(x.1 == "math/bits.deBruijn32tab" || x.1 == "math/bits.deBruijn64tab" || x.1 == "internal/strconv.uint64pow10" || x.1 == "unicode/utf8.acceptRanges" || x.1 == "unicode/utf8.first"))
  refine errs_of (W := W) ?_
  have e : Rows.textFloatsRow.laid.filter (fun x => !(x.1 == "math/bits.deBruijn32tab" || x.1 == "math/bits.deBruijn64tab" || x.1 == "internal/strconv.uint64pow10" || x.1 == "unicode/utf8.acceptRanges" || x.1 == "unicode/utf8.first")) = errNames.map fun x => (x.1, errD x.2) := by kernel_rfl
  rw [e] at h1
  exact h1
namespace textFloats
theorem walk (x0 : Int) (s1 : ByteArray) (w : World) (h0 : 0 ≤ x0) (h1 : x0 ≤ 18446744073709551615) (hL : laidMetH Tryd.prog Rows.textFloatsRow.laid w) :
    Calls Tryd.prog 3 #[.int .u64 x0, .string s1] w fun e w' => e = .returned (.bool true) ∧ Below w.heap.size w w' := by
  obtain ⟨al, he⟩ := floats_errs hL
  obtain ⟨b, rfl⟩ := Int.eq_ofNat_of_zero_le h0
  rw [B_of s1]
  exact floats_w b s1.data.toList w al (by show b < _; omega) he (tb_of hL (by kernel_rfl))
end textFloats
end Go.Proofs.YtoojjefndkdnpaaDoor
