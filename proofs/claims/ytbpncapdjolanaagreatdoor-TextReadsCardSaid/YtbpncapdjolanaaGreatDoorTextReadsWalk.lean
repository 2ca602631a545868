/-
  The walk of the statement TextReads.
-/
import Derived.Test.YtbpncapdjolanaaGreatDoorRr5
import Derived.Test.YtbpncapdjolanaaGreatDoorLvt
import Derived.Test.YtbpncapdjolanaaGreatDoorLy3
import Derived.Test.YtbpncapdjolanaaGreatDoorLaid
import Derived.Test.YtbpncapdjolanaaGreatDoorRef
namespace Go.Proofs.YtbpncapdjolanaaGreatDoor
open Flo Go.RowKit
theorem errText_c5 {w : World} {al : List Addr} (he : Errs w al) : w.cell? ⟨0, 0, none⟩ = some (ek al 5) := by
  obtain ⟨a0, a1, a2, a3, a4, a5, a6, a7, a8, a9, a10, a11, a12, a13, a14, a15, a16, a17, a18, rfl⟩ := he.len
  obtain ⟨_, _, _, _, _, h, _⟩ := he.sent
  exact h
set_option maxRecDepth 100000 in
set_option maxHeartbeats 1000000 in
theorem reads_w (l : List UInt8) (w : World) (al : List Addr) (he : Hid (Errs w al)) (htb : Hid (Tb w)) :
    Calls Tryz.prog 4 #[.string (B l)] w fun e w' => e = .returned (.bool true) ∧ Below w.heap.size w w' := by
  go_enter Tryz.func4, Tryz.ntmps4
  go_wp2_with fail
  refine Calls.mono (lives_c w (ek al 5) (ek al 4) (errText_c5 he.out) (errRange_cell he.out) htb) ?_
  rintro e w1 ⟨rfl, hb1⟩
  have b1 : Hid (Below w.heap.size w w1) := hb1
  have e1 : Hid (Errs w1 al) := he.out.below hb1
  clear hb1 he
  go_wp2_with fail
  refine Calls.mono (parsePlain_c l w1 (ek al 5) (ek al 4) (errText_c5 e1.out) (errRange_cell e1.out)) ?_
  rintro e w2 ⟨v, rfl, hv, hb2⟩
  have b2 : Hid (Below w.heap.size w w2) := b1.out.trans (hb2.mono b1.out.size)
  have e2 : Hid (Errs w2 al) := e1.out.below hb2
  have hvH : Hid (PP l (ek al 5) (ek al 4) v) := hv
  obtain ⟨g0, o0, hvt⟩ : ∃ (g : Nat) (o : Value), v = .tuple #[.float .f64 g, o] := by
    rcases hv with ⟨_, rfl⟩ | ⟨_, rfl⟩ | ⟨_, rfl⟩ | ⟨_, h⟩
    · exact ⟨_, _, rfl⟩
    · exact ⟨_, _, rfl⟩
    · exact ⟨_, _, rfl⟩
    · rcases h with ⟨_, rfl⟩ | ⟨_, _, _, _, _, _, h⟩
      · exact ⟨_, _, rfl⟩
      · rcases h with ⟨_, rfl⟩ | ⟨_, rfl⟩
        · exact ⟨_, _, rfl⟩
        · exact ⟨_, _, rfl⟩
  subst hvt
  clear hb2 b1 e1 hv
  go_wp2_with fail
  refine Calls.mono (r3Plain_c l w2) ?_
  rintro e w3 ⟨v', rfl, hv', hb3⟩
  obtain ⟨g, ov, n, p1, p2, p3, p4⟩ := reads_agree hvH.out hv'
  have b3 : Hid (Below w.heap.size w w3) := b2.out.trans (hb3.mono b2.out.size)
  have e3 : Hid (Errs w3 al) := e2.out.below hb3
  simp only [Value.tuple.injEq, Array.mk.injEq, List.cons.injEq, Value.float.injEq, and_true, true_and] at p1
  obtain ⟨rfl, rfl⟩ := p1
  subst p2
  have p3H : Hid (g0 < 18446744073709551616) := p3
  have p4H : Hid (∀ w, Errs w al → Calls Tryz.prog 12 #[o0] w fun e w' => e = .returned (.int .i64 n) ∧ Below w.heap.size w w') := fun w he => by
    rcases p4 with ⟨rfl, rfl⟩ | ⟨rfl, rfl⟩ | ⟨rfl, rfl⟩
    · exact (num_nil w).mono fun e w' h => ⟨h.1, h.2 ▸ Below.refl _ _⟩
    · exact num_err al 5 (by decide) w he
    · exact num_err al 4 (by decide) w he
  clear hb3 b2 e2 hv' hvH p3 p4
  go_wp2_with fail
  refine Calls.mono (rsame_c g0 g0 w3 p3H.out p3H.out) ?_
  rintro e w' ⟨rfl, rfl⟩
  have hgg : ((bt g0 : Int) == (bt g0 : Int)) = true := by simp
  rw [hgg]
  clear hgg
  go_wp2_with fail
  refine Calls.mono (p4H.out w3 e3.out) ?_
  rintro e w6 ⟨rfl, hb6⟩
  have b6 : Hid (Below w.heap.size w w6) := b3.out.trans (hb6.mono b3.out.size)
  clear hb6 b3 p4H
  go_wp2
  go_ret
  exact ⟨rfl, b6.out⟩
theorem reads_errs {W : World} (hL : laidMetH Tryz.prog Rows.textReadsRow.laid W) : ∃ al, Errs W al := by
  have h1 := hL.filter (fun x => !(x.1 == "math/bits.deBruijn32tab" || x.1 == "math/bits.deBruijn64tab" || x.1 == "internal/strconv.uint64pow10" || x.1 == "unicode/utf8.acceptRanges" || x.1 == "unicode/utf8.first"))
  refine errs_of (W := W) ?_
  have e : Rows.textReadsRow.laid.filter (fun x => !(x.1 == "math/bits.deBruijn32tab" || x.1 == "math/bits.deBruijn64tab" || x.1 == "internal/strconv.uint64pow10" || x.1 == "unicode/utf8.acceptRanges" || x.1 == "unicode/utf8.first")) = errNames.map fun x => (x.1, errD x.2) := by kernel_rfl
  rw [e] at h1
  exact h1
namespace textReads
theorem walk (s0 : ByteArray) (w : World) (hL : laidMetH Tryz.prog Rows.textReadsRow.laid w) :
    Calls Tryz.prog 4 #[.string s0] w fun e w' => e = .returned (.bool true) ∧ Below w.heap.size w w' := by
  obtain ⟨al, he⟩ := reads_errs hL
  rw [B_of s0]
  exact reads_w s0.data.toList w al he (tb_of hL (by kernel_rfl))
end textReads
end Go.Proofs.YtbpncapdjolanaaGreatDoor
