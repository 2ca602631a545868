/-
  'lives' of layer 3.
-/
import Derived.Test.YtmfnjmgdindlaaaDoorQi
import Derived.Test.YtmfnjmgdindlaaaDoorPl4
import Derived.Test.YtmfnjmgdindlaaaDoorFlt
namespace Go.Proofs.YtmfnjmgdindlaaaDoor
open Flo Go.RowKit
theorem near15 : Rd.Near 15 10 4609434218613702656 :=
  Rd.near_of (n := 15) (d := 10) (A := 52) (B := 0) (E := 1022) (drop := 0) (m := 6755399441055744) (by decide) (by decide) (by decide) (by decide) (by decide) (by decide) (by decide)
theorem sp15 : Rd.Sp 15 (-1) 4609434218613702656 := Rd.sp_near (by decide) near15
theorem prs15 : prs [49, 46, 53, 101, 48] = some (false, [49, 53], -1) := by decide
theorem pp15 {et er v : Value} (h : PP [49, 46, 53, 101, 48] et er v) : v = tup 4609434218613702656 .nilIface := by
  rcases h with ⟨h, _⟩ | ⟨h, _⟩ | ⟨h, _⟩ | ⟨_, h⟩
  · exact absurd h (by decide)
  · exact absurd h (by decide)
  · exact absurd h (by decide)
  · rcases h with ⟨h, _⟩ | ⟨mi, ds, p, r, h1, h2, h3⟩
    · rw [prs15] at h; cases h
    · rw [prs15] at h1
      cases h1
      rcases Rd.Sp.uniq h2 sp15 with ⟨_, e⟩ | ⟨_, e⟩
      · subst e
        rcases h3 with ⟨h, _⟩ | ⟨_, h⟩
        · exact absurd h (by decide)
        · rw [h]; rfl
      · exact absurd e (by decide)
theorem hx1 : hxl (bt 4607182418800017408) = [51, 102, 102, 48, 48, 48, 48, 48, 48, 48, 48, 48, 48, 48, 48, 48] := by decide
set_option maxRecDepth 100000 in
set_option maxHeartbeats 1000000 in
theorem lives_c (w : World) (et er : Value) (ht : w.cell? ⟨0, 0, none⟩ = some et) (hr : w.cell? ⟨1, 0, none⟩ = some er) (htab : Hid (Tb w)) :
    Calls Tryd.prog 4 #[] w fun e w' => e = .returned (.bool true) ∧ Below w.heap.size w w' := by
  have hpp : Hid (Calls Tryd.prog 9 #[.string (B [49, 46, 53, 101, 48])] w fun e w' => ∃ v, e = .returned v ∧ PP [49, 46, 53, 101, 48] et er v ∧ Below w.heap.size w w') := parsePlain_c [49, 46, 53, 101, 48] w et er ht hr
  have z1 : (B [45, 49, 46, 53, 101, 48]).toList = [45, 49, 46, 53, 101, 48] := B_toList _
  have z2 : (B [51, 102, 102, 48, 48, 48, 48, 48, 48, 48, 48, 48, 48, 48, 48, 48]).toList = [51, 102, 102, 48, 48, 48, 48, 48, 48, 48, 48, 48, 48, 48, 48, 48] := B_toList _
  have hfo : FloatKind.f64.format.order 4609434218613702656 4609434218613702656 = some Ordering.eq := by kernel_rfl
  clear ht hr
  go_enter Tryd.func4, Tryd.ntmps4
  go_wp2_with fail
  refine Calls.mono hpp.out ?_
  rintro e w1 ⟨v, rfl, hp, hb1⟩
  rw [pp15 hp]
  have b1 : Hid (Below w.heap.size w w1) := hb1
  clear hp hb1 hpp
  unfold tup
  go_wp2_with fail
  refine Calls.mono (float_c 4607182418800017408 w1 (by show _ < _; decide)) ?_
  rintro e w2 ⟨rfl, hb2⟩
  rw [hx1]
  have b2 : Hid (Below w.heap.size w w2) := b1.out.trans (hb2.mono b1.out.size)
  clear hb2 b1
  go_wp2_with fail
  refine Calls.mono (plain_p w2 (htab.out.below b2.out)) ?_
  rintro e w3 ⟨rfl, hb3⟩
  have b3 : Hid (Below w.heap.size w w3) := b2.out.trans (hb3.mono b2.out.size)
  clear hb3 b2
  go_wp2
  go_ret
  exact ⟨rfl, b3.out⟩
end Go.Proofs.YtmfnjmgdindlaaaDoor
