/-
  The statement StepsNames: the walk.
-/
import Derived.Test.YtbipgkbnhpdmhaaDoorSv1
import Derived.Test.YtbipgkbnhpdmhaaDoorSd1
namespace Go.Proofs.YtbipgkbnhpdmhaaDoor
open Flo Go.RowKit
theorem nmb_inj {i j : Nat} (hi : 1 ≤ i ∧ i < 12) (hj : 1 ≤ j ∧ j < 12) (h : nmb i = nmb j) : i = j := by
  have h2 : ∀ a : Fin 12, ∀ b : Fin 12, (nmb a.val).data = (nmb b.val).data → a.val = b.val ∨ a.val = 0 ∨ b.val = 0 := by decide +kernel
  have := h2 ⟨i, hi.2⟩ ⟨j, hj.2⟩ (by show (nmb i).data = (nmb j).data; rw [h])
  simp only at this
  omega
theorem OpR.uniq {t : ByteArray} {r r' : Nat} {b b' : Bool} (h : OpR t r b) (h' : OpR t r' b') : r = r' ∧ b = b' := by
  rcases h with ⟨h1, h2, h3, h4⟩ | ⟨h1, h2, h3⟩
  · rcases h' with ⟨k1, k2, k3, k4⟩ | ⟨k1, k2, k3⟩
    · exact ⟨nmb_inj ⟨h1, h2⟩ ⟨k1, k2⟩ (h3.trans k3.symm), h4.trans k4.symm⟩
    · exact absurd h3 (k2 r h1 h2)
  · rcases h' with ⟨k1, k2, k3, k4⟩ | ⟨k1, k2, k3⟩
    · exact absurd k3 (h2 r' k1 k2)
    · exact ⟨h1.trans k1.symm, h3.trans k3.symm⟩
theorem OpE.of {t : ByteArray} {r : Nat} {b : Bool} (h : OpR t r b) {e : Ending} (he : OpE t e) : e = .returned (.tuple #[.int .i64 (r : Nat), .bool b]) := by
  obtain ⟨r', b', rfl, h'⟩ := he
  obtain ⟨rfl, rfl⟩ := h.uniq h'
  rfl
theorem nmk_nat {k : Nat} (h1 : 1 ≤ k) (h2 : k < 12) : nmk (k : Int) = nmb k ∧ Sp.kn (k : Int) = true := by
  have hf : Sp.kn (k : Int) = true := Sp.kn_iff.2 ⟨by omega, by omega⟩
  exact ⟨by unfold nmk; rw [hf]; rfl, hf⟩
theorem bl_ne (a : ByteArray) : (a.toList != a.toList) = false := by simp
set_option maxHeartbeats 4000000 in
set_option maxRecDepth 100000 in
theorem stepsNames.walk (x : Int) (t : ByteArray) (al : List Addr) (w : World) (he : E4 w al) (hO : Ops w) :
    Calls Tryd.prog 3 #[.int .i64 x, .string t] w fun e w' => e = .returned (.bool true) ∧ Below w.heap.size w w' := by
  have hH : Hid (Ops w) := hO
  have hlv : Hid (Calls Tryd.prog 9 #[] w fun e w' => e = .returned (.bool true) ∧ Below w.heap.size w w') := slives_c al w he hO
  have hn1 : Hid (∀ W, Below w.heap.size w W → Calls Tryd.prog 10 #[.int .i64 x] W fun e w' => e = .returned (.tuple #[.string (nmk x), .bool (Sp.kn x)]) ∧ Below w.heap.size w w') := fun W hW => (sname_c x W (hO.below hW)).mono fun e w' h => ⟨h.1, hW.trans (h.2.mono hW.size)⟩
  have hn2 : Hid (∀ W, Below w.heap.size w W → Calls Tryd.prog 11 #[.int .i64 x] W fun e w' => e = .returned (.tuple #[.string (nmk x), .bool (Sp.kn x)]) ∧ Below w.heap.size w w') := fun W hW => (dname_c x W).mono fun e w' h => ⟨h.1, hW.trans (h.2.mono hW.size)⟩
  have ho1 : Hid (∀ W, Below w.heap.size w W → Calls Tryd.prog 12 #[.string t] W fun e w' => OpE t e ∧ Below w.heap.size w w') := fun W hW => (sop_c t W (hO.below hW)).mono fun e w' h => ⟨h.1, by rw [← h.2]; exact hW⟩
  have ho2 : Hid (∀ W, Below w.heap.size w W → Calls Tryd.prog 13 #[.string t] W fun e w' => OpE t e ∧ Below w.heap.size w w') := fun W hW => (dop_c t W).mono fun e w' h => ⟨h.1, hW.trans (h.2.mono hW.size)⟩
  clear he hO
  have q1 := bl_ne (nmk x)
  have q2 : (Sp.kn x != Sp.kn x) = false := by simp
  generalize nmk x = nm at hn1 hn2 q1
  generalize Sp.kn x = kb at hn1 hn2 q2
  go_enter Tryd.func3, Tryd.ntmps3
  go_wp2_with fail
  refine hlv.out.mono ?_
  rintro e w1 ⟨rfl, B1⟩
  go_wp2_with fail
  refine (hn1.out w1 B1).mono ?_
  rintro e w2 ⟨rfl, B2⟩
  go_wp2_with fail
  refine (hn2.out w2 B2).mono ?_
  rintro e w3 ⟨rfl, B3⟩
  clear B1 B2
  go_wp2_with fail
  refine (ho1.out w3 B3).mono ?_
  rintro e w4 ⟨⟨r, b, rfl, hR⟩, B4⟩
  have hRH : Hid (OpR t r b) := hR
  clear hR B3
  go_wp2_with fail
  refine (ho2.out w4 B4).mono ?_
  rintro e w5 ⟨hE, B5⟩
  obtain rfl := hRH.out |> fun h => OpE.of h hE
  have B5H : Hid (Below w.heap.size w w5) := B5
  clear hE B4 B5 q1 q2 hn1 hn2 ho1 ho2
  have q3 : ((r : Int) != (r : Int)) = false := by simp
  have q4 : (b != b) = false := by simp
  go_wp2
  go_loopw [11] (fun i wr => ∃ k : Nat, 1 ≤ k ∧ k ≤ 12 ∧ i = .int .i64 k ∧ Hid (Below w.heap.size w wr)) (fun i _ => 12 - (intOf i).toNat)
  case atStart => exact ⟨1, Nat.le_refl _, by decide, rfl, B5H⟩
  case round =>
    obtain ⟨k, hk1, hk2, rfl, Bk⟩ := hrel
    by_cases hlt : k < 12
    · have hlt' : (k : Int) < 12 := by omega
      obtain ⟨ek1, ek2⟩ := nmk_nat hk1 hlt
      have hn := sname_c (k : Int) wr (hH.out.below Bk.out)
      rw [ek1, ek2] at hn
      have hnH : Hid (Calls Tryd.prog 10 #[.int .i64 (k : Int)] wr fun e w' => e = .returned (.tuple #[.string (nmb k), .bool true]) ∧ Below wr.heap.size wr w') := hn
      have hR2 : Hid (OpR (nmb k) k true) := .inl ⟨hk1, hlt, rfl, rfl⟩
      have hop : Hid (∀ W, Below w.heap.size w W → Calls Tryd.prog 12 #[.string (nmb k)] W fun e w' => OpE (nmb k) e ∧ Below w.heap.size w w') := fun W hW => (sop_c (nmb k) W (hH.out.below hW)).mono fun e w' h => ⟨h.1, by rw [← h.2]; exact hW⟩
      clear hn ek1 ek2
      go_wp2_with fail
      refine hnH.out.mono ?_
      rintro e w6 ⟨rfl, B6⟩
      go_wp2_with fail
      refine (hop.out w6 (Bk.out.trans (B6.mono Bk.out.size))).mono ?_
      rintro e w7 ⟨hE, B7⟩
      obtain rfl := hR2.out |> fun h => OpE.of h hE
      have B7H : Hid (Below w.heap.size w w7) := B7
      have q5 : ((k : Int) != (k : Int)) = false := by simp
      clear hE B6 B7 hnH hop Bk hR2
      go_wp2
      go_roundw
      case rel => exact ⟨k + 1, by omega, by omega, by go_num, B7H⟩
      case measure => simp [intOf]; omega
    · have hlt' : decide ((k : Int) < 12) = false := decide_eq_false (by omega)
      go_wp2
      go_ret
      exact ⟨rfl, Bk.out⟩
end Go.Proofs.YtbipgkbnhpdmhaaDoor
