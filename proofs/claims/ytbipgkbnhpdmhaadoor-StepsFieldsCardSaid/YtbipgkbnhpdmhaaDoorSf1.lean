/-
  The statement StepsFields: field, has; a field made another.
-/
import Derived.Test.YtbipgkbnhpdmhaaDoorSv1
namespace Go.Proofs.YtbipgkbnhpdmhaaDoor
open Flo Go.RowKit
/-- where the field of this number lies -/
def dfo (i : Nat) : Nat := [2, 3, 5, 6, 1].getD i 0
def hasB (o i : Nat) : Bool := [Sp.hs o, Sp.hj o, Sp.hn o, Sp.hk o, true].getD i false
def fld (s : Sp.St) (i : Nat) : Int := [s.src, s.jump, s.n, s.k, s.dst].getD i 0
def setF (s : Sp.St) (i : Nat) (x : Int) : Sp.St :=
  if i = 0 then { s with src := x } else if i = 1 then { s with jump := x } else if i = 2 then { s with n := x } else if i = 3 then { s with k := x } else { s with dst := x }
theorem fld_zero {s : Sp.St} (h : Sp.fm s = true) {i : Nat} (hi : i < 5) (hh : hasB s.op.toNat i = false) : fld s i = 0 := by
  obtain ⟨h1, h2, h3, h4, h5, h6, h7⟩ := Sp.fm_fields h
  match i, hi with
  | 0, _ => exact h3.2.2 hh
  | 1, _ => exact h4.2.2 hh
  | 2, _ => exact h6.2.2 hh
  | 3, _ => exact h7.2.2 hh
  | 4, _ => simp [hasB] at hh
theorem setF_bad {s : Sp.St} {i : Nat} {x : Int} (hi : i < 5) (hh : hasB s.op.toNat i = false) (hx : ¬ x = 0) : Sp.fm (setF s i x) = false := by
  cases e : Sp.fm (setF s i x) with
  | false => rfl
  | true =>
    obtain ⟨h1, h2, h3, h4, h5, h6, h7⟩ := Sp.fm_fields e
    match i, hi with
    | 0, _ => exact absurd (h3.2.2 hh) hx
    | 1, _ => exact absurd (h4.2.2 hh) hx
    | 2, _ => exact absurd (h6.2.2 hh) hx
    | 3, _ => exact absurd (h7.2.2 hh) hx
    | 4, _ => simp [hasB] at hh
theorem setF_eq (s : Sp.St) {i : Nat} (x : Int) (hi : i < 5) : steq s (setF s i x) = (x == fld s i) := by
  obtain ⟨a, b, c, d, e, f, g⟩ := s
  rw [Bool.eq_iff_iff, steq_iff, beq_iff_eq]
  match i, hi with
  | 0, _ => simp [setF, fld]; exact eq_comm
  | 1, _ => simp [setF, fld]; exact eq_comm
  | 2, _ => simp [setF, fld]; exact eq_comm
  | 3, _ => simp [setF, fld]; exact eq_comm
  | 4, _ => simp [setF, fld]; exact eq_comm
set_option maxHeartbeats 4000000 in
theorem field_c (g i : Nat) (hi : i < 5) (w : World) :
    Calls Tryd.prog 25 #[.pointer (some ⟨g, 0, none⟩), .int .i64 (i : Int)] w fun e w' => e = .returned (.pointer (some ⟨g, dfo i, none⟩)) ∧ w = w' := by
  match i, hi with
  | 0, _ =>
    go_enter Tryd.func25, Tryd.ntmps25
    go_wp2
    go_ret
    exact ⟨rfl, rfl⟩
  | 1, _ =>
    go_enter Tryd.func25, Tryd.ntmps25
    go_wp2
    go_ret
    exact ⟨rfl, rfl⟩
  | 2, _ =>
    go_enter Tryd.func25, Tryd.ntmps25
    go_wp2
    go_ret
    exact ⟨rfl, rfl⟩
  | 3, _ =>
    go_enter Tryd.func25, Tryd.ntmps25
    go_wp2
    go_ret
    exact ⟨rfl, rfl⟩
  | 4, _ =>
    go_enter Tryd.func25, Tryd.ntmps25
    go_wp2
    go_ret
    exact ⟨rfl, rfl⟩
set_option maxHeartbeats 16000000 in
theorem has_c (o i : Nat) (ho : 1 ≤ o ∧ o < 12) (hi : i < 5) (w : World) :
    Calls Tryd.prog 26 #[.int .i64 (o : Int), .int .i64 (i : Int)] w fun e w' => e = .returned (.bool (hasB o i)) ∧ w = w' := by
  match o, ho, i, hi with
  | 1, _, 0, _ =>
    go_enter Tryd.func26, Tryd.ntmps26
    go_wp2
    go_ret
    exact ⟨rfl, rfl⟩
  | 1, _, 1, _ =>
    go_enter Tryd.func26, Tryd.ntmps26
    go_wp2
    go_ret
    exact ⟨rfl, rfl⟩
  | 1, _, 2, _ =>
    go_enter Tryd.func26, Tryd.ntmps26
    go_wp2
    go_ret
    exact ⟨rfl, rfl⟩
  | 1, _, 3, _ =>
    go_enter Tryd.func26, Tryd.ntmps26
    go_wp2
    go_ret
    exact ⟨rfl, rfl⟩
  | 1, _, 4, _ =>
    go_enter Tryd.func26, Tryd.ntmps26
    go_wp2
    go_ret
    exact ⟨rfl, rfl⟩
  | 2, _, 0, _ =>
    go_enter Tryd.func26, Tryd.ntmps26
    go_wp2
    go_ret
    exact ⟨rfl, rfl⟩
  | 2, _, 1, _ =>
    go_enter Tryd.func26, Tryd.ntmps26
    go_wp2
    go_ret
    exact ⟨rfl, rfl⟩
  | 2, _, 2, _ =>
    go_enter Tryd.func26, Tryd.ntmps26
    go_wp2
    go_ret
    exact ⟨rfl, rfl⟩
  | 2, _, 3, _ =>
    go_enter Tryd.func26, Tryd.ntmps26
    go_wp2
    go_ret
    exact ⟨rfl, rfl⟩
  | 2, _, 4, _ =>
    go_enter Tryd.func26, Tryd.ntmps26
    go_wp2
    go_ret
    exact ⟨rfl, rfl⟩
  | 3, _, 0, _ =>
    go_enter Tryd.func26, Tryd.ntmps26
    go_wp2
    go_ret
    exact ⟨rfl, rfl⟩
  | 3, _, 1, _ =>
    go_enter Tryd.func26, Tryd.ntmps26
    go_wp2
    go_ret
    exact ⟨rfl, rfl⟩
  | 3, _, 2, _ =>
    go_enter Tryd.func26, Tryd.ntmps26
    go_wp2
    go_ret
    exact ⟨rfl, rfl⟩
  | 3, _, 3, _ =>
    go_enter Tryd.func26, Tryd.ntmps26
    go_wp2
    go_ret
    exact ⟨rfl, rfl⟩
  | 3, _, 4, _ =>
    go_enter Tryd.func26, Tryd.ntmps26
    go_wp2
    go_ret
    exact ⟨rfl, rfl⟩
  | 4, _, 0, _ =>
    go_enter Tryd.func26, Tryd.ntmps26
    go_wp2
    go_ret
    exact ⟨rfl, rfl⟩
  | 4, _, 1, _ =>
    go_enter Tryd.func26, Tryd.ntmps26
    go_wp2
    go_ret
    exact ⟨rfl, rfl⟩
  | 4, _, 2, _ =>
    go_enter Tryd.func26, Tryd.ntmps26
    go_wp2
    go_ret
    exact ⟨rfl, rfl⟩
  | 4, _, 3, _ =>
    go_enter Tryd.func26, Tryd.ntmps26
    go_wp2
    go_ret
    exact ⟨rfl, rfl⟩
  | 4, _, 4, _ =>
    go_enter Tryd.func26, Tryd.ntmps26
    go_wp2
    go_ret
    exact ⟨rfl, rfl⟩
  | 5, _, 0, _ =>
    go_enter Tryd.func26, Tryd.ntmps26
    go_wp2
    go_ret
    exact ⟨rfl, rfl⟩
  | 5, _, 1, _ =>
    go_enter Tryd.func26, Tryd.ntmps26
    go_wp2
    go_ret
    exact ⟨rfl, rfl⟩
  | 5, _, 2, _ =>
    go_enter Tryd.func26, Tryd.ntmps26
    go_wp2
    go_ret
    exact ⟨rfl, rfl⟩
  | 5, _, 3, _ =>
    go_enter Tryd.func26, Tryd.ntmps26
    go_wp2
    go_ret
    exact ⟨rfl, rfl⟩
  | 5, _, 4, _ =>
    go_enter Tryd.func26, Tryd.ntmps26
    go_wp2
    go_ret
    exact ⟨rfl, rfl⟩
  | 6, _, 0, _ =>
    go_enter Tryd.func26, Tryd.ntmps26
    go_wp2
    go_ret
    exact ⟨rfl, rfl⟩
  | 6, _, 1, _ =>
    go_enter Tryd.func26, Tryd.ntmps26
    go_wp2
    go_ret
    exact ⟨rfl, rfl⟩
  | 6, _, 2, _ =>
    go_enter Tryd.func26, Tryd.ntmps26
    go_wp2
    go_ret
    exact ⟨rfl, rfl⟩
  | 6, _, 3, _ =>
    go_enter Tryd.func26, Tryd.ntmps26
    go_wp2
    go_ret
    exact ⟨rfl, rfl⟩
  | 6, _, 4, _ =>
    go_enter Tryd.func26, Tryd.ntmps26
    go_wp2
    go_ret
    exact ⟨rfl, rfl⟩
  | 7, _, 0, _ =>
    go_enter Tryd.func26, Tryd.ntmps26
    go_wp2
    go_ret
    exact ⟨rfl, rfl⟩
  | 7, _, 1, _ =>
    go_enter Tryd.func26, Tryd.ntmps26
    go_wp2
    go_ret
    exact ⟨rfl, rfl⟩
  | 7, _, 2, _ =>
    go_enter Tryd.func26, Tryd.ntmps26
    go_wp2
    go_ret
    exact ⟨rfl, rfl⟩
  | 7, _, 3, _ =>
    go_enter Tryd.func26, Tryd.ntmps26
    go_wp2
    go_ret
    exact ⟨rfl, rfl⟩
  | 7, _, 4, _ =>
    go_enter Tryd.func26, Tryd.ntmps26
    go_wp2
    go_ret
    exact ⟨rfl, rfl⟩
  | 8, _, 0, _ =>
    go_enter Tryd.func26, Tryd.ntmps26
    go_wp2
    go_ret
    exact ⟨rfl, rfl⟩
  | 8, _, 1, _ =>
    go_enter Tryd.func26, Tryd.ntmps26
    go_wp2
    go_ret
    exact ⟨rfl, rfl⟩
  | 8, _, 2, _ =>
    go_enter Tryd.func26, Tryd.ntmps26
    go_wp2
    go_ret
    exact ⟨rfl, rfl⟩
  | 8, _, 3, _ =>
    go_enter Tryd.func26, Tryd.ntmps26
    go_wp2
    go_ret
    exact ⟨rfl, rfl⟩
  | 8, _, 4, _ =>
    go_enter Tryd.func26, Tryd.ntmps26
    go_wp2
    go_ret
    exact ⟨rfl, rfl⟩
  | 9, _, 0, _ =>
    go_enter Tryd.func26, Tryd.ntmps26
    go_wp2
    go_ret
    exact ⟨rfl, rfl⟩
  | 9, _, 1, _ =>
    go_enter Tryd.func26, Tryd.ntmps26
    go_wp2
    go_ret
    exact ⟨rfl, rfl⟩
  | 9, _, 2, _ =>
    go_enter Tryd.func26, Tryd.ntmps26
    go_wp2
    go_ret
    exact ⟨rfl, rfl⟩
  | 9, _, 3, _ =>
    go_enter Tryd.func26, Tryd.ntmps26
    go_wp2
    go_ret
    exact ⟨rfl, rfl⟩
  | 9, _, 4, _ =>
    go_enter Tryd.func26, Tryd.ntmps26
    go_wp2
    go_ret
    exact ⟨rfl, rfl⟩
  | 10, _, 0, _ =>
    go_enter Tryd.func26, Tryd.ntmps26
    go_wp2
    go_ret
    exact ⟨rfl, rfl⟩
  | 10, _, 1, _ =>
    go_enter Tryd.func26, Tryd.ntmps26
    go_wp2
    go_ret
    exact ⟨rfl, rfl⟩
  | 10, _, 2, _ =>
    go_enter Tryd.func26, Tryd.ntmps26
    go_wp2
    go_ret
    exact ⟨rfl, rfl⟩
  | 10, _, 3, _ =>
    go_enter Tryd.func26, Tryd.ntmps26
    go_wp2
    go_ret
    exact ⟨rfl, rfl⟩
  | 10, _, 4, _ =>
    go_enter Tryd.func26, Tryd.ntmps26
    go_wp2
    go_ret
    exact ⟨rfl, rfl⟩
  | 11, _, 0, _ =>
    go_enter Tryd.func26, Tryd.ntmps26
    go_wp2
    go_ret
    exact ⟨rfl, rfl⟩
  | 11, _, 1, _ =>
    go_enter Tryd.func26, Tryd.ntmps26
    go_wp2
    go_ret
    exact ⟨rfl, rfl⟩
  | 11, _, 2, _ =>
    go_enter Tryd.func26, Tryd.ntmps26
    go_wp2
    go_ret
    exact ⟨rfl, rfl⟩
  | 11, _, 3, _ =>
    go_enter Tryd.func26, Tryd.ntmps26
    go_wp2
    go_ret
    exact ⟨rfl, rfl⟩
  | 11, _, 4, _ =>
    go_enter Tryd.func26, Tryd.ntmps26
    go_wp2
    go_ret
    exact ⟨rfl, rfl⟩
end Go.Proofs.YtbipgkbnhpdmhaaDoor
