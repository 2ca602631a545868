/-
  Contracts of package direct: the calls that are refused.
-/
import Derived.Test.YtehaokdjdhejlaaDoorDp5
import Derived.Test.YtehaokdjdhejlaaDoorDp4
import Derived.Test.YtehaokdjdhejlaaDoorPv7
namespace Go.Proofs.YtehaokdjdhejlaaDoor
open Flo Go.RowKit
set_option maxHeartbeats 1000000 in
theorem tableNo_c (n : Int) (w : World) (al : List Addr) (he : Errs w al) (h : n < 1 ∨ 1024 < n) :
    Calls Tryd.prog 30 #[.int .i64 n] w fun e w' => e = .returned (.tuple #[.slice none 0 0, ek al 6]) ∧ Below w.heap.size w w' := by
  by_cases h1 : 1024 < n
  · have h1' : n > 1024 := h1
    have hl := errLength_cell he
    clear he h
    go_enter Tryd.func30, Tryd.ntmps30
    go_wp2_with fail
    go_quiet (fail)
    go_wp2_with fail
    go_ret2
    exact ⟨rfl, below_drewN (Below.refl _ _) _⟩
  · have h1' : decide (n > 1024) = false := decide_eq_false h1
    have hA := allNo_c n w al he (decide_eq_false (by omega))
    clear he h
    go_enter Tryd.func30, Tryd.ntmps30
    go_wp2_with fail
    refine hA.mono ?_
    rintro e w1 ⟨rfl, B⟩
    have hB : Hid (Below w.heap.size w w1) := B
    clear hA B
    go_wp2_with fail
    go_ret2
    exact ⟨rfl, hB.out⟩
set_option maxHeartbeats 1000000 in
theorem forwardNo_c (ao : Option Addr) (n cap : Nat) (w : World) (al : List Addr) (he : Errs w al) (h : n < 1 ∨ 1024 < n) :
    Calls Tryd.prog 12 #[.slice ao n cap] w fun e w' => e = .returned (.tuple #[.slice none 0 0, ek al 6]) ∧ Below w.heap.size w w' := by
  have ht := tableNo_c (n : Int) w al he (by omega)
  clear he h
  have hnn := nnil_c al 6
  have hgd := guard_c al 6
  generalize ek al 6 = E at *
  go_enter Tryd.func12, Tryd.ntmps12
  go_wp2_with fail
  refine ht.mono ?_
  rintro e w1 ⟨rfl, B⟩
  have hB : Hid (Below w.heap.size w w1) := B
  clear ht B
  go_wp2_with fail
  go_ret2
  exact ⟨rfl, hB.out⟩
set_option maxHeartbeats 1000000 in
theorem inverseNo_c (ao : Option Addr) (n cap : Nat) (w : World) (al : List Addr) (he : Errs w al) (h : n < 1 ∨ 1024 < n) :
    Calls Tryd.prog 17 #[.slice ao n cap] w fun e w' => e = .returned (.tuple #[.slice none 0 0, ek al 6]) ∧ Below w.heap.size w w' := by
  have ht := tableNo_c (n : Int) w al he (by omega)
  clear he h
  have hnn := nnil_c al 6
  have hgd := guard_c al 6
  generalize ek al 6 = E at *
  go_enter Tryd.func17, Tryd.ntmps17
  go_wp2_with fail
  refine ht.mono ?_
  rintro e w1 ⟨rfl, B⟩
  have hB : Hid (Below w.heap.size w w1) := B
  clear ht B
  go_wp2_with fail
  go_ret2
  exact ⟨rfl, hB.out⟩
set_option maxHeartbeats 1000000 in
theorem slideNo_c (ao : Option Addr) (n cap g1 g2 v1 v2 : Nat) (w : World) (al : List Addr) (he : Errs w al) (h : n < 1 ∨ 1024 < n) :
    Calls Tryd.prog 19 #[.slice ao n cap, .complex .f64 g1 g2, .complex .f64 v1 v2] w fun e w' => e = .returned (.tuple #[.slice none 0 0, ek al 6]) ∧ Below w.heap.size w w' := by
  have ht := tableNo_c (n : Int) w al he (by omega)
  clear he h
  have hnn := nnil_c al 6
  have hgd := guard_c al 6
  generalize ek al 6 = E at *
  go_enter Tryd.func19, Tryd.ntmps19
  go_wp2_with fail
  refine ht.mono ?_
  rintro e w1 ⟨rfl, B⟩
  have hB : Hid (Below w.heap.size w w1) := B
  clear ht B
  go_wp2_with fail
  go_ret2
  exact ⟨rfl, hB.out⟩
set_option maxHeartbeats 1000000 in
theorem atNoL_c (v : Value) (p j n k : Int) (w : World) (al : List Addr) (he : Errs w al) (h : n < 1 ∨ 1024 < n) :
    Calls Tryd.prog 21 #[v, .int .i64 p, .int .i64 j, .int .i64 n, .int .i64 k] w fun e w' => e = .returned (.tuple #[.complex .f64 0 0, ek al 6]) ∧ Below w.heap.size w w' := by
  have ht := tableNo_c n w al he h
  clear he h
  have hnn := nnil_c al 6
  have hgd := guard_c al 6
  generalize ek al 6 = E at *
  go_enter Tryd.func21, Tryd.ntmps21
  go_wp2_with fail
  refine ht.mono ?_
  rintro e w1 ⟨rfl, B⟩
  have hB : Hid (Below w.heap.size w w1) := B
  clear ht B
  go_wp2_with fail
  go_ret2
  exact ⟨rfl, hB.out⟩
set_option maxHeartbeats 1000000 in
theorem atNoR_c (ao : Option Addr) (L cap n : Nat) (p j k : Int) (w : World) (al : List Addr) (he : Errs w al) (hL : L ≤ 140737488355328) (hn : 0 < n) (hn2 : n ≤ 1024) (hi : ins L p j n = false) :
    Calls Tryd.prog 21 #[.slice ao L cap, .int .i64 p, .int .i64 j, .int .i64 (n : Int), .int .i64 k] w fun e w' => e = .returned (.tuple #[.complex .f64 0 0, ek al 4]) ∧ Below w.heap.size w w' := by
  have heH : Hid (Errs w al) := he
  have hI := inside_c L n p j
  rw [hi] at hI
  clear he hi
  go_enter Tryd.func21, Tryd.ntmps21
  go_wp2_with fail
  refine (tableOk_c n w hn hn2).mono ?_
  rintro e w1 ⟨G, rfl, hG, T, B⟩
  have hB : Hid (Below w.heap.size w w1) := B
  have hr := errRange_cell (heH.out.below B)
  clear T B
  go_wp2_with fail
  refine (hI w1 hL hn hn2).mono ?_
  rintro e w2 ⟨rfl, rfl⟩
  go_wp2_with fail
  go_quiet (fail)
  have hB2 : Hid (Below w.heap.size w (w1.drewN nq)) := below_drewN hB.out _
  go_wp2_with fail
  go_ret2
  exact ⟨rfl, hB2.out⟩
end Go.Proofs.YtehaokdjdhejlaaDoor
