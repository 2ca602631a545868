/-
  Contracts of package roots: the calls that are told outside, refused or not; the document's.
-/
import Derived.Test.YtgfmimmiaalhcaaDoorPt7
import Derived.Test.YtgfmimmiaalhcaaDoorNum
namespace Go.Proofs.YtgfmimmiaalhcaaDoor
open Flo Go.RowKit

/-- an error value and its number -/
def Er (al : List Addr) (er : Value) (j : Nat) : Prop := (er = .nilIface ∧ j = 0) ∨ ∃ i, i < 19 ∧ er = ek al i ∧ j = i + 1
theorem Er.nil (al : List Addr) : Er al .nilIface 0 := Or.inl ⟨rfl, rfl⟩
theorem Er.mk (al : List Addr) (i : Nat) (h : i < 19) : Er al (ek al i) (i + 1) := Or.inr ⟨i, h, rfl, rfl⟩
theorem numE_c {al : List Addr} {er : Value} {j : Nat} (h : Er al er j) (w : World) (he : Errs w al) :
    Calls Tryd.prog 11 #[er] w fun e w' => e = .returned (.int .i64 (j : Nat)) ∧ Below w.heap.size w w' := by
  rcases h with ⟨rfl, rfl⟩ | ⟨i, hi, rfl, rfl⟩
  · refine (num_nil w).mono ?_
    rintro e w' ⟨rfl, rfl⟩
    exact ⟨rfl, Below.refl _ _⟩
  · refine (num_err al i hi w he).mono ?_
    rintro e w' ⟨rfl, hb⟩
    exact ⟨ret_int (by omega), hb⟩
theorem errLength_cell {w : World} {al : List Addr} (he : Errs w al) : w.cell? ⟨0, 0, none⟩ = some (ek al 6) := by
  obtain ⟨a0, a1, a2, a3, a4, a5, a6, a7, a8, a9, a10, a11, a12, a13, a14, a15, a16, a17, a18, rfl⟩ := he.len
  obtain ⟨_, _, _, _, _, _, h, _⟩ := he.sent
  exact h
set_option maxHeartbeats 1000000 in
theorem rootNo_c (n k : Int) (w : World) (al : List Addr) (he : Errs w al) (h : cu n = false) :
    Calls Tryd.prog 40 #[.int .i64 n, .int .i64 k] w fun e w' => e = .returned (.tuple #[.complex .f64 0 0, ek al 6]) ∧ Below w.heap.size w w' := by
  have hl := errLength_cell he
  have hcu := cuts_c n w
  rw [h] at hcu
  clear he h
  go_enter Tryd.func40, Tryd.ntmps40
  go_wp2_with fail
  refine hcu.mono ?_
  rintro e w1 ⟨rfl, rfl⟩
  go_wp2_with fail
  go_quiet (fail)
  go_wp2_with fail
  go_ret2
  exact ⟨rfl, below_drewN (Below.refl _ _) _⟩
set_option maxHeartbeats 1000000 in
theorem twistNo_c (a b : Nat) (n k : Int) (w : World) (al : List Addr) (he : Errs w al) (h : cu n = false) :
    Calls Tryd.prog 43 #[.complex .f64 a b, .int .i64 n, .int .i64 k] w fun e w' => e = .returned (.tuple #[.complex .f64 0 0, ek al 6]) ∧ Below w.heap.size w w' := by
  have hl := errLength_cell he
  have hcu := cuts_c n w
  rw [h] at hcu
  clear he h
  go_enter Tryd.func43, Tryd.ntmps43
  go_wp2_with fail
  refine hcu.mono ?_
  rintro e w1 ⟨rfl, rfl⟩
  go_wp2_with fail
  go_quiet (fail)
  go_wp2_with fail
  go_ret2
  exact ⟨rfl, below_drewN (Below.refl _ _) _⟩
/-- what Eighth answers: cosine, sine, the error's number -/
def eN (r n : Int) : Nat := if n < 1 ∨ 16777216 < n then 7 else if r < 0 ∨ n / 8 < r then 5 else 0
def eC (r n : Int) : Nat := if eN r n = 0 then Rp.eiC r.toNat n.toNat else 0
def eS (r n : Int) : Nat := if eN r n = 0 then Rp.eiS r.toNat n.toNat else 0
theorem eq_of_tuple3 {a b c d : Nat} {v : Value} (h : a = b) (h' : c = d) : Ending.returned (.tuple #[.float .f64 a, .float .f64 c, v]) = .returned (.tuple #[.float .f64 b, .float .f64 d, v]) := by rw [h, h']
set_option maxHeartbeats 1000000 in
theorem allNo_c (n : Int) (w : World) (al : List Addr) (he : Errs w al) (h : inn n = false) :
    Calls Tryd.prog 45 #[.int .i64 n] w fun e w' => e = .returned (.tuple #[.slice none 0 0, ek al 6]) ∧ Below w.heap.size w w' := by
  have hl := errLength_cell he
  have h' : ¬ (1 ≤ n ∧ n ≤ 16384) := of_decide_eq_false h
  clear he h
  by_cases h1 : n < 1
  · clear h'
    go_enter Tryd.func45, Tryd.ntmps45
    go_wp2_with fail
    go_quiet (fail)
    go_wp2_with fail
    go_ret2
    exact ⟨rfl, below_drewN (Below.refl _ _) _⟩
  · have h1' : decide (n < 1) = false := decide_eq_false h1
    have h2 : n > 16384 := by omega
    clear h'
    go_enter Tryd.func45, Tryd.ntmps45
    go_wp2_with fail
    go_quiet (fail)
    go_wp2_with fail
    go_ret2
    exact ⟨rfl, below_drewN (Below.refl _ _) _⟩
/-- what Cos and Sin answer -/
def cN (n : Int) : Nat := if cu n then 0 else 7
def cC (n k : Int) : Nat := if cu n then Rp.pc n.toNat (Rp.md n.toNat k) else 0
def cS (n k : Int) : Nat := if cu n then Rp.ps n.toNat (Rp.md n.toNat k) else 0
theorem ret_fi {a b : Nat} {c d : Int} (h : a = b) (h' : c = d) : Ending.returned (.tuple #[.float .f64 a, .int .i64 c]) = .returned (.tuple #[.float .f64 b, .int .i64 d]) := by rw [h, h']
theorem ret_fv {a b : Nat} {v : Value} (h : a = b) : Ending.returned (.tuple #[.float .f64 a, v]) = .returned (.tuple #[.float .f64 b, v]) := by rw [h]
end Go.Proofs.YtgfmimmiaalhcaaDoor
