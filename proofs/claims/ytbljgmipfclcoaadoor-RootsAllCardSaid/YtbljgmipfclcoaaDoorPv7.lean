/-
  Contracts of package roots: the calls that are told outside, refused or not; the document's.
-/
import Derived.Test.YtbljgmipfclcoaaDoorPt7
import Derived.Test.YtbljgmipfclcoaaDoorNum
namespace Go.Proofs.YtbljgmipfclcoaaDoor
open Flo Go.RowKit

/-- an error value and its number -/
def Er (al : List Addr) (er : Value) (j : Nat) : Prop := (er = .nilIface ∧ j = 0) ∨ ∃ i, i < 19 ∧ er = ek al i ∧ j = i + 1
theorem Er.nil (al : List Addr) : Er al .nilIface 0 := Or.inl ⟨rfl, rfl⟩
theorem Er.mk (al : List Addr) (i : Nat) (h : i < 19) : Er al (ek al i) (i + 1) := Or.inr ⟨i, h, rfl, rfl⟩
theorem numE_c {al : List Addr} {er : Value} {j : Nat} (h : Er al er j) (w : World) (he : Errs w al) :
    Calls Tryd.prog 12 #[er] w fun e w' => e = .returned (.int .i64 (j : Nat)) ∧ Below w.heap.size w w' := by
  rcases h with ⟨rfl, rfl⟩ | ⟨i, hi, rfl, rfl⟩
  · refine (num_nil w).mono ?_
    rintro e w' ⟨rfl, rfl⟩
    exact ⟨rfl, Below.refl _ _⟩
  · refine (num_err al i hi w he).mono ?_
    rintro e w' ⟨rfl, hb⟩
    exact ⟨ret_int (by omega), hb⟩
theorem errLength_cell {w : World} {al : List Addr} (he : Errs w al) : w.cell? ⟨0, 0, none⟩ = some (ek al 6) := by
  obtain ⟨a0, a1, a2, a3, a4, a5, a6, a7, a8, a9, a10, a11, a12, a13, a14, a15, a16, a17, a18, rfl⟩ := he.len
  obtain ⟨_, _, _, _, _, _, h, _⟩ := he.sent
  exact h
set_option maxHeartbeats 1000000 in
theorem rootNo_c (n k : Int) (w : World) (al : List Addr) (he : Errs w al) (h : cu n = false) :
    Calls Tryd.prog 18 #[.int .i64 n, .int .i64 k] w fun e w' => e = .returned (.tuple #[.complex .f64 0 0, ek al 6]) ∧ Below w.heap.size w w' := by
  have hl := errLength_cell he
  have hcu := cuts_c n w
  rw [h] at hcu
  clear he h
  go_enter Tryd.func18, Tryd.ntmps18
  go_wp2_with fail
  refine hcu.mono ?_
  rintro e w1 ⟨rfl, rfl⟩
  go_wp2_with fail
  go_quiet (fail)
  go_wp2_with fail
  go_ret2
  exact ⟨rfl, below_drewN (Below.refl _ _) _⟩
set_option maxHeartbeats 1000000 in
theorem cosNo_c (n k : Int) (w : World) (al : List Addr) (he : Errs w al) (h : cu n = false) :
    Calls Tryd.prog 14 #[.int .i64 n, .int .i64 k] w fun e w' => e = .returned (.tuple #[.float .f64 0, ek al 6]) ∧ Below w.heap.size w w' := by
  have hl := errLength_cell he
  have hcu := cuts_c n w
  rw [h] at hcu
  clear he h
  go_enter Tryd.func14, Tryd.ntmps14
  go_wp2_with fail
  refine hcu.mono ?_
  rintro e w1 ⟨rfl, rfl⟩
  go_wp2_with fail
  go_quiet (fail)
  go_wp2_with fail
  go_ret2
  exact ⟨rfl, below_drewN (Below.refl _ _) _⟩
set_option maxHeartbeats 1000000 in
theorem sinNo_c (n k : Int) (w : World) (al : List Addr) (he : Errs w al) (h : cu n = false) :
    Calls Tryd.prog 16 #[.int .i64 n, .int .i64 k] w fun e w' => e = .returned (.tuple #[.float .f64 0, ek al 6]) ∧ Below w.heap.size w w' := by
  have hl := errLength_cell he
  have hcu := cuts_c n w
  rw [h] at hcu
  clear he h
  go_enter Tryd.func16, Tryd.ntmps16
  go_wp2_with fail
  refine hcu.mono ?_
  rintro e w1 ⟨rfl, rfl⟩
  go_wp2_with fail
  go_quiet (fail)
  go_wp2_with fail
  go_ret2
  exact ⟨rfl, below_drewN (Below.refl _ _) _⟩
set_option maxHeartbeats 1000000 in
theorem twistNo_c (a b : Nat) (n k : Int) (w : World) (al : List Addr) (he : Errs w al) (h : cu n = false) :
    Calls Tryd.prog 22 #[.complex .f64 a b, .int .i64 n, .int .i64 k] w fun e w' => e = .returned (.tuple #[.complex .f64 0 0, ek al 6]) ∧ Below w.heap.size w w' := by
  have hl := errLength_cell he
  have hcu := cuts_c n w
  rw [h] at hcu
  clear he h
  go_enter Tryd.func22, Tryd.ntmps22
  go_wp2_with fail
  refine hcu.mono ?_
  rintro e w1 ⟨rfl, rfl⟩
  go_wp2_with fail
  go_quiet (fail)
  go_wp2_with fail
  go_ret2
  exact ⟨rfl, below_drewN (Below.refl _ _) _⟩
/-- what Eighth answers: cosine, sine, the error's number -/
def eN (r n : Int) : Nat := if n < 1 ∨ 16777216 < n then 7 else if r < 0 ∨ n / 8 < r then 5 else 0
def eC (r n : Int) : Nat := if eN r n = 0 then Rp.eiC r.toNat n.toNat else 0
def eS (r n : Int) : Nat := if eN r n = 0 then Rp.eiS r.toNat n.toNat else 0
theorem eq_of_tuple3 {a b c d : Nat} {v : Value} (h : a = b) (h' : c = d) : Ending.returned (.tuple #[.float .f64 a, .float .f64 c, v]) = .returned (.tuple #[.float .f64 b, .float .f64 d, v]) := by rw [h, h']
set_option maxHeartbeats 1000000 in
theorem Eighth_c (r n : Int) (w : World) (al : List Addr) (he : Errs w al) :
    Calls Tryd.prog 10 #[.int .i64 r, .int .i64 n] w fun e w' => ∃ er, e = .returned (.tuple #[.float .f64 (eC r n), .float .f64 (eS r n), er]) ∧ Er al er (eN r n) ∧ Below w.heap.size w w' := by
  have hl := errLength_cell he
  have hr := errRange_cell he
  clear he
  by_cases h1 : n < 1 ∨ 16777216 < n
  · have vN : Hid (eN r n = 7) := (by unfold eN; rw [if_pos h1] : eN r n = 7)
    have vC : Hid (0 = eC r n) := (by unfold eC; rw [vN.out]; rfl : 0 = eC r n)
    have vS : Hid (0 = eS r n) := (by unfold eS; rw [vN.out]; rfl : 0 = eS r n)
    by_cases h2 : n < 1
    · clear h1
      go_enter Tryd.func10, Tryd.ntmps10
      go_wp2_with fail
      go_quiet (fail)
      go_wp2_with fail
      go_ret3
      exact ⟨_, eq_of_tuple3 vC.out vS.out, by rw [vN.out]; exact Er.mk al 6 (by decide), below_drewN (Below.refl _ _) _⟩
    · have h3 : 16777216 < n := by omega
      have h2' : decide (n < 1) = false := decide_eq_false h2
      have h3' : n > 16777216 := h3
      clear h1
      go_enter Tryd.func10, Tryd.ntmps10
      go_wp2_with fail
      go_quiet (fail)
      go_wp2_with fail
      go_ret3
      exact ⟨_, eq_of_tuple3 vC.out vS.out, by rw [vN.out]; exact Er.mk al 6 (by decide), below_drewN (Below.refl _ _) _⟩
  · have h2' : decide (n < 1) = false := decide_eq_false (by omega)
    have h3' : decide (n > 16777216) = false := decide_eq_false (by omega)
    by_cases h4 : r < 0 ∨ n / 8 < r
    · have vN : Hid (eN r n = 5) := (by unfold eN; rw [if_neg h1, if_pos h4] : eN r n = 5)
      have vC : Hid (0 = eC r n) := (by unfold eC; rw [vN.out]; rfl : 0 = eC r n)
      have vS : Hid (0 = eS r n) := (by unfold eS; rw [vN.out]; rfl : 0 = eS r n)
      have e8 : n.tdiv 8 = n / 8 := Int.tdiv_eq_ediv_of_nonneg (by omega)
      by_cases h5 : r < 0
      · clear h4 h1
        go_enter Tryd.func10, Tryd.ntmps10
        go_wp2_with fail
        go_quiet (fail)
        go_wp2_with fail
        go_ret3
        exact ⟨_, eq_of_tuple3 vC.out vS.out, by rw [vN.out]; exact Er.mk al 4 (by decide), below_drewN (Below.refl _ _) _⟩
      · have h6 : r > n / 8 := by omega
        have h5' : decide (r < 0) = false := decide_eq_false h5
        have q0 : 0 ≤ n / 8 := by omega
        have q1 : n / 8 ≤ 2097152 := by omega
        generalize n / 8 = q at *
        clear h4 h1
        go_enter Tryd.func10, Tryd.ntmps10
        go_wp2_with fail
        go_quiet (fail)
        go_wp2_with fail
        go_ret3
        exact ⟨_, eq_of_tuple3 vC.out vS.out, by rw [vN.out]; exact Er.mk al 4 (by decide), below_drewN (Below.refl _ _) _⟩
    · have vN : Hid (eN r n = 0) := (by unfold eN; rw [if_neg h1, if_neg h4] : eN r n = 0)
      have vC : Hid (Rp.eiC r.toNat n.toNat = eC r n) := (by unfold eC; rw [if_pos vN.out] : Rp.eiC r.toNat n.toNat = eC r n)
      have vS : Hid (Rp.eiS r.toNat n.toNat = eS r n) := (by unfold eS; rw [if_pos vN.out] : Rp.eiS r.toNat n.toNat = eS r n)
      have e8 : n.tdiv 8 = n / 8 := Int.tdiv_eq_ediv_of_nonneg (by omega)
      have h5' : decide (r < 0) = false := decide_eq_false (by omega)
      have h6' : decide (r > n / 8) = false := decide_eq_false (by omega)
      have hei := eighth_e r n r.toNat n.toNat w (by omega) (by omega) (by omega) (by omega)
      rw [vC.out, vS.out] at hei
      have q0 : 0 ≤ n / 8 := by omega
      have q1 : n / 8 ≤ 2097152 := by omega
      generalize n / 8 = q at *
      generalize eC r n = c at *
      generalize eS r n = s at *
      clear h4 h1
      go_enter Tryd.func10, Tryd.ntmps10
      go_wp2_with fail
      refine hei.mono ?_
      rintro e w2 ⟨rfl, B⟩
      go_wp2_with fail
      go_ret3
      exact ⟨_, rfl, by rw [vN.out]; exact Er.nil al, B⟩
set_option maxHeartbeats 1000000 in
theorem allNo_c (n : Int) (w : World) (al : List Addr) (he : Errs w al) (h : inn n = false) :
    Calls Tryd.prog 24 #[.int .i64 n] w fun e w' => e = .returned (.tuple #[.slice none 0 0, ek al 6]) ∧ Below w.heap.size w w' := by
  have hl := errLength_cell he
  have h' : ¬ (1 ≤ n ∧ n ≤ 16384) := of_decide_eq_false h
  clear he h
  by_cases h1 : n < 1
  · clear h'
    go_enter Tryd.func24, Tryd.ntmps24
    go_wp2_with fail
    go_quiet (fail)
    go_wp2_with fail
    go_ret2
    exact ⟨rfl, below_drewN (Below.refl _ _) _⟩
  · have h1' : decide (n < 1) = false := decide_eq_false h1
    have h2 : n > 16384 := by omega
    clear h'
    go_enter Tryd.func24, Tryd.ntmps24
    go_wp2_with fail
    go_quiet (fail)
    go_wp2_with fail
    go_ret2
    exact ⟨rfl, below_drewN (Below.refl _ _) _⟩
theorem length_c (n : Int) (w : World) : Calls Tryd.prog 36 #[.int .i64 n] w fun e w' => e = .returned (.bool (cu n)) ∧ w' = w := by
  by_cases h1 : 1 ≤ n
  · by_cases h2 : n ≤ 4194304
    · have hv : Hid (true = cu n) := ((decide_eq_true ⟨h1, h2⟩ : cu n = true).symm : true = cu n)
      go_enter Tryd.func36, Tryd.ntmps36
      go_wp2
      go_ret
      exact ⟨ret_bool hv.out, rfl⟩
    · have hv : Hid (false = cu n) := ((decide_eq_false (fun h => h2 h.2) : cu n = false).symm : false = cu n)
      have h2' : decide (n ≤ 4194304) = false := decide_eq_false h2
      go_enter Tryd.func36, Tryd.ntmps36
      go_wp2
      go_ret
      exact ⟨ret_bool hv.out, rfl⟩
  · have hv : Hid (false = cu n) := ((decide_eq_false (fun h => h1 h.1) : cu n = false).symm : false = cu n)
    have h1' : decide (1 ≤ n) = false := decide_eq_false h1
    have h1'' : decide (n ≥ 1) = false := decide_eq_false h1
    go_enter Tryd.func36, Tryd.ntmps36
    go_wp2
    go_ret
    exact ⟨ret_bool hv.out, rfl⟩
/-- what Cos and Sin answer -/
def cN (n : Int) : Nat := if cu n then 0 else 7
def cC (n k : Int) : Nat := if cu n then Rp.pc n.toNat (Rp.md n.toNat k) else 0
def cS (n k : Int) : Nat := if cu n then Rp.ps n.toNat (Rp.md n.toNat k) else 0
theorem ret_fi {a b : Nat} {c d : Int} (h : a = b) (h' : c = d) : Ending.returned (.tuple #[.float .f64 a, .int .i64 c]) = .returned (.tuple #[.float .f64 b, .int .i64 d]) := by rw [h, h']
theorem ret_fv {a b : Nat} {v : Value} (h : a = b) : Ending.returned (.tuple #[.float .f64 a, v]) = .returned (.tuple #[.float .f64 b, v]) := by rw [h]
theorem cos_c (n k : Int) (w : World) (al : List Addr) (he : Errs w al) :
    Calls Tryd.prog 14 #[.int .i64 n, .int .i64 k] w fun e w' => ∃ er, e = .returned (.tuple #[.float .f64 (cC n k), er]) ∧ Er al er (cN n) ∧ Below w.heap.size w w' := by
  cases hc : cu n
  · refine (cosNo_c n k w al he hc).mono ?_
    rintro e w' ⟨rfl, B⟩
    refine ⟨_, ret_fv (by unfold cC; rw [hc]; rfl), ?_, B⟩
    unfold cN; rw [hc]; exact Er.mk al 6 (by decide)
  · obtain ⟨h1, h2⟩ := cu_t hc
    have := cosOk_c n.toNat k w (by omega) (by omega)
    rw [Int.toNat_of_nonneg (by omega)] at this
    refine this.mono ?_
    rintro e w' ⟨rfl, B⟩
    refine ⟨_, ret_fv (by unfold cC; rw [hc]; rfl), ?_, B⟩
    unfold cN; rw [hc]; exact Er.nil al
set_option maxHeartbeats 1000000 in
theorem r7Cos_c (n k : Int) (w : World) :
    Calls Tryd.prog 15 #[.int .i64 n, .int .i64 k] w fun e w' => e = .returned (.tuple #[.float .f64 (cC n k), .int .i64 (cN n : Nat)]) ∧ ∃ d, w' = w.drewN d := by
  have hl := length_c n w
  cases hc : cu n
  · rw [hc] at hl
    have v1 : Hid (0 = cC n k) := (by unfold cC; rw [hc]; rfl : 0 = cC n k)
    have v2 : Hid ((7 : Int) = (cN n : Nat)) := (by unfold cN; rw [hc]; rfl : (7 : Int) = (cN n : Nat))
    clear hc
    go_enter Tryd.func15, Tryd.ntmps15
    go_wp2_with fail
    refine hl.mono ?_
    rintro e w1 ⟨rfl, rfl⟩
    go_wp2_with fail
    go_ret2
    exact ⟨ret_fi v1.out v2.out, 0, rfl⟩
  · obtain ⟨h1, h2⟩ := cu_t hc
    rw [hc] at hl
    have v1 : Hid (cC n k = Rp.pc n.toNat (Rp.md n.toNat k)) := (by unfold cC; rw [hc]; rfl : cC n k = _)
    have v2 : Hid ((0 : Int) = (cN n : Nat)) := (by unfold cN; rw [hc]; rfl : (0 : Int) = (cN n : Nat))
    have hp := pair7_c n.toNat k w (by omega) (by omega)
    rw [Int.toNat_of_nonneg (by omega)] at hp
    clear hc
    generalize Rp.pc n.toNat (Rp.md n.toNat k) = c at *
    generalize Rp.ps n.toNat (Rp.md n.toNat k) = s at *
    go_enter Tryd.func15, Tryd.ntmps15
    go_wp2_with fail
    refine hl.mono ?_
    rintro e w1 ⟨rfl, rfl⟩
    go_wp2_with fail
    refine hp.mono ?_
    rintro e w2 ⟨rfl, d, rfl⟩
    go_wp2_with fail
    go_ret2
    exact ⟨ret_fi v1.out.symm v2.out, d, rfl⟩
theorem sin_c (n k : Int) (w : World) (al : List Addr) (he : Errs w al) :
    Calls Tryd.prog 16 #[.int .i64 n, .int .i64 k] w fun e w' => ∃ er, e = .returned (.tuple #[.float .f64 (cS n k), er]) ∧ Er al er (cN n) ∧ Below w.heap.size w w' := by
  cases hc : cu n
  · refine (sinNo_c n k w al he hc).mono ?_
    rintro e w' ⟨rfl, B⟩
    refine ⟨_, ret_fv (by unfold cS; rw [hc]; rfl), ?_, B⟩
    unfold cN; rw [hc]; exact Er.mk al 6 (by decide)
  · obtain ⟨h1, h2⟩ := cu_t hc
    have := sinOk_c n.toNat k w (by omega) (by omega)
    rw [Int.toNat_of_nonneg (by omega)] at this
    refine this.mono ?_
    rintro e w' ⟨rfl, B⟩
    refine ⟨_, ret_fv (by unfold cS; rw [hc]; rfl), ?_, B⟩
    unfold cN; rw [hc]; exact Er.nil al
set_option maxHeartbeats 1000000 in
theorem r7Sin_c (n k : Int) (w : World) :
    Calls Tryd.prog 17 #[.int .i64 n, .int .i64 k] w fun e w' => e = .returned (.tuple #[.float .f64 (cS n k), .int .i64 (cN n : Nat)]) ∧ ∃ d, w' = w.drewN d := by
  have hl := length_c n w
  cases hc : cu n
  · rw [hc] at hl
    have v1 : Hid (0 = cS n k) := (by unfold cS; rw [hc]; rfl : 0 = cS n k)
    have v2 : Hid ((7 : Int) = (cN n : Nat)) := (by unfold cN; rw [hc]; rfl : (7 : Int) = (cN n : Nat))
    clear hc
    go_enter Tryd.func17, Tryd.ntmps17
    go_wp2_with fail
    refine hl.mono ?_
    rintro e w1 ⟨rfl, rfl⟩
    go_wp2_with fail
    go_ret2
    exact ⟨ret_fi v1.out v2.out, 0, rfl⟩
  · obtain ⟨h1, h2⟩ := cu_t hc
    rw [hc] at hl
    have v1 : Hid (cS n k = Rp.ps n.toNat (Rp.md n.toNat k)) := (by unfold cS; rw [hc]; rfl : cS n k = _)
    have v2 : Hid ((0 : Int) = (cN n : Nat)) := (by unfold cN; rw [hc]; rfl : (0 : Int) = (cN n : Nat))
    have hp := pair7_c n.toNat k w (by omega) (by omega)
    rw [Int.toNat_of_nonneg (by omega)] at hp
    clear hc
    generalize Rp.pc n.toNat (Rp.md n.toNat k) = c at *
    generalize Rp.ps n.toNat (Rp.md n.toNat k) = s at *
    go_enter Tryd.func17, Tryd.ntmps17
    go_wp2_with fail
    refine hl.mono ?_
    rintro e w1 ⟨rfl, rfl⟩
    go_wp2_with fail
    refine hp.mono ?_
    rintro e w2 ⟨rfl, d, rfl⟩
    go_wp2_with fail
    go_ret2
    exact ⟨ret_fi v1.out.symm v2.out, d, rfl⟩
set_option maxHeartbeats 1000000 in
theorem r7Eighth_c (r n : Int) (w : World) :
    Calls Tryd.prog 11 #[.int .i64 r, .int .i64 n] w fun e w' => e = .returned (.tuple #[.float .f64 (eC r n), .float .f64 (eS r n), .int .i64 (eN r n : Nat)]) ∧ ∃ d, w' = w.drewN d := by
  by_cases h1 : n < 1 ∨ 16777216 < n
  · have vN : Hid (eN r n = 7) := (by unfold eN; rw [if_pos h1] : eN r n = 7)
    have vC : Hid (eC r n = 0) := (by unfold eC; rw [vN.out]; rfl : eC r n = 0)
    have vS : Hid (eS r n = 0) := (by unfold eS; rw [vN.out]; rfl : eS r n = 0)
    rw [vN.out, vC.out, vS.out]
    by_cases h2 : n < 1
    · clear h1
      go_enter Tryd.func11, Tryd.ntmps11
      go_wp2_with fail
      go_ret3
      exact ⟨rfl, 0, rfl⟩
    · have h3 : 16777216 < n := by omega
      have h2' : decide (n < 1) = false := decide_eq_false h2
      have h3' : n > 16777216 := h3
      clear h1
      go_enter Tryd.func11, Tryd.ntmps11
      go_wp2_with fail
      go_ret3
      exact ⟨rfl, 0, rfl⟩
  · have h2' : decide (n < 1) = false := decide_eq_false (by omega)
    have h3' : decide (n > 16777216) = false := decide_eq_false (by omega)
    by_cases h4 : r < 0 ∨ n / 8 < r
    · have vN : Hid (eN r n = 5) := (by unfold eN; rw [if_neg h1, if_pos h4] : eN r n = 5)
      have vC : Hid (eC r n = 0) := (by unfold eC; rw [vN.out]; rfl : eC r n = 0)
      have vS : Hid (eS r n = 0) := (by unfold eS; rw [vN.out]; rfl : eS r n = 0)
      rw [vN.out, vC.out, vS.out]
      have e8 : n.tdiv 8 = n / 8 := Int.tdiv_eq_ediv_of_nonneg (by omega)
      have q0 : 0 ≤ n / 8 := by omega
      have q1 : n / 8 ≤ 2097152 := by omega
      by_cases h5 : r < 0
      · clear h4 h1
        go_enter Tryd.func11, Tryd.ntmps11
        go_wp2_with fail
        go_ret3
        exact ⟨rfl, 0, rfl⟩
      · have h6 : r > n / 8 := by omega
        have h5' : decide (r < 0) = false := decide_eq_false h5
        generalize n / 8 = q at *
        clear h4 h1
        go_enter Tryd.func11, Tryd.ntmps11
        go_wp2_with fail
        go_ret3
        exact ⟨rfl, 0, rfl⟩
    · have vN : Hid (eN r n = 0) := (by unfold eN; rw [if_neg h1, if_neg h4] : eN r n = 0)
      have vC : Hid (eC r n = Rp.eiC r.toNat n.toNat) := (by unfold eC; rw [if_pos vN.out] : eC r n = _)
      have vS : Hid (eS r n = Rp.eiS r.toNat n.toNat) := (by unfold eS; rw [if_pos vN.out] : eS r n = _)
      rw [vN.out, vC.out, vS.out]
      have e8 : n.tdiv 8 = n / 8 := Int.tdiv_eq_ediv_of_nonneg (by omega)
      have h5' : decide (r < 0) = false := decide_eq_false (by omega)
      have h6' : decide (r > n / 8) = false := decide_eq_false (by omega)
      have hei := ei7_e r n r.toNat n.toNat w (by omega) (by omega) (by omega) (by omega) (by omega)
      have q0 : 0 ≤ n / 8 := by omega
      have q1 : n / 8 ≤ 2097152 := by omega
      generalize n / 8 = q at *
      generalize Rp.eiC r.toNat n.toNat = c at *
      generalize Rp.eiS r.toNat n.toNat = s at *
      clear h4 h1
      go_enter Tryd.func11, Tryd.ntmps11
      go_wp2_with fail
      refine hei.mono ?_
      rintro e w2 ⟨rfl, d, rfl⟩
      go_wp2_with fail
      go_ret3
      exact ⟨rfl, d, rfl⟩
end Go.Proofs.YtbljgmipfclcoaaDoor
