/-
  Layer 13: Zoom of every list, the program's and the document's, refused or not.
-/
import Derived.Test.YtgfmimmiaalhcaaDoorCh4
import Derived.Test.YtgfmimmiaalhcaaDoorCr2
import Derived.Test.YtgfmimmiaalhcaaDoorLc2
namespace Go.Proofs.YtgfmimmiaalhcaaDoor
open Flo Go.RowKit
set_option maxHeartbeats 1000000 in
theorem r13ZoomNo_c (ao : Option Addr) (L cap : Nat) (m fr c : Int) (w : World) (hL : L ≤ 140737488355328) (h : nz L m c) :
    Calls Tryd.prog 25 #[.slice ao L cap, .int .i64 m, .int .i64 fr, .int .i64 c] w fun e w' => e = .returned (.tuple #[.slice none 0 0, .int .i64 7]) ∧ w' = w := by
  unfold nz at h
  by_cases h0 : L = 0
  · subst h0
    clear h
    go_enter Tryd.func25, Tryd.ntmps25
    go_wp2_with fail
    go_ret2
    exact ⟨rfl, rfl⟩
  · have q1 : ((L : Int) == 0) = false := beq_eq_false_iff_ne.2 (by omega)
    have q6 : ¬ (L : Int) = 0 := by omega
    by_cases h1 : m < 1
    · clear h
      go_enter Tryd.func25, Tryd.ntmps25
      go_wp2_with fail
      go_ret2
      exact ⟨rfl, rfl⟩
    · have q2 : decide (m < 1) = false := decide_eq_false h1
      by_cases h2 : 4194304 < m
      · have h2' : m > 4194304 := h2
        clear h
        go_enter Tryd.func25, Tryd.ntmps25
        go_wp2_with fail
        go_ret2
        exact ⟨rfl, rfl⟩
      · have q3 : decide (m > 4194304) = false := decide_eq_false (by omega)
        by_cases h3 : c < 0
        · clear h
          go_enter Tryd.func25, Tryd.ntmps25
          go_wp2_with fail
          go_ret2
          exact ⟨rfl, rfl⟩
        · have q4 : decide (c < 0) = false := decide_eq_false h3
          obtain ⟨D, hD, hD1⟩ : ∃ D : Nat, 1048576 / L = D ∧ (1048576 : Int).tdiv (L : Int) = (D : Int) := ⟨1048576 / L, (rfl : _ = _), by rw [Int.tdiv_eq_ediv_of_nonneg (by omega)]; rfl⟩
          have hD2 : D ≤ 1048576 := by rw [← hD]; exact Nat.div_le_self _ _
          rw [hD] at h
          have q5 : c > (D : Int) := by omega
          clear h hD
          go_enter Tryd.func25, Tryd.ntmps25
          go_wp2_with fail
          go_ret2
          exact ⟨rfl, rfl⟩
theorem Gro.nil13 (w : World) (B : Nat) (F : Nat → Nat × Nat) : Gro w B 0 (.slice none 0 0) F [] :=
  ⟨World.ownsRow_nil w B _ _, rfl, fun i hi => absurd hi (Nat.not_lt_zero i), fun i hi => absurd hi (Nat.not_lt_zero i)⟩
theorem Row.gro13 {w : World} {B g n : Nat} {F : Nat → Nat × Nat} {us : List (Nat × Nat)} (h : Row w g g n F n us) (hB : B ≤ g) : Gro w B n (.slice (some ⟨g, 0, none⟩) n n) F us := ⟨own_base h.own hB, h.len, h.lim, h.up⟩
theorem Gro.alike13 {w w' : World} {B B' i : Nat} {v v' : Value} {F : Nat → Nat × Nat} {us us' : List (Nat × Nat)} (h : Gro w B i v F us) (h' : Gro w' B' i v' F us') : Lks us us' :=
  ⟨h.len.trans h'.len.symm, fun k hk => (h.up k (by rw [← h.len]; exact hk)).trans (h'.up k (by rw [← h.len]; exact hk)).symm⟩
/-- is a zoom refused, told by a test -/
def nzb (L : Nat) (m c : Int) : Bool := decide (L = 0) || decide (m < 1) || decide (4194304 < m) || decide (c < 0) || decide (((1048576 / L : Nat) : Int) < c)
theorem nzb_iff {L : Nat} {m c : Int} : nzb L m c = true ↔ nz L m c := by unfold nzb nz; simp [or_assoc]
/-- how many come, and the error's number -/
def zN (L : Nat) (m c : Int) : Nat := if nzb L m c then 0 else c.toNat
def zE (L : Nat) (m c : Int) : Nat := if nzb L m c then 7 else 0
theorem zN_le (L : Nat) (m c : Int) : zN L m c ≤ 1048576 := by
  unfold zN
  cases h : nzb L m c
  · have h2 : ¬ nz L m c := fun hh => by rw [nzb_iff.2 hh] at h; cases h
    unfold nz at h2
    have h3 : 1048576 / L ≤ 1048576 := Nat.div_le_self _ _
    simp
    omega
  · simp
theorem nz_f {L : Nat} {m c : Int} (h : nzb L m c = false) : ∃ M C : Nat, m = (M : Int) ∧ c = (C : Int) ∧ 0 < L ∧ 0 < M ∧ M ≤ 4194304 ∧ C ≤ 1048576 / L ∧ zN L m c = C ∧ zE L m c = 0 := by
  have h2 : ¬ nz L m c := fun hh => by rw [nzb_iff.2 hh] at h; cases h
  unfold nz at h2
  obtain ⟨M, hM⟩ := Int.eq_ofNat_of_zero_le (show 0 ≤ m by omega)
  obtain ⟨C, hC⟩ := Int.eq_ofNat_of_zero_le (show 0 ≤ c by omega)
  refine ⟨M, C, hM, hC, by omega, by omega, by omega, by omega, ?_, ?_⟩
  · unfold zN; rw [h, hC]; rfl
  · unfold zE; rw [h]; rfl
theorem nz_t {L : Nat} {m c : Int} (h : nzb L m c = true) : zN L m c = 0 ∧ zE L m c = 7 := by
  unfold zN zE; rw [h]; exact ⟨rfl, rfl⟩
theorem pZ_c (v : Value) (zs : List (Nat × Nat)) (L : Nat) (m fr c : Int) (w : World) (al : List Addr) (he : Errs w al) (hx : RdC w v zs) (hl : Lim zs) (hz : zs.length = L) (hL : L ≤ 140737488355328) :
    Calls Tryd.prog 24 #[v, .int .i64 m, .int .i64 fr, .int .i64 c] w fun e w' => ∃ vy er us, e = .returned (.tuple #[vy, er]) ∧ Er al er (zE L m c) ∧ Gro w' w.heap.size (zN L m c) vy (zme m.toNat L fr fun j => zs.getD j (0, 0)) us ∧ Below w.heap.size w w' := by
  cases hb : nzb L m c
  · obtain ⟨M, C, rfl, rfl, h0, h1, h2, h3, h4, h5⟩ := nz_f hb
    refine (zoomOk_c v zs M L C fr w hx hl hz h0 hL h1 h2 h3).mono ?_
    rintro e w' ⟨g, us, rfl, hg, R, B⟩
    exact ⟨_, _, us, rfl, by rw [h5]; exact Er.nil al, by rw [h4, Int.toNat_natCast]; exact R.gro13 hg, B⟩
  · obtain ⟨h1, h2⟩ := nz_t hb
    obtain ⟨ao, cap, rfl⟩ := hx.slice hz
    refine (zoomNo_c ao L cap m fr c w al he hL (nzb_iff.1 hb)).mono ?_
    rintro e w' ⟨rfl, B⟩
    exact ⟨_, _, [], rfl, by rw [h2]; exact Er.mk al 6 (by decide), by rw [h1]; exact Gro.nil13 _ _ _, B⟩
theorem rZ_c (v : Value) (zs : List (Nat × Nat)) (L : Nat) (m fr c : Int) (w : World) (hx : RdC w v zs) (hl : Lim zs) (hz : zs.length = L) (hL : L ≤ 140737488355328) :
    Calls Tryd.prog 25 #[v, .int .i64 m, .int .i64 fr, .int .i64 c] w fun e w' => ∃ vz us, e = .returned (.tuple #[vz, .int .i64 (zE L m c : Nat)]) ∧ Gro w' w.heap.size (zN L m c) vz (zme m.toNat L fr fun j => zs.getD j (0, 0)) us ∧ Below w.heap.size w w' := by
  cases hb : nzb L m c
  · obtain ⟨M, C, rfl, rfl, h0, h1, h2, h3, h4, h5⟩ := nz_f hb
    refine (r13ZoomOk_c v zs M L C fr w hx hl hz h0 hL h1 h2 h3).mono ?_
    rintro e w' ⟨v', us, rfl, R, B⟩
    exact ⟨_, us, by rw [h5]; rfl, by rw [h4, Int.toNat_natCast]; exact R, B⟩
  · obtain ⟨h1, h2⟩ := nz_t hb
    obtain ⟨ao, cap, rfl⟩ := hx.slice hz
    refine (r13ZoomNo_c ao L cap m fr c w hL (nzb_iff.1 hb)).mono ?_
    rintro e w' ⟨rfl, rfl⟩
    exact ⟨_, [], by rw [h2]; rfl, by rw [h1]; exact Gro.nil13 _ _ _, Below.refl _ _⟩
end Go.Proofs.YtgfmimmiaalhcaaDoor
