/-
  The statement ListingReads: the walk.
-/
import Derived.Test.YtlbnldbelfgokaaDoorSlv
import Derived.Test.YtlbnldbelfgokaaDoorLyy
namespace Go.Proofs.YtlbnldbelfgokaaDoor
open Flo Go.RowKit
theorem rls_len : ∀ (ls : List (List UInt8)) (k : Nat) (ss : List Sp.St), rls ls k = .ok ss → ss.length ≤ ls.length
  | [], k, ss, h => by rw [rls] at h; injection h with h; subst h; exact Nat.le_refl _
  | [l], k, ss, h => by
    rw [rls] at h
    split at h
    · injection h with h; subst h; exact Nat.zero_le _
    · cases h
  | l :: l' :: ls, k, ss, h => by
    rw [rls] at h
    cases hs : stl l with
    | none => rw [hs] at h; cases h
    | some s =>
      rw [hs] at h
      simp only at h
      split at h
      · cases hr : rls (l' :: ls) (k + 1) with
        | error e => rw [hr] at h; cases h
        | ok zs =>
          rw [hr] at h
          injection h with h
          subst h
          have := rls_len (l' :: ls) (k + 1) zs hr
          simp only [List.length_cons] at this ⊢; omega
      · cases h
theorem rdt_len {t : List UInt8} {p : Sp.Pg} (h : rdt t = .ok p) : p.steps.length ≤ t.length := by
  obtain ⟨w0, ws, _, _, _, hw, hr⟩ := text_lines t
  rw [hr] at h
  cases hh : hdl w0 with
  | none => rw [hh] at h; cases h
  | some xs =>
    rw [hh] at h
    simp only at h
    split at h
    · cases h
    · cases hl : rls ws 2 with
      | error e => rw [hl] at h; cases h
      | ok zs =>
        rw [hl] at h
        injection h with h
        subst h
        have := rls_len ws 2 zs hl
        show zs.length ≤ _
        omega
def zPg : Sp.Pg := ⟨0, 0, 0, 0, []⟩
/-- what is told of a text: the program, the line, the error, its number -/
def Pt (t : List UInt8) : Sp.Pg := match rdt t with | .ok p => p | .error _ => zPg
def kt (t : List UInt8) : Nat := match rdt t with | .ok _ => 0 | .error e => e.1
def evt (al : List Addr) (t : List UInt8) : Value := match rdt t with | .ok _ => .nilIface | .error e => ek al (bif e.2 then 8 else 5)
def ct (t : List UInt8) : Int := match rdt t with | .ok _ => 0 | .error e => bif e.2 then 9 else 6
theorem Pt_len (t : List UInt8) : (Pt t).steps.length ≤ t.length := by
  unfold Pt
  cases h : rdt t with
  | ok p => exact rdt_len h
  | error e => exact Nat.zero_le _
theorem ss_nil {w : World} (a : Option Addr) : Ss w a [] := fun i s hi => by simp at hi
theorem read_u {al : List Addr} {t : List UInt8} {w w' : World} {e : Ending} (h : RdE al t w e w') :
    Below w.heap.size w w' ∧ ∃ ao cap, e = .returned (.tuple #[pv (Pt t) (.slice ao (Pt t).steps.length cap), .int .i64 (kt t : Nat), evt al t]) ∧ Ss w' ao (Pt t).steps := by
  obtain ⟨hb, hc⟩ := h
  refine ⟨hb, ?_⟩
  rcases hc with ⟨k, b, hr, rfl⟩ | ⟨p, v, hr, rfl, ho⟩
  · refine ⟨none, 0, ?_, ?_⟩
    · unfold Pt kt evt; rw [hr]; rfl
    · unfold Pt; rw [hr]; exact ss_nil _
  · obtain ⟨ao, cap, rfl, hs⟩ := ho.ss
    refine ⟨ao, cap, ?_, ?_⟩
    · unfold Pt kt evt; rw [hr]; rfl
    · unfold Pt; rw [hr]; exact hs
theorem dread_u {t : List UInt8} {w w' : World} {e : Ending} (h : DqE t w e w') :
    Below w.heap.size w w' ∧ ∃ ao cap, e = .returned (.tuple #[pv (Pt t) (.slice ao (Pt t).steps.length cap), .int .i64 (kt t : Nat), .int .i64 (ct t)]) ∧ Ss w' ao (Pt t).steps := by
  obtain ⟨hb, hc⟩ := h
  refine ⟨hb, ?_⟩
  rcases hc with ⟨k, b, hr, rfl⟩ | ⟨p, v, hr, rfl, ho⟩
  · refine ⟨none, 0, ?_, ?_⟩
    · unfold Pt kt ct; rw [hr]; cases b <;> rfl
    · unfold Pt; rw [hr]; exact ss_nil _
  · obtain ⟨ao, cap, rfl, hs⟩ := ho.ss
    refine ⟨ao, cap, ?_, ?_⟩
    · unfold Pt kt ct; rw [hr]; rfl
    · unfold Pt; rw [hr]; exact hs
theorem num_evt (al : List Addr) (t : List UInt8) (w : World) (he : Errs w al) : Calls Tryd.prog 8 #[evt al t] w fun e w' => e = .returned (.int .i64 (ct t)) ∧ Below w.heap.size w w' := by
  unfold evt ct
  cases rdt t with
  | ok p =>
    refine (num_nil w).mono ?_
    rintro e w' ⟨rfl, rfl⟩
    exact ⟨rfl, Below.refl _ _⟩
  | error e =>
    obtain ⟨k, b⟩ := e
    cases b
    · exact num_err al 5 (by decide) w he
    · exact num_err al 8 (by decide) w he
set_option maxHeartbeats 16000000 in
set_option maxRecDepth 100000 in
theorem listingReads.walk (t : List UInt8) (hl : t.length ≤ 2000000) (al : List Addr) (w : World) (hL : Lf w al) (hE : Errs w al) :
    Calls Tryd.prog 3 #[.string (txb t)] w fun e w' => e = .returned (.bool true) ∧ Below w.heap.size w w' := by
  have LH : Hid (Lf w al) := hL
  have EH : Hid (Errs w al) := hE
  have hlv : Hid (Calls Tryd.prog 4 #[] w fun e w' => e = .returned (.bool true) ∧ Below w.heap.size w w') := llives_c al w hL.le
  have hr1 : Hid (∀ W, Below w.heap.size w W → Calls Tryd.prog 5 #[.string (txb t)] W fun e w' => RdE al t W e w') := fun W hW => lread_c t hl W al (LH.out.below hW)
  have hr2 : Hid (∀ W, Calls Tryd.prog 6 #[.string (txb t)] W fun e w' => DqE t W e w') := fun W => dRead_c t hl W
  have hln : Hid ((Pt t).steps.length ≤ 2000000) := by have := Pt_len t; show _ ≤ _; omega
  have hnm : Hid (∀ W, Below w.heap.size w W → Calls Tryd.prog 8 #[evt al t] W fun e w' => e = .returned (.int .i64 (ct t)) ∧ Below W.heap.size W w') := fun W hW => num_evt al t W (EH.out.below hW)
  obtain ⟨P, hP⟩ := hid_ex3 (Pt t)
  obtain ⟨K, hK⟩ := hid_ex3 (kt t)
  obtain ⟨EV, hEV⟩ := hid_ex3 (evt al t)
  obtain ⟨CT, hCT⟩ := hid_ex3 (ct t)
  rw [hP.out] at hln
  rw [hEV.out, hCT.out] at hnm
  clear hl hL hE
  go_enter Tryd.func3, Tryd.ntmps3
  go_wp2_with fail
  refine hlv.out.mono ?_
  rintro e w1 ⟨rfl, B1⟩
  have R1 : Hid (Below w.heap.size w w1) := B1
  clear B1 hlv
  go_wp2_with fail
  refine (hr1.out w1 R1.out).mono ?_
  intro e w2 h2
  obtain ⟨B2, ao, cap, rfl, S2⟩ := read_u h2
  rw [hP.out, hK.out, hEV.out]
  rw [hP.out] at S2
  have R2 : Hid (Below w.heap.size w w2) := R1.out.trans (B2.mono R1.out.size)
  have S2H : Hid (Ss w2 ao P.steps) := S2
  clear B2 h2 S2 hr1
  obtain ⟨n, hn⟩ := hid_ex3 P.steps.length
  rw [hn.out]
  obtain ⟨b4, hb4⟩ := hid_ex3 w2.heap.size
  obtain ⟨w3, ew3⟩ := hid_ex3 (w2.alloc (.cells #[.int .i64 P.len, .int .i64 P.cells, .int .i64 P.inn, .int .i64 P.out, .slice ao n cap] 25))
  have L3 : Hid (Below w2.heap.size w2 w3) := by rw [← ew3.out]; exact (Below.refl _ _).alloc (Nat.le_refl _) _
  have R3 : Hid (Below w.heap.size w w3) := R2.out.trans (L3.out.mono R2.out.size)
  have X3 : Hid (Bpg w3 b4 P (.slice ao n cap)) := by rw [← ew3.out, ← hb4.out]; exact Bpg.new w2 P _
  have S3 : Hid (Ss w3 ao P.steps) := S2H.out.below L3.out
  unfold pv
  go_upto_region 5 with fail
  rw [ew3.out, hb4.out]
  go_wp2_with fail
  refine (hr2.out w3).mono ?_
  intro e w4 h4
  obtain ⟨B4, ao2, cap2, rfl, S4⟩ := dread_u h4
  rw [hP.out, hK.out, hCT.out]
  rw [hP.out] at S4
  have R4 : Hid (Below w.heap.size w w4) := R3.out.trans (B4.mono R3.out.size)
  have X4 : Hid (Bpg w4 b4 P (.slice ao n cap)) := X3.out.below B4
  have S4a : Hid (Ss w4 ao P.steps) := S3.out.below B4
  have S4b : Hid (Ss w4 ao2 P.steps) := S4
  clear B4 h4 S4 hr2
  rw [hn.out]
  obtain ⟨b7, hb7⟩ := hid_ex3 w4.heap.size
  obtain ⟨w5, ew5⟩ := hid_ex3 (w4.alloc (.cells #[.int .i64 P.len, .int .i64 P.cells, .int .i64 P.inn, .int .i64 P.out, .slice ao2 n cap2] 25))
  have L5 : Hid (Below w4.heap.size w4 w5) := by rw [← ew5.out]; exact (Below.refl _ _).alloc (Nat.le_refl _) _
  have R5 : Hid (Below w.heap.size w w5) := R4.out.trans (L5.out.mono R4.out.size)
  have X5 : Hid (Bpg w5 b4 P (.slice ao n cap)) := X4.out.below L5.out
  have Y5 : Hid (Bpg w5 b7 P (.slice ao2 n cap2)) := by rw [← ew5.out, ← hb7.out]; exact Bpg.new w4 P _
  have hsm : Hid (Calls Tryd.prog 7 #[.agg #[.int .i64 P.len, .int .i64 P.cells, .int .i64 P.inn, .int .i64 P.out, .slice ao n cap], .agg #[.int .i64 P.len, .int .i64 P.cells, .int .i64 P.inn, .int .i64 P.out, .slice ao2 n cap2]] w5 fun e w' => e = .returned (.bool true) ∧ Below w5.heap.size w5 w') := by
    have h9 := dsame_c P P ao ao2 n n cap cap2 w5 (S4a.out.below L5.out) (S4b.out.below L5.out) hn.out.symm hn.out.symm (by have h1 := hn.out; have h2 := hln.out; omega)
    rw [pgeq_iff.2 rfl] at h9
    exact h9
  unfold pv
  go_upto_region 6 with fail
  rw [ew5.out, hb7.out]
  obtain ⟨x0, x1, x2, x3, x4⟩ := X5.out
  obtain ⟨y0, y1, y2, y3, y4⟩ := Y5.out
  go_wp2_with fail
  refine hsm.out.mono ?_
  rintro e w6 ⟨rfl, B6⟩
  have R6 : Hid (Below w.heap.size w w6) := R5.out.trans (B6.mono R5.out.size)
  clear B6 hsm
  go_wp2_with fail
  refine (hnm.out w6 R6.out).mono ?_
  rintro e w7 ⟨rfl, B7⟩
  have R7 : Hid (Below w.heap.size w w7) := R6.out.trans (B7.mono R6.out.size)
  clear B7
  go_wp2
  go_ret
  exact ⟨rfl, R7.out⟩
end Go.Proofs.YtlbnldbelfgokaaDoor
