/-
  The walk of RootsPlaces.
-/
import Derived.Test.YtbljgmipfclcoaaDoorPx7
import Derived.Test.YtbljgmipfclcoaaDoorSgn
import Derived.Test.YtbljgmipfclcoaaDoorRows
import Derived.Deep.Cut
namespace Go.Proofs.YtbljgmipfclcoaaDoor
open Flo Go.RowKit
theorem root_pl (n : Nat) (k : Int) (h : 0 < n) (hn : n ≤ 4194304) (x y : Nat) (ex : Rp.pc n (Rp.md n k) = x) (ey : Rp.pim n (Rp.md n k) = y) (w : World) :
    Calls Tryd.prog 18 #[.int .i64 (n : Int), .int .i64 k] w fun e w' => e = .returned (.tuple #[.complex .f64 x y, .nilIface]) ∧ Below w.heap.size w w' := by
  subst ex ey; exact rootOk_c n k w h hn
/-- the exact places -/
def wr_ (i : Nat) : Nat := if i = 0 then 4607182418800017408 else if i = 2 then 13830554455654793216 else 0
def wi_ (i : Nat) : Nat := if i = 1 then 13830554455654793216 else if i = 3 then 4607182418800017408 else 0
theorem wri (i : Nat) (h : i < 4) : Rp.zp (Rp.qC i Rp.one 0) = wr_ i ∧ Rp.zp (Ari.ng (Rp.zp (Rp.qS i Rp.one 0))) = wi_ i := by
  have key : ∀ j, j < 4 → Rp.zp (Rp.qC j Rp.one 0) = wr_ j ∧ Rp.zp (Ari.ng (Rp.zp (Rp.qS j Rp.one 0))) = wi_ j := by decide
  exact key i h
theorem wri_o (i : Nat) (h : i < 4) : FloatKind.f64.format.order (wr_ i) (wr_ i) = some .eq ∧ FloatKind.f64.format.order (wi_ i) (wi_ i) = some .eq := by
  have key : ∀ j, j < 4 → FloatKind.f64.format.order (wr_ j) (wr_ j) = some .eq ∧ FloatKind.f64.format.order (wi_ j) (wi_ j) = some .eq := by decide +kernel
  exact key i h
theorem at_place {n i t : Nat} (h : 0 < n) (hi : i < 4) (ht : 4 * t = i * n) : Rp.pc n (Rp.md n (t : Int)) = wr_ i ∧ Rp.pim n (Rp.md n (t : Int)) = wi_ i := by
  have htn : t < n := by
    have := Nat.mul_le_mul_right n (show i ≤ 3 by omega)
    omega
  rw [md_self htn]
  have e := Rp.pair_at ht h
  have k := wri i hi
  unfold Rp.pim
  rw [e.1, e.2]
  exact k
theorem wcell (i : Nat) (h : i < 4) : (#[Value.complex .f64 4607182418800017408 0, .complex .f64 0 13830554455654793216, .complex .f64 13830554455654793216 0, .complex .f64 0 4607182418800017408] : Array Value)[i]? = some (.complex .f64 (wr_ i) (wi_ i)) := by
  exact match i, h with
    | 0, _ => rfl
    | 1, _ => rfl
    | 2, _ => rfl
    | 3, _ => rfl
    | n + 4, h => absurd h (by omega)
theorem zp_case (x : Nat) (h : Ari.fin x) (hz : Rp.zp x = x) : x = 0 ∨ (FloatKind.f64.format.order x 0 ≠ some .eq) := by
  by_cases c : x % 9223372036854775808 = 0
  · left
    rw [← hz]; unfold Rp.zp; rw [if_pos c]
  · right
    have o := order0 h
    rw [decide_eq_false c] at o
    exact beq_eq_false_iff_ne.1 o
set_option maxRecDepth 100000 in
set_option maxHeartbeats 8000000 in
theorem places_w (n k : Int) (w : World) :
    Calls Tryd.prog 7 #[.int .i64 n, .int .i64 k] w fun e w' => e = .returned (.bool true) ∧ Below w.heap.size w w' := by
  have hfit := fit_c n k
  generalize k.tmod 1099511627776 = K at *
  have sg0 : ∀ w, Calls Tryd.prog 28 #[.float .f64 0] w fun e w' => e = .returned (.bool false) ∧ w = w' := fun w => signbit_c 0 w (by decide)
  go_enter Tryd.func7, Tryd.ntmps7
  go_wp2_with fail
  refine (lives7_c _).mono ?_
  rintro e w1 ⟨rfl, B1⟩
  have A1 : Hid (Below w.heap.size w w1) := B1
  clear B1
  go_wp2_with fail
  refine (hfit _).mono ?_
  rintro e w2 ⟨N, rfl, N0, N1, rfl⟩
  clear hfit
  have r1 := root_pl N K N0 N1 _ _ rfl rfl
  have r2 : Hid (∀ i t : Nat, i < 4 → 4 * t = i * N → ∀ w, Calls Tryd.prog 18 #[.int .i64 (N : Int), .int .i64 (t : Int)] w fun e w' => e = .returned (.tuple #[.complex .f64 (wr_ i) (wi_ i), .nilIface]) ∧ Below w.heap.size w w') := fun i t hi ht => root_pl N t N0 N1 _ _ (at_place N0 hi ht).1 (at_place N0 hi ht).2
  have r3 : Hid (∀ t : Nat, N = 8 * t → ∀ w, Calls Tryd.prog 18 #[.int .i64 (N : Int), .int .i64 (t : Int)] w fun e w' => e = .returned (.tuple #[.complex .f64 4604544271217802189 13827916308072577997, .nilIface]) ∧ Below w.heap.size w w') := fun t ht => by
    have e := Rp.pair_eighth (n := N) (m := t) ht (by omega)
    refine root_pl N t N0 N1 _ _ ?_ ?_
    · rw [md_self (by omega), e.1]; rfl
    · rw [md_self (by omega)]; unfold Rp.pim; rw [e.2]; decide
  have cx := zp_case _ (Rp.pc_fin (Rp.md N K) N0 N1) (Rp.zp_pc N _)
  have cy := zp_case _ (Rp.pim_fin (Rp.md N K) N0 N1) (Rp.zp_pim N _)
  generalize Rp.pc N (Rp.md N K) = x at *
  generalize Rp.pim N (Rp.md N K) = y at *
  have o00 : FloatKind.f64.format.order 0 0 = some .eq := by decide +kernel
  have o00' : (FloatKind.f64.format.order 0 0 != some .eq) = false := by decide +kernel
  go_wp2_with fail
  refine (r1 _).mono ?_
  rintro e w3 ⟨rfl, B3⟩
  have A3 : Hid (Below w.heap.size w w3) := below_tr A1.out B3
  clear B3 A1 r1
  rcases cx with rfl | cx
  · rcases cy with rfl | cy
    · go_wp2_with fail
      refine (sg0 _).mono ?_
      rintro e w9 ⟨rfl, rfl⟩
      go_wp2_with fail
      refine (sg0 _).mono ?_
      rintro e w9 ⟨rfl, rfl⟩
      go_wp2_with fail
      have hcl : ∀ i, i < 4 → (w3.alloc (.cells #[.complex .f64 4607182418800017408 0, .complex .f64 0 13830554455654793216, .complex .f64 13830554455654793216 0, .complex .f64 0 4607182418800017408] 36)).cell? ⟨w3.heap.size, i, none⟩ = some (.complex .f64 (wr_ i) (wi_ i)) := by
        intro i hi
        rw [← wcell i hi]
        simp
      have hclH : Hid (∀ i, i < 4 → (w3.alloc (.cells #[.complex .f64 4607182418800017408 0, .complex .f64 0 13830554455654793216, .complex .f64 13830554455654793216 0, .complex .f64 0 4607182418800017408] 36)).cell? ⟨w3.heap.size, i, none⟩ = some (.complex .f64 (wr_ i) (wi_ i))) := hcl
      have hszH : Hid ((w3.alloc (.cells #[.complex .f64 4607182418800017408 0, .complex .f64 0 13830554455654793216, .complex .f64 13830554455654793216 0, .complex .f64 0 4607182418800017408] 36)).heap.size = w3.heap.size + 1) := (by simp : _ = _)
      have A4 : Hid (Below w.heap.size w (w3.alloc (.cells #[.complex .f64 4607182418800017408 0, .complex .f64 0 13830554455654793216, .complex .f64 13830554455654793216 0, .complex .f64 0 4607182418800017408] 36))) := A3.out.alloc A3.out.size _
      clear hcl A3
      generalize w3.alloc (.cells #[.complex .f64 4607182418800017408 0, .complex .f64 0 13830554455654793216, .complex .f64 13830554455654793216 0, .complex .f64 0 4607182418800017408] 36) = w4 at *
      go_loopw [7, 8, 9, 10, 55] (fun _ _ _ _ si wx => ∃ i : Nat, i ≤ 4 ∧ si = .int .i64 (i : Int) ∧ Hid (Below w4.heap.size w4 wx)) (fun _ _ _ _ si _ => 4 - (intOf si).toNat)
      case atStart => exact ⟨0, Nat.zero_le _, rfl, Below.refl _ _⟩
      case round =>
        obtain ⟨i, hi, rfl, hb⟩ := hrel
        by_cases hlt : i < 4
        · have hlt' : (i : Int) < 4 := by omega
          have hcc : wr.cell? ⟨w3.heap.size, i, none⟩ = some (.complex .f64 (wr_ i) (wi_ i)) := (hb.out.cell (p := ⟨w3.heap.size, i, none⟩) (by rw [hszH.out]; exact Nat.lt_succ_self _)).trans (hclH.out i hlt)
          obtain ⟨p, hp⟩ : ∃ p, i * N = p := ⟨_, rfl⟩
          have hp' : (i : Int) * (N : Int) = (p : Int) := by rw [← hp, Int.natCast_mul]
          have hp1 : p ≤ 16777216 := by
            rw [← hp]
            exact Nat.le_trans (Nat.mul_le_mul (show i ≤ 4 by omega) N1) (by decide)
          by_cases h4 : p % 4 = 0
          · obtain ⟨t, ht⟩ : ∃ t, p = 4 * t := ⟨p / 4, by omega⟩
            have u2 := r2.out i t hlt (by rw [hp]; exact ht.symm)
            obtain ⟨oa, ob⟩ := wri_o i hlt
            have h4' : (p : Int) % 4 = 0 := by omega
            have h4q : (p : Int) / 4 = (t : Int) := by omega
            clear h4 ht hp
            generalize wr_ i = a at *
            generalize wi_ i = b at *
            go_wp2_with fail
            refine (u2 _).mono ?_
            rintro e w5 ⟨rfl, B5⟩
            have hb5 : Hid (Below w4.heap.size w4 w5) := below_tr hb.out B5
            clear B5 hb u2 hcc
            go_wp2_with fail
            go_roundw
            case rel => exact ⟨i + 1, by omega, by go_num, hb5⟩
            case measure => simp [intOf]; omega
          · have h4' : ((p : Int) % 4 == 0) = false := beq_eq_false_iff_ne.2 (by omega)
            have h4'' : ((p : Int) % 4 != 0) = true := bne_iff_ne.2 (by omega)
            clear hp
            go_wp2_with fail
            go_roundw
            case rel => exact ⟨i + 1, by omega, by go_num, hb⟩
            case measure => simp [intOf]; omega
        · have hlt' : decide ((i : Int) < 4) = false := decide_eq_false (by omega)
          have ei : i = 4 := by omega
          subst ei
          have A5 : Hid (Below w.heap.size w wr) := below_tr A4.out hb.out
          clear hb A4 hclH hszH r2
          by_cases h8 : N % 8 = 0
          · obtain ⟨t, ht⟩ : ∃ t, N = 8 * t := ⟨N / 8, by omega⟩
            have u3 := r3.out t ht
            have h8' : (N : Int) % 8 = 0 := by omega
            have h8q : (N : Int) / 8 = (t : Int) := by omega
            have ng1 := fun w => run_fneg (P := Tryd.prog) 13827916308072577997 w (by decide)
            have ngv : Ari.ng 13827916308072577997 = 4604544271217802189 := by decide
            rw [ngv] at ng1
            have og : FloatKind.f64.format.order 4604544271217802189 4604544271217802189 = some .eq := by decide +kernel
            have og' : (FloatKind.f64.format.order 4604544271217802189 4604544271217802189 != some .eq) = false := by decide +kernel
            have ol : FloatKind.f64.format.order 4604544271217802189 4604480259023595110 = some .gt := by decide +kernel
            clear h8 ht r3 ngv
            go_wp2_with fail
            refine (u3 _).mono ?_
            rintro e w5 ⟨rfl, B5⟩
            have A6 : Hid (Below w.heap.size w w5) := below_tr A5.out B5
            clear B5 A5 u3
            go_wp2_with fail
            go_ret
            exact ⟨rfl, A6.out⟩
          · have h8' : ((N : Int) % 8 == 0) = false := beq_eq_false_iff_ne.2 (by omega)
            go_wp2_with fail
            go_ret
            exact ⟨rfl, A5.out⟩
    · have cy1 : (FloatKind.f64.format.order y 0 != some .eq) = true := bne_iff_ne.2 cy
      go_wp2_with fail
      refine (sg0 _).mono ?_
      rintro e w9 ⟨rfl, rfl⟩
      go_wp2_with fail
      have hcl : ∀ i, i < 4 → (w3.alloc (.cells #[.complex .f64 4607182418800017408 0, .complex .f64 0 13830554455654793216, .complex .f64 13830554455654793216 0, .complex .f64 0 4607182418800017408] 36)).cell? ⟨w3.heap.size, i, none⟩ = some (.complex .f64 (wr_ i) (wi_ i)) := by
        intro i hi
        rw [← wcell i hi]
        simp
      have hclH : Hid (∀ i, i < 4 → (w3.alloc (.cells #[.complex .f64 4607182418800017408 0, .complex .f64 0 13830554455654793216, .complex .f64 13830554455654793216 0, .complex .f64 0 4607182418800017408] 36)).cell? ⟨w3.heap.size, i, none⟩ = some (.complex .f64 (wr_ i) (wi_ i))) := hcl
      have hszH : Hid ((w3.alloc (.cells #[.complex .f64 4607182418800017408 0, .complex .f64 0 13830554455654793216, .complex .f64 13830554455654793216 0, .complex .f64 0 4607182418800017408] 36)).heap.size = w3.heap.size + 1) := (by simp : _ = _)
      have A4 : Hid (Below w.heap.size w (w3.alloc (.cells #[.complex .f64 4607182418800017408 0, .complex .f64 0 13830554455654793216, .complex .f64 13830554455654793216 0, .complex .f64 0 4607182418800017408] 36))) := A3.out.alloc A3.out.size _
      clear hcl A3
      generalize w3.alloc (.cells #[.complex .f64 4607182418800017408 0, .complex .f64 0 13830554455654793216, .complex .f64 13830554455654793216 0, .complex .f64 0 4607182418800017408] 36) = w4 at *
      go_loopw [7, 8, 9, 10, 55] (fun _ _ _ _ si wx => ∃ i : Nat, i ≤ 4 ∧ si = .int .i64 (i : Int) ∧ Hid (Below w4.heap.size w4 wx)) (fun _ _ _ _ si _ => 4 - (intOf si).toNat)
      case atStart => exact ⟨0, Nat.zero_le _, rfl, Below.refl _ _⟩
      case round =>
        obtain ⟨i, hi, rfl, hb⟩ := hrel
        by_cases hlt : i < 4
        · have hlt' : (i : Int) < 4 := by omega
          have hcc : wr.cell? ⟨w3.heap.size, i, none⟩ = some (.complex .f64 (wr_ i) (wi_ i)) := (hb.out.cell (p := ⟨w3.heap.size, i, none⟩) (by rw [hszH.out]; exact Nat.lt_succ_self _)).trans (hclH.out i hlt)
          obtain ⟨p, hp⟩ : ∃ p, i * N = p := ⟨_, rfl⟩
          have hp' : (i : Int) * (N : Int) = (p : Int) := by rw [← hp, Int.natCast_mul]
          have hp1 : p ≤ 16777216 := by
            rw [← hp]
            exact Nat.le_trans (Nat.mul_le_mul (show i ≤ 4 by omega) N1) (by decide)
          by_cases h4 : p % 4 = 0
          · obtain ⟨t, ht⟩ : ∃ t, p = 4 * t := ⟨p / 4, by omega⟩
            have u2 := r2.out i t hlt (by rw [hp]; exact ht.symm)
            obtain ⟨oa, ob⟩ := wri_o i hlt
            have h4' : (p : Int) % 4 = 0 := by omega
            have h4q : (p : Int) / 4 = (t : Int) := by omega
            clear h4 ht hp
            generalize wr_ i = a at *
            generalize wi_ i = b at *
            go_wp2_with fail
            refine (u2 _).mono ?_
            rintro e w5 ⟨rfl, B5⟩
            have hb5 : Hid (Below w4.heap.size w4 w5) := below_tr hb.out B5
            clear B5 hb u2 hcc
            go_wp2_with fail
            go_roundw
            case rel => exact ⟨i + 1, by omega, by go_num, hb5⟩
            case measure => simp [intOf]; omega
          · have h4' : ((p : Int) % 4 == 0) = false := beq_eq_false_iff_ne.2 (by omega)
            have h4'' : ((p : Int) % 4 != 0) = true := bne_iff_ne.2 (by omega)
            clear hp
            go_wp2_with fail
            go_roundw
            case rel => exact ⟨i + 1, by omega, by go_num, hb⟩
            case measure => simp [intOf]; omega
        · have hlt' : decide ((i : Int) < 4) = false := decide_eq_false (by omega)
          have ei : i = 4 := by omega
          subst ei
          have A5 : Hid (Below w.heap.size w wr) := below_tr A4.out hb.out
          clear hb A4 hclH hszH r2
          by_cases h8 : N % 8 = 0
          · obtain ⟨t, ht⟩ : ∃ t, N = 8 * t := ⟨N / 8, by omega⟩
            have u3 := r3.out t ht
            have h8' : (N : Int) % 8 = 0 := by omega
            have h8q : (N : Int) / 8 = (t : Int) := by omega
            have ng1 := fun w => run_fneg (P := Tryd.prog) 13827916308072577997 w (by decide)
            have ngv : Ari.ng 13827916308072577997 = 4604544271217802189 := by decide
            rw [ngv] at ng1
            have og : FloatKind.f64.format.order 4604544271217802189 4604544271217802189 = some .eq := by decide +kernel
            have og' : (FloatKind.f64.format.order 4604544271217802189 4604544271217802189 != some .eq) = false := by decide +kernel
            have ol : FloatKind.f64.format.order 4604544271217802189 4604480259023595110 = some .gt := by decide +kernel
            clear h8 ht r3 ngv
            go_wp2_with fail
            refine (u3 _).mono ?_
            rintro e w5 ⟨rfl, B5⟩
            have A6 : Hid (Below w.heap.size w w5) := below_tr A5.out B5
            clear B5 A5 u3
            go_wp2_with fail
            go_ret
            exact ⟨rfl, A6.out⟩
          · have h8' : ((N : Int) % 8 == 0) = false := beq_eq_false_iff_ne.2 (by omega)
            go_wp2_with fail
            go_ret
            exact ⟨rfl, A5.out⟩
  · rcases cy with rfl | cy
    · have cx1 : (FloatKind.f64.format.order x 0 != some .eq) = true := bne_iff_ne.2 cx
      go_wp2_with fail
      refine (sg0 _).mono ?_
      rintro e w9 ⟨rfl, rfl⟩
      go_wp2_with fail
      have hcl : ∀ i, i < 4 → (w3.alloc (.cells #[.complex .f64 4607182418800017408 0, .complex .f64 0 13830554455654793216, .complex .f64 13830554455654793216 0, .complex .f64 0 4607182418800017408] 36)).cell? ⟨w3.heap.size, i, none⟩ = some (.complex .f64 (wr_ i) (wi_ i)) := by
        intro i hi
        rw [← wcell i hi]
        simp
      have hclH : Hid (∀ i, i < 4 → (w3.alloc (.cells #[.complex .f64 4607182418800017408 0, .complex .f64 0 13830554455654793216, .complex .f64 13830554455654793216 0, .complex .f64 0 4607182418800017408] 36)).cell? ⟨w3.heap.size, i, none⟩ = some (.complex .f64 (wr_ i) (wi_ i))) := hcl
      have hszH : Hid ((w3.alloc (.cells #[.complex .f64 4607182418800017408 0, .complex .f64 0 13830554455654793216, .complex .f64 13830554455654793216 0, .complex .f64 0 4607182418800017408] 36)).heap.size = w3.heap.size + 1) := (by simp : _ = _)
      have A4 : Hid (Below w.heap.size w (w3.alloc (.cells #[.complex .f64 4607182418800017408 0, .complex .f64 0 13830554455654793216, .complex .f64 13830554455654793216 0, .complex .f64 0 4607182418800017408] 36))) := A3.out.alloc A3.out.size _
      clear hcl A3
      generalize w3.alloc (.cells #[.complex .f64 4607182418800017408 0, .complex .f64 0 13830554455654793216, .complex .f64 13830554455654793216 0, .complex .f64 0 4607182418800017408] 36) = w4 at *
      go_loopw [7, 8, 9, 10, 55] (fun _ _ _ _ si wx => ∃ i : Nat, i ≤ 4 ∧ si = .int .i64 (i : Int) ∧ Hid (Below w4.heap.size w4 wx)) (fun _ _ _ _ si _ => 4 - (intOf si).toNat)
      case atStart => exact ⟨0, Nat.zero_le _, rfl, Below.refl _ _⟩
      case round =>
        obtain ⟨i, hi, rfl, hb⟩ := hrel
        by_cases hlt : i < 4
        · have hlt' : (i : Int) < 4 := by omega
          have hcc : wr.cell? ⟨w3.heap.size, i, none⟩ = some (.complex .f64 (wr_ i) (wi_ i)) := (hb.out.cell (p := ⟨w3.heap.size, i, none⟩) (by rw [hszH.out]; exact Nat.lt_succ_self _)).trans (hclH.out i hlt)
          obtain ⟨p, hp⟩ : ∃ p, i * N = p := ⟨_, rfl⟩
          have hp' : (i : Int) * (N : Int) = (p : Int) := by rw [← hp, Int.natCast_mul]
          have hp1 : p ≤ 16777216 := by
            rw [← hp]
            exact Nat.le_trans (Nat.mul_le_mul (show i ≤ 4 by omega) N1) (by decide)
          by_cases h4 : p % 4 = 0
          · obtain ⟨t, ht⟩ : ∃ t, p = 4 * t := ⟨p / 4, by omega⟩
            have u2 := r2.out i t hlt (by rw [hp]; exact ht.symm)
            obtain ⟨oa, ob⟩ := wri_o i hlt
            have h4' : (p : Int) % 4 = 0 := by omega
            have h4q : (p : Int) / 4 = (t : Int) := by omega
            clear h4 ht hp
            generalize wr_ i = a at *
            generalize wi_ i = b at *
            go_wp2_with fail
            refine (u2 _).mono ?_
            rintro e w5 ⟨rfl, B5⟩
            have hb5 : Hid (Below w4.heap.size w4 w5) := below_tr hb.out B5
            clear B5 hb u2 hcc
            go_wp2_with fail
            go_roundw
            case rel => exact ⟨i + 1, by omega, by go_num, hb5⟩
            case measure => simp [intOf]; omega
          · have h4' : ((p : Int) % 4 == 0) = false := beq_eq_false_iff_ne.2 (by omega)
            have h4'' : ((p : Int) % 4 != 0) = true := bne_iff_ne.2 (by omega)
            clear hp
            go_wp2_with fail
            go_roundw
            case rel => exact ⟨i + 1, by omega, by go_num, hb⟩
            case measure => simp [intOf]; omega
        · have hlt' : decide ((i : Int) < 4) = false := decide_eq_false (by omega)
          have ei : i = 4 := by omega
          subst ei
          have A5 : Hid (Below w.heap.size w wr) := below_tr A4.out hb.out
          clear hb A4 hclH hszH r2
          by_cases h8 : N % 8 = 0
          · obtain ⟨t, ht⟩ : ∃ t, N = 8 * t := ⟨N / 8, by omega⟩
            have u3 := r3.out t ht
            have h8' : (N : Int) % 8 = 0 := by omega
            have h8q : (N : Int) / 8 = (t : Int) := by omega
            have ng1 := fun w => run_fneg (P := Tryd.prog) 13827916308072577997 w (by decide)
            have ngv : Ari.ng 13827916308072577997 = 4604544271217802189 := by decide
            rw [ngv] at ng1
            have og : FloatKind.f64.format.order 4604544271217802189 4604544271217802189 = some .eq := by decide +kernel
            have og' : (FloatKind.f64.format.order 4604544271217802189 4604544271217802189 != some .eq) = false := by decide +kernel
            have ol : FloatKind.f64.format.order 4604544271217802189 4604480259023595110 = some .gt := by decide +kernel
            clear h8 ht r3 ngv
            go_wp2_with fail
            refine (u3 _).mono ?_
            rintro e w5 ⟨rfl, B5⟩
            have A6 : Hid (Below w.heap.size w w5) := below_tr A5.out B5
            clear B5 A5 u3
            go_wp2_with fail
            go_ret
            exact ⟨rfl, A6.out⟩
          · have h8' : ((N : Int) % 8 == 0) = false := beq_eq_false_iff_ne.2 (by omega)
            go_wp2_with fail
            go_ret
            exact ⟨rfl, A5.out⟩
    · have cx1 : (FloatKind.f64.format.order x 0 != some .eq) = true := bne_iff_ne.2 cx
      have cy1 : (FloatKind.f64.format.order y 0 != some .eq) = true := bne_iff_ne.2 cy
      go_wp2_with fail
      have hcl : ∀ i, i < 4 → (w3.alloc (.cells #[.complex .f64 4607182418800017408 0, .complex .f64 0 13830554455654793216, .complex .f64 13830554455654793216 0, .complex .f64 0 4607182418800017408] 36)).cell? ⟨w3.heap.size, i, none⟩ = some (.complex .f64 (wr_ i) (wi_ i)) := by
        intro i hi
        rw [← wcell i hi]
        simp
      have hclH : Hid (∀ i, i < 4 → (w3.alloc (.cells #[.complex .f64 4607182418800017408 0, .complex .f64 0 13830554455654793216, .complex .f64 13830554455654793216 0, .complex .f64 0 4607182418800017408] 36)).cell? ⟨w3.heap.size, i, none⟩ = some (.complex .f64 (wr_ i) (wi_ i))) := hcl
      have hszH : Hid ((w3.alloc (.cells #[.complex .f64 4607182418800017408 0, .complex .f64 0 13830554455654793216, .complex .f64 13830554455654793216 0, .complex .f64 0 4607182418800017408] 36)).heap.size = w3.heap.size + 1) := (by simp : _ = _)
      have A4 : Hid (Below w.heap.size w (w3.alloc (.cells #[.complex .f64 4607182418800017408 0, .complex .f64 0 13830554455654793216, .complex .f64 13830554455654793216 0, .complex .f64 0 4607182418800017408] 36))) := A3.out.alloc A3.out.size _
      clear hcl A3
      generalize w3.alloc (.cells #[.complex .f64 4607182418800017408 0, .complex .f64 0 13830554455654793216, .complex .f64 13830554455654793216 0, .complex .f64 0 4607182418800017408] 36) = w4 at *
      go_loopw [7, 8, 9, 10, 55] (fun _ _ _ _ si wx => ∃ i : Nat, i ≤ 4 ∧ si = .int .i64 (i : Int) ∧ Hid (Below w4.heap.size w4 wx)) (fun _ _ _ _ si _ => 4 - (intOf si).toNat)
      case atStart => exact ⟨0, Nat.zero_le _, rfl, Below.refl _ _⟩
      case round =>
        obtain ⟨i, hi, rfl, hb⟩ := hrel
        by_cases hlt : i < 4
        · have hlt' : (i : Int) < 4 := by omega
          have hcc : wr.cell? ⟨w3.heap.size, i, none⟩ = some (.complex .f64 (wr_ i) (wi_ i)) := (hb.out.cell (p := ⟨w3.heap.size, i, none⟩) (by rw [hszH.out]; exact Nat.lt_succ_self _)).trans (hclH.out i hlt)
          obtain ⟨p, hp⟩ : ∃ p, i * N = p := ⟨_, rfl⟩
          have hp' : (i : Int) * (N : Int) = (p : Int) := by rw [← hp, Int.natCast_mul]
          have hp1 : p ≤ 16777216 := by
            rw [← hp]
            exact Nat.le_trans (Nat.mul_le_mul (show i ≤ 4 by omega) N1) (by decide)
          by_cases h4 : p % 4 = 0
          · obtain ⟨t, ht⟩ : ∃ t, p = 4 * t := ⟨p / 4, by omega⟩
            have u2 := r2.out i t hlt (by rw [hp]; exact ht.symm)
            obtain ⟨oa, ob⟩ := wri_o i hlt
            have h4' : (p : Int) % 4 = 0 := by omega
            have h4q : (p : Int) / 4 = (t : Int) := by omega
            clear h4 ht hp
            generalize wr_ i = a at *
            generalize wi_ i = b at *
            go_wp2_with fail
            refine (u2 _).mono ?_
            rintro e w5 ⟨rfl, B5⟩
            have hb5 : Hid (Below w4.heap.size w4 w5) := below_tr hb.out B5
            clear B5 hb u2 hcc
            go_wp2_with fail
            go_roundw
            case rel => exact ⟨i + 1, by omega, by go_num, hb5⟩
            case measure => simp [intOf]; omega
          · have h4' : ((p : Int) % 4 == 0) = false := beq_eq_false_iff_ne.2 (by omega)
            have h4'' : ((p : Int) % 4 != 0) = true := bne_iff_ne.2 (by omega)
            clear hp
            go_wp2_with fail
            go_roundw
            case rel => exact ⟨i + 1, by omega, by go_num, hb⟩
            case measure => simp [intOf]; omega
        · have hlt' : decide ((i : Int) < 4) = false := decide_eq_false (by omega)
          have ei : i = 4 := by omega
          subst ei
          have A5 : Hid (Below w.heap.size w wr) := below_tr A4.out hb.out
          clear hb A4 hclH hszH r2
          by_cases h8 : N % 8 = 0
          · obtain ⟨t, ht⟩ : ∃ t, N = 8 * t := ⟨N / 8, by omega⟩
            have u3 := r3.out t ht
            have h8' : (N : Int) % 8 = 0 := by omega
            have h8q : (N : Int) / 8 = (t : Int) := by omega
            have ng1 := fun w => run_fneg (P := Tryd.prog) 13827916308072577997 w (by decide)
            have ngv : Ari.ng 13827916308072577997 = 4604544271217802189 := by decide
            rw [ngv] at ng1
            have og : FloatKind.f64.format.order 4604544271217802189 4604544271217802189 = some .eq := by decide +kernel
            have og' : (FloatKind.f64.format.order 4604544271217802189 4604544271217802189 != some .eq) = false := by decide +kernel
            have ol : FloatKind.f64.format.order 4604544271217802189 4604480259023595110 = some .gt := by decide +kernel
            clear h8 ht r3 ngv
            go_wp2_with fail
            refine (u3 _).mono ?_
            rintro e w5 ⟨rfl, B5⟩
            have A6 : Hid (Below w.heap.size w w5) := below_tr A5.out B5
            clear B5 A5 u3
            go_wp2_with fail
            go_ret
            exact ⟨rfl, A6.out⟩
          · have h8' : ((N : Int) % 8 == 0) = false := beq_eq_false_iff_ne.2 (by omega)
            go_wp2_with fail
            go_ret
            exact ⟨rfl, A5.out⟩
end Go.Proofs.YtbljgmipfclcoaaDoor
namespace Go.Proofs.YtbljgmipfclcoaaDoor.rootsPlaces
open Go.RowKit
theorem walk (x0 x1 : Int) (w : World) (_l0 : -9223372036854775808 ≤ x0) (_u0 : x0 ≤ 9223372036854775807) (_l1 : -9223372036854775808 ≤ x1) (_u1 : x1 ≤ 9223372036854775807) (_hL : laidMetH Tryd.prog Rows.rootsPlacesRow.laid w) :
    Calls Tryd.prog 7 #[.int .i64 x0, .int .i64 x1] w fun e w' => e = .returned (.bool true) ∧ Below w.heap.size w w' := places_w x0 x1 w
end Go.Proofs.YtbljgmipfclcoaaDoor.rootsPlaces
