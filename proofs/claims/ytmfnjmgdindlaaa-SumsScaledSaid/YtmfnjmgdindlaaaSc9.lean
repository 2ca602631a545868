/-
  Layer 9's statements: power, within.
-/
import Derived.Test.YtmfnjmgdindlaaaLw9
import Derived.Test.YtmfnjmgdindlaaaKp9
namespace Go.Proofs.Ytmfnjmgdindlaaa
open Flo Go.RowKit Ieee
/-- 2^k -/
def pw (k : Int) : Nat := ((1023 + k) * 4503599627370496).toNat
set_option maxRecDepth 100000 in
set_option maxHeartbeats 400000 in
theorem power_c (k : Int) (w : World) (h1 : -1000 ≤ k) (h2 : k ≤ 1000) :
    Calls Try.prog 21 #[.int .i64 k] w fun e w' => e = .returned (.float .f64 (pw k)) ∧ w = w' := by
  obtain ⟨E, hE⟩ : ∃ E : Nat, 1023 + k = (E : Int) := ⟨(1023 + k).toNat, by omega⟩
  obtain ⟨P, hP⟩ : ∃ P : Nat, E * 4503599627370496 = P := ⟨_, rfl⟩
  have hEl : E ≤ 2023 := by omega
  have hs : IntKind.u64.wrap ((E : Int) * 4503599627370496) = (P : Int) := by rw [IntKind.wrap_u64]; omega
  have hpw : Hid (bt P = pw k) := by
    show _ = _
    unfold pw bt
    rw [hE, if_neg (by omega)]
    omega
  have hcall : Hid (∀ W, Calls Try.prog 22 #[.int .u64 (P : Int)] W fun e w' => e = .returned (.float .f64 (bt P)) ∧ W = w') := fun W => natFl_c P W (by omega)
  rw [hpw.out] at hcall
  clear hP hpw
  generalize pw k = Q at hcall ⊢
  go_enter Try.func21, Try.ntmps21
  go_wp2_with fail
  refine (hcall.out _).mono ?_
  rintro e w' ⟨rfl, rfl⟩
  go_wp2_with fail
  go_ret
  exact ⟨rfl, rfl⟩
theorem max_lt (x y : Nat) (w : World) (ho : FloatKind.f64.format.order x y = some .lt) : (Builtin.max_ #[26, 26] 26 #[.float .f64 x, .float .f64 y]).run Try.prog w = .ok (.float .f64 y) w := by
  show (Builtin.max2 _ _ >>= fun s => pure s).run Try.prog w = _
  unfold Builtin.max2
  simp only [ho]
  simp
theorem max_gt (x y : Nat) (w : World) (ho : FloatKind.f64.format.order x y = some .gt) : (Builtin.max_ #[26, 26] 26 #[.float .f64 x, .float .f64 y]).run Try.prog w = .ok (.float .f64 x) w := by
  show (Builtin.max2 _ _ >>= fun s => pure s).run Try.prog w = _
  unfold Builtin.max2
  simp only [ho]
  simp
theorem max_eq (x y : Nat) (w : World) (ho : FloatKind.f64.format.order x y = some .eq) : ∃ b : Bool, (Builtin.max_ #[26, 26] 26 #[.float .f64 x, .float .f64 y]).run Try.prog w = .ok (.float .f64 (if b then y else x)) w := by
  refine ⟨(FloatKind.f64.decode x).neg, ?_⟩
  show (Builtin.max2 _ _ >>= fun s => pure s).run Try.prog w = _
  unfold Builtin.max2
  simp only [ho]
  generalize (FloatKind.f64.decode x).neg = b
  simp
theorem max_none (x y : Nat) (w : World) (ho : FloatKind.f64.format.order x y = none) : (Builtin.max_ #[26, 26] 26 #[.float .f64 x, .float .f64 y]).run Try.prog w = .ok (.float .f64 (Question.cut (.nanMinMax .f64 true x y) (w.tape w.drawn (.nanMinMax .f64 true x y)))) (w.drewN 1) := by
  show (Builtin.max2 _ _ >>= fun s => pure s).run Try.prog w = _
  unfold Builtin.max2
  simp only [ho]
  simp [Question.forced]
  rfl
theorem cut_nan (x y t : Nat) : Question.cut (.nanMinMax .f64 true x y) t < 18446744073709551616 ∧ nanB (Question.cut (.nanMinMax .f64 true x y) t) = true := by
  refine ⟨by unfold Question.cut; simp only; omega, ?_⟩
  unfold nanB Question.cut
  simp only [decide_eq_true_eq]
  have h1 : t % 2 = 0 ∨ t % 2 = 1 := by omega
  have h2 : t / 2 % (2 ^ 52 - 1) < 4503599627370495 := by omega
  generalize t / 2 % (2 ^ 52 - 1) = q at *
  rcases h1 with h | h <;> rw [h] <;> omega
theorem sv_ng {f : Nat} (hf : f < 18446744073709551616) : sv (Ari.ng f) = - sv f := by unfold sv Ari.ng; split <;> split <;> omega
theorem sv_pos {f : Nat} (h : f < 9223372036854775808) : sv f = ((f % 9223372036854775808 : Nat) : Int) := by unfold sv; rw [if_pos h]; omega
theorem sv_neg {f : Nat} (hf : f < 18446744073709551616) (h : ¬ f < 9223372036854775808) : sv f = -((f % 9223372036854775808 : Nat) : Int) := by unfold sv; rw [if_neg h]; omega
theorem sv_abs {f : Nat} (hf : f < 18446744073709551616) : (sv f < - sv f → - sv f = ((f % 9223372036854775808 : Nat) : Int)) ∧ (sv f = - sv f → sv f = ((f % 9223372036854775808 : Nat) : Int) ∧ - sv f = ((f % 9223372036854775808 : Nat) : Int)) ∧ (- sv f < sv f → sv f = ((f % 9223372036854775808 : Nat) : Int)) := by
  by_cases c : f < 9223372036854775808
  · have := sv_pos c
    generalize sv f = s at *
    omega
  · have := sv_neg hf c
    generalize sv f = s at *
    omega
theorem max_fin (f g : Nat) (hf : f < 18446744073709551616) (hg : g < 18446744073709551616) (nf : nanB f = false) (n2 : nanB g = false) (hs : sv g = - sv f) (ho : FloatKind.f64.format.order f g = some (compare (sv f) (sv g))) (w : World) : ∃ M, (Builtin.max_ #[26, 26] 26 #[.float .f64 f, .float .f64 g]).run Try.prog w = .ok (.float .f64 M) w ∧
    M < 18446744073709551616 ∧ nanB M = false ∧ sv M = ((f % 9223372036854775808 : Nat) : Int) := by
  obtain ⟨a1, a2, a3⟩ := sv_abs hf
  rw [hs] at ho
  rcases Int.lt_trichotomy (sv f) (- sv f) with h | h | h
  · rw [compare_of_lt h] at ho
    exact ⟨g, max_lt f g w ho, hg, n2, by rw [hs]; exact a1 h⟩
  · rw [← h, compare_self] at ho
    obtain ⟨b, hb⟩ := max_eq f g w ho
    refine ⟨if b then g else f, hb, ?_, ?_, ?_⟩
    · cases b <;> assumption
    · cases b <;> assumption
    · cases b
      · exact (a2 h).1
      · show sv g = _
        rw [hs]; exact (a2 h).2
  · rw [compare_of_gt h] at ho
    exact ⟨f, max_gt f g w ho, hf, nf, a3 h⟩
theorem run_max (f : Nat) (hf : f < 18446744073709551616) (w : World) : ∃ M k, (Builtin.max_ #[26, 26] 26 #[.float .f64 f, .float .f64 (Ari.ng f)]).run Try.prog w = .ok (.float .f64 M) (w.drewN k) ∧
    M < 18446744073709551616 ∧ ((nanB f = true ∧ nanB M = true) ∨ (nanB f = false ∧ nanB M = false ∧ sv M = ((f % 9223372036854775808 : Nat) : Int))) := by
  cases hn : nanB f
  · have b1 : f % 9223372036854775808 ≤ 9218868437227405312 := by unfold nanB at hn; simp only [decide_eq_false_iff_not] at hn; omega
    obtain ⟨M, h1, h2, h3, h4⟩ := max_fin f (Ari.ng f) hf (Ari.ng_lt hf) hn (by rw [Ari.nan_ng hf, hn]) (sv_ng hf) (order_of f (Ari.ng f) hf (Ari.ng_lt hf) b1 (by rw [Ari.ng_mod hf]; exact b1)) w
    exact ⟨M, 0, h1, h2, .inr ⟨rfl, h3, h4⟩⟩
  · have b1 : 9218868437227405312 < f % 9223372036854775808 := by unfold nanB at hn; simpa using hn
    exact ⟨_, 1, max_none f (Ari.ng f) w (order_nan_left f (Ari.ng f) b1), (cut_nan _ _ _).1, .inl ⟨rfl, (cut_nan _ _ _).2⟩⟩
theorem ord_ge {a b : Nat} (ha : a < 18446744073709551616) (hb : b < 18446744073709551616) (h : double.order a b = some .gt ∨ double.order a b = some .eq) : nanB a = false ∧ sv b ≤ sv a := by
  have h1 := ge_eq a b ha hb
  have h2 : ge a b = true := by unfold ge; rcases h with h | h <;> rw [h]
  rw [h2] at h1
  have h3 := h1.symm
  simp only [Bool.and_eq_true, Bool.not_eq_true', decide_eq_true_eq] at h3
  exact ⟨h3.1.1, h3.2⟩
theorem ord_le {a b : Nat} (ha : a < 18446744073709551616) (hb : b < 18446744073709551616) (h : double.order a b = some .lt ∨ double.order a b = some .eq) : sv a ≤ sv b := by
  rcases h with h | h
  · have h1 := lt_iff a b ha hb
    rw [h] at h1
    have h3 := h1.symm
    simp at h3
    omega
  · have h1 := eq_iff a b ha hb
    rw [h] at h1
    have h3 := h1.symm
    simp at h3
    omega
theorem pw_lt {k : Int} (h1 : -1000 ≤ k) (h2 : k ≤ 1000) : pw k < 9218868437227405312 := by unfold pw; omega
theorem pw_sv {k : Int} (h1 : -1000 ≤ k) (h2 : k ≤ 1000) : sv (pw k) = (pw k : Int) := by
  have := pw_lt h1 h2
  unfold sv; rw [if_pos (by omega)]
set_option maxRecDepth 100000 in
set_option maxHeartbeats 2000000 in
theorem within_i (f M k P1 P2 : Nat) (m : Int) (w : World) (h1 : 0 ≤ m) (h2 : m ≤ 1000)
    (hn : ∀ w, (Op.unary .neg (.float .f64 f)).run Try.prog w = .ok (.float .f64 (Ari.ng f)) w)
    (hmax : Hid ((Builtin.max_ #[26, 26] 26 #[.float .f64 f, .float .f64 (Ari.ng f)]).run Try.prog w = .ok (.float .f64 M) (w.drewN k)))
    (c1 : Hid (∀ W, Calls Try.prog 21 #[.int .i64 (-m)] W fun e w' => e = .returned (.float .f64 P1) ∧ W = w'))
    (c2 : Hid (∀ W, Calls Try.prog 21 #[.int .i64 m] W fun e w' => e = .returned (.float .f64 P2) ∧ W = w')) :
    Calls Try.prog 20 #[.float .f64 f, .int .i64 m] w fun e w' => ∃ b, e = .returned (.bool b) ∧ Dr w w' ∧ (b = true → (double.order M P1 = some .gt ∨ double.order M P1 = some .eq) ∧ (double.order M P2 = some .lt ∨ double.order M P2 = some .eq)) := by
  have hD : Hid (Dr w (w.drewN k)) := ⟨k, rfl⟩
  rcases ho1 : double.order M P1 with _ | (_ | _ | _) <;> rcases ho2 : double.order M P2 with _ | (_ | _ | _)
  all_goals
    have ho1' : FloatKind.f64.format.order M P1 = _ := ho1
    have ho2' : FloatKind.f64.format.order M P2 = _ := ho2
    clear ho1 ho2
    go_enter Try.func20, Try.ntmps20
    go_wp2_with fail
    rw [hmax.out]
    go_wp2_with fail
    refine (c1.out _).mono ?_
    rintro e w' ⟨rfl, rfl⟩
    go_wp2_with fail
    try
      refine (c2.out _).mono ?_
      rintro e w' ⟨rfl, rfl⟩
      go_wp2_with fail
    go_ret
    exact ⟨_, rfl, hD.out, by simp⟩
theorem within_c (f : Nat) (m : Int) (w : World) (hf : f < 18446744073709551616) (h1 : 0 ≤ m) (h2 : m ≤ 1000) :
    Calls Try.prog 20 #[.float .f64 f, .int .i64 m] w fun e w' => ∃ b, e = .returned (.bool b) ∧ Dr w w' ∧ (b = true → nanB f = false ∧ pw (-m) ≤ f % 9223372036854775808 ∧ f % 9223372036854775808 ≤ pw m) := by
  obtain ⟨M, k, hmax, hM, hcase⟩ := run_max f hf w
  have l1 := pw_lt (k := -m) (by omega) (by omega)
  have l2 := pw_lt (k := m) (by omega) (by omega)
  refine (within_i f M k (pw (-m)) (pw m) m w h1 h2 (fun w => run_fneg f w hf) hmax (fun W => power_c (-m) W (by omega) (by omega)) (fun W => power_c m W (by omega) (by omega))).mono ?_
  rintro e w' ⟨b, rfl, hD, hb⟩
  refine ⟨b, rfl, hD, fun h => ?_⟩
  obtain ⟨k1, k2⟩ := hb h
  have g1 := ord_ge hM (by omega) k1
  have g2 := ord_le hM (by omega) k2
  rw [pw_sv (by omega) (by omega)] at g1 g2
  rcases hcase with ⟨_, hq⟩ | ⟨q1, q2, q3⟩
  · rw [g1.1] at hq; cases hq
  · rw [q3] at g1 g2
    exact ⟨q1, by omega, by omega⟩
end Go.Proofs.Ytmfnjmgdindlaaa
