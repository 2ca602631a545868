/-
  Plain mathematics of neighbours on the line of floats: Up and Down undo one another, Apart counts steps.
-/
import Derived.Test.YtabkbhmjblfajaaDoorApa
namespace Go.Proofs.YtabkbhmjblfajaaDoor
open Flo Go.RowKit
theorem finS {n : Nat} (h : nanB n = false) : bt n = n ∧ n % 9223372036854775808 ≤ 9218868437227405312 := by
  unfold nanB at h
  have := of_decide_eq_false h
  unfold bt; rw [if_neg this]; omega
theorem pl_range {a : Nat} (ha : a < 18446744073709551616) (h : nanB a = false) : 4503599627370495 ≤ pl a ∧ pl a ≤ 18442240474082181120 ∧ att (pl a) = a := by
  obtain ⟨e, hl⟩ := finS h
  unfold pl att
  rw [e]
  split <;> split <;> omega
theorem fin_att {p : Nat} (h1 : 4503599627370495 ≤ p) (h2 : p ≤ 18442240474082181120) : nanB (att p) = false ∧ pl (att p) = p ∧ att p < 18446744073709551616 := by
  have hn : nanB (att p) = false := by unfold nanB att; exact decide_eq_false (by split <;> omega)
  obtain ⟨e, hl⟩ := finS hn
  refine ⟨hn, ?_, ?_⟩
  · unfold pl; rw [e]
    by_cases hp : 9223372036854775808 ≤ p
    · have ea : att p = p - 9223372036854775808 := by unfold att; rw [if_pos hp]
      rw [ea, if_pos (by omega)]; omega
    · have ea : att p = 18446744073709551615 - p := by unfold att; rw [if_neg hp]
      rw [ea, if_neg (by omega)]; omega
  · unfold att; split <;> omega
theorem pl_inf : pl 9218868437227405312 = 18442240474082181120 := by decide
theorem pl_ninf : pl 18442240474082181120 = 4503599627370495 := by decide
theorem pl_eq_inf {a : Nat} (ha : a < 18446744073709551616) (h : nanB a = false) : pl a = 18442240474082181120 ↔ a = 9218868437227405312 := by
  constructor
  · intro e; have := (pl_range ha h).2.2; rw [e] at this; rw [← this]; decide
  · intro e; rw [e]; decide
theorem pl_eq_ninf {a : Nat} (ha : a < 18446744073709551616) (h : nanB a = false) : pl a = 4503599627370495 ↔ a = 18442240474082181120 := by
  constructor
  · intro e; have := (pl_range ha h).2.2; rw [e] at this; rw [← this]; decide
  · intro e; rw [e]; decide
theorem nan_modS {n : Nat} (h : nanB n = false) : ¬ 9218868437227405312 < n % 9223372036854775808 := by have := (finS h).2; omega
theorem up_fin {a : Nat} (h : nanB a = false) (hi : a ≠ 9218868437227405312) : up a = att (pl a + 1) := by
  have := nan_modS h
  unfold up; rw [if_neg (by omega)]
theorem dn_fin {a : Nat} (h : nanB a = false) (hi : a ≠ 18442240474082181120) : dn a = att (pl a - 1) := by
  have := nan_modS h
  unfold dn; rw [if_neg (by omega)]
theorem up_pl {a : Nat} (ha : a < 18446744073709551616) (h : nanB a = false) (hi : a ≠ 9218868437227405312) : nanB (up a) = false ∧ pl (up a) = pl a + 1 ∧ up a < 18446744073709551616 := by
  obtain ⟨r1, r2, _⟩ := pl_range ha h
  have hp : pl a ≠ 18442240474082181120 := fun e => hi ((pl_eq_inf ha h).1 e)
  rw [up_fin h hi]
  exact fin_att (by omega) (by omega)
theorem dn_pl {a : Nat} (ha : a < 18446744073709551616) (h : nanB a = false) (hi : a ≠ 18442240474082181120) : nanB (dn a) = false ∧ pl (dn a) = pl a - 1 ∧ dn a < 18446744073709551616 := by
  obtain ⟨r1, r2, _⟩ := pl_range ha h
  have hp : pl a ≠ 4503599627370495 := fun e => hi ((pl_eq_ninf ha h).1 e)
  rw [dn_fin h hi]
  exact fin_att (by omega) (by omega)
theorem pl_injS {a b : Nat} (ha : a < 18446744073709551616) (hb : b < 18446744073709551616) (h1 : nanB a = false) (h2 : nanB b = false) (e : pl a = pl b) : a = b := by
  have x := (pl_range ha h1).2.2
  have y := (pl_range hb h2).2.2
  rw [← x, ← y, e]
theorem dn_up {a : Nat} (ha : a < 18446744073709551616) (h : nanB a = false) (hi : a ≠ 9218868437227405312) : dn (up a) = a := by
  obtain ⟨u1, u2, u3⟩ := up_pl ha h hi
  obtain ⟨r1, r2, _⟩ := pl_range ha h
  have hn : up a ≠ 18442240474082181120 := fun e => by have := (pl_eq_ninf u3 u1).2 e; omega
  obtain ⟨d1, d2, d3⟩ := dn_pl u3 u1 hn
  exact pl_injS d3 ha d1 h (by omega)
theorem up_dn {a : Nat} (ha : a < 18446744073709551616) (h : nanB a = false) (hi : a ≠ 18442240474082181120) : up (dn a) = a := by
  obtain ⟨u1, u2, u3⟩ := dn_pl ha h hi
  obtain ⟨r1, r2, _⟩ := pl_range ha h
  have hp : pl a ≠ 4503599627370495 := fun e => hi ((pl_eq_ninf ha h).1 e)
  have hn : dn a ≠ 9218868437227405312 := fun e => by have := (pl_eq_inf u3 u1).2 e; omega
  obtain ⟨d1, d2, d3⟩ := up_pl u3 u1 hn
  exact pl_injS d3 ha d1 h (by omega)
/-- So many steps of Up. -/
def upk (a : Nat) : Nat → Nat
  | 0 => a
  | i + 1 => up (upk a i)
theorem upk_pl {a : Nat} (ha : a < 18446744073709551616) (h : nanB a = false) : ∀ i, nanB (upk a i) = false ∧ upk a i < 18446744073709551616 ∧ pl (upk a i) = (if pl a + i ≤ 18442240474082181120 then pl a + i else 18442240474082181120)
  | 0 => by
    have := (pl_range ha h).2.1
    refine ⟨h, ha, ?_⟩
    unfold upk; rw [if_pos (by omega)]; rfl
  | i + 1 => by
    obtain ⟨i1, i2, i3⟩ := upk_pl ha h i
    unfold upk
    by_cases e : upk a i = 9218868437227405312
    · have ee : up (upk a i) = upk a i := by unfold up; rw [if_pos (Or.inr e)]
      rw [ee]
      refine ⟨i1, i2, ?_⟩
      have := (pl_eq_inf i2 i1).2 e
      rw [this] at i3 ⊢
      split at i3 <;> split <;> omega
    · obtain ⟨u1, u2, u3⟩ := up_pl i2 i1 e
      refine ⟨u1, u3, ?_⟩
      have : pl (upk a i) ≠ 18442240474082181120 := fun q => e ((pl_eq_inf i2 i1).1 q)
      rw [u2]
      split at i3 <;> split <;> omega
theorem lt_inf {a : Nat} (ha : a < 18446744073709551616) (h : nanB a = false) : (FloatKind.f64.format.order a 9218868437227405312 == some Ordering.lt) = decide (a ≠ 9218868437227405312) := by
  refine (lt_iff a _ ha (by decide)).trans ?_
  have z : nanB 9218868437227405312 = false := by decide
  have z2 : sv 9218868437227405312 = 9218868437227405312 := by decide
  rw [h, z, z2]
  simp only [Bool.not_false, Bool.true_and]
  have := finS h
  by_cases e : a = 9218868437227405312
  · rw [e]; decide
  · rw [decide_eq_true e]; exact decide_eq_true (by unfold sv; split <;> omega)
theorem gt_ninf {a : Nat} (ha : a < 18446744073709551616) (h : nanB a = false) : (FloatKind.f64.format.order a 18442240474082181120 == some Ordering.gt) = decide (a ≠ 18442240474082181120) := by
  refine (gt_iff a _ ha (by decide)).trans ?_
  have z : nanB 18442240474082181120 = false := by decide
  have z2 : sv 18442240474082181120 = -9218868437227405312 := by decide
  rw [h, z, z2]
  simp only [Bool.not_false, Bool.true_and]
  have := finS h
  by_cases e : a = 18442240474082181120
  · rw [e]; decide
  · rw [decide_eq_true e]; exact decide_eq_true (by unfold sv; split <;> omega)
end Go.Proofs.YtabkbhmjblfajaaDoor
