/-
  The walk of the statement BitsSteps: at all bits it returns true, and nothing that was in memory has turned.
-/
import Derived.Test.YtabkbhmjblfajaaDoorLiv
import Derived.Test.YtabkbhmjblfajaaDoorBtw
import Derived.Test.YtabkbhmjblfajaaDoorSgn
import Derived.Test.YtabkbhmjblfajaaDoorNum
import Derived.Test.YtabkbhmjblfajaaDoorLaid
namespace Go.Proofs.YtabkbhmjblfajaaDoor.bitsSteps
open Flo Go.RowKit
theorem up_nan {a : Nat} (h : nanB a = true) : up a = a := by
  unfold up; rw [if_pos (Or.inl (of_decide_eq_true h))]
theorem dn_nan {a : Nat} (h : nanB a = true) : dn a = a := by
  unfold dn; rw [if_pos (Or.inl (of_decide_eq_true h))]
set_option maxHeartbeats 1000000 in
theorem walk_nan (a b c n : Nat) (w : World) (ha : a < 18446744073709551616) (hn : nanB a = true) :
    Calls Tryd.prog 8 #[.int .u64 a, .int .u64 b, .int .u64 c, .int .u64 n] w fun e w' => e = .returned (.bool true) ∧ w = w' := by
  have a1 : (FloatKind.f64.format.order a a != some Ordering.eq) = true := (ne_self a ha).trans hn
  have r1 := up_nan hn
  have r2 := dn_nan hn
  clear hn
  go_enter Tryd.func8, Tryd.ntmps8
  go_wp2_with (first
    | (go_at_call 9; refine (lives_c _).mono ?_; rintro e w' ⟨rfl, rfl⟩)
    | (go_at_call 10; refine (lof_c _ _).mono ?_; rintro e w' ⟨rfl, rfl⟩)
    | (go_at_call 39; first | (refine (inf_p _).mono ?_; rintro e w' ⟨rfl, rfl⟩) | (refine (inf_m _).mono ?_; rintro e w' ⟨rfl, rfl⟩))
    | (go_at_call 22; refine (up_c _ _ (by assumption)).mono ?_; rintro e w' ⟨rfl, rfl⟩)
    | (go_at_call 24; refine (dn_c _ _ (by assumption)).mono ?_; rintro e w' ⟨rfl, rfl⟩)
    | (go_at_call 28; refine (apart_c _ _ _ (by assumption) (by assumption) (by assumption) (by assumption)).mono ?_; rintro e w' ⟨rfl, rfl⟩)
    | (go_at_call 30; refine (same_c _ _ _ (by assumption) (by assumption)).mono ?_; rintro e w' ⟨rfl, rfl⟩)
    | (go_at_call 32; refine (compare_c _ _ _ (by assumption) (by assumption)).mono ?_; rintro e w' ⟨rfl, rfl⟩))
  go_ret
  exact ⟨rfl, rfl⟩
/-- What is known of f's neighbours. -/
def Near (a : Nat) : Prop :=
  ((FloatKind.f64.format.order a 9218868437227405312 == some Ordering.lt) = false ∧ (FloatKind.f64.format.order a 18442240474082181120 == some Ordering.gt) = true ∧ (up (dn a) = a ∧ cp (dn a) a = -1 ∧ dn a < 18446744073709551616)) ∨
  ((FloatKind.f64.format.order a 9218868437227405312 == some Ordering.lt) = true ∧ (FloatKind.f64.format.order a 18442240474082181120 == some Ordering.gt) = false ∧ (dn (up a) = a ∧ cp a (up a) = -1 ∧ up a < 18446744073709551616 ∧ ap a (up a) = 1 ∧ nanB (up a) = false)) ∨
  ((FloatKind.f64.format.order a 9218868437227405312 == some Ordering.lt) = true ∧ (FloatKind.f64.format.order a 18442240474082181120 == some Ordering.gt) = true ∧ (up (dn a) = a ∧ cp (dn a) a = -1 ∧ dn a < 18446744073709551616) ∧ (dn (up a) = a ∧ cp a (up a) = -1 ∧ up a < 18446744073709551616 ∧ ap a (up a) = 1 ∧ nanB (up a) = false))
theorem near {a : Nat} (ha : a < 18446744073709551616) (h : nanB a = false) : Near a := by
  have h1 := lt_inf ha h
  have h2 := gt_ninf ha h
  have D : a ≠ 18442240474082181120 → up (dn a) = a ∧ cp (dn a) a = -1 ∧ dn a < 18446744073709551616 := by
    intro e
    obtain ⟨d1, d2, d3⟩ := dn_pl ha h e
    have := (pl_range ha h).1
    refine ⟨up_dn ha h e, ?_, d3⟩
    unfold cp; rw [if_pos (by omega)]
  have U : a ≠ 9218868437227405312 → dn (up a) = a ∧ cp a (up a) = -1 ∧ up a < 18446744073709551616 ∧ ap a (up a) = 1 ∧ nanB (up a) = false := by
    intro e
    obtain ⟨d1, d2, d3⟩ := up_pl ha h e
    refine ⟨dn_up ha h e, ?_, d3, ?_, d1⟩
    · unfold cp; rw [if_pos (by omega)]
    · unfold ap; rw [if_pos (by omega)]; omega
  by_cases e1 : a = 9218868437227405312
  · exact Or.inl ⟨by rw [h1, e1]; decide, by rw [h2, e1]; decide, D (by omega)⟩
  · by_cases e2 : a = 18442240474082181120
    · exact Or.inr (Or.inl ⟨by rw [h1, e2]; decide, by rw [h2, e2]; decide, U e1⟩)
    · exact Or.inr (Or.inr ⟨by rw [h1]; exact decide_eq_true e1, by rw [h2]; exact decide_eq_true e2, D e2, U e1⟩)
set_option maxHeartbeats 4000000 in
theorem walk_g (a b c n : Nat) (w : World) (ha : a < 18446744073709551616) (hb : b < 18446744073709551616) (hn : nanB a = false) (nr : Near a) (al : List Addr) (he : Errs w al) (ng : nanB b = true) :
    Calls Tryd.prog 8 #[.int .u64 a, .int .u64 b, .int .u64 c, .int .u64 n] w fun e w' => e = .returned (.bool true) ∧ Below w.heap.size w w' := by
  have a1 : (FloatKind.f64.format.order a a != some Ordering.eq) = false := (ne_self a ha).trans hn
  have hv : w.cell? ⟨0, 0, none⟩ = some (ek al 12) := errNumber_cell he
  have hz : Hid (Errs w.drew al) := he.below ((Below.refl _ _).drew)
  clear he
  have b1 : (FloatKind.f64.format.order b b != some Ordering.eq) = true := (ne_self b hb).trans ng
  rcases nr with ⟨h1, h2, d1, d2, d3⟩ | ⟨h1, h2, u1, u2, u3, u4, u5⟩ | ⟨h1, h2, ⟨d1, d2, d3⟩, u1, u2, u3, u4, u5⟩
  all_goals
    go_enter Tryd.func8, Tryd.ntmps8
    go_wp2_with (first
      | (go_at_call 9; refine (lives_c _).mono ?_; rintro e w' ⟨rfl, rfl⟩)
      | (go_at_call 10; refine (lof_c _ _).mono ?_; rintro e w' ⟨rfl, rfl⟩)
      | (go_at_call 39; first | (refine (inf_p _).mono ?_; rintro e w' ⟨rfl, rfl⟩) | (refine (inf_m _).mono ?_; rintro e w' ⟨rfl, rfl⟩))
      | (go_at_call 22; refine (up_c _ _ (by assumption)).mono ?_; rintro e w' ⟨rfl, rfl⟩)
      | (go_at_call 24; refine (dn_c _ _ (by assumption)).mono ?_; rintro e w' ⟨rfl, rfl⟩)
      | (go_at_call_of 28 (up a); refine (apart_c a (up a) _ ha (by assumption) hn (by assumption)).mono ?_; rintro e w' ⟨rfl, rfl⟩)
      | (go_at_call_of 28 b; refine (apart_nan b c _ _ hb hv ng).mono ?_; rintro e w' ⟨rfl, rfl⟩)
      | (go_at_call 13; refine (num_err al 12 (by decide) _ hz.out).mono ?_; rintro e w1 ⟨rfl, hb1⟩)
      | (go_at_call 30; refine (same_c _ _ _ (by assumption) (by assumption)).mono ?_; rintro e w' ⟨rfl, rfl⟩)
      | (go_at_call 32; refine (compare_c _ _ _ (by assumption) (by assumption)).mono ?_; rintro e w' ⟨rfl, rfl⟩))
    go_ret
    exact ⟨rfl, ((Below.refl _ _).drew).trans hb1⟩
set_option maxHeartbeats 4000000 in
theorem walk_h (a b c n : Nat) (w : World) (ha : a < 18446744073709551616) (hb : b < 18446744073709551616) (hc : c < 18446744073709551616) (hn : nanB a = false) (nr : Near a) (al : List Addr) (he : Errs w al) (ng : nanB b = false) (nh : nanB c = true) :
    Calls Tryd.prog 8 #[.int .u64 a, .int .u64 b, .int .u64 c, .int .u64 n] w fun e w' => e = .returned (.bool true) ∧ Below w.heap.size w w' := by
  have a1 : (FloatKind.f64.format.order a a != some Ordering.eq) = false := (ne_self a ha).trans hn
  have hv : w.cell? ⟨0, 0, none⟩ = some (ek al 12) := errNumber_cell he
  have hz : Hid (Errs w.drew al) := he.below ((Below.refl _ _).drew)
  clear he
  have b1 : (FloatKind.f64.format.order b b != some Ordering.eq) = false := (ne_self b hb).trans ng
  have b2 : (FloatKind.f64.format.order c c != some Ordering.eq) = true := (ne_self c hc).trans nh
  rcases nr with ⟨h1, h2, d1, d2, d3⟩ | ⟨h1, h2, u1, u2, u3, u4, u5⟩ | ⟨h1, h2, ⟨d1, d2, d3⟩, u1, u2, u3, u4, u5⟩
  all_goals
    go_enter Tryd.func8, Tryd.ntmps8
    go_wp2_with (first
      | (go_at_call 9; refine (lives_c _).mono ?_; rintro e w' ⟨rfl, rfl⟩)
      | (go_at_call 10; refine (lof_c _ _).mono ?_; rintro e w' ⟨rfl, rfl⟩)
      | (go_at_call 39; first | (refine (inf_p _).mono ?_; rintro e w' ⟨rfl, rfl⟩) | (refine (inf_m _).mono ?_; rintro e w' ⟨rfl, rfl⟩))
      | (go_at_call 22; refine (up_c _ _ (by assumption)).mono ?_; rintro e w' ⟨rfl, rfl⟩)
      | (go_at_call 24; refine (dn_c _ _ (by assumption)).mono ?_; rintro e w' ⟨rfl, rfl⟩)
      | (go_at_call_of 28 (up a); refine (apart_c a (up a) _ ha (by assumption) hn (by assumption)).mono ?_; rintro e w' ⟨rfl, rfl⟩)
      | (go_at_call_of 28 b; refine (apart_nan2 b c _ _ hb hc hv ng nh).mono ?_; rintro e w' ⟨rfl, rfl⟩)
      | (go_at_call 13; refine (num_err al 12 (by decide) _ hz.out).mono ?_; rintro e w1 ⟨rfl, hb1⟩)
      | (go_at_call 30; refine (same_c _ _ _ (by assumption) (by assumption)).mono ?_; rintro e w' ⟨rfl, rfl⟩)
      | (go_at_call 32; refine (compare_c _ _ _ (by assumption) (by assumption)).mono ?_; rintro e w' ⟨rfl, rfl⟩))
    go_ret
    exact ⟨rfl, ((Below.refl _ _).drew).trans hb1⟩
end Go.Proofs.YtabkbhmjblfajaaDoor.bitsSteps
