/-
  The contract of the statements' own 'lives': it returns true, the world as it was.
-/
import Derived.Test.YtabkbhmjblfajaaDoorApa
import Derived.Test.YtabkbhmjblfajaaDoorSca
namespace Go.Proofs.YtabkbhmjblfajaaDoor
open Flo Go.RowKit
set_option maxHeartbeats 1000000 in
set_option maxRecDepth 100000 in
theorem lives_c (w : World) :
    Calls Tryd.prog 9 #[] w fun e w' => e = .returned (.bool true) ∧ w = w' := by
  have f1 : ap 4607182418800017408 4607182418800017409 = 1 := by decide
  have f2 : xp 4604930618986332160 = -1 := by decide
  have f3 : bt 4607182418800017408 = 4607182418800017408 := by decide
  have f4 : (FloatKind.f64.format.order 4611686018427387904 4611686018427387904 == some Ordering.eq) = true := by decide +kernel
  have f5 : cls 13830554455654793216 = 2 := by decide
  have f6 : cp 4607182418800017408 4611686018427387904 = -1 := by decide
  have f7 : up 4607182418800017408 = 4607182418800017409 := by decide
  have f8 : (FloatKind.f64.format.order 4607182418800017409 4607182418800017408 == some Ordering.gt) = true := by decide +kernel
  have f9 : dn 4607182418800017408 = 4607182418800017407 := by decide
  have f10 : (FloatKind.f64.format.order 4607182418800017407 4607182418800017408 == some Ordering.lt) = true := by decide +kernel
  have f11 : sc 4613937818241073152 2 = 4622945017495814144 := by decide
  have f12 : (FloatKind.f64.format.order 4622945017495814144 4622945017495814144 == some Ordering.eq) = true := by decide +kernel
  have f13 : wh 4619567317775286272 = true := by decide
  go_enter Tryd.func9, Tryd.ntmps9
  go_wp2_with (first
    | (go_at_call 28; refine (apart_c _ _ _ (by decide) (by decide) (by decide) (by decide)).mono ?_; rintro e w' ⟨rfl, rfl⟩)
    | (go_at_call 11; refine (exponent_c _ _ (by decide) (by decide) (by decide)).mono ?_; rintro e w' ⟨rfl, rfl⟩)
    | (go_at_call 14; refine (bits_c _ _ (by decide)).mono ?_; rintro e w' ⟨rfl, rfl⟩)
    | (go_at_call 17; refine (of_c _ _).mono ?_; rintro e w' ⟨rfl, rfl⟩)
    | (go_at_call 30; refine (same_c _ _ _ (by decide) (by decide)).mono ?_; rintro e w' ⟨rfl, rfl⟩)
    | (go_at_call 18; refine (class_c _ _ (by decide)).mono ?_; rintro e w' ⟨rfl, rfl⟩)
    | (go_at_call 32; refine (compare_c _ _ _ (by decide) (by decide)).mono ?_; rintro e w' ⟨rfl, rfl⟩)
    | (go_at_call 22; refine (up_c _ _ (by decide)).mono ?_; rintro e w' ⟨rfl, rfl⟩)
    | (go_at_call 24; refine (dn_c _ _ (by decide)).mono ?_; rintro e w' ⟨rfl, rfl⟩)
    | (go_at_call 26; refine (scale_c _ _ _ (by decide) (by decide) (by decide)).mono ?_; rintro e w' ⟨rfl, rfl⟩)
    | (go_at_call 20; refine (whole_c _ _ (by decide)).mono ?_; rintro e w' ⟨rfl, rfl⟩))
  go_ret
  exact ⟨rfl, rfl⟩
end Go.Proofs.YtabkbhmjblfajaaDoor
