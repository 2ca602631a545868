/-
  Proved: for every array of eight whole numbers the Go function timbrelaw11.FlyExact returns true and leaves everything as it was; no condition.
-/
import Derived.Test.YtonfdfmhnamimaaRows
import Derived.Test.YtonfdfmhnamimaaFlyExactWalk
import Derived.ProofKit
import Derived.LaidMore
import Derived.OpenShut
import Derived.SizedLaws
import Derived.Stop.Joined
namespace Go.Proofs.Ytonfdfmhnamimaa.flyExact
open Go.ChangeShapes Go.WideShapes Go.ChangeAt Go.RowKit
theorem laidOut : laidOutB Try.prog = true := by kernel_rfl
theorem ownK : ownKnob Try.prog.godebug = none := by kernel_rfl
theorem cellT8 : Try.prog.cellTypes Try.prog.depth 22 = some [2, 2, 2, 2, 2, 2, 2, 2] := by kernel_rfl
theorem cellsOf8 : Try.prog.cellsOf 22 = 8 := by kernel_rfl
theorem ty8 {j : Nat} (hj : j < 8) : ([2, 2, 2, 2, 2, 2, 2, 2] : List TypeId)[j]? = some 2 := by
  match j, hj with
  | 0, _ => rfl | 1, _ => rfl | 2, _ => rfl | 3, _ => rfl | 4, _ => rfl | 5, _ => rfl | 6, _ => rfl | 7, _ => rfl
theorem open_a8 {W : World} {base : Nat} {v : Value} (h : Value.okWide Try.prog W .any base 22 v) : ∃ z : Nat → Int, v = .agg (rE z) := by
  simp only [Value.okWide, Try.underlying22] at h
  obtain ⟨cs, rfl, h1, h2⟩ := h
  rw [cellsOf8] at h1
  obtain ⟨ts, h3, _, h4⟩ := h2
  rw [cellT8] at h3
  obtain rfl := Option.some.inj h3
  have key : ∀ j, j < 8 → ∃ n, cs[j]? = some (.int .i64 n) := by
    intro j hj
    obtain ⟨u, hu⟩ : ∃ u, cs[j]? = some u := ⟨cs[j], by simp [h1, hj]⟩
    obtain ⟨t, ht, hc⟩ := h4 j u hu
    have e : j % ([2, 2, 2, 2, 2, 2, 2, 2] : List TypeId).length = j := Nat.mod_eq_of_lt hj
    rw [e, ty8 hj] at ht
    obtain rfl := Option.some.inj ht
    have hv : Value.okWide Try.prog W .any base 2 u := by
      simp only [Value.okWide, Try.underlying2]
      exact hc
    obtain ⟨n, rfl⟩ := okWide_int Try.underlying2 hv
    exact ⟨n, hu⟩
  obtain ⟨n0, k0⟩ := key 0 (by decide)
  obtain ⟨n1, k1⟩ := key 1 (by decide)
  obtain ⟨n2, k2⟩ := key 2 (by decide)
  obtain ⟨n3, k3⟩ := key 3 (by decide)
  obtain ⟨n4, k4⟩ := key 4 (by decide)
  obtain ⟨n5, k5⟩ := key 5 (by decide)
  obtain ⟨n6, k6⟩ := key 6 (by decide)
  obtain ⟨n7, k7⟩ := key 7 (by decide)
  refine ⟨fun j => if j = 0 then n0 else if j = 1 then n1 else if j = 2 then n2 else if j = 3 then n3 else if j = 4 then n4 else if j = 5 then n5 else if j = 6 then n6 else n7, ?_⟩
  congr 1
  apply Array.ext_getElem?
  intro j
  by_cases hj : j < 8
  · match j, hj with
    | 0, _ => exact k0
    | 1, _ => exact k1
    | 2, _ => exact k2
    | 3, _ => exact k3
    | 4, _ => exact k4
    | 5, _ => exact k5
    | 6, _ => exact k6
    | 7, _ => exact k7
  · rw [Array.getElem?_eq_none (by omega), Array.getElem?_eq_none (by show 8 ≤ j; omega)]
set_option maxRecDepth 100000 in
theorem lifted (os : Os) (started : os.Started) (H : Type) (enc : TypeId × Value → H) :
    ReturnsInHanded {} Try.checked os 3 .any (Rows.flyExactSpec.pre6 enc Try.prog Try.f3 [] false)
      (Rows.flyExactSpec.post enc Try.prog Try.f3 false true false false) := by
  refine returnsInHanded_of_change_sized (C := Try.checked) ownK started (by kernel_rfl) Try.func3
    (ChangeSpec.witness6 (enc := enc) (C := Try.checked) false ⟨#[], #[.agg #[.int .i64 0, .int .i64 0, .int .i64 0, .int .i64 0, .int .i64 0, .int .i64 0, .int .i64 0, .int .i64 0]], []⟩ 8 (by kernel_rfl) (by kernel_rfl) (by kernel_rfl) (by kernel_rfl)) ?_
  intro W base args ds gs before hval0 hW _ hsz0 _
  have hval : ∀ (j : Nat) t v, Try.f3.params[j]? = some t → args[j]? = some v → Value.okWide Try.prog W .any base t v := hval0
  have hW' := hW
  obtain ⟨p, q, hA0, hV, rfl, hfz, hnd⟩ := hW
  have hA : DataW.TrodAll enc Try.prog W 0 (fun _ => true) true Try.f3.params.toList args.toList ds p := hA0
  rw [Try.params3] at hA hval
  obtain ⟨v0, vs0, d0, ds0, p0, q0, hargs, rfl, rfl, h0, r0⟩ := trodAll_cons hA
  obtain ⟨rfl, rfl, rfl⟩ := trodAll_nil r0
  obtain rfl : args = #[v0] := by cases args; simp_all
  obtain ⟨rfl, rfl⟩ := trodVars_none hV
  obtain ⟨z, rfl⟩ := open_a8 (hval 0 22 v0 rfl rfl)
  clear hA0 hval0 hsz0
  refine (flyExact_w z W).mono fun e W' ⟨he, hg⟩ => ?_
  subst he
  have lt0 : ∀ x ∈ p0, x.block < W.heap.size := fun x hx => by simpa using hW'.lt x (by simp [hx])
  exact ⟨_, rfl, _, _, _, [], _, [], hW', trodAll_cons_mk (shut_bool Try.underlying4 _) trodAll_mk0,
    trodAll_cons_mk (Below.trod laidOut (by kernel_rfl) (of_decide_eq_true (by kernel_rfl)) h0 hg lt0) (trodAll_mk0), rfl, hg.frame _, fun h => by cases h⟩
theorem said : Rows.FlyExactSaid :=
  OpenClaim.holds_of_wide 3 Try.f3 rfl rfl rfl rfl rfl rfl rfl ⟨rfl, rfl, rfl, rfl, rfl⟩ rfl rfl rfl rfl rfl (by kernel_rfl) Try.func3 (by kernel_rfl)
    (of_decide_eq_true (by kernel_rfl)) (by unfold Func.isWrapper; first | (rw [if_pos (by decide +kernel)]; kernel_rfl) | (rw [if_neg (by decide +kernel)]; exact ⟨rfl, rfl⟩))
    (fun os started H enc _ => lifted os started H enc)
end Go.Proofs.Ytonfdfmhnamimaa.flyExact
namespace Go.Proofs.Ytonfdfmhnamimaa
theorem flyExact_said : Rows.FlyExactSaid := flyExact.said
end Go.Proofs.Ytonfdfmhnamimaa
