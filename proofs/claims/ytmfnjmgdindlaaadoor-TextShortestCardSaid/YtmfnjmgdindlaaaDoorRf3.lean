/-
  The document's Float and ParseFloat; timbrenat.Float.
-/
import Derived.Test.YtmfnjmgdindlaaaDoorPfl
namespace Go.Proofs.YtmfnjmgdindlaaaDoor
open Flo Go.RowKit
theorem ord_self (b : Nat) (hb : b < 18446744073709551616) (h : ¬ 9218868437227405312 < b % 9223372036854775808) : FloatKind.f64.format.order b b = some Ordering.eq := by
  have h1 := order_of b b hb hb (by omega) (by omega)
  have h2 : compare (sv b) (sv b) = Ordering.eq := by simp
  rw [h2] at h1
  exact h1
theorem ord_nan (b : Nat) (h : 9218868437227405312 < b % 9223372036854775808) : FloatKind.f64.format.order b b = none := order_nan_left b b h
set_option maxRecDepth 100000 in
set_option maxHeartbeats 400000 in
theorem natFloat_c (b : Nat) (w : World) (hb : b < 18446744073709551616) :
    Calls Tryd.prog 5 #[.int .u64 b] w fun e w' => e = .returned (.float .f64 (bt b)) ∧ w = w' := by
  have h1 := run_frombits
  by_cases hn : 9218868437227405312 < b % 9223372036854775808
  · have ho := ord_nan b hn
    have hbt : Hid (bt b = 9221120237041090560) := by show _ = _; unfold bt; rw [if_pos hn]
    clear hn hb
    go_enter Tryd.func5, Tryd.ntmps5
    go_wp2
    go_ret
    exact ⟨by rw [hbt.out]; rfl, rfl⟩
  · have ho := ord_self b hb hn
    have hbt : Hid (bt b = b) := by show _ = _; unfold bt; rw [if_neg hn]
    clear hn hb
    go_enter Tryd.func5, Tryd.ntmps5
    go_wp2
    go_ret
    exact ⟨by rw [hbt.out]; rfl, rfl⟩
/-- the document's answer -/
def r3r (l : List UInt8) : Value := match pf l with | some b => .tuple #[.float .f64 b, .int .i64 0] | none => .tuple #[.float .f64 0, .int .i64 6]
theorem r3r_none {l : List UInt8} (h : pf l = none) : r3r l = .tuple #[.float .f64 0, .int .i64 6] := by unfold r3r; rw [h]
theorem r3r_some {l : List UInt8} {b : Nat} (h : pf l = some b) : r3r l = .tuple #[.float .f64 b, .int .i64 0] := by unfold r3r; rw [h]
theorem hex_eq : ∀ (d : Nat), d < 16 → ∀ c : Nat, c < 256 → (hexd d = c ↔ Hx.hexv c = some d) := by
  intro d hd c hc
  unfold hexd Hx.hexv
  constructor
  · intro h
    subst h
    by_cases h1 : d < 10
    · rw [if_pos h1, if_pos (by omega)]; congr 1; omega
    · rw [if_neg h1, if_neg (by omega), if_pos (by omega)]; congr 1; omega
  · intro h
    by_cases h1 : 48 ≤ c ∧ c ≤ 57
    · rw [if_pos h1] at h
      cases h
      rw [if_pos (by omega)]; omega
    · rw [if_neg h1] at h
      by_cases h2 : 97 ≤ c ∧ c ≤ 102
      · rw [if_pos h2] at h
        cases h
        rw [if_neg (by omega)]; omega
      · rw [if_neg h2] at h; cases h
end Go.Proofs.YtmfnjmgdindlaaaDoor
