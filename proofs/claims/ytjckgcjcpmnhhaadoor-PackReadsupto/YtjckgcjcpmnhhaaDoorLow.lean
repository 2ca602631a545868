/-
  Contracts of package bits' plain functions: what each returns at every float, the world as it was.
-/
import Derived.Test.YtjckgcjcpmnhhaaDoorProg
import Derived.Test.YtjckgcjcpmnhhaaDoorWrd
import Derived.WalkLawsBesides
namespace Go.Proofs.YtjckgcjcpmnhhaaDoor
open Flo Go.RowKit

theorem run_frombits (b : Int) (w : World) : (callFunc 76 #[.int .u64 b]).run Tryd.prog w = .ok (.value (.float .f64 b.toNat)) w := by kernel_rfl
theorem run_tobits (b : Nat) (w : World) : (callFunc 91 #[.float .f64 b]).run Tryd.prog w = .ok (.value (.int .u64 b)) w := by kernel_rfl

set_option maxHeartbeats 400000 in
theorem of_c (b : Int) (w : World) :
    Calls Tryd.prog 74 #[.int .u64 b] w fun e w' => e = .returned (.float .f64 b.toNat) ∧ w = w' := by
  have h1 := run_frombits
  go_enter Tryd.func74, Tryd.ntmps74
  go_wp2
  go_ret
  exact ⟨rfl, rfl⟩
set_option maxHeartbeats 400000 in
theorem sizeOf_c (n : Nat) (w : World) (h : n < 18446744073709551616) :
    Calls Tryd.prog 92 #[.int .u64 n] w fun e w' => e = .returned (.int .u64 (sz n : Nat)) ∧ w = w' := by
  go_enter Tryd.func92, Tryd.ntmps92
  go_wp2
  go_ret
  exact ⟨ret_int (andNot_sign n h), rfl⟩
set_option maxHeartbeats 400000 in
theorem bits_c (n : Nat) (w : World) (h : n < 18446744073709551616) :
    Calls Tryd.prog 71 #[.float .f64 n] w fun e w' => e = .returned (.int .u64 (bt n : Nat)) ∧ w = w' := by
  have h2 := run_tobits
  go_enter Tryd.func71, Tryd.ntmps71
  go_wp2_with (go_at_call 92; refine (sizeOf_c _ _ h).mono ?_; rintro e w' ⟨rfl, rfl⟩)
  all_goals go_ret
  · exact ⟨ret_int (by unfold sz at *; unfold bt; rw [if_pos (by omega)]; rfl), rfl⟩
  · exact ⟨ret_int (by unfold sz at *; unfold bt; rw [if_neg (by omega)]), rfl⟩

end Go.Proofs.YtjckgcjcpmnhhaaDoor
