/-
  The program's naturals: trimmed.
-/
import Derived.Test.YtmfnjmgdindlaaaNvm
namespace Go.Proofs.Ytmfnjmgdindlaaa
open Flo Go.RowKit
/-- the base of the program's naturals -/
def W64 : Nat := 18446744073709551616
theorem W64_2 : 2 ≤ W64 := by decide
theorem W64_0 : 0 < W64 := by decide
theorem wd64 (n i : Nat) : Wd.wd W64 n i < 18446744073709551616 := Wd.wd_lt W64_0 n i
def lenOf : Value → Nat | .slice _ n _ => n | _ => 0
end Go.Proofs.Ytmfnjmgdindlaaa
