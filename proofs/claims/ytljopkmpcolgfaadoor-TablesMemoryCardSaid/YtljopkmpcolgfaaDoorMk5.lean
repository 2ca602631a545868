/-
  timbremem.Mark: one number for each place; a list of marks.
-/
import Derived.Test.YtljopkmpcolgfaaDoorIln
import Derived.Test.YtljopkmpcolgfaaDoorMod
import Derived.Maps.AppendAt
namespace Go.Proofs.YtljopkmpcolgfaaDoor
open Flo Go.RowKit

def mkA (i j : Int) : Int := IntKind.u64.wrap (IntKind.u64.wrap ((i + 1) * 11400714819323198485) + IntKind.u64.wrap ((j + 1) * 13787848793156543929))
/-- what Mark answers -/
def mkv (i j : Nat) : Int := wrap64 (wrap64 (IntKind.u64.wrap (bits .xor .u64 (mkA i j) (mkA i j / 536870912) * 10723151780598845931) / 8589934592) + 1)
/-- the marks of a list -/
def mks (t n : Nat) : List Value := (List.range n).map fun j => Value.int .i64 (mkv t j)
theorem mks_len (t n : Nat) : (mks t n).length = n := by simp [mks]
theorem mks_get (t n j : Nat) (h : j < n) : (mks t n)[j]? = some (.int .i64 (mkv t j)) := by simp [mks, h]
theorem mks_snoc (t n : Nat) : mks t (n + 1) = mks t n ++ [.int .i64 (mkv t n)] := by simp [mks, List.range_succ]
end Go.Proofs.YtljopkmpcolgfaaDoor
