/-
  What the rows list: the table of the powers of ten; the sentinels.
-/
import Derived.Test.YtmfnjmgdindlaaaDoorPl4
import Derived.Lib.LaidTab
import Derived.LaidSub
import Derived.LaidMore
import Derived.ProofKit
namespace Go.Proofs.YtmfnjmgdindlaaaDoor
open Go.RowKit
theorem tb_of {W : World} {l : List (String × DataW Unit)} (h : laidMetH Tryd.prog l W)
    (hf : l.filter (fun x => x.1 == "internal/strconv.uint64pow10") = [("internal/strconv.uint64pow10", Lib.tabData .u64 Lib.pow10Tab)]) : Tb W := by
  have h1 := h.filter (fun x => x.1 == "internal/strconv.uint64pow10")
  rw [hf, MakeChecks.laidMetH_plain _ _ _ (by kernel_rfl)] at h1
  have ht : Lib.TabIs Tryd.prog W "internal/strconv.uint64pow10" .u64 Lib.pow10Tab :=
    Lib.tabIs_of_head (g := 3) (by kernel_rfl) (by kernel_rfl) Tryd.underlying108 Tryd.underlying22 (by kernel_rfl) (by kernel_rfl) h1
  exact ⟨ht, World.block_lt_of_cell? W _ (ht.cell (g := 3) (by kernel_rfl) 0 (by decide))⟩
end Go.Proofs.YtmfnjmgdindlaaaDoor
