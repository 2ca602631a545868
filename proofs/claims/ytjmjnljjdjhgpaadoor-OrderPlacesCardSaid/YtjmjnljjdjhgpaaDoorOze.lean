/-
  What the rows of layer 12 list: the table of the powers of ten, three sentinels.
-/
import Derived.Test.YtjmjnljjdjhgpaaDoorOe0
import Derived.Lib.LaidTab
import Derived.LaidSub
import Derived.LaidMore
import Derived.ProofKit
namespace Go.Proofs.YtjmjnljjdjhgpaaDoor
open Go.RowKit
theorem tab_of {W : World} {l : List (String × DataW Unit)} (h : laidMetH Tryd.prog l W)
    (hf : l.filter (fun x => x.1 == "internal/strconv.uint64pow10") = [("internal/strconv.uint64pow10", Lib.tabData .u64 Lib.pow10Tab)]) : Lib.TabIs Tryd.prog W "internal/strconv.uint64pow10" .u64 Lib.pow10Tab := by
  have h1 := h.filter (fun x => x.1 == "internal/strconv.uint64pow10")
  rw [hf, MakeChecks.laidMetH_plain _ _ _ (by kernel_rfl)] at h1
  exact Lib.tabIs_of_head (g := 19) (by kernel_rfl) (by kernel_rfl) Tryd.underlying113 Tryd.underlying104 (by kernel_rfl) (by kernel_rfl) h1
def eoNames : List (String × List UInt8) := [("timbre/api.ErrLimit", [116, 105, 109, 98, 114, 101, 58, 32, 108, 105, 109, 105, 116]), ("timbre/api.ErrText", [116, 105, 109, 98, 114, 101, 58, 32, 116, 101, 120, 116]), ("timbre/api.ErrOrder", [116, 105, 109, 98, 114, 101, 58, 32, 111, 114, 100, 101, 114])]
def isTab (s : String) : Bool := s == "math/bits.deBruijn32tab" || s == "math/bits.deBruijn64tab" || s == "internal/strconv.uint64pow10"
theorem eo_of {W : World} {l : List (String × DataW Unit)} (h : laidMetH Tryd.prog l W)
    (hf : l.filter (fun x => x.1 == "internal/strconv.uint64pow10") = [("internal/strconv.uint64pow10", Lib.tabData .u64 Lib.pow10Tab)])
    (he : l.filter (fun x => !isTab x.1) = eoNames.map fun x => (x.1, errD x.2)) : ∃ aL aT aO, Eo W aL aT aO := by
  have ht := tab_of h hf
  have h1 := h.filter (fun x => !isTab x.1)
  rw [he, MakeChecks.laidMetH_plain _ _ _ (by kernel_rfl)] at h1
  obtain ⟨ps, hv, hnd, hr⟩ := h1
  obtain ⟨al, h1, h2, h3⟩ := sents eoNames [2, 1, 0] ps (by kernel_rfl) (by decide +kernel) hv hr
  match al, h1, h2, h3 with
  | [r, t, o], h1, h2, h3 =>
    have hn := h3 hnd
    simp only [List.nodup_cons, List.mem_cons, List.not_mem_nil, or_false, not_or] at hn
    refine ⟨r, t, o, h1.1, h1.2.1, h1.2.2.1, hn.1.1, hn.1.2, hn.2.1, fun a ha => ?_, ht⟩
    rcases ha with rfl | rfl | rfl
    · exact (hr _ _ (h2 _ (by simp))).1
    · exact (hr _ _ (h2 _ (by simp))).1
    · exact (hr _ _ (h2 _ (by simp))).1
end Go.Proofs.YtjmjnljjdjhgpaaDoor
