/-
  What the rows of layer 12 list: the table of the powers of ten, three sentinels.
-/
import Derived.Test.YtfoblbpbhldngaaDoorOe0
import Derived.Lib.LaidTab
import Derived.LaidSub
import Derived.LaidMore
import Derived.ProofKit
import Derived.Test.YtfoblbpbhldngaaDoorLaid
import Derived.Test.YtfoblbpbhldngaaDoorOq5
namespace Go.Proofs.YtfoblbpbhldngaaDoor
open Go.RowKit
theorem tab_of {W : World} {l : List (String × DataW Unit)} (h : laidMetH Tryd.prog l W)
    (hf : l.filter (fun x => x.1 == "internal/strconv.uint64pow10") = [("internal/strconv.uint64pow10", Lib.tabData .u64 Lib.pow10Tab)]) : Lib.TabIs Tryd.prog W "internal/strconv.uint64pow10" .u64 Lib.pow10Tab := by
  have h1 := h.filter (fun x => x.1 == "internal/strconv.uint64pow10")
  rw [hf, MakeChecks.laidMetH_plain _ _ _ (by kernel_rfl)] at h1
  exact Lib.tabIs_of_head (g := 19) (by kernel_rfl) (by kernel_rfl) Tryd.underlying102 Tryd.underlying92 (by kernel_rfl) (by kernel_rfl) h1
def eoNames : List (String × List UInt8) := [("timbre/api.ErrLimit", [116, 105, 109, 98, 114, 101, 58, 32, 108, 105, 109, 105, 116]), ("timbre/api.ErrText", [116, 105, 109, 98, 114, 101, 58, 32, 116, 101, 120, 116]), ("timbre/api.ErrOrder", [116, 105, 109, 98, 114, 101, 58, 32, 111, 114, 100, 101, 114])]
def isTab (s : String) : Bool := s == "math/bits.deBruijn32tab" || s == "math/bits.deBruijn64tab" || s == "internal/strconv.uint64pow10"
theorem eo_of {W : World} {l : List (String × DataW Unit)} (h : laidMetH Tryd.prog l W)
    (hf : l.filter (fun x => x.1 == "internal/strconv.uint64pow10") = [("internal/strconv.uint64pow10", Lib.tabData .u64 Lib.pow10Tab)])
    (he : l.filter (fun x => !isTab x.1) = eoNames.map fun x => (x.1, errD x.2)) : ∃ aL aT aO, Eo W aL aT aO := by
  have ht := tab_of h hf
  have h1 := h.filter (fun x => !isTab x.1)
  rw [he, MakeChecks.laidMetH_plain _ _ _ (by kernel_rfl)] at h1
  obtain ⟨ps, hv, hnd, hr⟩ := h1
  obtain ⟨al, h1, h2, h3⟩ := sents eoNames [0, 2, 1] ps (by kernel_rfl) (by decide +kernel) hv hr
  match al, h1, h2, h3 with
  | [r, t, o], h1, h2, h3 =>
    have hn := h3 hnd
    simp only [List.nodup_cons, List.mem_cons, List.not_mem_nil, or_false, not_or] at hn
    refine ⟨r, t, o, h1.1, h1.2.1, h1.2.2.1, hn.1.1, hn.1.2, hn.2.1, fun a ha => ?_, ht⟩
    rcases ha with rfl | rfl | rfl
    · exact (hr _ _ (h2 _ (by simp))).1
    · exact (hr _ _ (h2 _ (by simp))).1
    · exact (hr _ _ (h2 _ (by simp))).1
end Go.Proofs.YtfoblbpbhldngaaDoor
/-
  What the row of OrderParses lists: the tables, the nineteen sentinels; the number of an error that package order answers.
-/
namespace Go.Proofs.YtfoblbpbhldngaaDoor
open Go.RowKit Flo Tr
theorem eoall_of {W : World} {l : List (String × DataW Unit)} (h : laidMetH Tryd.prog l W)
    (hf : l.filter (fun x => x.1 == "internal/strconv.uint64pow10") = [("internal/strconv.uint64pow10", Lib.tabData .u64 Lib.pow10Tab)])
    (he : l.filter (fun x => !isTab x.1) = errNames.map fun x => (x.1, errD x.2)) : ∃ al, Errs W al ∧ Eo W (al.getD 2 ⟨0, 0, none⟩) (al.getD 5 ⟨0, 0, none⟩) (al.getD 7 ⟨0, 0, none⟩) := by
  have ht := tab_of h hf
  have h1 := h.filter (fun x => !isTab x.1)
  rw [he] at h1
  obtain ⟨al, hE⟩ := errs_of h1
  refine ⟨al, hE, ?_⟩
  have hnd := hE.nd
  have hrow := hE.row
  obtain ⟨a0, a1, a2, a3, a4, a5, a6, a7, a8, a9, a10, a11, a12, a13, a14, a15, a16, a17, a18, rfl⟩ := hE.len
  obtain ⟨_, _, c2, _, _, c5, _, c7, _⟩ := hE.sent
  refine ⟨c2, c5, c7, ?_, ?_, ?_, fun a ha => hrow a ?_, ht⟩
  · intro e; simp at e; subst e; simp at hnd
  · intro e; simp at e; subst e; simp at hnd
  · intro e; simp at e; subst e; simp at hnd
  · rcases ha with rfl | rfl | rfl <;> simp
theorem numEr_c (al : List Addr) (k : Nat) (hk : k = 0 ∨ k = 3 ∨ k = 6 ∨ k = 8) (w : World) (he : Errs w al) :
    Calls Tryd.prog 9 #[er (al.getD 2 ⟨0, 0, none⟩) (al.getD 5 ⟨0, 0, none⟩) (al.getD 7 ⟨0, 0, none⟩) k] w fun e w' => e = .returned (.int .i64 (k : Int)) ∧ Below w.heap.size w w' := by
  rcases hk with rfl | rfl | rfl | rfl
  · refine (num_nil w).mono ?_
    rintro e w' ⟨rfl, rfl⟩
    exact ⟨rfl, Below.refl _ _⟩
  · exact num_err al 2 (by decide) w he
  · exact num_err al 5 (by decide) w he
  · exact num_err al 7 (by decide) w he
namespace Ps
theorem prs_num (l : List UInt8) : (prs l).2.2 = 0 ∨ (prs l).2.2 = 3 ∨ (prs l).2.2 = 6 ∨ (prs l).2.2 = 8 := by
  by_cases h : 65536 < l.length
  · rw [prs_long h]; simp
  · by_cases hg : ∃ t, rd l = (some t, l.length)
    · obtain ⟨t, hr⟩ := hg
      rw [prs_good h hr]
      by_cases h0 : len t = 0
      · rw [if_pos h0]; simp
      · rw [if_neg h0]; simp
    · rw [prs_text h (fun t ht => hg ⟨t, ht⟩)]; simp
end Ps
end Go.Proofs.YtfoblbpbhldngaaDoor
