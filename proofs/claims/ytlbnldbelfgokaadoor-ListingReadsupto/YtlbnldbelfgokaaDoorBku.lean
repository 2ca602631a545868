/-
  What the bound of the second form gives.
-/
import Derived.Test.YtlbnldbelfgokaaDoorProg
import Derived.Test.YtlbnldbelfgokaaDoorRows
namespace Go.Proofs.YtlbnldbelfgokaaDoor
open Go
theorem bulk_one {H : Type} (d : DataW H) : 1 ≤ Rows.uptoBulk d := by
  cases d with
  | lit l => cases l <;> simp [Rows.uptoBulk]
  | nil => simp [Rows.uptoBulk]
  | ptr d => simp [Rows.uptoBulk]
  | slice elems spare => simp [Rows.uptoBulk]
  | agg parts => simp [Rows.uptoBulk]
  | iface t d => simp [Rows.uptoBulk]
  | map entries => simp [Rows.uptoBulk]
  | held h => simp [Rows.uptoBulk]
theorem bulk_len {H : Type} : ∀ l : List (DataW H), l.length ≤ Rows.uptoBulkAll l
  | [] => by simp [Rows.uptoBulkAll]
  | x :: r => by have := bulk_one x; have := bulk_len r; simp only [Rows.uptoBulkAll, List.length_cons]; omega
theorem bulk_mem {H : Type} {d : DataW H} : ∀ {l : List (DataW H)}, d ∈ l → Rows.uptoBulk d ≤ Rows.uptoBulkAll l
  | [], h => absurd h (by simp)
  | x :: r, h => by
    simp only [Rows.uptoBulkAll]
    rcases List.mem_cons.1 h with e | e
    · subst e; omega
    · have := bulk_mem e; omega
theorem bulk_of {H : Type} {ds : List (DataW H)} {d : DataW H} (hk : Rows.uptoSmall H ds = true) (hm : d ∈ ds) : Rows.uptoBulk d ≤ 1048576 :=
  Nat.le_trans (bulk_mem hm) (of_decide_eq_true hk)
theorem bulk_slice {H : Type} {ds : List (DataW H)} {el sp : List (DataW H)} (hk : Rows.uptoSmall H ds = true) (hm : DataW.slice el sp ∈ ds) : el.length ≤ 1048576 := by
  have h2 := bulk_of hk hm
  have h3 := bulk_len el
  simp only [Rows.uptoBulk] at h2
  omega
end Go.Proofs.YtlbnldbelfgokaaDoor
