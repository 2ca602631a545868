/-
  The program's appendNumber.
-/
import Derived.Test.YtfoblbpbhldngaaDoorSha
import Derived.Test.YtfoblbpbhldngaaDoorOe0
import Derived.Test.YtfoblbpbhldngaaDoorSap
import Derived.Test.YtfoblbpbhldngaaDoorOd6
import Derived.Lib.AppendIntMem
import Derived.Lib.ItoaLen
import Derived.Lib.OthersKept
import Derived.Lib.BufferKept
import Derived.Laws.IdiomStrings
import Derived.OwnWalk
import Derived.BigCall
import Derived.Deep.RegionHeldLaw
namespace Go.Proofs.YtfoblbpbhldngaaDoor
open Flo Go.RowKit Tr
open Lib (decDigits byteCells OthersKept)
theorem infoByte : (Tryd.prog.info? 5).map (fun i => (i.zero, i.size, i.bytes)) = some (some (.int .u8 0), 1, 1) := by kernel_rfl
theorem itoa_nat (n : Nat) : Lib.itoa (n : Int) = decDigits n := by
  unfold Lib.itoa
  rw [if_neg (by omega)]; rfl
/-- what a writer leaves -/
def WE (B n : Nat) (xs : List Value) (l : List UInt8) (w : World) (e : Ending) (w' : World) : Prop := ∃ v', e = .returned v' ∧ w'.ownsRow B 5 1 v' (n + l.length) (xs ++ byteCells l) ∧ Below B w w' ∧ OthersKept 5 none w w'
theorem byteCells_app (l m : List UInt8) : byteCells (l ++ m) = byteCells l ++ byteCells m := by simp [byteCells]
theorem own_row {w : World} {B n : Nat} {v : Value} {xs : List Value} (h : w.ownsRow B 5 1 v n xs) : ∀ g, v.ownBlock = some g → ∃ c fz, w.heap[g]? = some (.cells c 5 fz) := by
  intro g hg
  rcases h.2 with ⟨rfl, rfl⟩ | ⟨g', cap, cur, rfl, hbg, hh, _⟩
  · cases hg
  · have e : g' = g := Option.some.inj hg
    subst e
    exact ⟨cur, _, hh⟩
theorem own_row_lt {w : World} {B n : Nat} {v : Value} {xs : List Value} (h : w.ownsRow B 5 1 v n xs) : ∀ k, v.ownBlock = some k → B ≤ k := fun k hk => (h.lt k hk).1
set_option maxHeartbeats 6400000 in
set_option maxRecDepth 100000 in
theorem appNum_c (B n N : Nat) (b : UInt8) (sv : Value) (xs : List Value) (w : World) (hown : w.ownsRow B 5 1 sv n xs) (hB : B ≤ w.heap.size) (hn : n ≤ 1000000) (hN : N ≤ 999999) (hT : Lib.TabBelow Tryd.prog B w "internal/strconv.uint64pow10" .u64 Lib.pow10Tab) :
    Calls Tryd.prog 41 #[sv, .int .u8 (b.toNat : Int), .int .i64 (N : Int)] w (WE B n xs (b :: decDigits N) w) := by
  obtain ⟨i0, hi, hz0, hz1, hz2⟩ := info_parts infoByte
  have hownH : Hid (w.ownsRow B 5 1 sv n xs) := hown
  have hTH : Hid (Lib.TabBelow Tryd.prog B w "internal/strconv.uint64pow10" .u64 Lib.pow10Tab) := hT
  clear hown hT
  go_enter Tryd.func41, Tryd.ntmps41
  go_wp2_with (at_builtin; refine wpList_append_own _ rfl _ _ 59 rfl B 5 i0 (.int .u8 0) 1 1 Tryd.underlying59 hi hz0 hz1 hz2 rfl (by decide) _ _ _ rfl (hownH.out.alloc _) ⟨w.heap.size, 0, none⟩ 1 1 [Value.int .u8 (b.toNat : Int)] rfl rfl (by intro j u' hj; match j, hj with | 0, hj => simp at hj; subst hj; simp [Addr.add]) (by intro u' hu'; simp at hu'; subst hu'; rfl) (by unfold maxLen; omega) (by omega) (by simp; omega) ?_)
  intro v2 w2 hown2 hgrow _
  have hnx2 : Hid (Below B w w2) := ((Below.refl B w).alloc hB _).grown hgrow (by simp; omega) (fun k hk => (hownH.out.lt k hk).1)
  have hok2 : Hid (OthersKept 5 none w w2) := ((OthersKept.refl 5 none w).alloc _).grown hgrow (own_row (hownH.out.alloc _))
  have hown2H : Hid (w2.ownsRow B 5 1 v2 (n + 1) (xs ++ [Value.int .u8 (b.toNat : Int)])) := hown2
  clear hown2 hgrow
  go_wp2_with (go_at_call 52; refine (Tryd.strconv_AppendInt_10 B (n + 1) (N : Int) (by omega) (by omega) v2 _ w2 hown2H.out (Nat.le_trans hB (by have := hnx2.out.size; omega)) (by omega) (hTH.out.on hnx2.out)).mono ?_; rintro e w3 ⟨v3, rfl, hown3, hnx3, hok3⟩; refine Hid.out ?_)
  refine Lib.hid ?_
  have hfin : Hid (WE B n xs (b :: decDigits N) w (.returned v3) w3) := by
    refine ⟨v3, rfl, ?_, hnx2.out.trans hnx3, hok2.out.trans hok3⟩
    rw [itoa_nat] at hown3
    have e1 : n + 1 + (decDigits N).length = n + (b :: decDigits N).length := by simp; omega
    have e2 : xs ++ [Value.int .u8 (b.toNat : Int)] ++ byteCells (decDigits N) = xs ++ byteCells (b :: decDigits N) := by simp [byteCells]
    rw [e1, e2] at hown3
    exact hown3
  clear hown3 hnx3 hok3
  go_wp2
  go_ret
  exact hfin.out
end Go.Proofs.YtfoblbpbhldngaaDoor
