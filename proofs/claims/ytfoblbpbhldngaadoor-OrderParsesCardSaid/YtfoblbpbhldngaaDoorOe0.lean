/-
  The three sentinels that package order answers, and the table of the powers of ten; the program's Check.
-/
import Derived.Test.YtfoblbpbhldngaaDoorOq3
import Derived.Test.YtfoblbpbhldngaaDoorNum
import Derived.Lib.AppendIntMem
namespace Go.Proofs.YtfoblbpbhldngaaDoor
open Flo Go.RowKit Tr
/-- ErrLimit, ErrText, ErrOrder of a world -/
structure Eo (w : World) (aL aT aO : Addr) : Prop where
  cL : w.cell? ⟨0, 0, none⟩ = some (ev aL)
  cT : w.cell? ⟨2, 0, none⟩ = some (ev aT)
  cO : w.cell? ⟨1, 0, none⟩ = some (ev aO)
  nLT : aL ≠ aT
  nLO : aL ≠ aO
  nTO : aT ≠ aO
  row : ∀ a, a = aL ∨ a = aT ∨ a = aO → ∃ c t, w.heap[a.block]? = some (.cells c t (0, 0))
  tab : Lib.TabIs Tryd.prog w "internal/strconv.uint64pow10" .u64 Lib.pow10Tab
theorem Eo.below {w w' : World} {aL aT aO : Addr} (h : Eo w aL aT aO) (hb : Below w.heap.size w w') : Eo w' aL aT aO :=
  ⟨(hb.cell (p := ⟨0, 0, none⟩) (cell_lt h.cL)).trans h.cL, (hb.cell (p := ⟨2, 0, none⟩) (cell_lt h.cT)).trans h.cT, (hb.cell (p := ⟨1, 0, none⟩) (cell_lt h.cO)).trans h.cO, h.nLT, h.nLO, h.nTO,
   fun a ha => by
    obtain ⟨c, t, e⟩ := h.row a ha
    exact ⟨c, t, by rw [hb.block a.block (blk_lt e)]; exact e⟩, (Lib.tabBelow_of_tabIs h.tab) w' hb⟩
theorem Eo.et {w : World} {aL aT aO : Addr} (h : Eo w aL aT aO) : Et w aT := h.cT
theorem Eo.lt {w : World} {aL aT aO : Addr} (h : Eo w aL aT aO) : 2 < w.heap.size := cell_lt h.cT
/-- '==' of two error values -/
theorem eqv_self (a : Addr) (w : World) : (binOp .eql 27 (ev a) (ev a)).run Tryd.prog w = .ok (.bool true) w := by
  obtain ⟨i, d, hi, ci, hd, _⟩ := err_info
  unfold ev
  exact run_eql_iface_ptr_same w _ Tryd.underlying27 Tryd.underlying111 hi ci hd
/-- an error's value by its number -/
def er (aL aT aO : Addr) (n : Nat) : Value := if n = 0 then .nilIface else if n = 3 then ev aL else if n = 6 then ev aT else ev aO
/-- Check's answer -/
def cke (aO : Addr) (t : Tr) : Value := if len t = 0 then ev aO else .nilIface
set_option maxRecDepth 100000 in
theorem check_c (t : Tr) (v : Value) (w : World) (aO : Addr) (ho : Od w t v) (hE : w.cell? ⟨1, 0, none⟩ = some (ev aO)) : Calls Tryd.prog 14 #[v] w fun e w' => e = .returned (cke aO t) ∧ Below w.heap.size w w' := by
  obtain ⟨k, n, ks⟩ := t
  obtain ⟨ao, cap, rfl, _, _⟩ := ho.kds
  obtain ⟨L, hL⟩ : ∃ L, Hid (ks.length = L) := ⟨_, (rfl : _ = _)⟩
  obtain ⟨t, ht⟩ : ∃ t, Hid (Tr.mk k n ks = t) := ⟨_, (rfl : _ = _)⟩
  rw [hL.out, ht.out] at ho
  rw [hL.out, ht.out]
  obtain ⟨wa, ewa⟩ : ∃ wa, Hid (w.alloc (.cells #[.int .i64 k, .int .i64 n, .slice ao L cap] 25) = wa) := ⟨_, (rfl : _ = _)⟩
  have Ba : Below w.heap.size w wa := by rw [← ewa.out]; exact (Below.refl _ _).alloc (Nat.le_refl _) _
  have Xa : Hid (Bo wa w.heap.size k n (.slice ao L cap)) := by show Bo _ _ _ _ _; rw [← ewa.out]; exact Bo.new _ _ _ _
  have hoa : Hid (Od wa t (.agg #[.int .i64 k, .int .i64 n, .slice ao L cap])) := Od.below Ba _ _ ho
  have hEa : Hid (wa.cell? ⟨1, 0, none⟩ = some (ev aO)) := (Ba.cell (p := ⟨1, 0, none⟩) (cell_lt hE)).trans hE
  have BaH : Hid (Below w.heap.size w wa) := Ba
  clear ho hE Ba
  go_enter Tryd.func14, Tryd.ntmps14
  go_upto_region 1 with fail
  rw [ewa.out]
  have x0 := Xa.out.c0
  have x1 := Xa.out.c1
  have x2 := Xa.out.c2
  go_wp2_with fail
  refine (length_c t _ wa hoa.out).mono ?_
  rintro e w1 ⟨rfl, B1⟩
  have hB : Hid (Below w.heap.size w w1) := btr BaH.out B1
  have hE1 : w1.cell? ⟨1, 0, none⟩ = some (ev aO) := (B1.cell (p := ⟨1, 0, none⟩) (cell_lt hEa.out)).trans hEa.out
  unfold ev at hE1
  obtain ⟨N, hN⟩ : ∃ N : Nat, Hid (len t = N) := ⟨_, (rfl : _ = _)⟩
  rw [hN.out]
  clear B1 x0 x1 x2
  by_cases h0 : N = 0
  · have q1 : ((N : Int) == 0) = true := by rw [h0]; rfl
    have hfin : Hid (ev aO = cke aO t) := by show _ = _; unfold cke; rw [if_pos (hN.out.trans h0)]
    clear h0
    go_wp2_with fail
    go_ret
    exact ⟨by rw [← hfin.out]; rfl, hB.out⟩
  · have q1 : ((N : Int) == 0) = false := beq_eq_false_iff_ne.2 (by omega)
    have hfin : Hid (.nilIface = cke aO t) := by show _ = _; unfold cke; rw [if_neg (by rw [hN.out]; exact h0)]
    go_wp2_with fail
    go_ret
    exact ⟨by rw [← hfin.out]; rfl, hB.out⟩
end Go.Proofs.YtfoblbpbhldngaaDoor
