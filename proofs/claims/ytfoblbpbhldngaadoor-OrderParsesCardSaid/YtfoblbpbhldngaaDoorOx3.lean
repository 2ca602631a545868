/-
  The program's Text.
-/
import Derived.Test.YtfoblbpbhldngaaDoorOx2
import Derived.Test.YtfoblbpbhldngaaDoorOd13
namespace Go.Proofs.YtfoblbpbhldngaaDoor
open Flo Go.RowKit Tr
open Lib (decDigits byteCells OthersKept)
theorem tx_ne (t : Tr) : tx t ≠ [] := by
  obtain ⟨k, n, ks⟩ := t
  rw [tx_eq]; unfold txc
  intro h
  split at h
  · cases h
  split at h
  · cases h
  split at h <;> cases h
set_option maxHeartbeats 1000000 in
set_option maxRecDepth 100000 in
theorem text_c (t : Tr) (v : Value) (w : World) (aL aT aO : Addr) (ho : Od w t v) (hE : Eo w aL aT aO) : Calls Tryd.prog 15 #[v] w fun e w' => e = .returned (.tuple #[.string (txr t), cke aO t]) ∧ Below w.heap.size w w' := by
  obtain ⟨k, n, ks⟩ := t
  obtain ⟨ao, cap, rfl, _, _⟩ := ho.kds
  obtain ⟨L, hL⟩ : ∃ L, Hid (ks.length = L) := ⟨_, (rfl : _ = _)⟩
  obtain ⟨t, ht⟩ : ∃ t, Hid (Tr.mk k n ks = t) := ⟨_, (rfl : _ = _)⟩
  rw [hL.out, ht.out] at ho
  rw [hL.out, ht.out]
  obtain ⟨wa, ewa⟩ : ∃ wa, Hid (w.alloc (.cells #[.int .i64 k, .int .i64 n, .slice ao L cap] 25) = wa) := ⟨_, (rfl : _ = _)⟩
  have Ba : Below w.heap.size w wa := by rw [← ewa.out]; exact (Below.refl _ _).alloc (Nat.le_refl _) _
  have Xa : Hid (Bo wa w.heap.size k n (.slice ao L cap)) := by show Bo _ _ _ _ _; rw [← ewa.out]; exact Bo.new _ _ _ _
  have hoa : Hid (Od wa t (.agg #[.int .i64 k, .int .i64 n, .slice ao L cap])) := Od.below Ba _ _ ho
  have hEa : Hid (Eo wa aL aT aO) := hE.below Ba
  have BaH : Hid (Below w.heap.size w wa) := Ba
  clear ho hE Ba
  go_enter Tryd.func15, Tryd.ntmps15
  go_upto_region 1 with fail
  rw [ewa.out]
  have x0 := Xa.out.c0
  have x1 := Xa.out.c1
  have x2 := Xa.out.c2
  go_wp2_with fail
  refine (check_c t _ wa aO hoa.out hEa.out.cO).mono ?_
  rintro e w1 ⟨rfl, B1⟩
  have hB : Hid (Below w.heap.size w w1) := btr BaH.out B1
  have hE1 : Hid (Eo w1 aL aT aO) := hEa.out.below B1
  have X1 : Hid (Bo w1 w.heap.size k n (.slice ao L cap)) := Xa.out.bel B1
  have ho1 : Hid (Od w1 t (.agg #[.int .i64 k, .int .i64 n, .slice ao L cap])) := Od.below B1 _ _ hoa.out
  clear B1 x0 x1 x2
  by_cases h0 : len t = 0
  · have ec : cke aO t = ev aO := by unfold cke; rw [if_pos h0]
    have hfin : Hid (Ending.returned (.tuple #[.string ⟨#[]⟩, ev aO]) = .returned (.tuple #[.string (txr t), cke aO t])) := by show _ = _; unfold txr; rw [if_pos h0, ec]
    rw [ec]
    clear h0 ec
    unfold ev
    go_wp2_with fail
    go_ret2
    exact ⟨hfin.out, hB.out⟩
  · have ec : cke aO t = .nilIface := by unfold cke; rw [if_neg h0]
    have hfin : Hid (Ending.returned (.tuple #[.string (Bt (tx t)), .nilIface]) = .returned (.tuple #[.string (txr t), cke aO t])) := by show _ = _; unfold txr; rw [if_neg h0, ec]
    rw [ec]
    obtain ⟨hl1, hl2, hl3⟩ := len_pos (show 0 < len t by omega)
    have hc : Hid (Calls Tryd.prog 29 #[.slice none 0 0, .agg #[.int .i64 k, .int .i64 n, .slice ao L cap]] w1 (WE w1.heap.size 0 [] (tx t) w1)) := appText_c w1 hE1.out.tab t _ w1 0 [] _ ho1.out hl3 (by omega) (Below.refl _ _) (World.ownsRow_nil _ _ _ _) (by omega)
    have x0 := X1.out.c0
    have x1 := X1.out.c1
    have x2 := X1.out.c2
    clear h0 ec hl1 hl2 hl3
    go_wp2_with fail
    refine hc.out.mono ?_
    rintro e w2 ⟨v2, rfl, hown, hb2, _⟩
    have hB2 : Hid (Below w.heap.size w w2) := btr hB.out hb2
    rw [Nat.zero_add, List.nil_append] at hown
    have hpos : 0 < (tx t).length := by
      cases h : tx t with
      | nil => exact absurd h (tx_ne t)
      | cons a l => simp
    obtain ⟨l, hl⟩ : ∃ l, Hid (tx t = l) := ⟨_, (rfl : _ = _)⟩
    rw [hl.out] at hown hpos hfin
    clear hc x0 x1 x2 hb2
    rcases hown.2 with ⟨-, h0⟩ | ⟨g, cap', cur, rfl, -, -, -, -, -, -⟩
    · omega
    · have hcv := run_convert_bytes_back (P := Tryd.prog) w2 59 9 5 ⟨g, 0, none⟩ cap' l Tryd.underlying59 Tryd.underlying5 Tryd.underlying9 (fun j hj => hown.cells (g := g) rfl j _ (by simp [Lib.byteCells, hj]))
      clear hown
      go_wp2
      go_ret2
      exact ⟨hfin.out, hB2.out⟩
end Go.Proofs.YtfoblbpbhldngaaDoor
