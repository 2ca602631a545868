/-
  The document's Depth, deep.
-/
import Derived.Test.YtfoblbpbhldngaaDoorOd1
namespace Go.Proofs.YtfoblbpbhldngaaDoor
open Flo Go.RowKit Tr
/-- the depth of the first i Kids -/
def dpi (ks : List Tr) (i : Nat) : Nat := ((ks.take i).map dp).foldl max 0
theorem dpi_zero (ks : List Tr) : dpi ks 0 = 0 := by simp [dpi]
theorem dpi_succ {ks : List Tr} {i : Nat} {t : Tr} (h : ks[i]? = some t) : dpi ks (i + 1) = max (dpi ks i) (dp t) := by
  obtain ⟨hi, e⟩ := List.getElem?_eq_some_iff.1 h
  unfold dpi
  rw [List.take_succ_eq_append_getElem hi, List.map_append, List.foldl_append, e]; simp
theorem dp_any (k n : Int) (ks : List Tr) : dp ⟨k, n, ks⟩ = 1 + dpi ks ks.length := by rw [dp_eq]; simp [dpi]
theorem dpi_le (k n : Int) (ks : List Tr) (i : Nat) : dpi ks i < dp ⟨k, n, ks⟩ := by
  rw [dp_eq]
  have h : dpi ks i ≤ (ks.map dp).foldl max 0 := by
    unfold dpi
    rw [fm_le]
    refine ⟨Nat.zero_le _, fun x hx => ?_⟩
    have h2 := (fm_le (ks.map dp) 0 ((ks.map dp).foldl max 0)).1 (Nat.le_refl _)
    rw [List.map_take] at hx
    exact h2.2 x (List.mem_of_mem_take hx)
  omega
theorem int_max (D E : Nat) : (if D < E then (E : Int) else (D : Int)) = ((max D E : Nat) : Int) := by
  by_cases h : D < E
  · rw [if_pos h, Nat.max_eq_right (Nat.le_of_lt h)]
  · rw [if_neg h, Nat.max_eq_left (by omega)]
set_option maxHeartbeats 1000000 in
theorem rdeep_c (t : Tr) : ∀ (v : Value) (m : Nat) (w : World), Od w t v → m ≤ 4500 → Calls Tryd.prog 49 #[v, .int .i64 (m : Int)] w fun e w' => e = .returned (.bool (decide (dp t ≤ m))) ∧ Below w.heap.size w w' := by
  refine Tr.ind (P := fun t => ∀ (v : Value) (m : Nat) (w : World), Od w t v → m ≤ 4500 → Calls Tryd.prog 49 #[v, .int .i64 (m : Int)] w fun e w' => e = .returned (.bool (decide (dp t ≤ m))) ∧ Below w.heap.size w w') (fun k n ks ih0 v m w ho hm => ?_) t
  obtain ⟨ao, cap, rfl, hl0, hk0⟩ := ho.kds
  obtain ⟨L, hL⟩ : ∃ L, Hid (ks.length = L) := ⟨_, (rfl : _ = _)⟩
  have hk : Hid (Kds w ao L ks) := by show Kds _ _ _ _; rw [← hL.out]; exact hk0
  have hl : L ≤ 9223372036854775807 := by rw [← hL.out]; exact hl0
  have ih : Hid (∀ t ∈ ks, ∀ (v : Value) (m : Nat) (w : World), Od w t v → m ≤ 4500 → Calls Tryd.prog 49 #[v, .int .i64 (m : Int)] w fun e w' => e = .returned (.bool (decide (dp t ≤ m))) ∧ Below w.heap.size w w') := ih0
  obtain ⟨R, hR⟩ : ∃ R : Bool, Hid (decide (dp ⟨k, n, ks⟩ ≤ m) = R) := ⟨_, (rfl : _ = _)⟩
  rw [hL.out]
  rw [hR.out]
  clear hk0 hl0 ih0 ho
  have B0 : Hid (Below w.heap.size w (w.alloc (.cells #[.int .i64 k, .int .i64 n, .slice ao L cap] 25))) := (Below.refl _ _).alloc (Nat.le_refl _) _
  by_cases hm0 : m < 1
  · have hm1 : (m : Int) < 1 := by omega
    have hf : Hid (false = R) := by show _ = _; rw [← hR.out]; exact (decide_eq_false (by have := dp_pos ⟨k, n, ks⟩; omega)).symm
    go_enter Tryd.func49, Tryd.ntmps49
    go_wp2_with fail
    go_ret
    exact ⟨by rw [← hf.out]; rfl, B0.out⟩
  · have hm1 : decide ((m : Int) < 1) = false := decide_eq_false (by omega)
    obtain ⟨M, hM, hM1⟩ : ∃ M : Nat, Hid (M = m - 1) ∧ (m : Int) - 1 = (M : Int) := ⟨m - 1, (rfl : _ = _), by omega⟩
    have hM2 : M ≤ 4500 := by have := hM.out; omega
    go_enter Tryd.func49, Tryd.ntmps49
    go_wp2_with fail
    go_loopw [13] (fun si wx => ∃ (i : Nat), i ≤ L ∧ si = .int .i64 (i : Int) ∧ Hid (∀ j t', j < i → ks[j]? = some t' → dp t' ≤ M) ∧ Hid (Below w.heap.size w wx)) (fun si _ => L - (intOf si).toNat)
    case atStart => exact ⟨0, Nat.zero_le _, rfl, fun j _ hj => absurd hj (Nat.not_lt_zero _), B0⟩
    case round =>
      clear B0
      obtain ⟨i, hi, rfl, hall, hb⟩ := hrel
      by_cases hlt : i < L
      · have hlt' : (i : Int) < (L : Int) := by omega
        obtain ⟨b, off, s, t', et, K0⟩ := hk.out i hlt
        have K := K0.below hb.out
        obtain rfl := K.at0
        obtain ⟨a1, l1, p1, rfl⟩ := K.slc
        have c0 := K.c0
        have c1 := K.c1
        have c2 := K.c2
        have hod : Hid (Od wr t' (.agg #[.int .i64 t'.k, .int .i64 t'.n, .slice a1 l1 p1])) := K.od
        have hmem : Hid (t' ∈ ks) := List.mem_of_getElem? et
        have etH : Hid (ks[i]? = some t') := et
        clear K K0 et
        generalize t'.k = k1 at *
        generalize t'.n = n1 at *
        have hal : Hid (Below wr.heap.size wr (wr.alloc (.cells #[.int .i64 k1, .int .i64 n1, .slice a1 l1 p1] 25))) := (Below.refl _ _).alloc (Nat.le_refl _) _
        go_wp2_with fail
        refine (ih.out t' hmem.out _ M _ (Od.below hal.out _ _ hod.out) hM2).mono ?_
        rintro e w1 ⟨rfl, B1⟩
        have hB1 : Hid (Below w.heap.size w w1) := btr (btr hb.out hal.out) B1
        clear B1 hal
        by_cases hd : dp t' ≤ M
        · have hd' : decide (dp t' ≤ M) = true := decide_eq_true hd
          have hnew : Hid (∀ j t', j < i + 1 → ks[j]? = some t' → dp t' ≤ M) := fun j u hj hu => by
            rcases Nat.lt_or_ge j i with h | h
            · exact hall.out j u h hu
            · obtain rfl : j = i := by omega
              rw [etH.out] at hu
              cases hu
              exact hd
          rw [hd']
          clear hd'
          go_wp2_with fail
          exact ⟨⟨i + 1, by omega, by go_num, hnew, hB1⟩, by simp [intOf]; omega⟩
        · have hd' : decide (dp t' ≤ M) = false := decide_eq_false hd
          have hf : Hid (false = R) := by
            show _ = _
            rw [← hR.out]
            exact (decide_eq_false (fun h => hd (by have := (dp_le.1 h).2 t' hmem.out; rw [hM.out]; exact this))).symm
          rw [hd']
          clear hd'
          go_wp2_with fail
          go_ret
          exact ⟨by rw [← hf.out]; rfl, hB1.out⟩
      · have hlt' : decide ((i : Int) < (L : Int)) = false := decide_eq_false (by omega)
        have ei : i = L := by omega
        subst ei
        have hf : Hid (true = R) := by
          show _ = _
          rw [← hR.out]
          refine (decide_eq_true (dp_le.2 ⟨by omega, fun u hu => ?_⟩)).symm
          obtain ⟨j, hj, e⟩ := List.getElem_of_mem hu
          have := hall.out j u (by rw [← hL.out]; exact hj) (by rw [List.getElem?_eq_getElem hj, e])
          rw [← hM.out]; exact this
        go_wp2_with fail
        go_ret
        exact ⟨by rw [← hf.out]; rfl, hb.out⟩
end Go.Proofs.YtfoblbpbhldngaaDoor
