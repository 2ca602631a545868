/-
  The statements' blue: is there a Blue in a tree?
-/
import Derived.Test.YtjmjnljjdjhgpaaDoorOd3
namespace Go.Proofs.YtjmjnljjdjhgpaaDoor
open Flo Go.RowKit Tr
namespace Tr
def bl : Tr → Bool
  | ⟨k, _, ks⟩ => (ks.map bl).any id || (k == 4)
theorem bl_eq (k n : Int) (ks : List Tr) : bl ⟨k, n, ks⟩ = ((ks.map bl).any id || (k == 4)) := by rw [bl]
theorem bl_kid {k n : Int} {ks : List Tr} {t : Tr} (h : t ∈ ks) (hb : bl t = true) : bl ⟨k, n, ks⟩ = true := by
  have e : (ks.map bl).any id = true := List.any_eq_true.2 ⟨bl t, List.mem_map_of_mem h, hb⟩
  rw [bl_eq, e]; rfl
theorem bl_none {k n : Int} {ks : List Tr} (h : ∀ t ∈ ks, bl t = false) : bl ⟨k, n, ks⟩ = (k == 4) := by
  rw [bl_eq, List.any_map, List.any_eq_false.2 (fun t ht => by show ¬ bl t = true; rw [h t ht]; decide)]; rfl
end Tr
set_option maxHeartbeats 1000000 in
theorem blue_c (t : Tr) : ∀ (v : Value) (w : World), Od w t v → Calls Tryd.prog 30 #[v] w fun e w' => e = .returned (.bool (bl t)) ∧ Below w.heap.size w w' := by
  refine Tr.ind (P := fun t => ∀ (v : Value) (w : World), Od w t v → Calls Tryd.prog 30 #[v] w fun e w' => e = .returned (.bool (bl t)) ∧ Below w.heap.size w w') (fun k n ks ih0 v w ho => ?_) t
  obtain ⟨ao, cap, rfl, hl0, hk0⟩ := ho.kds
  obtain ⟨L, hL⟩ : ∃ L, Hid (ks.length = L) := ⟨_, (rfl : _ = _)⟩
  have hk : Hid (Kds w ao L ks) := by show Kds _ _ _ _; rw [← hL.out]; exact hk0
  have hl : L ≤ 9223372036854775807 := by rw [← hL.out]; exact hl0
  have ih : Hid (∀ t ∈ ks, ∀ (v : Value) (w : World), Od w t v → Calls Tryd.prog 30 #[v] w fun e w' => e = .returned (.bool (bl t)) ∧ Below w.heap.size w w') := ih0
  obtain ⟨R, hR⟩ : ∃ R : Bool, Hid (bl ⟨k, n, ks⟩ = R) := ⟨_, (rfl : _ = _)⟩
  rw [hL.out]
  rw [hR.out]
  clear hk0 hl0 ih0 ho
  obtain ⟨w0, hw0⟩ : ∃ w0, Hid (w.alloc (.cells #[.int .i64 k, .int .i64 n, .slice ao L cap] 24) = w0) := ⟨_, (rfl : _ = _)⟩
  have B0 : Hid (Below w.heap.size w w0) := by show Below _ _ _; rw [← hw0.out]; exact (Below.refl _ _).alloc (Nat.le_refl _) _
  have X0 : Hid (Bx3 w0 w.heap.size k n (.slice ao L cap)) := by show Bx3 _ _ _ _ _; rw [← hw0.out]; exact Bx3.new _ _ _ _ _
  go_enter Tryd.func30, Tryd.ntmps30
  go_wp2_with fail
  rw [hw0.out]
  go_loopw [9] (fun si wx => ∃ (i : Nat), i ≤ L ∧ si = .int .i64 (i : Int) ∧ Hid (∀ j t', j < i → ks[j]? = some t' → bl t' = false) ∧ Hid (Below w0.heap.size w0 wx)) (fun si _ => L - (intOf si).toNat)
  case atStart => exact ⟨0, Nat.zero_le _, rfl, fun j _ hj => absurd hj (Nat.not_lt_zero _), Below.refl _ _⟩
  case round =>
    obtain ⟨i, hi, rfl, hall, hb⟩ := hrel
    have hbw : Hid (Below w.heap.size w wr) := btr B0.out hb.out
    by_cases hlt : i < L
    · have hlt' : (i : Int) < (L : Int) := by omega
      obtain ⟨b, off, s, t', et, K0⟩ := hk.out i hlt
      have K := K0.below hbw.out
      obtain rfl := K.at0
      obtain ⟨a1, l1, p1, rfl⟩ := K.slc
      have c0 := K.c0
      have c1 := K.c1
      have c2 := K.c2
      have hod : Hid (Od wr t' (.agg #[.int .i64 t'.k, .int .i64 t'.n, .slice a1 l1 p1])) := K.od
      have hmem : Hid (t' ∈ ks) := List.mem_of_getElem? et
      have etH : Hid (ks[i]? = some t') := et
      clear K K0 et
      generalize t'.k = k1 at *
      generalize t'.n = n1 at *
      have hal : Hid (Below wr.heap.size wr (wr.alloc (.cells #[.int .i64 k1, .int .i64 n1, .slice a1 l1 p1] 24))) := (Below.refl _ _).alloc (Nat.le_refl _) _
      go_wp2_with fail
      refine (ih.out t' hmem.out _ _ (Od.below hal.out _ _ hod.out)).mono ?_
      rintro e w1 ⟨rfl, B1⟩
      have hB1 : Hid (Below w0.heap.size w0 w1) := btr (btr hb.out hal.out) B1
      clear B1 hal
      cases hd : bl t'
      · have hnew : Hid (∀ j t', j < i + 1 → ks[j]? = some t' → bl t' = false) := fun j u hj hu => by
          rcases Nat.lt_or_ge j i with h | h
          · exact hall.out j u h hu
          · obtain rfl : j = i := by omega
            rw [etH.out] at hu
            cases hu
            exact hd
        clear hd
        go_wp2_with fail
        exact ⟨⟨i + 1, by omega, by go_num, hnew, hB1⟩, by simp [intOf]; omega⟩
      · have hf : Hid (true = R) := by
          show _ = _
          rw [← hR.out]
          exact (bl_kid hmem.out hd).symm
        clear hd
        go_wp2_with fail
        go_ret
        exact ⟨by rw [← hf.out]; rfl, btr B0.out hB1.out⟩
    · have hlt' : decide ((i : Int) < (L : Int)) = false := decide_eq_false (by omega)
      have ei : i = L := by omega
      subst ei
      have hf : Hid ((k == 4) = R) := by
        show _ = _
        rw [← hR.out]
        refine (bl_none (fun u hu => ?_)).symm
        obtain ⟨j, hj, e⟩ := List.getElem_of_mem hu
        exact hall.out j u (by rw [← hL.out]; exact hj) (by rw [List.getElem?_eq_getElem hj, e])
      have x0 := (X0.out.below hb.out).c0
      go_wp2_with fail
      go_ret
      exact ⟨by rw [← hf.out]; rfl, btr B0.out hb.out⟩
set_option maxHeartbeats 400000 in
/-- too many parts to be gone through -/
theorem large_c (t : Tr) (v : Value) (w : World) (ho : Od w t v) : Calls Tryd.prog 10 #[v] w fun e w' => e = .returned (.bool (decide (4500 < pt t))) ∧ Below w.heap.size w w' := by
  obtain ⟨k, n, ks⟩ := t
  obtain ⟨ao, cap, rfl, _, _⟩ := ho.kds
  obtain ⟨t, ht⟩ : ∃ t, Hid (Tr.mk k n ks = t) := ⟨_, (rfl : _ = _)⟩
  obtain ⟨L, hL⟩ : ∃ L, Hid (ks.length = L) := ⟨_, (rfl : _ = _)⟩
  rw [hL.out] at ho ⊢
  rw [ht.out] at ho ⊢
  have hoH : Hid (Od w t (.agg #[.int .i64 k, .int .i64 n, .slice ao L cap])) := ho
  clear ho
  have B0 : Hid (Below w.heap.size w (w.alloc (.cells #[.int .i64 k, .int .i64 n, .slice ao L cap] 24))) := (Below.refl _ _).alloc (Nat.le_refl _) _
  go_enter Tryd.func10, Tryd.ntmps10
  go_wp2_with fail
  refine (rParts_c t _ 4500 _ (Od.below B0.out _ _ hoH.out) (Nat.le_refl _)).mono ?_
  rintro e w1 ⟨rfl, W1⟩
  have B1 : Hid (Below w.heap.size w w1) := btr B0.out W1
  clear W1
  obtain ⟨R, hR⟩ : ∃ R : Nat, Hid (min (pt t) (4500 + 1) = R) := ⟨_, (rfl : _ = _)⟩
  rw [hR.out]
  have hv : Hid (decide ((R : Int) > 4500) = decide (4500 < pt t)) := by
    show _ = _
    have h := hR.out
    exact decide_eq_decide.2 (by omega)
  go_wp2_with fail
  go_ret
  exact ⟨by rw [← hv.out]; rfl, B1.out⟩
end Go.Proofs.YtjmjnljjdjhgpaaDoor
