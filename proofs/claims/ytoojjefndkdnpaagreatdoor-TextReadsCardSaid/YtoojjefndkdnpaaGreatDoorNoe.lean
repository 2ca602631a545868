/-
  The program's naturals: Clone, below, halve, minus.
-/
import Derived.Test.YtoojjefndkdnpaaGreatDoorNod
namespace Go.Proofs.YtoojjefndkdnpaaGreatDoor
open Flo Go.RowKit
set_option maxRecDepth 100000 in
set_option maxHeartbeats 1000000 in
theorem clone_0 (w : World) :
    Calls Tryz.prog 97 #[.slice none 0 0] w fun e w' => e = .returned (.slice none 0 0) ∧ w = w' := by
  have q75 : ∀ (w : World) (a : Option Addr) (n c n' c' : Nat), (binOp .eql 75 (.slice a n c) (.slice none n' c')).run Tryz.prog w = .ok (.bool a.isNone) w := fun w a n c n' c' => Lib.run_eql_slice_nil w _ _ a n c n' c' Tryz.underlying75
  go_enter Tryz.func97, Tryz.ntmps97
  go_wp2
  go_ret
  exact ⟨rfl, rfl⟩
set_option maxRecDepth 100000 in
set_option maxHeartbeats 1000000 in
theorem clone_n (B g k cap : Nat) (f : Nat → Nat) (w : World) (hr : Hid (Row 22 .u64 w B (.slice (some ⟨g, 0, none⟩) k cap) k f)) (hk : k ≤ 1000000) :
    Calls Tryz.prog 97 #[.slice (some ⟨g, 0, none⟩) k cap] w fun e w' => ∃ v', e = .returned v' ∧ Row 22 .u64 w' w.heap.size v' k f ∧ Below w.heap.size w w' := by
  obtain ⟨i0, hi0, hz0, hz1, hz2⟩ := info_parts infoU64
  have hgB := hr.out.lt g rfl
  have hmade : Hid ((w.alloc (.cells #[] 22)).ownsRow w.heap.size 22 1 (.slice (some ⟨w.heap.size, 0, none⟩) 0 0) 0 []) := World.ownsRow_made w #[] 0 (Nat.le_refl _) (by decide) rfl
  have q75 : ∀ (w : World) (a : Option Addr) (n c n' c' : Nat), (binOp .eql 75 (.slice a n c) (.slice none n' c')).run Tryz.prog w = .ok (.bool a.isNone) w := fun w a n c n' c' => Lib.run_eql_slice_nil w _ _ a n c n' c' Tryz.underlying75
  go_enter Tryz.func97, Tryz.ntmps97
  go_wp2_with (at_builtin; refine wpList_append_own _ rfl _ _ 75 rfl w.heap.size 22 i0 (.int .u64 0) 1 8 Tryz.underlying75 hi0 hz0 hz1 hz2 rfl (by decide) _ _ _ rfl hmade.out ⟨g, 0, none⟩ k cap (Cl .u64 k f) rfl (by rw [Cl_len, Nat.mul_one]) ?c1 ?c2 ?c3 ?c4 ?c5 ?_)
  case c1 =>
    intro j u hj
    have hjk : j < k := by
      apply Nat.lt_of_not_le
      intro h
      rw [List.getElem?_eq_none (by rw [Cl_len]; exact h)] at hj
      cases hj
    rw [Cl_get .u64 f hjk] at hj
    have h1 := (hr.out.allocs (.cells #[] 22)).cell j hjk
    cases hj
    by_cases hj0 : j = 0
    · subst hj0; simpa [Addr.add] using h1
    · simpa [Addr.add, hj0] using h1
  case c2 =>
    intro u hu
    unfold Cl at hu
    obtain ⟨x, _, rfl⟩ := List.mem_map.1 hu
    rfl
  case c3 => unfold maxLen; omega
  case c4 => omega
  case c5 => simp
  · intro v' w1 hown' hgrow hnil
    have hr3 : Hid (Row 22 .u64 w1 w.heap.size v' k f) := hown'
    have hin : Hid (Below w.heap.size w w1) := ((Below.refl _ w).alloc (Nat.le_refl _) _).grown hgrow (by simp) (fun k' hk' => by simp [Value.ownBlock] at hk'; omega)
    clear hown' hgrow hnil
    go_wp2
    go_ret
    exact ⟨_, rfl, hr3.out, hin.out⟩
theorem clone_c (B n : Nat) (v : Value) (w : World) (hr : Nl w B v n) (hk : Wd.nw W64 n ≤ 1000000) :
    Calls Tryz.prog 97 #[v] w fun e w' => ∃ v', e = .returned v' ∧ Nl w' w.heap.size v' n ∧ Below w.heap.size w w' := by
  rcases Row.cases hr with ⟨rfl, h0⟩ | ⟨g, cap, rfl, _⟩
  · refine (clone_0 w).mono ?_
    rintro e w' ⟨rfl, rfl⟩
    refine ⟨_, rfl, ?_, Below.refl _ _⟩
    unfold Nl; rw [h0]; exact Row.nil _ _ _ _ _
  · exact clone_n B g _ cap _ w hr hk
set_option maxRecDepth 100000 in
set_option maxHeartbeats 1000000 in
theorem below_ne (ao bo : Option Addr) (k l c d : Nat) (w : World) (h : ((k : Int) != (l : Int)) = true) :
    Calls Tryz.prog 98 #[.slice ao k c, .slice bo l d] w fun e w' => e = .returned (.bool (decide (k < l))) ∧ w = w' := by
  go_enter Tryz.func98, Tryz.ntmps98
  go_wp2
  go_ret
  exact ⟨rfl, rfl⟩
set_option maxRecDepth 100000 in
set_option maxHeartbeats 1000000 in
theorem below_n (ao bo : Option Addr) (k c d m n : Nat) (w : World) (hk : k ≤ 1000000) (hm : Hid (m < W64 ^ k)) (hn : Hid (n < W64 ^ k))
    (h1 : Hid (0 < k → ∃ g, ao = some ⟨g, 0, none⟩ ∧ ∀ i, i < k → w.cell? ⟨g, i, none⟩ = some (.int .u64 (Wd.wd W64 m i : Nat))))
    (h2 : Hid (0 < k → ∃ g, bo = some ⟨g, 0, none⟩ ∧ ∀ i, i < k → w.cell? ⟨g, i, none⟩ = some (.int .u64 (Wd.wd W64 n i : Nat)))) :
    Calls Tryz.prog 98 #[.slice ao k c, .slice bo k d] w fun e w' => e = .returned (.bool (decide (m < n))) ∧ ∃ q, w' = w.drewN q := by
  go_enter Tryz.func98, Tryz.ntmps98
  go_wp2
  go_loopw [5] (fun si wr => ∃ (i q : Nat), i ≤ k ∧ si = .int .i64 ((i : Int) - 1) ∧ wr = w.drewN q ∧ Hid (m / W64 ^ i = n / W64 ^ i)) (fun si _ => (intOf si + 1).toNat)
  case atStart => exact ⟨k, 0, Nat.le_refl _, rfl, rfl, by show m / W64 ^ k = n / W64 ^ k; rw [Nat.div_eq_of_lt hm.out, Nat.div_eq_of_lt hn.out]⟩
  case round =>
    obtain ⟨i, q, hi, rfl, rfl, hd⟩ := hrel
    by_cases h0 : i = 0
    · subst h0
      have hmn : Hid (m = n) := by have h := hd.out; rw [Nat.pow_zero, Nat.div_one, Nat.div_one] at h; exact h
      go_wp2
      go_ret
      refine ⟨ret_bool ?_, _, rfl⟩
      rw [hmn.out]; simp
    · obtain ⟨j, rfl⟩ : ∃ j, i = j + 1 := ⟨i - 1, by omega⟩
      obtain ⟨g1, rfl, hc1⟩ := h1.out (by omega)
      obtain ⟨g2, rfl, hc2⟩ := h2.out (by omega)
      have e1 := hc1 j (by omega)
      have e2 := hc2 j (by omega)
      clear hc1 hc2 h1 h2
      have hj : (j : Int) < (k : Int) := by omega
      have hj0 : (((j + 1 : Nat) : Int) - 1) = (j : Int) := by omega
      have hxl := wd64 m j
      have hyl := wd64 n j
      have hlt : Hid (Wd.wd W64 m j < Wd.wd W64 n j → m < n) := fun h => Wd.cmp_lt hd.out h
      have hgt : Hid (Wd.wd W64 n j < Wd.wd W64 m j → n < m) := fun h => Wd.cmp_lt hd.out.symm h
      have heq : Hid (Wd.wd W64 m j = Wd.wd W64 n j → m / W64 ^ j = n / W64 ^ j) := fun h => Wd.cmp_eq hd.out h
      generalize Wd.wd W64 m j = x at e1 hxl hlt hgt heq
      generalize Wd.wd W64 n j = y at e2 hyl hlt hgt heq
      rw [hj0]
      clear hd hj0
      by_cases hxy : x = y
      · subst hxy
        have hnew : Hid (m / W64 ^ j = n / W64 ^ j) := heq.out rfl
        clear hlt hgt heq
        go_wp2_with fail
        go_quiet (fail)
        go_wp2
        go_roundw
        case rel => exact ⟨j, _, by omega, by go_num, rfl, hnew⟩
        case measure => simp [intOf]
      · have hxy' : ((x : Int) == (y : Int)) = false := beq_eq_false_iff_ne.2 (by omega)
        have hxy2 : ((x : Int) != (y : Int)) = true := by simp [bne, hxy']
        go_wp2_with fail
        go_quiet (fail)
        go_wp2_with fail
        go_quiet (fail)
        go_wp2
        go_ret
        refine ⟨ret_bool ?_, _, by rw [World.drewN_drewN, World.drewN_drewN]⟩
        have key : x < y ↔ m < n := ⟨hlt.out, fun h => by
          rcases Nat.lt_trichotomy x y with h3 | h3 | h3
          · exact h3
          · exact absurd h3 hxy
          · have := hgt.out h3; omega⟩
        exact decide_eq_decide.2 key
theorem Row.rd {T : TypeId} {κ : IntKind} {w : World} {B k cap : Nat} {ao : Option Addr} {f : Nat → Nat} (h : Row T κ w B (.slice ao k cap) k f) : 0 < k → ∃ g, ao = some ⟨g, 0, none⟩ ∧ ∀ i, i < k → w.cell? ⟨g, i, none⟩ = some (.int κ (f i : Nat)) := by
  intro hk
  rcases h.cases with ⟨_, h1⟩ | ⟨g, cap', h1, _⟩
  · omega
  · cases h1
    exact ⟨g, rfl, fun i hi => h.cell i hi⟩
theorem below_c (B C m n : Nat) (u v : Value) (w : World) (hu : Nl w B u m) (hv : Nl w C v n) (hk : Wd.nw W64 m ≤ 1000000) :
    Calls Tryz.prog 98 #[u, v] w fun e w' => e = .returned (.bool (decide (m < n))) ∧ ∃ q, w' = w.drewN q := by
  obtain ⟨ao, c, rfl⟩ := Row.slice hu
  obtain ⟨bo, d, rfl⟩ := Row.slice hv
  by_cases hl : Wd.nw W64 m = Wd.nw W64 n
  · have h1 := Wd.lt_pow_nw W64_2 m
    have h2 := Wd.lt_pow_nw W64_2 n
    unfold Nl at hu hv
    rw [← hl] at hv h2 ⊢
    exact below_n ao bo _ c d m n w hk h1 h2 (Row.rd hu) (Row.rd hv)
  · refine (below_ne ao bo _ _ c d w ?_).mono ?_
    · simp [bne]; omega
    · rintro e w' ⟨rfl, rfl⟩
      refine ⟨?_, 0, rfl⟩
      congr 2
      apply decide_eq_decide.2
      constructor
      · intro h
        apply Nat.lt_of_not_le
        intro h'
        have := Wd.nw_mono W64_2 h'
        omega
      · intro h
        have := Wd.nw_mono W64_2 (Nat.le_of_lt h)
        omega
end Go.Proofs.YtoojjefndkdnpaaGreatDoor
