/-
  The program's naturals: halve, minus.
-/
import Derived.Test.YtoojjefndkdnpaaGreatDoorNoe
import Derived.Shelf.Spec.BitsCarry
namespace Go.Proofs.YtoojjefndkdnpaaGreatDoor
open Flo Go.RowKit
theorem sub64_r (x y b : Nat) (hb : b ≤ 1) (w : World) : (callFunc 114 #[.int .u64 (x : Int), .int .u64 (y : Int), .int .u64 (b : Int)]).run Tryz.prog w =
    .ok (.value (.tuple #[.int .u64 (((x + 18446744073709551616 - y - b) % 18446744073709551616 : Nat) : Int), .int .u64 ((if x < y + b then 1 else 0 : Nat) : Int)])) w := by
  rw [run_callFunc_extern (P := Tryz.prog) (f := 114) (fn := Tryz.f114) (by kernel_rfl) (by kernel_rfl) (by kernel_rfl) (by kernel_rfl) (e := sub64Entry) (by kernel_rfl), run_sub64 x y b hb]
  rfl
theorem sub64_v (x y b : Nat) (hx : x < 18446744073709551616) (hy : y < 18446744073709551616) (hb : b ≤ 1) (w : World) : ∃ d c : Nat, (callFunc 114 #[.int .u64 (x : Int), .int .u64 (y : Int), .int .u64 (b : Int)]).run Tryz.prog w =
    .ok (.value (.tuple #[.int .u64 (d : Int), .int .u64 (c : Int)])) w ∧ Hid (d + y + b = x + 18446744073709551616 * c ∧ d < 18446744073709551616 ∧ c ≤ 1) :=
  ⟨_, _, sub64_r x y b hb w, (by refine ⟨?_, ?_, ?_⟩ <;> (try split) <;> omega)⟩
theorem or_half (x c : Nat) (hx : x < 18446744073709551616) (hc : c ≤ 1) : bits .or .u64 ((x : Int) / 2) ((c * 9223372036854775808 : Nat) : Int) = ((x / 2 + 9223372036854775808 * c : Nat) : Int) := by
  rw [show (x : Int) / 2 = ((x / 2 : Nat) : Int) by omega, bits_or_u64_nat _ _ (by omega) (by omega)]
  congr 1
  rw [Nat.or_comm, Nat.mul_comm c, show (9223372036854775808 : Nat) = 2 ^ 63 from rfl, ← Nat.two_pow_add_eq_or_of_lt (show x / 2 < 2 ^ 63 by omega)]
  omega
set_option maxRecDepth 100000 in
set_option maxHeartbeats 1000000 in
theorem halve_n (B g k cap n : Nat) (w : World) (hr : Row 22 .u64 w B (.slice (some ⟨g, 0, none⟩) k cap) k (Wd.wd W64 n)) (hk : k ≤ 1000000) (hn : Hid (n < W64 ^ k)) :
    Calls Tryz.prog 100 #[.slice (some ⟨g, 0, none⟩) k cap] w fun e w' => ∃ v', e = .returned v' ∧ Row 22 .u64 w' B v' (Wd.nw W64 (n / 2)) (Wd.wd W64 (n / 2)) ∧ v'.ownBlock = some g ∧ w.grownBy w' (some g) := by
  go_enter Tryz.func100, Tryz.ntmps100
  go_wp2
  go_loopw [3, 4] (fun sc si wr => ∃ (i c : Nat), i ≤ k ∧ si = .int .i64 ((i : Int) - 1) ∧ sc = .int .u64 ((c * 9223372036854775808 : Nat) : Int) ∧ Hid (c = Wd.wd W64 n i % 2) ∧ Hid (Row 22 .u64 wr B (.slice (some ⟨g, 0, none⟩) k cap) k (fun j => if i ≤ j then Wd.wd W64 (n / 2) j else Wd.wd W64 n j)) ∧ Hid (w.grownBy wr (some g))) (fun _ si _ => (intOf si + 1).toNat)
  case atStart => exact ⟨k, 0, Nat.le_refl _, rfl, by simp, by show 0 = _; rw [Wd.wd_big hn.out], hr.congr (fun j hj => by rw [if_neg (by omega)]), gb_refl _ _⟩
  case round =>
    obtain ⟨i, c, hi, rfl, rfl, hc, hrow, hgb⟩ := hrel
    by_cases h0 : i = 0
    · subst h0
      have hrow2 : Hid (Row 22 .u64 wr B (.slice (some ⟨g, 0, none⟩) k cap) k (Wd.wd W64 (n / 2))) := hrow.out.congr (fun j hj => by rw [if_pos (by omega)])
      have hn2 : n / 2 < W64 ^ k := by have := hn.out; omega
      go_wp2_with (go_at_call 74; refine (trimmed_c B k (n / 2) _ _ hrow2.out hn2).mono ?_; rintro e w' ⟨v', rfl, hv, hvo, rfl⟩)
      go_ret
      exact ⟨_, rfl, hv, hvo, hgb.out⟩
    · obtain ⟨j, rfl⟩ : ∃ j, i = j + 1 := ⟨i - 1, by omega⟩
      have hcell := hrow.out.cell j (by omega)
      rw [if_neg (by omega)] at hcell
      have hfree := hrow.out.free j
      have hj : (j : Int) < (k : Int) := by omega
      have hj0 : (((j + 1 : Nat) : Int) - 1) = (j : Int) := by omega
      have hx := wd64 n j
      have hw : Hid (Wd.wd W64 (n / 2) j = Wd.wd W64 n j / 2 + 9223372036854775808 * c) := by
        have := Wd.half_word W64_0 ⟨9223372036854775808, rfl⟩ n j
        rw [hc.out]; exact this
      have hc1 : c ≤ 1 := by have := hc.out; omega
      generalize hX : Wd.wd W64 n j = x at hcell hx hw
      have hor := or_half x c hx hc1
      have hsh : IntKind.u64.wrap ((x : Int) * 9223372036854775808) = ((x % 2 * 9223372036854775808 : Nat) : Int) := by simp only [IntKind.wrap_u64]; omega
      have hXH : Hid (Wd.wd W64 n j = x) := hX
      clear hX
      rw [hj0]
      clear hj0
      generalize c * 9223372036854775808 = cc at hor
      generalize x / 2 + 9223372036854775808 * c = z at hor hw
      go_wp2
      obtain ⟨p1, p2⟩ := hrow.out.put j z
      refine ⟨⟨j, x % 2, by omega, rfl, by go_num, by rw [hXH.out]; exact rfl, p1.congr ?_, gb_trans hgb.out p2 (fun _ h => .inl h)⟩, ?_⟩
      · intro i hi2
        by_cases h : i = j
        · rw [if_pos h, if_pos (by omega), h, hw.out]
        · rw [if_neg h]
          by_cases h' : j ≤ i
          · rw [if_pos h', if_pos (by omega)]
          · rw [if_neg h', if_neg (by omega)]
      · simp [intOf]
theorem halve_0 (w : World) :
    Calls Tryz.prog 100 #[.slice none 0 0] w fun e w' => e = .returned (.slice none 0 0) ∧ w = w' := by
  go_enter Tryz.func100, Tryz.ntmps100
  go_wp2
  refine wp_loop_rounds 1 ?_
  rw [rounds_succ]
  go_wp2_with (go_at_call 74; refine (trimmed_0 none 0 _).mono ?_; rintro e w' ⟨rfl, rfl⟩)
  go_ret
  exact ⟨rfl, rfl⟩
theorem nl_nil {n : Nat} (h : Wd.nw W64 n = 0) : n = 0 := by
  apply Nat.eq_zero_of_not_pos
  intro h1
  rw [Wd.nw_pos W64_2 h1] at h
  omega
theorem halve_c (B n : Nat) (v : Value) (w : World) (hr : Nl w B v n) (hk : Wd.nw W64 n ≤ 1000000) :
    Calls Tryz.prog 100 #[v] w fun e w' => ∃ v', e = .returned v' ∧ Nl w' B v' (n / 2) ∧ v'.ownBlock = v.ownBlock ∧ w.grownBy w' v.ownBlock := by
  rcases Row.cases hr with ⟨rfl, h0⟩ | ⟨g, cap, rfl, _⟩
  · have hn := nl_nil h0
    subst hn
    refine (halve_0 w).mono ?_
    rintro e w' ⟨rfl, rfl⟩
    refine ⟨_, rfl, ?_, rfl, gb_refl _ _⟩
    unfold Nl; rw [show 0 / 2 = 0 from rfl, Wd.nw_zero]; exact Row.nil _ _ _ _ _
  · exact halve_n B g _ cap n w hr hk (Wd.lt_pow_nw W64_2 n)
theorem mi_step {m n i d c : Nat} (hnm : n ≤ m) (h1 : d + Wd.wd W64 n i + Wd.br W64 m n i = Wd.wd W64 m i + 18446744073709551616 * c) (h2 : d < 18446744073709551616) :
    Wd.wd W64 (m - n) i = d ∧ Wd.br W64 m n (i + 1) = c := by
  have h4 : Wd.wd W64 (m - n) i + Wd.wd W64 n i + Wd.br W64 m n i = Wd.wd W64 m i + 18446744073709551616 * Wd.br W64 m n (i + 1) := Wd.br_key W64_0 m n i hnm
  have h5 := wd64 (m - n) i
  have h6 := Wd.br_le W64 m n (i + 1)
  omega
set_option maxRecDepth 100000 in
set_option maxHeartbeats 1000000 in
theorem minus_n (B g k l cap cap2 m n : Nat) (bo : Option Addr) (w : World) (hr : Row 22 .u64 w B (.slice (some ⟨g, 0, none⟩) k cap) k (Wd.wd W64 m)) (hk : k ≤ 1000000) (hl : l ≤ k) (hm : Hid (m < W64 ^ k)) (hn : Hid (n < W64 ^ l)) (hnm : Hid (n ≤ m))
    (h2 : Hid (0 < l → ∃ g2, bo = some ⟨g2, 0, none⟩ ∧ g2 ≠ g ∧ g2 < w.heap.size ∧ ∀ i, i < l → w.cell? ⟨g2, i, none⟩ = some (.int .u64 (Wd.wd W64 n i : Nat)))) :
    Calls Tryz.prog 99 #[.slice (some ⟨g, 0, none⟩) k cap, .slice bo l cap2] w fun e w' => ∃ v', e = .returned v' ∧ Row 22 .u64 w' B v' (Wd.nw W64 (m - n)) (Wd.wd W64 (m - n)) ∧ v'.ownBlock = some g ∧ w.grownBy w' (some g) := by
  go_enter Tryz.func99, Tryz.ntmps99
  go_wp2
  go_loopw [5, 10] (fun sb si wr => ∃ (i : Nat), i ≤ k ∧ si = .int .i64 i ∧ sb = .int .u64 (Wd.br W64 m n i : Nat) ∧ Hid (Row 22 .u64 wr B (.slice (some ⟨g, 0, none⟩) k cap) k (fun j => if j < i then Wd.wd W64 (m - n) j else Wd.wd W64 m j)) ∧ Hid (w.grownBy wr (some g))) (fun _ si _ => k - (intOf si).toNat)
  case atStart => exact ⟨0, Nat.zero_le _, rfl, by rw [Wd.br_zero]; rfl, hr.congr (fun j hj => by rw [if_neg (by omega)]), gb_refl _ _⟩
  case round =>
    obtain ⟨i, hi, rfl, rfl, hrow, hgb⟩ := hrel
    by_cases hlt : i < k
    · have hlt' : (i : Int) < (k : Int) := by omega
      have hcell := hrow.out.cell i hlt
      rw [if_neg (by omega)] at hcell
      have hfree := hrow.out.free i
      have hx := wd64 m i
      have hy := wd64 n i
      have hb := Wd.br_le W64 m n i
      have hb' := Wd.br_le W64 m n (i + 1)
      have hfin : Hid (∀ d c : Nat, d + Wd.wd W64 n i + Wd.br W64 m n i = Wd.wd W64 m i + 18446744073709551616 * c → d < 18446744073709551616 → c ≤ 1 → Wd.wd W64 (m - n) i = d ∧ Wd.br W64 m n (i + 1) = c) := fun d c h1 h2 _ => mi_step hnm.out h1 h2
      have hyz : Hid (l ≤ i → Wd.wd W64 n i = 0) := fun h => Wd.wd_big' W64_0 hn.out h
      have h2c : Hid (i < l → ∃ g2, bo = some ⟨g2, 0, none⟩ ∧ wr.cell? ⟨g2, i, none⟩ = some (.int .u64 (Wd.wd W64 n i : Nat))) := fun h => by
        obtain ⟨g2, e1, e2, e3, e4⟩ := h2.out (by omega)
        exact ⟨g2, e1, hgb.out.cell (e4 i h) (by simpa using e2)⟩
      generalize hX : Wd.wd W64 m i = x at hcell hx hfin
      generalize hY : Wd.wd W64 n i = y at hy hfin hyz h2c
      generalize hBb : Wd.br W64 m n i = b at hb hfin
      have hXYB : Hid (Wd.wd W64 m i = x ∧ Wd.wd W64 n i = y ∧ Wd.br W64 m n i = b) := ⟨hX, hY, hBb⟩
      clear hX hY hBb
      have hend : Hid (∀ d c : Nat, Hid (d + y + b = x + 18446744073709551616 * c ∧ d < 18446744073709551616 ∧ c ≤ 1) → (∃ i' : Nat, i' ≤ k ∧ Value.int .i64 ((i : Int) + 1) = .int .i64 i' ∧ Value.int .u64 (c : Int) = .int .u64 (Wd.br W64 m n i' : Nat) ∧ Hid (Row 22 .u64 (wr.setCell ⟨g, i, none⟩ (.int .u64 (d : Int))) B (.slice (some ⟨g, 0, none⟩) k cap) k (fun j => if j < i' then Wd.wd W64 (m - n) j else Wd.wd W64 m j)) ∧ Hid (w.grownBy (wr.setCell ⟨g, i, none⟩ (.int .u64 (d : Int))) (some g)))) := by
        intro d c h
        obtain ⟨f1, f2⟩ := hfin.out d c h.out.1 h.out.2.1 h.out.2.2
        obtain ⟨p1, p2⟩ := hrow.out.put i d
        refine ⟨i + 1, by omega, by go_num, by rw [f2], p1.congr ?_, gb_trans hgb.out p2 (fun _ h => .inl h)⟩
        intro j hj
        by_cases h : j = i
        · rw [if_pos h, if_pos (by omega), h, f1]
        · rw [if_neg h]
          by_cases h' : j < i
          · rw [if_pos h', if_pos (by omega)]
          · rw [if_neg h', if_neg (by omega)]
      clear hfin hXYB
      by_cases hil : i < l
      · have hil' : (i : Int) < (l : Int) := by omega
        obtain ⟨g2, rfl, hc2⟩ := h2c.out hil
        clear h2c hyz h2
        go_wp2
        obtain ⟨d, c, hsub, hs⟩ := sub64_v x y b hx hy hb wr
        rw [hsub]
        clear hsub
        go_wp2
        exact ⟨hend.out d c hs, by simp [intOf]; omega⟩
      · have hil' : decide ((i : Int) < (l : Int)) = false := decide_eq_false (by omega)
        have hy0 := hyz.out (by omega)
        subst hy0
        clear h2c hyz h2
        go_wp2
        obtain ⟨d, c, hsub, hs⟩ := sub64_v x 0 b hx hy hb wr
        rw [show ((0 : Nat) : Int) = 0 from rfl] at hsub
        rw [hsub]
        clear hsub
        go_wp2
        exact ⟨hend.out d c hs, by simp [intOf]; omega⟩
    · have hlt' : decide ((i : Int) < (k : Int)) = false := decide_eq_false (by omega)
      have hik : i = k := by omega
      subst hik
      have hrow2 : Hid (Row 22 .u64 wr B (.slice (some ⟨g, 0, none⟩) i cap) i (Wd.wd W64 (m - n))) := hrow.out.congr (fun j hj => by rw [if_pos hj])
      have hn2 : m - n < W64 ^ i := by have := hm.out; omega
      go_wp2_with (go_at_call 74; refine (trimmed_c B i (m - n) _ _ hrow2.out hn2).mono ?_; rintro e w' ⟨v', rfl, hv, hvo, rfl⟩)
      go_ret
      exact ⟨_, rfl, hv, hvo, hgb.out⟩
theorem minus_0 (w : World) (bo : Option Addr) (l c : Nat) :
    Calls Tryz.prog 99 #[.slice none 0 0, .slice bo l c] w fun e w' => e = .returned (.slice none 0 0) ∧ w = w' := by
  go_enter Tryz.func99, Tryz.ntmps99
  go_wp2
  refine wp_loop_rounds 1 ?_
  rw [rounds_succ]
  go_wp2_with (go_at_call 74; refine (trimmed_0 none 0 _).mono ?_; rintro e w' ⟨rfl, rfl⟩)
  go_ret
  exact ⟨rfl, rfl⟩
theorem minus_c (B C m n : Nat) (u v : Value) (w : World) (hu : Nl w B u m) (hv : Nl w C v n) (hk : Wd.nw W64 m ≤ 1000000) (hnm : n ≤ m) (ha : Apt u v) :
    Calls Tryz.prog 99 #[u, v] w fun e w' => ∃ v', e = .returned v' ∧ Nl w' B v' (m - n) ∧ v'.ownBlock = u.ownBlock ∧ w.grownBy w' u.ownBlock := by
  obtain ⟨bo, d, rfl⟩ := Row.slice hv
  rcases Row.cases hu with ⟨rfl, h0⟩ | ⟨g, cap, rfl, _⟩
  · have hn := nl_nil h0
    subst hn
    refine (minus_0 w bo _ d).mono ?_
    rintro e w' ⟨rfl, rfl⟩
    refine ⟨_, rfl, ?_, rfl, gb_refl _ _⟩
    unfold Nl; rw [Nat.zero_sub, Wd.nw_zero]; exact Row.nil _ _ _ _ _
  · refine minus_n B g _ _ cap d m n bo w hu hk (Wd.nw_mono W64_2 hnm) (Wd.lt_pow_nw W64_2 m) (Wd.lt_pow_nw W64_2 n) hnm ?_
    intro hl
    obtain ⟨g2, rfl, h2⟩ := Row.rd hv hl
    refine ⟨g2, rfl, fun e => ?_, (hv.lt g2 rfl).2, h2⟩
    subst e
    exact ha g2 rfl rfl
end Go.Proofs.YtoojjefndkdnpaaGreatDoor
