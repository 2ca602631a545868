/-
  The program's naturals: halve, minus.
-/
import Derived.Test.YtmfnjmgdindlaaaDoorQd
import Derived.Shelf.Spec.BitsCarry
import Derived.Laws.MakeOwn
namespace Go.Proofs.YtmfnjmgdindlaaaDoor
open Flo Go.RowKit
theorem sub64_r (x y b : Nat) (hb : b ≤ 1) (w : World) : (callFunc 88 #[.int .u64 (x : Int), .int .u64 (y : Int), .int .u64 (b : Int)]).run Tryd.prog w =
    .ok (.value (.tuple #[.int .u64 (((x + 18446744073709551616 - y - b) % 18446744073709551616 : Nat) : Int), .int .u64 ((if x < y + b then 1 else 0 : Nat) : Int)])) w := by
  rw [run_callFunc_extern (P := Tryd.prog) (f := 88) (fn := Tryd.f88) (by kernel_rfl) (by kernel_rfl) (by kernel_rfl) (by kernel_rfl) (e := sub64Entry) (by kernel_rfl), run_sub64 x y b hb]
  rfl
theorem sub64_v (x y b : Nat) (hx : x < 18446744073709551616) (hy : y < 18446744073709551616) (hb : b ≤ 1) (w : World) : ∃ d c : Nat, (callFunc 88 #[.int .u64 (x : Int), .int .u64 (y : Int), .int .u64 (b : Int)]).run Tryd.prog w =
    .ok (.value (.tuple #[.int .u64 (d : Int), .int .u64 (c : Int)])) w ∧ Hid (d + y + b = x + 18446744073709551616 * c ∧ d < 18446744073709551616 ∧ c ≤ 1) :=
  ⟨_, _, sub64_r x y b hb w, (by refine ⟨?_, ?_, ?_⟩ <;> (try split) <;> omega)⟩
theorem or_half (x c : Nat) (hx : x < 18446744073709551616) (hc : c ≤ 1) : bits .or .u64 ((x : Int) / 2) ((c * 9223372036854775808 : Nat) : Int) = ((x / 2 + 9223372036854775808 * c : Nat) : Int) := by
  rw [show (x : Int) / 2 = ((x / 2 : Nat) : Int) by omega, bits_or_u64_nat _ _ (by omega) (by omega)]
  congr 1
  rw [Nat.or_comm, Nat.mul_comm c, show (9223372036854775808 : Nat) = 2 ^ 63 from rfl, ← Nat.two_pow_add_eq_or_of_lt (show x / 2 < 2 ^ 63 by omega)]
  omega
set_option maxRecDepth 100000 in
set_option maxHeartbeats 1000000 in
theorem halve_n (B g k cap n : Nat) (w : World) (hr : Row 22 .u64 w B (.slice (some ⟨g, 0, none⟩) k cap) k (Wd.wd W64 n)) (hk : k ≤ 1000000) (hn : Hid (n < W64 ^ k)) :
    Calls Tryd.prog 79 #[.slice (some ⟨g, 0, none⟩) k cap] w fun e w' => ∃ v', e = .returned v' ∧ Row 22 .u64 w' B v' (Wd.nw W64 (n / 2)) (Wd.wd W64 (n / 2)) ∧ v'.ownBlock = some g ∧ w.grownBy w' (some g) := by
  go_enter Tryd.func79, Tryd.ntmps79
  go_wp2
  go_loopw [3, 4] (fun sc si wr => ∃ (i c : Nat), i ≤ k ∧ si = .int .i64 ((i : Int) - 1) ∧ sc = .int .u64 ((c * 9223372036854775808 : Nat) : Int) ∧ Hid (c = Wd.wd W64 n i % 2) ∧ Hid (Row 22 .u64 wr B (.slice (some ⟨g, 0, none⟩) k cap) k (fun j => if i ≤ j then Wd.wd W64 (n / 2) j else Wd.wd W64 n j)) ∧ Hid (w.grownBy wr (some g))) (fun _ si _ => (intOf si + 1).toNat)
  case atStart => exact ⟨k, 0, Nat.le_refl _, rfl, by simp, by show 0 = _; rw [Wd.wd_big hn.out], hr.congr (fun j hj => by rw [if_neg (by omega)]), gb_refl _ _⟩
  case round =>
    obtain ⟨i, c, hi, rfl, rfl, hc, hrow, hgb⟩ := hrel
    by_cases h0 : i = 0
    · subst h0
      have hrow2 : Hid (Row 22 .u64 wr B (.slice (some ⟨g, 0, none⟩) k cap) k (Wd.wd W64 (n / 2))) := hrow.out.congr (fun j hj => by rw [if_pos (by omega)])
      have hn2 : n / 2 < W64 ^ k := by have := hn.out; omega
      go_wp2_with (go_at_call 56; refine (trimmed_c B k (n / 2) _ _ hrow2.out hn2).mono ?_; rintro e w' ⟨v', rfl, hv, hvo, rfl⟩)
      go_ret
      exact ⟨_, rfl, hv, hvo, hgb.out⟩
    · obtain ⟨j, rfl⟩ : ∃ j, i = j + 1 := ⟨i - 1, by omega⟩
      have hcell := hrow.out.cell j (by omega)
      rw [if_neg (by omega)] at hcell
      have hfree := hrow.out.free j
      have hj : (j : Int) < (k : Int) := by omega
      have hj0 : (((j + 1 : Nat) : Int) - 1) = (j : Int) := by omega
      have hx := wd64 n j
      have hw : Hid (Wd.wd W64 (n / 2) j = Wd.wd W64 n j / 2 + 9223372036854775808 * c) := by
        have := Wd.half_word W64_0 ⟨9223372036854775808, rfl⟩ n j
        rw [hc.out]; exact this
      have hc1 : c ≤ 1 := by have := hc.out; omega
      generalize hX : Wd.wd W64 n j = x at hcell hx hw
      have hor := or_half x c hx hc1
      have hsh : IntKind.u64.wrap ((x : Int) * 9223372036854775808) = ((x % 2 * 9223372036854775808 : Nat) : Int) := by simp only [IntKind.wrap_u64]; omega
      have hXH : Hid (Wd.wd W64 n j = x) := hX
      clear hX
      rw [hj0]
      clear hj0
      generalize c * 9223372036854775808 = cc at hor
      generalize x / 2 + 9223372036854775808 * c = z at hor hw
      go_wp2
      obtain ⟨p1, p2⟩ := hrow.out.put j z
      refine ⟨⟨j, x % 2, by omega, rfl, by go_num, by rw [hXH.out]; exact rfl, p1.congr ?_, gb_trans hgb.out p2 (fun _ h => .inl h)⟩, ?_⟩
      · intro i hi2
        by_cases h : i = j
        · rw [if_pos h, if_pos (by omega), h, hw.out]
        · rw [if_neg h]
          by_cases h' : j ≤ i
          · rw [if_pos h', if_pos (by omega)]
          · rw [if_neg h', if_neg (by omega)]
      · simp [intOf]
theorem halve_0 (w : World) :
    Calls Tryd.prog 79 #[.slice none 0 0] w fun e w' => e = .returned (.slice none 0 0) ∧ w = w' := by
  go_enter Tryd.func79, Tryd.ntmps79
  go_wp2
  refine wp_loop_rounds 1 ?_
  rw [rounds_succ]
  go_wp2_with (go_at_call 56; refine (trimmed_0 none 0 _).mono ?_; rintro e w' ⟨rfl, rfl⟩)
  go_ret
  exact ⟨rfl, rfl⟩
theorem nl_nil {n : Nat} (h : Wd.nw W64 n = 0) : n = 0 := by
  apply Nat.eq_zero_of_not_pos
  intro h1
  rw [Wd.nw_pos W64_2 h1] at h
  omega
theorem halve_c (B n : Nat) (v : Value) (w : World) (hr : Nl w B v n) (hk : Wd.nw W64 n ≤ 1000000) :
    Calls Tryd.prog 79 #[v] w fun e w' => ∃ v', e = .returned v' ∧ Nl w' B v' (n / 2) ∧ v'.ownBlock = v.ownBlock ∧ w.grownBy w' v.ownBlock := by
  rcases Row.cases hr with ⟨rfl, h0⟩ | ⟨g, cap, rfl, _⟩
  · have hn := nl_nil h0
    subst hn
    refine (halve_0 w).mono ?_
    rintro e w' ⟨rfl, rfl⟩
    refine ⟨_, rfl, ?_, rfl, gb_refl _ _⟩
    unfold Nl; rw [show 0 / 2 = 0 from rfl, Wd.nw_zero]; exact Row.nil _ _ _ _ _
  · exact halve_n B g _ cap n w hr hk (Wd.lt_pow_nw W64_2 n)
theorem mi_step {m n i d c : Nat} (hnm : n ≤ m) (h1 : d + Wd.wd W64 n i + Wd.br W64 m n i = Wd.wd W64 m i + 18446744073709551616 * c) (h2 : d < 18446744073709551616) :
    Wd.wd W64 (m - n) i = d ∧ Wd.br W64 m n (i + 1) = c := by
  have h4 : Wd.wd W64 (m - n) i + Wd.wd W64 n i + Wd.br W64 m n i = Wd.wd W64 m i + 18446744073709551616 * Wd.br W64 m n (i + 1) := Wd.br_key W64_0 m n i hnm
  have h5 := wd64 (m - n) i
  have h6 := Wd.br_le W64 m n (i + 1)
  omega
set_option maxRecDepth 100000 in
set_option maxHeartbeats 1000000 in
theorem minus_n (B g k l cap cap2 m n : Nat) (bo : Option Addr) (w : World) (hr : Row 22 .u64 w B (.slice (some ⟨g, 0, none⟩) k cap) k (Wd.wd W64 m)) (hk : k ≤ 1000000) (hl : l ≤ k) (hm : Hid (m < W64 ^ k)) (hn : Hid (n < W64 ^ l)) (hnm : Hid (n ≤ m))
    (h2 : Hid (0 < l → ∃ g2, bo = some ⟨g2, 0, none⟩ ∧ g2 ≠ g ∧ g2 < w.heap.size ∧ ∀ i, i < l → w.cell? ⟨g2, i, none⟩ = some (.int .u64 (Wd.wd W64 n i : Nat)))) :
    Calls Tryd.prog 78 #[.slice (some ⟨g, 0, none⟩) k cap, .slice bo l cap2] w fun e w' => ∃ v', e = .returned v' ∧ Row 22 .u64 w' B v' (Wd.nw W64 (m - n)) (Wd.wd W64 (m - n)) ∧ v'.ownBlock = some g ∧ w.grownBy w' (some g) := by
  go_enter Tryd.func78, Tryd.ntmps78
  go_wp2
  go_loopw [5, 10] (fun sb si wr => ∃ (i : Nat), i ≤ k ∧ si = .int .i64 i ∧ sb = .int .u64 (Wd.br W64 m n i : Nat) ∧ Hid (Row 22 .u64 wr B (.slice (some ⟨g, 0, none⟩) k cap) k (fun j => if j < i then Wd.wd W64 (m - n) j else Wd.wd W64 m j)) ∧ Hid (w.grownBy wr (some g))) (fun _ si _ => k - (intOf si).toNat)
  case atStart => exact ⟨0, Nat.zero_le _, rfl, by rw [Wd.br_zero]; rfl, hr.congr (fun j hj => by rw [if_neg (by omega)]), gb_refl _ _⟩
  case round =>
    obtain ⟨i, hi, rfl, rfl, hrow, hgb⟩ := hrel
    by_cases hlt : i < k
    · have hlt' : (i : Int) < (k : Int) := by omega
      have hcell := hrow.out.cell i hlt
      rw [if_neg (by omega)] at hcell
      have hfree := hrow.out.free i
      have hx := wd64 m i
      have hy := wd64 n i
      have hb := Wd.br_le W64 m n i
      have hb' := Wd.br_le W64 m n (i + 1)
      have hfin : Hid (∀ d c : Nat, d + Wd.wd W64 n i + Wd.br W64 m n i = Wd.wd W64 m i + 18446744073709551616 * c → d < 18446744073709551616 → c ≤ 1 → Wd.wd W64 (m - n) i = d ∧ Wd.br W64 m n (i + 1) = c) := fun d c h1 h2 _ => mi_step hnm.out h1 h2
      have hyz : Hid (l ≤ i → Wd.wd W64 n i = 0) := fun h => Wd.wd_big' W64_0 hn.out h
      have h2c : Hid (i < l → ∃ g2, bo = some ⟨g2, 0, none⟩ ∧ wr.cell? ⟨g2, i, none⟩ = some (.int .u64 (Wd.wd W64 n i : Nat))) := fun h => by
        obtain ⟨g2, e1, e2, e3, e4⟩ := h2.out (by omega)
        exact ⟨g2, e1, hgb.out.cell (e4 i h) (by simpa using e2)⟩
      generalize hX : Wd.wd W64 m i = x at hcell hx hfin
      generalize hY : Wd.wd W64 n i = y at hy hfin hyz h2c
      generalize hBb : Wd.br W64 m n i = b at hb hfin
      have hXYB : Hid (Wd.wd W64 m i = x ∧ Wd.wd W64 n i = y ∧ Wd.br W64 m n i = b) := ⟨hX, hY, hBb⟩
      clear hX hY hBb
      have hend : Hid (∀ d c : Nat, Hid (d + y + b = x + 18446744073709551616 * c ∧ d < 18446744073709551616 ∧ c ≤ 1) → (∃ i' : Nat, i' ≤ k ∧ Value.int .i64 ((i : Int) + 1) = .int .i64 i' ∧ Value.int .u64 (c : Int) = .int .u64 (Wd.br W64 m n i' : Nat) ∧ Hid (Row 22 .u64 (wr.setCell ⟨g, i, none⟩ (.int .u64 (d : Int))) B (.slice (some ⟨g, 0, none⟩) k cap) k (fun j => if j < i' then Wd.wd W64 (m - n) j else Wd.wd W64 m j)) ∧ Hid (w.grownBy (wr.setCell ⟨g, i, none⟩ (.int .u64 (d : Int))) (some g)))) := by
        intro d c h
        obtain ⟨f1, f2⟩ := hfin.out d c h.out.1 h.out.2.1 h.out.2.2
        obtain ⟨p1, p2⟩ := hrow.out.put i d
        refine ⟨i + 1, by omega, by go_num, by rw [f2], p1.congr ?_, gb_trans hgb.out p2 (fun _ h => .inl h)⟩
        intro j hj
        by_cases h : j = i
        · rw [if_pos h, if_pos (by omega), h, f1]
        · rw [if_neg h]
          by_cases h' : j < i
          · rw [if_pos h', if_pos (by omega)]
          · rw [if_neg h', if_neg (by omega)]
      clear hfin hXYB
      by_cases hil : i < l
      · have hil' : (i : Int) < (l : Int) := by omega
        obtain ⟨g2, rfl, hc2⟩ := h2c.out hil
        clear h2c hyz h2
        go_wp2
        obtain ⟨d, c, hsub, hs⟩ := sub64_v x y b hx hy hb wr
        rw [hsub]
        clear hsub
        go_wp2
        exact ⟨hend.out d c hs, by simp [intOf]; omega⟩
      · have hil' : decide ((i : Int) < (l : Int)) = false := decide_eq_false (by omega)
        have hy0 := hyz.out (by omega)
        subst hy0
        clear h2c hyz h2
        go_wp2
        obtain ⟨d, c, hsub, hs⟩ := sub64_v x 0 b hx hy hb wr
        rw [show ((0 : Nat) : Int) = 0 from rfl] at hsub
        rw [hsub]
        clear hsub
        go_wp2
        exact ⟨hend.out d c hs, by simp [intOf]; omega⟩
    · have hlt' : decide ((i : Int) < (k : Int)) = false := decide_eq_false (by omega)
      have hik : i = k := by omega
      subst hik
      have hrow2 : Hid (Row 22 .u64 wr B (.slice (some ⟨g, 0, none⟩) i cap) i (Wd.wd W64 (m - n))) := hrow.out.congr (fun j hj => by rw [if_pos hj])
      have hn2 : m - n < W64 ^ i := by have := hm.out; omega
      go_wp2_with (go_at_call 56; refine (trimmed_c B i (m - n) _ _ hrow2.out hn2).mono ?_; rintro e w' ⟨v', rfl, hv, hvo, rfl⟩)
      go_ret
      exact ⟨_, rfl, hv, hvo, hgb.out⟩
theorem minus_0 (w : World) (bo : Option Addr) (l c : Nat) :
    Calls Tryd.prog 78 #[.slice none 0 0, .slice bo l c] w fun e w' => e = .returned (.slice none 0 0) ∧ w = w' := by
  go_enter Tryd.func78, Tryd.ntmps78
  go_wp2
  refine wp_loop_rounds 1 ?_
  rw [rounds_succ]
  go_wp2_with (go_at_call 56; refine (trimmed_0 none 0 _).mono ?_; rintro e w' ⟨rfl, rfl⟩)
  go_ret
  exact ⟨rfl, rfl⟩
theorem minus_c (B C m n : Nat) (u v : Value) (w : World) (hu : Nl w B u m) (hv : Nl w C v n) (hk : Wd.nw W64 m ≤ 1000000) (hnm : n ≤ m) (ha : Apt u v) :
    Calls Tryd.prog 78 #[u, v] w fun e w' => ∃ v', e = .returned v' ∧ Nl w' B v' (m - n) ∧ v'.ownBlock = u.ownBlock ∧ w.grownBy w' u.ownBlock := by
  obtain ⟨bo, d, rfl⟩ := Row.slice hv
  rcases Row.cases hu with ⟨rfl, h0⟩ | ⟨g, cap, rfl, _⟩
  · have hn := nl_nil h0
    subst hn
    refine (minus_0 w bo _ d).mono ?_
    rintro e w' ⟨rfl, rfl⟩
    refine ⟨_, rfl, ?_, rfl, gb_refl _ _⟩
    unfold Nl; rw [Nat.zero_sub, Wd.nw_zero]; exact Row.nil _ _ _ _ _
  · refine minus_n B g _ _ cap d m n bo w hu hk (Wd.nw_mono W64_2 hnm) (Wd.lt_pow_nw W64_2 m) (Wd.lt_pow_nw W64_2 n) hnm ?_
    intro hl
    obtain ⟨g2, rfl, h2⟩ := Row.rd hv hl
    refine ⟨g2, rfl, fun e => ?_, (hv.lt g2 rfl).2, h2⟩
    subst e
    exact ha g2 rfl rfl
end Go.Proofs.YtmfnjmgdindlaaaDoor
/-
  The program's naturals: doubled.
-/
namespace Go.Proofs.YtmfnjmgdindlaaaDoor
open Flo Go.RowKit
theorem make_row (w : World) (l c : Nat) (hl : l ≤ c) (hc : c ≤ 100000000) :
    ∃ w', (Instr.makeSlice 63 (.int .i64 (l : Int)) (.int .i64 (c : Int))).run Tryd.prog w = .ok (.slice (some ⟨w.heap.size, 0, none⟩) l c) w' ∧
      Hid (Row 22 .u64 w' w.heap.size (.slice (some ⟨w.heap.size, 0, none⟩) l c) l (fun _ => 0)) ∧ Hid (Below w.heap.size w w') := by
  obtain ⟨i0, hi0, hz0, hz1, hz2⟩ := info_parts infoU64
  have h := run_make (P := Tryd.prog) w 63 22 i0 (.int .u64 0) Tryd.underlying63 hi0 hz0 .i64 .i64 l c (by omega) (by omega) (by rw [hz2]; omega) (by omega)
  simp only [Int.toNat_natCast, hz1, Nat.mul_one] at h
  refine ⟨_, h, ?_, (Below.refl _ _).alloc (Nat.le_refl _) _⟩
  refine ⟨by rw [Cl_len, Nat.mul_one], .inr ⟨_, c, _, rfl, Nat.le_refl _, heap_alloc_new w _, hl, by unfold maxLen; omega, by rw [size_madeCells, Nat.mul_one], ?_⟩⟩
  have e : (Value.int .u64 0).cells = #[.int .u64 0] := rfl
  rw [e, toList_madeCells_one, Nat.mul_one]
  apply List.ext_getElem?
  intro j
  by_cases hj : j < l
  · rw [Cl_get .u64 _ hj]
    rw [List.getElem?_take, if_pos hj, List.getElem?_replicate, if_pos (by omega)]; rfl
  · rw [List.getElem?_eq_none (by simp; omega), List.getElem?_eq_none (by rw [Cl_len]; omega)]
theorem W64_e : W64 = 2 ^ 64 := by decide
theorem db_word (n ws rs i : Nat) (hrs : rs < 64) : Wd.wd W64 (n * 2 ^ (64 * ws + rs)) (ws + i) = Wd.wd W64 n i * 2 ^ rs % W64 + (if i = 0 then 0 else Wd.wd W64 n (i - 1) / 2 ^ (64 - rs)) := by
  rw [show n * 2 ^ (64 * ws + rs) = n * 2 ^ rs * W64 ^ ws by rw [W64_pow, Nat.pow_add, Nat.mul_comm (2 ^ (64 * ws)), Nat.mul_assoc], Wd.wd_shift W64_0]
  have h := Wd.shl_word (e := 64) (s := rs) (n := n) (i := i) (by omega)
  rw [← W64_e] at h
  exact h
theorem db_low (n ws rs i : Nat) (h : i < ws) : Wd.wd W64 (n * 2 ^ (64 * ws + rs)) i = 0 := by
  rw [show n * 2 ^ (64 * ws + rs) = n * 2 ^ rs * W64 ^ ws by rw [W64_pow, Nat.pow_add, Nat.mul_comm (2 ^ (64 * ws)), Nat.mul_assoc]]
  exact Wd.wd_shift_low W64_0 _ _ _ h
theorem db_lt {n k ws rs : Nat} (hn : n < W64 ^ k) (hrs : rs < 64) : n * 2 ^ (64 * ws + rs) < W64 ^ (ws + k + 1) := by
  have h1 : 2 ^ (64 * ws + rs) < 2 ^ (64 * (ws + 1)) := Nat.pow_lt_pow_right (by decide) (by omega)
  rw [← W64_pow] at h1
  have e : W64 ^ (ws + k + 1) = W64 ^ k * W64 ^ (ws + 1) := by rw [← Nat.pow_add]; congr 1; omega
  rw [e]
  exact Nat.mul_lt_mul'' hn h1
theorem or_low (y x rs : Nat) (hx : x < 2 ^ rs) (hrs : rs < 64) : bits .or .u64 (IntKind.u64.wrap ((y : Int) * 2 ^ rs)) (x : Int) = ((y * 2 ^ rs % W64 + x : Nat) : Int) := by
  have e1 : (y : Int) * 2 ^ rs = ((y * 2 ^ rs : Nat) : Int) := by simp
  have hp : 2 ^ rs ≤ 2 ^ 63 := Nat.pow_le_pow_right (by decide) (by omega)
  have e2 : y * 2 ^ rs % W64 = 2 ^ rs * (y % 2 ^ (64 - rs)) := by
    rw [W64_e, show 2 ^ 64 = 2 ^ rs * 2 ^ (64 - rs) by rw [← Nat.pow_add]; congr 1; omega, Nat.mul_comm y, Nat.mul_mod_mul_left]
  have h3 : y * 2 ^ rs % W64 < 18446744073709551616 := Nat.mod_lt _ W64_0
  rw [e1, wrapMod, show y * 2 ^ rs % 18446744073709551616 = y * 2 ^ rs % W64 from rfl, bits_or_u64_nat _ _ h3 (by omega)]
  congr 1
  show y * 2 ^ rs % W64 ||| x = _
  rw [e2, ← Nat.two_pow_add_eq_or_of_lt hx]
theorem shr_lt {y rs : Nat} (hy : y < 18446744073709551616) (hrs : rs < 64) : y / 2 ^ (64 - rs) < 2 ^ rs := by
  rw [Nat.div_lt_iff_lt_mul (Nat.pow_pos (by decide)), ← Nat.pow_add, show rs + (64 - rs) = 64 by omega]
  exact hy
set_option maxRecDepth 100000 in
set_option maxHeartbeats 2000000 in
theorem doubled_n (B g k cap n s ws rs : Nat) (w : World) (hr : Row 22 .u64 w B (.slice (some ⟨g, 0, none⟩) k cap) k (Wd.wd W64 n)) (hk : k ≤ 1000000) (hn : Hid (n < W64 ^ k)) (hs : s ≤ 1000000) (hws : (s : Int) / 64 = (ws : Int)) (hrs : (s : Int) % 64 = (rs : Int)) :
    Calls Tryd.prog 58 #[.slice (some ⟨g, 0, none⟩) k cap, .int .i64 s] w fun e w' => ∃ v', e = .returned v' ∧ Nl w' w.heap.size v' (n * 2 ^ s) ∧ Below w.heap.size w w' := by
  obtain ⟨i0, hi0, hz0, hz1, hz2⟩ := info_parts infoU64
  have hlt := hr.lt g rfl
  obtain ⟨c, hcc⟩ : ∃ c : Nat, c = ws + k + 1 := ⟨_, rfl⟩
  have hcI : Hid ((ws : Int) + (k : Int) + 1 = (c : Int)) := (by omega : (ws : Int) + (k : Int) + 1 = (c : Int))
  obtain ⟨w1, hmk, hrow1, hbl1⟩ := make_row w ws c (by omega) (by omega)
  have hmkH : Hid _ := hmk
  have hcH : Hid (c = ws + k + 1) := hcc
  have hsH : Hid (s = 64 * ws + rs) := (by omega : s = 64 * ws + rs)
  have hrs64 : rs < 64 := by omega
  have hwsl : ws ≤ 1000000 := by omega
  obtain ⟨N, hN⟩ : ∃ N : Nat, Hid (N = n * 2 ^ (64 * ws + rs)) := ⟨_, rfl⟩
  clear hcc hmk
  go_enter Tryd.func58, Tryd.ntmps58
  go_wp2
  rw [hcI.out, hmkH.out]
  clear hmkH hcI
  have hrH : Hid (∀ wr, Below w.heap.size w wr → ∀ i, i < k → wr.cell? ⟨g, i, none⟩ = some (.int .u64 (Wd.wd W64 n i : Nat))) := fun wr hb i hi => (hb.cell (p := ⟨g, i, none⟩) hlt.2).trans (hr.cell i hi)
  go_wp2
  go_loopw [7, 8, 25] (fun so sc si wr => ∃ (i x : Nat), i ≤ k ∧ si = .int .i64 i ∧ sc = .int .u64 x ∧ Hid (x = if i = 0 then 0 else Wd.wd W64 n (i - 1) / 2 ^ (64 - rs)) ∧ Hid (x < 2 ^ rs) ∧ Hid (Row 22 .u64 wr w.heap.size so (ws + i) (Wd.wd W64 N)) ∧ Hid (Below w.heap.size w wr)) (fun _ _ si _ => k - (intOf si).toNat)
  case atStart => exact ⟨0, 0, Nat.zero_le _, rfl, rfl, rfl, Nat.pow_pos (by decide), hrow1.out.congr (fun j hj => by rw [hN.out, db_low n ws rs j hj]), hbl1.out⟩
  case round =>
    obtain ⟨i, x, hi, rfl, rfl, hxe, hxl, hrow, hbl⟩ := hrel
    have hsz := hbl.out.size
    by_cases hlt : i < k
    · have hlt' : (i : Int) < (k : Int) := by omega
      have hcell := hrH.out wr hbl.out i hlt
      have hyl := wd64 n i
      have hz : Hid (Wd.wd W64 N (ws + i) = Wd.wd W64 n i * 2 ^ rs % W64 + x) := by
        show _ = _
        rw [hN.out, db_word n ws rs i hrs64, ← hxe.out]
      have hx' : Hid (Wd.wd W64 n i / 2 ^ (64 - rs) < 2 ^ rs) := shr_lt hyl hrs64
      have hxe' : Hid (Wd.wd W64 n i / 2 ^ (64 - rs) = if i + 1 = 0 then 0 else Wd.wd W64 n (i + 1 - 1) / 2 ^ (64 - rs)) := by
        show _ = _
        rw [if_neg (by omega), Nat.add_sub_cancel]
      have hor := or_low (Wd.wd W64 n i) x rs hxl.out hrs64
      rw [← hz.out] at hor
      generalize Wd.wd W64 n i = y at hcell hyl hz hx' hxe' hor
      generalize hZ : Wd.wd W64 N (ws + i) = z at hor
      have hZH : Hid (Wd.wd W64 N (ws + i) = z) := hZ
      clear hZ hz
      go_wp2_with (at_builtin; refine wpList_append_own _ rfl _ _ 63 rfl w.heap.size 22 i0 (.int .u64 0) 1 8 Tryd.underlying63 hi0 hz0 hz1 hz2 rfl (by decide) _ _ _ rfl (hrow.out.allocs _) ⟨wr.heap.size, 0, none⟩ 1 1 [.int .u64 (z : Int)] rfl rfl ?c1 ?c2 ?c3 ?c4 ?c5 ?_)
      case c1 =>
        intro j u hj
        match j, hj with
        | 0, hj => simp at hj; subst hj; simp [Addr.add]
      case c2 => intro u hu; simp at hu; subst hu; rfl
      case c3 => unfold maxLen; omega
      case c4 => omega
      case c5 => simp; omega
      · intro v' w2 hown' hgrow hnil
        have hr3 : Hid (Row 22 .u64 w2 w.heap.size v' (ws + (i + 1)) (Wd.wd W64 N)) := by
          show World.ownsRow _ _ _ _ _ _ _
          rw [← Nat.add_assoc, Cl_succ, hZH.out]; exact hown'
        have hin : Hid (Below w.heap.size w w2) := (hbl.out.alloc (by omega) _).grown hgrow (by simp; omega) (fun k' hk' => (hrow.out.lt k' hk').1)
        clear hown' hgrow hnil hrow hbl hcell hor
        go_wp2
        exact ⟨⟨i + 1, y / 2 ^ (64 - rs), by omega, by go_num, by simp, hxe', hx', hr3, hin⟩, by simp [intOf]; omega⟩
    · have hlt' : decide ((i : Int) < (k : Int)) = false := decide_eq_false (by omega)
      have hik : i = k := by omega
      subst hik
      have hZH : Hid (Wd.wd W64 N (ws + i) = x) := by
        show _ = _
        rw [hN.out, db_word n ws rs i hrs64, Wd.wd_big hn.out, Nat.zero_mul, Nat.zero_mod, Nat.zero_add, ← hxe.out]
      have hNl : Hid (N < W64 ^ (ws + i + 1)) := by show _ < _; rw [hN.out]; exact db_lt hn.out hrs64
      go_wp2_with (at_builtin; refine wpList_append_own _ rfl _ _ 63 rfl w.heap.size 22 i0 (.int .u64 0) 1 8 Tryd.underlying63 hi0 hz0 hz1 hz2 rfl (by decide) _ _ _ rfl (hrow.out.allocs _) ⟨wr.heap.size, 0, none⟩ 1 1 [.int .u64 (x : Int)] rfl rfl ?c1 ?c2 ?c3 ?c4 ?c5 ?_)
      case c1 =>
        intro j u hj
        match j, hj with
        | 0, hj => simp at hj; subst hj; simp [Addr.add]
      case c2 => intro u hu; simp at hu; subst hu; rfl
      case c3 => unfold maxLen; omega
      case c4 => omega
      case c5 => simp; omega
      · intro v' w2 hown' hgrow hnil
        have hr3 : Hid (Row 22 .u64 w2 w.heap.size v' (ws + i + 1) (Wd.wd W64 N)) := by
          show World.ownsRow _ _ _ _ _ _ _
          rw [Cl_succ, hZH.out]; exact hown'
        have hin : Hid (Below w.heap.size w w2) := (hbl.out.alloc (by omega) _).grown hgrow (by simp; omega) (fun k' hk' => (hrow.out.lt k' hk').1)
        clear hown' hgrow hnil hrow hbl
        go_wp2_with (go_at_call 56; refine (trimmed_c w.heap.size (ws + i + 1) N _ _ hr3.out hNl.out).mono ?_; rintro e w' ⟨v'', rfl, hv, hvo, rfl⟩)
        go_ret
        refine ⟨_, rfl, ?_, hin.out⟩
        rw [hsH.out, ← hN.out]
        exact hv
set_option maxRecDepth 100000 in
set_option maxHeartbeats 2000000 in
theorem doubled_0 (s ws rs : Nat) (w : World) (hs : s ≤ 1000000) (hws : (s : Int) / 64 = (ws : Int)) (hrs : (s : Int) % 64 = (rs : Int)) :
    Calls Tryd.prog 58 #[.slice none 0 0, .int .i64 s] w fun e w' => ∃ v', e = .returned v' ∧ Nl w' w.heap.size v' 0 ∧ Below w.heap.size w w' := by
  obtain ⟨i0, hi0, hz0, hz1, hz2⟩ := info_parts infoU64
  obtain ⟨c, hcc⟩ : ∃ c : Nat, c = ws + 1 := ⟨_, rfl⟩
  have hcI : Hid ((ws : Int) + 1 = (c : Int)) := (by omega : (ws : Int) + 1 = (c : Int))
  obtain ⟨w1, hmk, hrow1, hbl1⟩ := make_row w ws c (by omega) (by omega)
  have hmkH : Hid _ := hmk
  have hwsl : ws ≤ 1000000 := by omega
  have hsz := hbl1.out.size
  clear hcc hmk
  go_enter Tryd.func58, Tryd.ntmps58
  go_wp2
  rw [hcI.out, hmkH.out]
  clear hmkH hcI
  go_wp2
  refine wp_loop_rounds 1 ?_
  rw [rounds_succ]
  go_wp2_with (at_builtin; refine wpList_append_own _ rfl _ _ 63 rfl w.heap.size 22 i0 (.int .u64 0) 1 8 Tryd.underlying63 hi0 hz0 hz1 hz2 rfl (by decide) _ _ _ rfl (hrow1.out.allocs _) ⟨w1.heap.size, 0, none⟩ 1 1 [.int .u64 0] rfl rfl ?c1 ?c2 ?c3 ?c4 ?c5 ?_)
  case c1 =>
    intro j u hj
    match j, hj with
    | 0, hj => simp at hj; subst hj; simp [Addr.add]
  case c2 => intro u hu; simp at hu; subst hu; rfl
  case c3 => unfold maxLen; omega
  case c4 => omega
  case c5 => simp; omega
  · intro v' w2 hown' hgrow hnil
    have hr3 : Hid (Row 22 .u64 w2 w.heap.size v' (ws + 1) (Wd.wd W64 0)) := by
      have h : Row 22 .u64 w2 w.heap.size v' (ws + 1) (fun _ => 0) := by
        show World.ownsRow _ _ _ _ _ _ _
        rw [Cl_succ]; exact hown'
      exact h.congr fun j hj => by unfold Wd.wd; simp
    have hin : Hid (Below w.heap.size w w2) := (hbl1.out.alloc (by omega) _).grown hgrow (by simp; omega) (fun k' hk' => (hrow1.out.lt k' hk').1)
    clear hown' hgrow hnil
    go_wp2_with (go_at_call 56; refine (trimmed_c w.heap.size (ws + 1) 0 _ _ hr3.out (Nat.pow_pos W64_0)).mono ?_; rintro e w' ⟨v'', rfl, hv, hvo, rfl⟩)
    go_ret
    exact ⟨_, rfl, hv, hin.out⟩
theorem doubled_c (B n s : Nat) (v : Value) (w : World) (hr : Nl w B v n) (hk : Wd.nw W64 n ≤ 1000000) (hs : s ≤ 1000000) :
    Calls Tryd.prog 58 #[v, .int .i64 s] w fun e w' => ∃ v', e = .returned v' ∧ Nl w' w.heap.size v' (n * 2 ^ s) ∧ Below w.heap.size w w' := by
  rcases Row.cases hr with ⟨rfl, h0⟩ | ⟨g, cap, rfl, _⟩
  · have hn := nl_nil h0
    subst hn
    rw [Nat.zero_mul]
    exact doubled_0 s (s / 64) (s % 64) w hs (by omega) (by omega)
  · exact doubled_n B g _ cap n s (s / 64) (s % 64) w hr hk (Wd.lt_pow_nw W64_2 n) hs (by omega) (by omega)
end Go.Proofs.YtmfnjmgdindlaaaDoor
/-
  The program's naturals: over.
-/
namespace Go.Proofs.YtmfnjmgdindlaaaDoor
open Flo Go.RowKit
theorem Nl.drewN {w : World} {B n : Nat} {v : Value} (h : Nl w B v n) (q : Nat) : Nl (w.drewN q) B v n := h
theorem bitLen_lo {n : Nat} (h : 0 < n) : 2 ^ (bitLen n - 1) ≤ n := by
  unfold bitLen
  rw [if_neg (by omega), Nat.add_sub_cancel]
  exact Nat.log2_self_le (by omega)
theorem bitLen_hi (n : Nat) : n < 2 ^ bitLen n := by
  unfold bitLen
  split
  · omega
  · exact Nat.lt_log2_self
theorem bitLen_pos {n : Nat} (h : 0 < n) : 0 < bitLen n := by
  unfold bitLen; rw [if_neg (by omega)]; omega
theorem bitLen_nw (n : Nat) : bitLen n ≤ 64 * Wd.nw W64 n := by
  apply bitLen_lt
  rw [← W64_pow]
  exact Wd.lt_pow_nw W64_2 n
theorem nw_bit {n k : Nat} (h : n < 2 ^ (64 * k)) : Wd.nw W64 n ≤ k := Wd.nw_le W64_2 (by rw [W64_pow]; exact h)
theorem ov_start {N D steps : Nat} (hD : 0 < D) (hs : bitLen N ≤ bitLen D + steps) : N < D * 2 ^ (steps + 1) := by
  have h1 := bitLen_hi N
  have h2 := bitLen_lo hD
  have h3 := bitLen_pos hD
  have h4 : 2 ^ bitLen N ≤ 2 ^ (bitLen D + steps) := Nat.pow_le_pow_right (by decide) hs
  have h5 : 2 ^ (bitLen D + steps) = 2 ^ (bitLen D - 1) * 2 ^ (steps + 1) := by rw [← Nat.pow_add]; congr 1; omega
  have h6 : 2 ^ (bitLen D - 1) * 2 ^ (steps + 1) ≤ D * 2 ^ (steps + 1) := Nat.mul_le_mul_right _ h2
  omega
theorem ov_nw {D steps k : Nat} (hk : bitLen D + steps ≤ 64 * k) : Wd.nw W64 (D * 2 ^ steps) ≤ k := by
  apply nw_bit
  have h1 := bitLen_hi D
  have h2 : D * 2 ^ steps < 2 ^ bitLen D * 2 ^ steps := Nat.mul_lt_mul_of_pos_right h1 (Nat.pow_pos (by decide))
  rw [← Nat.pow_add] at h2
  exact Nat.lt_of_lt_of_le h2 (Nat.pow_le_pow_right (by decide) hk)
/-- a step of the long division -/
theorem ov_step {N D q R j : Nat} (h : N = q * (D * 2 ^ (j + 1)) + R) (hR : R < D * 2 ^ (j + 1)) :
    (R < D * 2 ^ j → N = 2 * q * (D * 2 ^ j) + R) ∧ (¬ R < D * 2 ^ j → N = (2 * q + 1) * (D * 2 ^ j) + (R - D * 2 ^ j) ∧ R - D * 2 ^ j < D * 2 ^ j) := by
  have e : D * 2 ^ (j + 1) = 2 * (D * 2 ^ j) := by rw [Nat.pow_succ]; ac_rfl
  rw [e] at h hR
  generalize D * 2 ^ j = P at *
  have e2 : q * (2 * P) = 2 * q * P := by ac_rfl
  rw [e2] at h
  refine ⟨fun _ => h, fun h1 => ⟨?_, by omega⟩⟩
  rw [Nat.add_mul, Nat.one_mul]
  omega
theorem ov_small {N D q R j : Nat} (hD : 0 < D) (hq : N / D < 18446744073709551616) (h : N = q * (D * 2 ^ j) + R) : q < 18446744073709551616 := by
  have h1 : q * D ≤ N := by
    have : q * (D * 1) ≤ q * (D * 2 ^ j) := Nat.mul_le_mul_left _ (Nat.mul_le_mul_left _ (Nat.pow_pos (by decide)))
    rw [Nat.mul_one] at this
    omega
  exact Nat.lt_of_le_of_lt ((Nat.le_div_iff_mul_le hD).2 h1) hq
theorem ov_part {D steps i : Nat} (h : i ≤ steps) : D * 2 ^ steps / 2 ^ i = D * 2 ^ (steps - i) := by
  have : D * 2 ^ steps = D * 2 ^ (steps - i) * 2 ^ i := by rw [Nat.mul_assoc, ← Nat.pow_add]; congr 2; omega
  rw [this, Nat.mul_div_cancel _ (Nat.pow_pos (by decide))]
theorem or_one (q : Nat) (h : 2 * q + 1 < 18446744073709551616) : bits .or .u64 ((q : Int) * 2) 1 = ((2 * q + 1 : Nat) : Int) := by
  rw [show (q : Int) * 2 = ((2 * q : Nat) : Int) by omega, show (1 : Int) = ((1 : Nat) : Int) from rfl, bits_or_u64_nat _ _ (by omega) (by omega)]
  congr 1
  have := Nat.two_pow_add_eq_or_of_lt (i := 1) (b := 1) (by omega) q
  rw [Nat.pow_one] at this
  exact this.symm
theorem doubled_z (B n : Nat) (v : Value) (w : World) (hr : Nl w B v n) (hk : Wd.nw W64 n ≤ 1000000) :
    Calls Tryd.prog 58 #[v, .int .i64 0] w fun e w' => ∃ v', e = .returned v' ∧ Nl w' w.heap.size v' (n * 2 ^ 0) ∧ Below w.heap.size w w' := doubled_c B n 0 v w hr hk (by omega)
set_option maxRecDepth 100000 in
set_option maxHeartbeats 400000 in
theorem over_a (B C N D k : Nat) (u v : Value) (w : World) (hu : Nl w B u N) (hv : Nl w C v D) (hD : Hid (0 < D)) (hq : Hid (N / D < 18446744073709551616)) (hk : k ≤ 15000) (hNk : Wd.nw W64 N ≤ k) (hDk : Wd.nw W64 D ≤ k) (hcase : bitLen D < bitLen N) :
    Calls Tryd.prog 59 #[u, v] w fun e w' => ∃ v', e = .returned (.tuple #[.int .u64 ((N / D : Nat) : Int), v']) ∧ Nl w' w.heap.size v' (N % D) ∧ Below w.heap.size w w' := by
  have hlN := bitLen_nw N
  have hlD := bitLen_nw D
  have hlu : Hid (Calls Tryd.prog 57 #[u] w fun e w' => e = .returned (.int .i64 (bitLen N : Nat)) ∧ w = w') := length_c B N u w hu (by omega)
  have hlv : Hid (Calls Tryd.prog 57 #[v] w fun e w' => e = .returned (.int .i64 (bitLen D : Nat)) ∧ w = w') := length_c C D v w hv (by omega)
  have hN1 : Wd.nw W64 N ≤ 1000000 := by omega
  have hD1 : Wd.nw W64 D ≤ 1000000 := by omega
  obtain ⟨steps, hst⟩ : ∃ steps : Nat, steps = bitLen N - bitLen D := ⟨_, rfl⟩
  have hstI : (bitLen N : Int) - (bitLen D : Int) = (steps : Int) := by omega
  have hsl : steps ≤ 960000 := by omega
  have hmx : (0 : Int) < (steps : Int) := by omega

  have hNs : Hid (N < D * 2 ^ (steps + 1)) := ov_start hD.out (by omega)
  have hPk : Wd.nw W64 (D * 2 ^ steps) ≤ 15000 := Nat.le_trans (ov_nw (k := k) (by omega)) hk
  clear hlN hlD hNk hDk hst
  generalize bitLen N = lN at *
  generalize bitLen D = lD at *
  have hwsz : w.heap.size ≤ w.heap.size := Nat.le_refl _
  go_enter Tryd.func59, Tryd.ntmps59
  go_wp2_with fail
  refine hlu.out.mono ?_
  rintro e w' ⟨rfl, rfl⟩
  go_wp2_with fail
  refine hlv.out.mono ?_
  rintro e w' ⟨rfl, rfl⟩
  clear hlu hlv
  go_wp2_with fail
  refine (clone_c B N u w hu hN1).mono ?_
  rintro e w1 ⟨r0, rfl, hr0, hb1⟩
  have hv1 : Nl w1 C v D := Row.under hv hb1
  go_wp2_with fail
  refine (doubled_c C D steps v w1 hv1 hD1 (by omega)).mono ?_
  rintro e w2 ⟨p0, rfl, hp0, hb2⟩
  have hr2 : Hid (Nl w2 w.heap.size r0 N) := Row.under hr0 hb2
  have hap : Hid (Apt r0 p0) := apt_of (fun b h => (Row.lt hr0 b h).2) (fun b h => (Row.lt hp0 b h).1)
  have hp2 : Hid (Nl w2 w.heap.size p0 (D * 2 ^ steps)) := Row.mono hp0 hb1.size
  have hbw : Hid (Below w.heap.size w w2) := hb1.trans (hb2.mono hb1.size)
  clear hr0 hb1 hv1 hp0 hb2
  go_wp2_with fail
  go_loopw [4, 5, 7, 21] (fun sq sr sp si wr => ∃ (i q R : Nat), i ≤ steps + 1 ∧ sq = .int .u64 q ∧ si = .int .i64 i ∧ Hid (N = q * (D * 2 ^ (steps + 1 - i)) + R ∧ R < D * 2 ^ (steps + 1 - i)) ∧ Hid (Nl wr w.heap.size sr R) ∧ Hid (Nl wr w.heap.size sp (D * 2 ^ steps / 2 ^ i)) ∧ Hid (Apt sr sp) ∧ Hid (Below w.heap.size w wr)) (fun _ _ _ si _ => steps + 1 - (intOf si).toNat)
  case atStart => exact ⟨0, 0, N, by omega, rfl, rfl, ⟨by rw [Nat.zero_mul, Nat.zero_add], hNs.out⟩, hr2, by rw [Nat.pow_zero, Nat.div_one]; exact hp2, hap, hbw⟩
  case round =>
    clear hr2 hap hp2 hbw
    obtain ⟨i, q, R, hi, rfl, rfl, hinv, hr, hp, hap, hbl⟩ := hrel
    have hsz := hbl.out.size
    by_cases hlt : i < steps + 1
    · have hlt' : (i : Int) < (steps : Int) + 1 := by omega
      have hj : steps + 1 - i = (steps - i) + 1 := by omega
      have hR1 : Wd.nw W64 R ≤ 1000000 := Nat.le_trans (Wd.nw_mono W64_2 (show R ≤ N by have := hinv.out.1; omega)) hN1
      have hP1 : Wd.nw W64 (D * 2 ^ steps / 2 ^ i) ≤ 1000000 := Nat.le_trans (Wd.nw_mono W64_2 (Nat.div_le_self _ _)) (by omega)
      have hpe : Hid (D * 2 ^ steps / 2 ^ i = D * 2 ^ (steps - i)) := ov_part (by omega)
      have hpn : Hid (D * 2 ^ steps / 2 ^ i / 2 = D * 2 ^ steps / 2 ^ (i + 1)) := (by rw [Nat.pow_succ, Nat.div_div_eq_div_mul] : D * 2 ^ steps / 2 ^ i / 2 = D * 2 ^ steps / 2 ^ (i + 1))
      have hji : Hid (steps - i = steps + 1 - (i + 1)) := (by omega : steps - i = steps + 1 - (i + 1))
      have hbel : Hid (Calls Tryd.prog 77 #[u5, u7] wr fun e w' => e = .returned (.bool (decide (R < D * 2 ^ steps / 2 ^ i))) ∧ ∃ q, w' = wr.drewN q) := below_c _ _ R _ u5 u7 wr hr.out hp.out hR1
      generalize hPP : D * 2 ^ steps / 2 ^ i = P at hp hpe hpn hP1 hbel
      have hRPs : Hid ((R < P → N = 2 * q * P + R) ∧ (¬ R < P → N = (2 * q + 1) * P + (R - P) ∧ R - P < P)) := by
        show _ ∧ _
        rw [hpe.out]
        exact ov_step (hj ▸ hinv.out.1) (hj ▸ hinv.out.2)
      clear hPP hj
      by_cases hRP : R < P
      · have hdec : decide (R < P) = true := decide_eq_true hRP
        rw [hdec] at hbel
        have hNe : Hid (N = 2 * q * P + R) := hRPs.out.1 hRP
        have hqs : 2 * q < 18446744073709551616 := ov_small (j := steps - i) (R := R) hD.out hq.out (by rw [← hpe.out]; exact hNe.out)
        have hRPH : Hid (R < P) := hRP
        clear hdec hRP hRPs hinv
        go_wp2_with fail
        refine hbel.out.mono ?_
        rintro e w' ⟨rfl, qq, rfl⟩
        clear hbel
        go_wp2_with fail
        refine (halve_c w.heap.size P u7 (wr.drewN qq) hp.out hP1).mono ?_
        rintro e w3 ⟨p', rfl, hp', hpo, hg⟩
        have hr3 : Hid (Nl w3 w.heap.size u5 R) := Row.kept (w := wr.drewN qq) hr.out hg (fun b hb e => hap.out b hb e.symm)
        have hap3 : Hid (Apt u5 p') := fun b hb h => hap.out b hb (by rw [← hpo]; exact h)
        have hb3 : Hid (Below w.heap.size w w3) := (below_drewN hbl.out qq).grown hg hsz (fun b hb => (Row.lt hp.out b hb).1)
        clear hg hpo hr hap hbl hp
        go_wp2
        go_roundw
        case rel => exact ⟨i + 1, 2 * q, R, by omega, by go_num, by go_num, ⟨by rw [← hji.out, ← hpe.out]; exact hNe.out, by rw [← hji.out, ← hpe.out]; exact hRPH.out⟩, hr3, by rw [← hpn.out]; exact hp', hap3, hb3⟩
        case measure => simp [intOf]; omega
      · have hdec : decide (R < P) = false := decide_eq_false hRP
        rw [hdec] at hbel
        have hNe : Hid (N = (2 * q + 1) * P + (R - P) ∧ R - P < P) := hRPs.out.2 hRP
        have hqs : 2 * q + 1 < 18446744073709551616 := ov_small (j := steps - i) (R := R - P) hD.out hq.out (by rw [← hpe.out]; exact hNe.out.1)
        have hor := or_one q hqs
        have hRPH : Hid (P ≤ R) := (by omega : P ≤ R)
        clear hdec hRP hRPs hinv
        go_wp2_with fail
        refine hbel.out.mono ?_
        rintro e w' ⟨rfl, qq, rfl⟩
        clear hbel
        go_wp2_with fail
        refine (minus_c w.heap.size w.heap.size R P u5 u7 (wr.drewN qq) hr.out hp.out hR1 hRPH.out hap.out).mono ?_
        rintro e w3 ⟨r', rfl, hr', hro, hg⟩
        have hp3 : Hid (Nl w3 w.heap.size u7 P) := Row.kept (w := wr.drewN qq) hp.out hg (fun b hb e => hap.out b e.symm hb)
        have hap3 : Hid (Apt r' u7) := fun b hb h => hap.out b (by rw [← hro]; exact hb) h
        have hb3 : Hid (Below w.heap.size w w3) := (below_drewN hbl.out qq).grown hg hsz (fun b hb => (Row.lt hr.out b hb).1)
        have hr3 : Hid (Nl w3 w.heap.size r' (R - P)) := hr'
        clear hg hro hr hap hbl hp hr'
        go_wp2_with fail
        refine (halve_c w.heap.size P u7 w3 hp3.out hP1).mono ?_
        rintro e w4 ⟨p', rfl, hp', hpo, hg⟩
        have hsz3 := hb3.out.size
        have hr4 : Hid (Nl w4 w.heap.size r' (R - P)) := Row.kept hr3.out hg (fun b hb e => hap3.out b hb e.symm)
        have hap4 : Hid (Apt r' p') := fun b hb h => hap3.out b hb (by rw [← hpo]; exact h)
        have hb4 : Hid (Below w.heap.size w w4) := hb3.out.grown hg hsz3 (fun b hb => (Row.lt hp3.out b hb).1)
        clear hg hpo hr3 hap3 hb3 hp3
        go_wp2
        go_roundw
        case rel => exact ⟨i + 1, 2 * q + 1, R - P, by omega, by go_num, by go_num, ⟨by rw [← hji.out, ← hpe.out]; exact hNe.out.1, by rw [← hji.out, ← hpe.out]; exact hNe.out.2⟩, hr4, by rw [← hpn.out]; exact hp', hap4, hb4⟩
        case measure => simp [intOf]; omega
    · have hlt' : decide ((i : Int) < (steps : Int) + 1) = false := decide_eq_false (by omega)
      have hi1 : i = steps + 1 := by omega
      have hfin : Hid (N / D = q ∧ N % D = R) := by
        obtain ⟨e1, e2⟩ := hinv.out
        rw [hi1, Nat.sub_self, Nat.pow_zero, Nat.mul_one] at e1 e2
        exact (Nat.div_mod_unique hD.out).2 ⟨by rw [e1, Nat.mul_comm q, Nat.add_comm], e2⟩
      clear hi1 hinv
      go_wp2
      go_ret2
      exact ⟨_, by rw [hfin.out.1]; rfl, by rw [hfin.out.2]; exact hr.out, hbl.out⟩
set_option maxRecDepth 100000 in
set_option maxHeartbeats 400000 in
theorem over_b (B C N D k : Nat) (u v : Value) (w : World) (hu : Nl w B u N) (hv : Nl w C v D) (hD : Hid (0 < D)) (hq : Hid (N / D < 18446744073709551616)) (hk : k ≤ 15000) (hNk : Wd.nw W64 N ≤ k) (hDk : Wd.nw W64 D ≤ k) (hcase : bitLen N ≤ bitLen D) :
    Calls Tryd.prog 59 #[u, v] w fun e w' => ∃ v', e = .returned (.tuple #[.int .u64 ((N / D : Nat) : Int), v']) ∧ Nl w' w.heap.size v' (N % D) ∧ Below w.heap.size w w' := by
  have hlN := bitLen_nw N
  have hlD := bitLen_nw D
  have hlu : Hid (Calls Tryd.prog 57 #[u] w fun e w' => e = .returned (.int .i64 (bitLen N : Nat)) ∧ w = w') := length_c B N u w hu (by omega)
  have hlv : Hid (Calls Tryd.prog 57 #[v] w fun e w' => e = .returned (.int .i64 (bitLen D : Nat)) ∧ w = w') := length_c C D v w hv (by omega)
  have hN1 : Wd.nw W64 N ≤ 1000000 := by omega
  have hD1 : Wd.nw W64 D ≤ 1000000 := by omega
  have hmx : ¬ bitLen D < bitLen N := by omega
  have hB1 : bitLen N ≤ 960000 := by omega
  have hB2 : bitLen D ≤ 960000 := by omega

  have hNs : Hid (N < D * 2 ^ (0 + 1)) := ov_start hD.out (by omega)
  have hPk : Wd.nw W64 (D * 2 ^ 0) ≤ 15000 := Nat.le_trans (ov_nw (k := k) (by omega)) hk
  clear hlN hlD hNk hDk
  generalize bitLen N = lN at *
  generalize bitLen D = lD at *
  have hwsz : w.heap.size ≤ w.heap.size := Nat.le_refl _
  go_enter Tryd.func59, Tryd.ntmps59
  go_wp2_with fail
  refine hlu.out.mono ?_
  rintro e w' ⟨rfl, rfl⟩
  go_wp2_with fail
  refine hlv.out.mono ?_
  rintro e w' ⟨rfl, rfl⟩
  clear hlu hlv
  go_wp2_with fail
  refine (clone_c B N u w hu hN1).mono ?_
  rintro e w1 ⟨r0, rfl, hr0, hb1⟩
  have hv1 : Nl w1 C v D := Row.under hv hb1
  go_wp2_with fail
  refine (doubled_z C D v w1 hv1 hD1).mono ?_
  rintro e w2 ⟨p0, rfl, hp0, hb2⟩
  have hr2 : Hid (Nl w2 w.heap.size r0 N) := Row.under hr0 hb2
  have hap : Hid (Apt r0 p0) := apt_of (fun b h => (Row.lt hr0 b h).2) (fun b h => (Row.lt hp0 b h).1)
  have hp2 : Hid (Nl w2 w.heap.size p0 (D * 2 ^ 0)) := Row.mono hp0 hb1.size
  have hbw : Hid (Below w.heap.size w w2) := hb1.trans (hb2.mono hb1.size)
  clear hr0 hb1 hv1 hp0 hb2
  go_wp2_with fail
  go_loopw [4, 5, 7, 21] (fun sq sr sp si wr => ∃ (i q R : Nat), i ≤ 0 + 1 ∧ sq = .int .u64 q ∧ si = .int .i64 i ∧ Hid (N = q * (D * 2 ^ (0 + 1 - i)) + R ∧ R < D * 2 ^ (0 + 1 - i)) ∧ Hid (Nl wr w.heap.size sr R) ∧ Hid (Nl wr w.heap.size sp (D * 2 ^ 0 / 2 ^ i)) ∧ Hid (Apt sr sp) ∧ Hid (Below w.heap.size w wr)) (fun _ _ _ si _ => 0 + 1 - (intOf si).toNat)
  case atStart => exact ⟨0, 0, N, by omega, rfl, rfl, ⟨by rw [Nat.zero_mul, Nat.zero_add], hNs.out⟩, hr2, by rw [Nat.pow_zero, Nat.div_one]; exact hp2, hap, hbw⟩
  case round =>
    clear hr2 hap hp2 hbw
    obtain ⟨i, q, R, hi, rfl, rfl, hinv, hr, hp, hap, hbl⟩ := hrel
    have hsz := hbl.out.size
    by_cases hlt : i < 0 + 1
    · have hlt' : (i : Int) < 1 := by omega
      have hj : 0 + 1 - i = (0 - i) + 1 := by omega
      have hR1 : Wd.nw W64 R ≤ 1000000 := Nat.le_trans (Wd.nw_mono W64_2 (show R ≤ N by have := hinv.out.1; omega)) hN1
      have hP1 : Wd.nw W64 (D * 2 ^ 0 / 2 ^ i) ≤ 1000000 := Nat.le_trans (Wd.nw_mono W64_2 (Nat.div_le_self _ _)) (by omega)
      have hpe : Hid (D * 2 ^ 0 / 2 ^ i = D * 2 ^ (0 - i)) := ov_part (by omega)
      have hpn : Hid (D * 2 ^ 0 / 2 ^ i / 2 = D * 2 ^ 0 / 2 ^ (i + 1)) := (by rw [Nat.pow_succ, Nat.div_div_eq_div_mul] : D * 2 ^ 0 / 2 ^ i / 2 = D * 2 ^ 0 / 2 ^ (i + 1))
      have hji : Hid (0 - i = 0 + 1 - (i + 1)) := (by omega : 0 - i = 0 + 1 - (i + 1))
      have hbel : Hid (Calls Tryd.prog 77 #[u5, u7] wr fun e w' => e = .returned (.bool (decide (R < D * 2 ^ 0 / 2 ^ i))) ∧ ∃ q, w' = wr.drewN q) := below_c _ _ R _ u5 u7 wr hr.out hp.out hR1
      generalize hPP : D * 2 ^ 0 / 2 ^ i = P at hp hpe hpn hP1 hbel
      have hRPs : Hid ((R < P → N = 2 * q * P + R) ∧ (¬ R < P → N = (2 * q + 1) * P + (R - P) ∧ R - P < P)) := by
        show _ ∧ _
        rw [hpe.out]
        exact ov_step (hj ▸ hinv.out.1) (hj ▸ hinv.out.2)
      clear hPP hj
      by_cases hRP : R < P
      · have hdec : decide (R < P) = true := decide_eq_true hRP
        rw [hdec] at hbel
        have hNe : Hid (N = 2 * q * P + R) := hRPs.out.1 hRP
        have hqs : 2 * q < 18446744073709551616 := ov_small (j := 0 - i) (R := R) hD.out hq.out (by rw [← hpe.out]; exact hNe.out)
        have hRPH : Hid (R < P) := hRP
        clear hdec hRP hRPs hinv
        go_wp2_with fail
        refine hbel.out.mono ?_
        rintro e w' ⟨rfl, qq, rfl⟩
        clear hbel
        go_wp2_with fail
        refine (halve_c w.heap.size P u7 (wr.drewN qq) hp.out hP1).mono ?_
        rintro e w3 ⟨p', rfl, hp', hpo, hg⟩
        have hr3 : Hid (Nl w3 w.heap.size u5 R) := Row.kept (w := wr.drewN qq) hr.out hg (fun b hb e => hap.out b hb e.symm)
        have hap3 : Hid (Apt u5 p') := fun b hb h => hap.out b hb (by rw [← hpo]; exact h)
        have hb3 : Hid (Below w.heap.size w w3) := (below_drewN hbl.out qq).grown hg hsz (fun b hb => (Row.lt hp.out b hb).1)
        clear hg hpo hr hap hbl hp
        go_wp2
        go_roundw
        case rel => exact ⟨i + 1, 2 * q, R, by omega, by go_num, by go_num, ⟨by rw [← hji.out, ← hpe.out]; exact hNe.out, by rw [← hji.out, ← hpe.out]; exact hRPH.out⟩, hr3, by rw [← hpn.out]; exact hp', hap3, hb3⟩
        case measure => simp [intOf]; omega
      · have hdec : decide (R < P) = false := decide_eq_false hRP
        rw [hdec] at hbel
        have hNe : Hid (N = (2 * q + 1) * P + (R - P) ∧ R - P < P) := hRPs.out.2 hRP
        have hqs : 2 * q + 1 < 18446744073709551616 := ov_small (j := 0 - i) (R := R - P) hD.out hq.out (by rw [← hpe.out]; exact hNe.out.1)
        have hor := or_one q hqs
        have hRPH : Hid (P ≤ R) := (by omega : P ≤ R)
        clear hdec hRP hRPs hinv
        go_wp2_with fail
        refine hbel.out.mono ?_
        rintro e w' ⟨rfl, qq, rfl⟩
        clear hbel
        go_wp2_with fail
        refine (minus_c w.heap.size w.heap.size R P u5 u7 (wr.drewN qq) hr.out hp.out hR1 hRPH.out hap.out).mono ?_
        rintro e w3 ⟨r', rfl, hr', hro, hg⟩
        have hp3 : Hid (Nl w3 w.heap.size u7 P) := Row.kept (w := wr.drewN qq) hp.out hg (fun b hb e => hap.out b e.symm hb)
        have hap3 : Hid (Apt r' u7) := fun b hb h => hap.out b (by rw [← hro]; exact hb) h
        have hb3 : Hid (Below w.heap.size w w3) := (below_drewN hbl.out qq).grown hg hsz (fun b hb => (Row.lt hr.out b hb).1)
        have hr3 : Hid (Nl w3 w.heap.size r' (R - P)) := hr'
        clear hg hro hr hap hbl hp hr'
        go_wp2_with fail
        refine (halve_c w.heap.size P u7 w3 hp3.out hP1).mono ?_
        rintro e w4 ⟨p', rfl, hp', hpo, hg⟩
        have hsz3 := hb3.out.size
        have hr4 : Hid (Nl w4 w.heap.size r' (R - P)) := Row.kept hr3.out hg (fun b hb e => hap3.out b hb e.symm)
        have hap4 : Hid (Apt r' p') := fun b hb h => hap3.out b hb (by rw [← hpo]; exact h)
        have hb4 : Hid (Below w.heap.size w w4) := hb3.out.grown hg hsz3 (fun b hb => (Row.lt hp3.out b hb).1)
        clear hg hpo hr3 hap3 hb3 hp3
        go_wp2
        go_roundw
        case rel => exact ⟨i + 1, 2 * q + 1, R - P, by omega, by go_num, by go_num, ⟨by rw [← hji.out, ← hpe.out]; exact hNe.out.1, by rw [← hji.out, ← hpe.out]; exact hNe.out.2⟩, hr4, by rw [← hpn.out]; exact hp', hap4, hb4⟩
        case measure => simp [intOf]; omega
    · have hlt' : decide ((i : Int) < 1) = false := decide_eq_false (by omega)
      have hi1 : i = 0 + 1 := by omega
      have hfin : Hid (N / D = q ∧ N % D = R) := by
        obtain ⟨e1, e2⟩ := hinv.out
        rw [hi1, Nat.sub_self, Nat.pow_zero, Nat.mul_one] at e1 e2
        exact (Nat.div_mod_unique hD.out).2 ⟨by rw [e1, Nat.mul_comm q, Nat.add_comm], e2⟩
      clear hi1 hinv
      go_wp2
      go_ret2
      exact ⟨_, by rw [hfin.out.1]; rfl, by rw [hfin.out.2]; exact hr.out, hbl.out⟩
theorem over_c (B C N D k : Nat) (u v : Value) (w : World) (hu : Nl w B u N) (hv : Nl w C v D) (hD : 0 < D) (hq : N / D < 18446744073709551616) (hk : k ≤ 15000) (hNk : Wd.nw W64 N ≤ k) (hDk : Wd.nw W64 D ≤ k) :
    Calls Tryd.prog 59 #[u, v] w fun e w' => ∃ v', e = .returned (.tuple #[.int .u64 ((N / D : Nat) : Int), v']) ∧ Nl w' w.heap.size v' (N % D) ∧ Below w.heap.size w w' := by
  by_cases h : bitLen D < bitLen N
  · exact over_a B C N D k u v w hu hv hD hq hk hNk hDk h
  · exact over_b B C N D k u v w hu hv hD hq hk hNk hDk (by omega)
end Go.Proofs.YtmfnjmgdindlaaaDoor
