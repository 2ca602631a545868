/-
  The program's naturals: doubled.
-/
import Derived.Test.YtoojjefndkdnpaaGreatDoorNof
import Derived.Laws.MakeOwn
namespace Go.Proofs.YtoojjefndkdnpaaGreatDoor
open Flo Go.RowKit
theorem make_row (w : World) (l c : Nat) (hl : l ≤ c) (hc : c ≤ 100000000) :
    ∃ w', (Instr.makeSlice 75 (.int .i64 (l : Int)) (.int .i64 (c : Int))).run Tryz.prog w = .ok (.slice (some ⟨w.heap.size, 0, none⟩) l c) w' ∧
      Hid (Row 22 .u64 w' w.heap.size (.slice (some ⟨w.heap.size, 0, none⟩) l c) l (fun _ => 0)) ∧ Hid (Below w.heap.size w w') := by
  obtain ⟨i0, hi0, hz0, hz1, hz2⟩ := info_parts infoU64
  have h := run_make (P := Tryz.prog) w 75 22 i0 (.int .u64 0) Tryz.underlying75 hi0 hz0 .i64 .i64 l c (by omega) (by omega) (by rw [hz2]; omega) (by omega)
  simp only [Int.toNat_natCast, hz1, Nat.mul_one] at h
  refine ⟨_, h, ?_, (Below.refl _ _).alloc (Nat.le_refl _) _⟩
  refine ⟨by rw [Cl_len, Nat.mul_one], .inr ⟨_, c, _, rfl, Nat.le_refl _, heap_alloc_new w _, hl, by unfold maxLen; omega, by rw [size_madeCells, Nat.mul_one], ?_⟩⟩
  have e : (Value.int .u64 0).cells = #[.int .u64 0] := rfl
  rw [e, toList_madeCells_one, Nat.mul_one]
  apply List.ext_getElem?
  intro j
  by_cases hj : j < l
  · rw [Cl_get .u64 _ hj]
    rw [List.getElem?_take, if_pos hj, List.getElem?_replicate, if_pos (by omega)]; rfl
  · rw [List.getElem?_eq_none (by simp; omega), List.getElem?_eq_none (by rw [Cl_len]; omega)]
theorem W64_e : W64 = 2 ^ 64 := by decide
theorem db_word (n ws rs i : Nat) (hrs : rs < 64) : Wd.wd W64 (n * 2 ^ (64 * ws + rs)) (ws + i) = Wd.wd W64 n i * 2 ^ rs % W64 + (if i = 0 then 0 else Wd.wd W64 n (i - 1) / 2 ^ (64 - rs)) := by
  rw [show n * 2 ^ (64 * ws + rs) = n * 2 ^ rs * W64 ^ ws by rw [W64_pow, Nat.pow_add, Nat.mul_comm (2 ^ (64 * ws)), Nat.mul_assoc], Wd.wd_shift W64_0]
  have h := Wd.shl_word (e := 64) (s := rs) (n := n) (i := i) (by omega)
  rw [← W64_e] at h
  exact h
theorem db_low (n ws rs i : Nat) (h : i < ws) : Wd.wd W64 (n * 2 ^ (64 * ws + rs)) i = 0 := by
  rw [show n * 2 ^ (64 * ws + rs) = n * 2 ^ rs * W64 ^ ws by rw [W64_pow, Nat.pow_add, Nat.mul_comm (2 ^ (64 * ws)), Nat.mul_assoc]]
  exact Wd.wd_shift_low W64_0 _ _ _ h
theorem db_lt {n k ws rs : Nat} (hn : n < W64 ^ k) (hrs : rs < 64) : n * 2 ^ (64 * ws + rs) < W64 ^ (ws + k + 1) := by
  have h1 : 2 ^ (64 * ws + rs) < 2 ^ (64 * (ws + 1)) := Nat.pow_lt_pow_right (by decide) (by omega)
  rw [← W64_pow] at h1
  have e : W64 ^ (ws + k + 1) = W64 ^ k * W64 ^ (ws + 1) := by rw [← Nat.pow_add]; congr 1; omega
  rw [e]
  exact Nat.mul_lt_mul'' hn h1
theorem or_low (y x rs : Nat) (hx : x < 2 ^ rs) (hrs : rs < 64) : bits .or .u64 (IntKind.u64.wrap ((y : Int) * 2 ^ rs)) (x : Int) = ((y * 2 ^ rs % W64 + x : Nat) : Int) := by
  have e1 : (y : Int) * 2 ^ rs = ((y * 2 ^ rs : Nat) : Int) := by simp
  have hp : 2 ^ rs ≤ 2 ^ 63 := Nat.pow_le_pow_right (by decide) (by omega)
  have e2 : y * 2 ^ rs % W64 = 2 ^ rs * (y % 2 ^ (64 - rs)) := by
    rw [W64_e, show 2 ^ 64 = 2 ^ rs * 2 ^ (64 - rs) by rw [← Nat.pow_add]; congr 1; omega, Nat.mul_comm y, Nat.mul_mod_mul_left]
  have h3 : y * 2 ^ rs % W64 < 18446744073709551616 := Nat.mod_lt _ W64_0
  rw [e1, wrapMod, show y * 2 ^ rs % 18446744073709551616 = y * 2 ^ rs % W64 from rfl, bits_or_u64_nat _ _ h3 (by omega)]
  congr 1
  show y * 2 ^ rs % W64 ||| x = _
  rw [e2, ← Nat.two_pow_add_eq_or_of_lt hx]
theorem shr_lt {y rs : Nat} (hy : y < 18446744073709551616) (hrs : rs < 64) : y / 2 ^ (64 - rs) < 2 ^ rs := by
  rw [Nat.div_lt_iff_lt_mul (Nat.pow_pos (by decide)), ← Nat.pow_add, show rs + (64 - rs) = 64 by omega]
  exact hy
set_option maxRecDepth 100000 in
set_option maxHeartbeats 2000000 in
theorem doubled_n (B g k cap n s ws rs : Nat) (w : World) (hr : Row 22 .u64 w B (.slice (some ⟨g, 0, none⟩) k cap) k (Wd.wd W64 n)) (hk : k ≤ 1000000) (hn : Hid (n < W64 ^ k)) (hs : s ≤ 1000000) (hws : (s : Int) / 64 = (ws : Int)) (hrs : (s : Int) % 64 = (rs : Int)) :
    Calls Tryz.prog 76 #[.slice (some ⟨g, 0, none⟩) k cap, .int .i64 s] w fun e w' => ∃ v', e = .returned v' ∧ Nl w' w.heap.size v' (n * 2 ^ s) ∧ Below w.heap.size w w' := by
  obtain ⟨i0, hi0, hz0, hz1, hz2⟩ := info_parts infoU64
  have hlt := hr.lt g rfl
  obtain ⟨c, hcc⟩ : ∃ c : Nat, c = ws + k + 1 := ⟨_, rfl⟩
  have hcI : Hid ((ws : Int) + (k : Int) + 1 = (c : Int)) := (by omega : (ws : Int) + (k : Int) + 1 = (c : Int))
  obtain ⟨w1, hmk, hrow1, hbl1⟩ := make_row w ws c (by omega) (by omega)
  have hmkH : Hid _ := hmk
  have hcH : Hid (c = ws + k + 1) := hcc
  have hsH : Hid (s = 64 * ws + rs) := (by omega : s = 64 * ws + rs)
  have hrs64 : rs < 64 := by omega
  have hwsl : ws ≤ 1000000 := by omega
  obtain ⟨N, hN⟩ : ∃ N : Nat, Hid (N = n * 2 ^ (64 * ws + rs)) := ⟨_, rfl⟩
  clear hcc hmk
  go_enter Tryz.func76, Tryz.ntmps76
  go_wp2
  rw [hcI.out, hmkH.out]
  clear hmkH hcI
  have hrH : Hid (∀ wr, Below w.heap.size w wr → ∀ i, i < k → wr.cell? ⟨g, i, none⟩ = some (.int .u64 (Wd.wd W64 n i : Nat))) := fun wr hb i hi => (hb.cell (p := ⟨g, i, none⟩) hlt.2).trans (hr.cell i hi)
  go_wp2
  go_loopw [7, 8, 25] (fun so sc si wr => ∃ (i x : Nat), i ≤ k ∧ si = .int .i64 i ∧ sc = .int .u64 x ∧ Hid (x = if i = 0 then 0 else Wd.wd W64 n (i - 1) / 2 ^ (64 - rs)) ∧ Hid (x < 2 ^ rs) ∧ Hid (Row 22 .u64 wr w.heap.size so (ws + i) (Wd.wd W64 N)) ∧ Hid (Below w.heap.size w wr)) (fun _ _ si _ => k - (intOf si).toNat)
  case atStart => exact ⟨0, 0, Nat.zero_le _, rfl, rfl, rfl, Nat.pow_pos (by decide), hrow1.out.congr (fun j hj => by rw [hN.out, db_low n ws rs j hj]), hbl1.out⟩
  case round =>
    obtain ⟨i, x, hi, rfl, rfl, hxe, hxl, hrow, hbl⟩ := hrel
    have hsz := hbl.out.size
    by_cases hlt : i < k
    · have hlt' : (i : Int) < (k : Int) := by omega
      have hcell := hrH.out wr hbl.out i hlt
      have hyl := wd64 n i
      have hz : Hid (Wd.wd W64 N (ws + i) = Wd.wd W64 n i * 2 ^ rs % W64 + x) := by
        show _ = _
        rw [hN.out, db_word n ws rs i hrs64, ← hxe.out]
      have hx' : Hid (Wd.wd W64 n i / 2 ^ (64 - rs) < 2 ^ rs) := shr_lt hyl hrs64
      have hxe' : Hid (Wd.wd W64 n i / 2 ^ (64 - rs) = if i + 1 = 0 then 0 else Wd.wd W64 n (i + 1 - 1) / 2 ^ (64 - rs)) := by
        show _ = _
        rw [if_neg (by omega), Nat.add_sub_cancel]
      have hor := or_low (Wd.wd W64 n i) x rs hxl.out hrs64
      rw [← hz.out] at hor
      generalize Wd.wd W64 n i = y at hcell hyl hz hx' hxe' hor
      generalize hZ : Wd.wd W64 N (ws + i) = z at hor
      have hZH : Hid (Wd.wd W64 N (ws + i) = z) := hZ
      clear hZ hz
      go_wp2_with (at_builtin; refine wpList_append_own _ rfl _ _ 75 rfl w.heap.size 22 i0 (.int .u64 0) 1 8 Tryz.underlying75 hi0 hz0 hz1 hz2 rfl (by decide) _ _ _ rfl (hrow.out.allocs _) ⟨wr.heap.size, 0, none⟩ 1 1 [.int .u64 (z : Int)] rfl rfl ?c1 ?c2 ?c3 ?c4 ?c5 ?_)
      case c1 =>
        intro j u hj
        match j, hj with
        | 0, hj => simp at hj; subst hj; simp [Addr.add]
      case c2 => intro u hu; simp at hu; subst hu; rfl
      case c3 => unfold maxLen; omega
      case c4 => omega
      case c5 => simp; omega
      · intro v' w2 hown' hgrow hnil
        have hr3 : Hid (Row 22 .u64 w2 w.heap.size v' (ws + (i + 1)) (Wd.wd W64 N)) := by
          show World.ownsRow _ _ _ _ _ _ _
          rw [← Nat.add_assoc, Cl_succ, hZH.out]; exact hown'
        have hin : Hid (Below w.heap.size w w2) := (hbl.out.alloc (by omega) _).grown hgrow (by simp; omega) (fun k' hk' => (hrow.out.lt k' hk').1)
        clear hown' hgrow hnil hrow hbl hcell hor
        go_wp2
        exact ⟨⟨i + 1, y / 2 ^ (64 - rs), by omega, by go_num, by simp, hxe', hx', hr3, hin⟩, by simp [intOf]; omega⟩
    · have hlt' : decide ((i : Int) < (k : Int)) = false := decide_eq_false (by omega)
      have hik : i = k := by omega
      subst hik
      have hZH : Hid (Wd.wd W64 N (ws + i) = x) := by
        show _ = _
        rw [hN.out, db_word n ws rs i hrs64, Wd.wd_big hn.out, Nat.zero_mul, Nat.zero_mod, Nat.zero_add, ← hxe.out]
      have hNl : Hid (N < W64 ^ (ws + i + 1)) := by show _ < _; rw [hN.out]; exact db_lt hn.out hrs64
      go_wp2_with (at_builtin; refine wpList_append_own _ rfl _ _ 75 rfl w.heap.size 22 i0 (.int .u64 0) 1 8 Tryz.underlying75 hi0 hz0 hz1 hz2 rfl (by decide) _ _ _ rfl (hrow.out.allocs _) ⟨wr.heap.size, 0, none⟩ 1 1 [.int .u64 (x : Int)] rfl rfl ?c1 ?c2 ?c3 ?c4 ?c5 ?_)
      case c1 =>
        intro j u hj
        match j, hj with
        | 0, hj => simp at hj; subst hj; simp [Addr.add]
      case c2 => intro u hu; simp at hu; subst hu; rfl
      case c3 => unfold maxLen; omega
      case c4 => omega
      case c5 => simp; omega
      · intro v' w2 hown' hgrow hnil
        have hr3 : Hid (Row 22 .u64 w2 w.heap.size v' (ws + i + 1) (Wd.wd W64 N)) := by
          show World.ownsRow _ _ _ _ _ _ _
          rw [Cl_succ, hZH.out]; exact hown'
        have hin : Hid (Below w.heap.size w w2) := (hbl.out.alloc (by omega) _).grown hgrow (by simp; omega) (fun k' hk' => (hrow.out.lt k' hk').1)
        clear hown' hgrow hnil hrow hbl
        go_wp2_with (go_at_call 74; refine (trimmed_c w.heap.size (ws + i + 1) N _ _ hr3.out hNl.out).mono ?_; rintro e w' ⟨v'', rfl, hv, hvo, rfl⟩)
        go_ret
        refine ⟨_, rfl, ?_, hin.out⟩
        rw [hsH.out, ← hN.out]
        exact hv
set_option maxRecDepth 100000 in
set_option maxHeartbeats 2000000 in
theorem doubled_0 (s ws rs : Nat) (w : World) (hs : s ≤ 1000000) (hws : (s : Int) / 64 = (ws : Int)) (hrs : (s : Int) % 64 = (rs : Int)) :
    Calls Tryz.prog 76 #[.slice none 0 0, .int .i64 s] w fun e w' => ∃ v', e = .returned v' ∧ Nl w' w.heap.size v' 0 ∧ Below w.heap.size w w' := by
  obtain ⟨i0, hi0, hz0, hz1, hz2⟩ := info_parts infoU64
  obtain ⟨c, hcc⟩ : ∃ c : Nat, c = ws + 1 := ⟨_, rfl⟩
  have hcI : Hid ((ws : Int) + 1 = (c : Int)) := (by omega : (ws : Int) + 1 = (c : Int))
  obtain ⟨w1, hmk, hrow1, hbl1⟩ := make_row w ws c (by omega) (by omega)
  have hmkH : Hid _ := hmk
  have hwsl : ws ≤ 1000000 := by omega
  have hsz := hbl1.out.size
  clear hcc hmk
  go_enter Tryz.func76, Tryz.ntmps76
  go_wp2
  rw [hcI.out, hmkH.out]
  clear hmkH hcI
  go_wp2
  refine wp_loop_rounds 1 ?_
  rw [rounds_succ]
  go_wp2_with (at_builtin; refine wpList_append_own _ rfl _ _ 75 rfl w.heap.size 22 i0 (.int .u64 0) 1 8 Tryz.underlying75 hi0 hz0 hz1 hz2 rfl (by decide) _ _ _ rfl (hrow1.out.allocs _) ⟨w1.heap.size, 0, none⟩ 1 1 [.int .u64 0] rfl rfl ?c1 ?c2 ?c3 ?c4 ?c5 ?_)
  case c1 =>
    intro j u hj
    match j, hj with
    | 0, hj => simp at hj; subst hj; simp [Addr.add]
  case c2 => intro u hu; simp at hu; subst hu; rfl
  case c3 => unfold maxLen; omega
  case c4 => omega
  case c5 => simp; omega
  · intro v' w2 hown' hgrow hnil
    have hr3 : Hid (Row 22 .u64 w2 w.heap.size v' (ws + 1) (Wd.wd W64 0)) := by
      have h : Row 22 .u64 w2 w.heap.size v' (ws + 1) (fun _ => 0) := by
        show World.ownsRow _ _ _ _ _ _ _
        rw [Cl_succ]; exact hown'
      exact h.congr fun j hj => by unfold Wd.wd; simp
    have hin : Hid (Below w.heap.size w w2) := (hbl1.out.alloc (by omega) _).grown hgrow (by simp; omega) (fun k' hk' => (hrow1.out.lt k' hk').1)
    clear hown' hgrow hnil
    go_wp2_with (go_at_call 74; refine (trimmed_c w.heap.size (ws + 1) 0 _ _ hr3.out (Nat.pow_pos W64_0)).mono ?_; rintro e w' ⟨v'', rfl, hv, hvo, rfl⟩)
    go_ret
    exact ⟨_, rfl, hv, hin.out⟩
theorem doubled_c (B n s : Nat) (v : Value) (w : World) (hr : Nl w B v n) (hk : Wd.nw W64 n ≤ 1000000) (hs : s ≤ 1000000) :
    Calls Tryz.prog 76 #[v, .int .i64 s] w fun e w' => ∃ v', e = .returned v' ∧ Nl w' w.heap.size v' (n * 2 ^ s) ∧ Below w.heap.size w w' := by
  rcases Row.cases hr with ⟨rfl, h0⟩ | ⟨g, cap, rfl, _⟩
  · have hn := nl_nil h0
    subst hn
    rw [Nat.zero_mul]
    exact doubled_0 s (s / 64) (s % 64) w hs (by omega) (by omega)
  · exact doubled_n B g _ cap n s (s / 64) (s % 64) w hr hk (Wd.lt_pow_nw W64_2 n) hs (by omega) (by omega)
end Go.Proofs.YtoojjefndkdnpaaGreatDoor
