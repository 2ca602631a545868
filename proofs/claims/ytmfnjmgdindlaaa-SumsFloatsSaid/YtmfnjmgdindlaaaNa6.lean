/-
  timbrenat: top.
-/
import Derived.Test.YtmfnjmgdindlaaaNa5
namespace Go.Proofs.Ytmfnjmgdindlaaa
open Flo Go.RowKit
theorem top_word (n ws rs j : Nat) (hrs : rs < 32) : Wd.wd W32 (n / 2 ^ (32 * ws + rs)) j = (Wd.wd W32 n (ws + j) + 4294967296 * Wd.wd W32 n (ws + j + 1)) / 2 ^ rs % 4294967296 := by
  have e1 : ∀ M : Nat, M % W32 + 4294967296 * (M / W32 % W32) = M % (W32 * W32) := fun M => (Nat.mod_mul (x := M) (a := W32) (b := W32)).symm
  have e2 : Wd.wd W32 n (ws + j) + 4294967296 * Wd.wd W32 n (ws + j + 1) = n / W32 ^ (ws + j) % (W32 * W32) := by
    rw [← e1]
    unfold Wd.wd
    rw [Wd.div_step]
  rw [e2]
  have e3 : W32 * W32 = 2 ^ rs * (2 ^ (32 - rs) * W32) := by
    rw [← Nat.mul_assoc, ← Nat.pow_add, show rs + (32 - rs) = 32 by omega]; rfl
  rw [e3, Nat.mod_mul_right_div_self]
  show _ = _ % W32
  rw [Nat.mod_mod_of_dvd _ (Nat.dvd_mul_left _ _)]
  unfold Wd.wd
  congr 1
  rw [Nat.div_div_eq_div_mul, Nat.div_div_eq_div_mul, W32_pow, W32_pow, ← Nat.pow_add, ← Nat.pow_add]
  congr 2
  omega
theorem or_sh (x y : Nat) (hx : x < 4294967296) (hy : y < 4294967296) : bits .or .u64 (x : Int) ((y * 4294967296 : Nat) : Int) = ((x + 4294967296 * y : Nat) : Int) := by
  have h := bits_or_u64_nat x (y * 4294967296) (by omega) (by omega)
  rw [h, Nat.or_comm, Nat.mul_comm y, show (4294967296 : Nat) = 2 ^ 32 from rfl, ← Nat.two_pow_add_eq_or_of_lt (show x < 2 ^ 32 by omega), Nat.add_comm]
set_option maxRecDepth 100000 in
set_option maxHeartbeats 1000000 in
theorem ntop_n (B k n t ws rs : Nat) (ao : Option Addr) (cap : Nat) (w : World) (hr : Hid (Row 64 .u32 w B (.slice ao k cap) k (Wd.wd W32 n))) (hk : k ≤ 100000) (hn : Hid (n < W32 ^ k)) (ht : t ≤ 1000000) (hws : (t : Int) / 32 = (ws : Int)) (hrs : (t : Int) % 32 = (rs : Int)) :
    Calls Try.prog 61 #[.slice ao k cap, .int .i64 t] w fun e w' => ∃ v', e = .returned v' ∧ Nm w' w.heap.size v' (n / 2 ^ t) ∧ Below w.heap.size w w' := by
  have htI : Hid (t = 32 * ws + rs) := (by omega : t = 32 * ws + rs)
  have hrs32 : rs < 32 := by omega
  have hwsl : ws ≤ 40000 := by omega
  have hmade : Hid (Row 64 .u32 (w.alloc (.cells #[] 64)) w.heap.size (.slice (some ⟨w.heap.size, 0, none⟩) 0 0) 0 (Wd.wd W32 (n / 2 ^ t))) := World.ownsRow_made w #[] 0 (Nat.le_refl _) (by decide) rfl
  go_enter Try.func61, Try.ntmps61
  go_wp2
  clear hws
  go_loopw [5, 6] (fun so si wr => ∃ j I : Nat, (j = 0 ∨ I ≤ k) ∧ si = .int .i64 I ∧ Hid (I = ws + j) ∧ Hid (Row 64 .u32 wr w.heap.size so j (Wd.wd W32 (n / 2 ^ t))) ∧ Hid (Below w.heap.size w wr)) (fun _ si _ => k - (intOf si).toNat)
  case atStart => exact ⟨0, ws, .inl rfl, rfl, rfl, hmade, (Below.refl _ _).alloc (Nat.le_refl _) _⟩
  case round =>
    clear hmade
    obtain ⟨j, I, hj, rfl, hI, hrow, hb⟩ := hrel
    have hsz := hb.out.size
    by_cases hlt : I < k
    · have hlt' : (I : Int) < (k : Int) := by omega
      have hjl : j ≤ 100000 := by have := hI.out; omega
      obtain ⟨g, rfl, hcells⟩ := Row.rd hr.out (by omega)
      have hcell := (hr.out.under hb.out).cell I hlt
      obtain ⟨J, hJ⟩ : ∃ J, Hid (J = I + 1) := ⟨_, rfl⟩
      have hJI : (I : Int) + 1 = (J : Int) := by have := hJ.out; omega
      have hx := wd32 n I
      have hy := wd32 n J
      have hw0 : Hid (Wd.wd W32 (n / 2 ^ t) j = (Wd.wd W32 n I + 4294967296 * Wd.wd W32 n J) / 2 ^ rs % 4294967296) := by
        show _ = _
        rw [htI.out, top_word n ws rs j hrs32, hJ.out, hI.out]
      have hyc : Hid (J < k → wr.cell? ⟨g, J, none⟩ = some (.int .u32 (Wd.wd W32 n J : Nat))) := fun h => (hr.out.under hb.out).cell J h
      have hy0 : Hid (k ≤ J → Wd.wd W32 n J = 0) := fun h => Wd.wd_big' W32_0 hn.out h
      generalize Wd.wd W32 n I = x at hcell hx hw0
      generalize Wd.wd W32 n J = y at hy hw0 hyc hy0
      clear hcells
      by_cases hJk : J < k
      · have hJk' : (J : Int) < (k : Int) := by omega
        have hcy := hyc.out hJk
        have hor := or_sh x y hx hy
        have e1 : IntKind.u64.wrap ((y : Int) * 4294967296) = ((y * 4294967296 : Nat) : Int) := by rw [show (y : Int) * 4294967296 = ((y * 4294967296 : Nat) : Int) by omega]; exact wrapId _ (by omega)
        obtain ⟨T, hT⟩ : ∃ T, T = x + 4294967296 * y := ⟨_, rfl⟩
        rw [← hT] at hor hw0
        have hTl : T < 18446744073709551616 := by omega
        obtain ⟨S, hS⟩ : ∃ S, S = T / 2 ^ rs := ⟨_, rfl⟩
        have hSl : S < 18446744073709551616 := by rw [hS]; exact Nat.lt_of_le_of_lt (Nat.div_le_self _ _) hTl
        have hSI : (T : Int) / 2 ^ rs = (S : Int) := by rw [hS]; simp
        have hw : Hid (Wd.wd W32 (n / 2 ^ t) j = S % 4294967296) := by rw [hS]; exact hw0.out
        have e3 : IntKind.u32.wrap (S : Int) = ((S % 4294967296 : Nat) : Int) := by simp only [IntKind.wrap_u32]; omega
        generalize y * 4294967296 = yy at hor e1
        clear hyc hy0 hw0 hT hS
        go_wp2_with (at_builtin; refine app32 _ rfl _ _ rfl w.heap.size j (S % 4294967296) wr.heap.size (Wd.wd W32 (n / 2 ^ t)) _ rfl rfl (hrow.out.allocs _) (by simp) hw.out (by omega) (by simp; omega) ?_)
        intro v' w2 hr2 hb2
        have hr2H : Hid (Row 64 .u32 w2 w.heap.size v' (j + 1) (Wd.wd W32 (n / 2 ^ t))) := hr2
        have hb2H : Hid (Below w.heap.size w w2) := (hb.out.alloc hsz _).trans hb2
        clear hr2 hb2 hb hrow hw e3
        go_wp2
        go_roundw
        case rel => exact ⟨j + 1, J, by have := hJ.out; omega, by go_num, by have := hI.out; have := hJ.out; show J = ws + (j + 1); omega, hr2H, hb2H⟩
        case measure => have := hJ.out; simp [intOf]; omega
      · have hJk' : ¬ ((J : Int) < (k : Int)) := by omega
        have hyz := hy0.out (by omega)
        obtain ⟨S, hS⟩ : ∃ S, S = x / 2 ^ rs := ⟨_, rfl⟩
        have hSl : S < 18446744073709551616 := by rw [hS]; exact Nat.lt_of_le_of_lt (Nat.div_le_self _ _) (by omega)
        have hSI : (x : Int) / 2 ^ rs = (S : Int) := by rw [hS]; simp
        have hw : Hid (Wd.wd W32 (n / 2 ^ t) j = S % 4294967296) := by
          have h := hw0.out
          rw [hyz, Nat.mul_zero, Nat.add_zero] at h
          rw [hS]; exact h
        have e3 : IntKind.u32.wrap (S : Int) = ((S % 4294967296 : Nat) : Int) := by simp only [IntKind.wrap_u32]; omega
        clear hyc hy0 hw0 hS
        go_wp2_with (at_builtin; refine app32 _ rfl _ _ rfl w.heap.size j (S % 4294967296) wr.heap.size (Wd.wd W32 (n / 2 ^ t)) _ rfl rfl (hrow.out.allocs _) (by simp) hw.out (by omega) (by simp; omega) ?_)
        intro v' w2 hr2 hb2
        have hr2H : Hid (Row 64 .u32 w2 w.heap.size v' (j + 1) (Wd.wd W32 (n / 2 ^ t))) := hr2
        have hb2H : Hid (Below w.heap.size w w2) := (hb.out.alloc hsz _).trans hb2
        clear hr2 hb2 hb hrow hw e3
        go_wp2
        go_roundw
        case rel => exact ⟨j + 1, J, by have := hJ.out; omega, by go_num, by have := hI.out; have := hJ.out; show J = ws + (j + 1); omega, hr2H, hb2H⟩
        case measure => have := hJ.out; simp [intOf]; omega
    · have hlt' : ¬ ((I : Int) < (k : Int)) := by omega
      have hlt2 : Hid (n / 2 ^ t < W32 ^ j) := by
        show _ < _
        rw [Nat.div_lt_iff_lt_mul (Nat.pow_pos (by decide))]
        refine Nat.lt_of_lt_of_le hn.out ?_
        refine Nat.le_trans (Nat.pow_le_pow_right W32_0 (show k ≤ j + ws by have := hI.out; omega)) ?_
        rw [Nat.pow_add]
        refine Nat.mul_le_mul_left _ ?_
        rw [W32_pow]
        exact Nat.pow_le_pow_right (by decide) (by have := htI.out; omega)
      have hjl : j ≤ 1000000 := by have := hI.out; omega
      clear hn hr
      go_wp2_with fail
      refine (ntrim_c w.heap.size j (n / 2 ^ t) u5 wr hrow.out hlt2.out hjl).mono ?_
      rintro e w' ⟨v3, rfl, hv3, rfl⟩
      have hv3H : Hid (Nm wr w.heap.size v3 (n / 2 ^ t)) := hv3
      clear hv3
      go_wp2
      go_ret
      exact ⟨_, rfl, hv3H.out, hb.out⟩
theorem ntop_c (B n t : Nat) (v : Value) (w : World) (hr : Nm w B v n) (hk : Wd.nw W32 n ≤ 100000) (ht : t ≤ 1000000) :
    Calls Try.prog 61 #[v, .int .i64 t] w fun e w' => ∃ v', e = .returned v' ∧ Nm w' w.heap.size v' (n / 2 ^ t) ∧ Below w.heap.size w w' := by
  obtain ⟨ao, cap, rfl⟩ := Row.slice hr
  exact ntop_n B _ n t (t / 32) (t % 32) ao cap w hr hk (Wd.lt_pow_nw W32_2 n) ht (by omega) (by omega)
end Go.Proofs.Ytmfnjmgdindlaaa
