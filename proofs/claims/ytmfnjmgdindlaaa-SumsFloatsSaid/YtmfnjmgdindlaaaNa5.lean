/-
  timbrenat: Shift.
-/
import Derived.Test.YtmfnjmgdindlaaaNa3
namespace Go.Proofs.Ytmfnjmgdindlaaa
open Flo Go.RowKit
theorem cm_sh_lt (n rs i : Nat) : Wd.cm W32 n (2 ^ rs) 0 i < 2 ^ rs := by
  unfold Wd.cm
  rw [Nat.add_zero, Nat.div_lt_iff_lt_mul (Nat.pow_pos W32_0), Nat.mul_comm]
  exact Nat.mul_lt_mul_of_pos_left (Nat.mod_lt _ (Nat.pow_pos W32_0)) (Nat.pow_pos (by decide))
theorem or_hi (cc x rs : Nat) (hc : cc < 2 ^ rs) (hs : x * 2 ^ rs + cc < 18446744073709551616) : bits .or .u64 (cc : Int) ((x * 2 ^ rs : Nat) : Int) = ((x * 2 ^ rs + cc : Nat) : Int) := by
  have h := bits_or_u64_nat cc (x * 2 ^ rs) (by omega) (by omega)
  rw [h, Nat.or_comm, Nat.mul_comm x, ← Nat.two_pow_add_eq_or_of_lt hc]
theorem sh_split (n t ws rs : Nat) (h : t = 32 * ws + rs) : n * 2 ^ t = n * 2 ^ rs * W32 ^ ws := by
  rw [h, W32_pow, Nat.pow_add, Nat.mul_comm (2 ^ (32 * ws)), Nat.mul_assoc]
theorem sh_lt {n k t ws rs : Nat} (h : t = 32 * ws + rs) (hn : n < W32 ^ k) (hrs : rs < 32) : n * 2 ^ t < W32 ^ (ws + k + 1) := by
  have h1 : 2 ^ (32 * ws + rs) < 2 ^ (32 * (ws + 1)) := Nat.pow_lt_pow_right (by decide) (by omega)
  rw [← W32_pow] at h1
  have e : W32 ^ (ws + k + 1) = W32 ^ k * W32 ^ (ws + 1) := by rw [← Nat.pow_add]; congr 1; omega
  rw [e, h]
  exact Nat.mul_lt_mul'' hn h1
set_option maxRecDepth 100000 in
set_option maxHeartbeats 1000000 in
theorem nshift_n (B k n t ws rs K : Nat) (g cap : Nat) (w : World) (hr : Hid (Row 64 .u32 w B (.slice (some ⟨g, 0, none⟩) k cap) k (Wd.wd W32 n))) (hk : k ≤ 100000) (hk0 : 0 < k) (hn : Hid (n < W32 ^ k)) (ht : t ≤ 1000000) (hws : (t : Int) / 32 = (ws : Int)) (hrs : (t : Int) % 32 = (rs : Int)) (hK : (ws : Int) + (k : Int) + 1 = (K : Int)) :
    Calls Try.prog 34 #[.slice (some ⟨g, 0, none⟩) k cap, .int .i64 t] w fun e w' => ∃ v', e = .returned v' ∧ Nm w' w.heap.size v' (n * 2 ^ t) ∧ Below w.heap.size w w' := by
  obtain ⟨w1, hmk, hmr, hmb⟩ := make32 w ws K (by omega) (by omega)
  have hk0' : ((k : Int) == 0) = false := beq_eq_false_iff_ne.2 (by omega)
  go_enter Try.func34, Try.ntmps34
  go_wp2
  clear hmk
  have htI : Hid (t = 32 * ws + rs) := (by omega : t = 32 * ws + rs)
  have hrs32 : rs < 32 := by omega
  have hwsl : ws ≤ 40000 := by omega
  have hrow0 : Hid (Row 64 .u32 w1 w.heap.size (.slice (some ⟨w.heap.size, 0, none⟩) ws K) ws (Wd.wd W32 (n * 2 ^ t))) := hmr.out.congr (fun j hj => by rw [sh_split n t ws rs htI.out, Wd.wd_shift_low W32_0 _ _ _ hj])
  clear hmr hK hws
  go_loopw [5, 6, 23] (fun so sc si wr => ∃ i : Nat, i ≤ k ∧ si = .int .i64 i ∧ sc = .int .u64 (Wd.cm W32 n (2 ^ rs) 0 i : Nat) ∧ Hid (Row 64 .u32 wr w.heap.size so (ws + i) (Wd.wd W32 (n * 2 ^ t))) ∧ Hid (Below w.heap.size w wr)) (fun _ _ si _ => k - (intOf si).toNat)
  case atStart => exact ⟨0, Nat.zero_le _, rfl, by rw [Wd.cm_zero]; rfl, hrow0, hmb⟩
  case round =>
    clear hrow0 hmb
    obtain ⟨i, hi, rfl, rfl, hrow, hb⟩ := hrel
    have hcm := cm_sh_lt n rs i
    have hsz := hb.out.size
    have hp32 : 2 ^ rs ≤ 2147483648 := Nat.pow_le_pow_right (n := 2) (by decide) (show rs ≤ 31 by omega)
    by_cases hlt : i < k
    · have hlt' : (i : Int) < (k : Int) := by omega
      have hcell := (hr.out.under hb.out).cell i hlt
      have hx := wd32 n i
      have h1 : Hid (Wd.cm W32 n (2 ^ rs) 0 (i + 1) = (Wd.wd W32 n i * 2 ^ rs + Wd.cm W32 n (2 ^ rs) 0 i) / W32) := Wd.cm_succ W32_0 n (2 ^ rs) 0 i
      have h2 : Hid (Wd.wd W32 (n * 2 ^ t) (ws + i) = (Wd.wd W32 n i * 2 ^ rs + Wd.cm W32 n (2 ^ rs) 0 i) % W32) := by
        have := Wd.cm_word W32_0 n (2 ^ rs) 0 i
        rw [Nat.add_zero] at this
        show _ = _
        rw [sh_split n t ws rs htI.out, Wd.wd_shift W32_0, this]
      generalize Wd.wd W32 n i = x at hcell hx h1 h2
      generalize Wd.cm W32 n (2 ^ rs) 0 i = cc at hcm h1 h2 ⊢
      have hxm : x * 2 ^ rs ≤ 4294967295 * 2147483648 := Nat.mul_le_mul (show x ≤ 4294967295 by omega) hp32
      have hor := or_hi cc x rs hcm (by omega)
      have e1 : IntKind.u64.wrap ((x : Int) * 2 ^ rs) = ((x * 2 ^ rs : Nat) : Int) := by
        rw [show (x : Int) * 2 ^ rs = ((x * 2 ^ rs : Nat) : Int) by simp]; exact wrapId _ (by omega)
      obtain ⟨S, hS⟩ : ∃ S, S = x * 2 ^ rs + cc := ⟨_, rfl⟩
      rw [← hS] at h1 h2 hor
      have hSl : S < 18446744073709551616 := by omega
      generalize x * 2 ^ rs = y at *
      clear hS hcm hp32 hxm
      have e3 : IntKind.u32.wrap (S : Int) = ((S % 4294967296 : Nat) : Int) := by simp only [IntKind.wrap_u32]; omega
      go_wp2_with (at_builtin; refine app32 _ rfl _ _ rfl w.heap.size (ws + i) (S % 4294967296) wr.heap.size (Wd.wd W32 (n * 2 ^ t)) _ rfl rfl (hrow.out.allocs _) (by simp) h2.out (by omega) (by simp; omega) ?_)
      intro v' w2 hr2 hb2
      have hr2H : Hid (Row 64 .u32 w2 w.heap.size v' (ws + (i + 1)) (Wd.wd W32 (n * 2 ^ t))) := hr2
      have hb2H : Hid (Below w.heap.size w w2) := (hb.out.alloc hsz _).trans hb2
      have h1' : Hid (Wd.cm W32 n (2 ^ rs) 0 (i + 1) = S / 4294967296) := h1.out
      clear hr2 hb2 hb hrow h1 h2 e1 e3 hor
      go_wp2
      go_roundw
      case rel => exact ⟨i + 1, by omega, by go_num, by rw [h1'.out]; go_num, hr2H, hb2H⟩
      case measure => simp [intOf]; omega
    · have hlt' : decide ((i : Int) < (k : Int)) = false := decide_eq_false (by omega)
      have hik : i = k := by omega
      subst hik
      have htop : Hid (Wd.wd W32 (n * 2 ^ t) (ws + i) = Wd.cm W32 n (2 ^ rs) 0 i) := by
        have h1 := Wd.cm_end (f := 2 ^ rs) (c := 0) hn.out
        rw [Nat.add_zero] at h1
        show _ = _
        rw [sh_split n t ws rs htI.out, Wd.wd_shift W32_0, h1]
        show n * 2 ^ rs / W32 ^ i % W32 = _
        rw [← h1]
        exact Nat.mod_eq_of_lt (show _ < 4294967296 by omega)
      have hlt2 : Hid (n * 2 ^ t < W32 ^ (ws + i + 1)) := sh_lt htI.out hn.out hrs32
      clear hn hr
      generalize Wd.cm W32 n (2 ^ rs) 0 i = cc at hcm htop ⊢
      have hc32 : cc < 4294967296 := by omega
      clear hcm hp32
      have e3 : IntKind.u32.wrap (cc : Int) = (cc : Int) := by simp only [IntKind.wrap_u32]; omega
      go_wp2_with (first | (at_builtin; refine app32 _ rfl _ _ rfl w.heap.size (ws + i) cc wr.heap.size (Wd.wd W32 (n * 2 ^ t)) _ rfl rfl (hrow.out.allocs _) (by simp) htop.out (by omega) (by simp; omega) ?_) | fail)
      intro v' w2 hr2 hb2
      have hr2H : Hid (Row 64 .u32 w2 w.heap.size v' (ws + i + 1) (Wd.wd W32 (n * 2 ^ t))) := hr2
      have hb2H : Hid (Below w.heap.size w w2) := (hb.out.alloc hsz _).trans hb2
      clear hr2 hb2 hb hrow e3 htop
      go_wp2_with fail
      refine (ntrim_c w.heap.size (ws + i + 1) (n * 2 ^ t) v' w2 hr2H.out hlt2.out (by omega)).mono ?_
      rintro e w' ⟨v3, rfl, hv3, rfl⟩
      have hv3H : Hid (Nm w2 w.heap.size v3 (n * 2 ^ t)) := hv3
      clear hv3
      go_wp2
      go_ret
      exact ⟨_, rfl, hv3H.out, hb2H.out⟩
set_option maxRecDepth 100000 in
theorem nshift_0 (ao : Option Addr) (cap t : Nat) (w : World) :
    Calls Try.prog 34 #[.slice ao 0 cap, .int .i64 t] w fun e w' => e = .returned (.slice none 0 0) ∧ w = w' := by
  go_enter Try.func34, Try.ntmps34
  go_wp2
  go_ret
  exact ⟨rfl, rfl⟩
theorem nshift_c (B n t : Nat) (v : Value) (w : World) (hr : Nm w B v n) (hk : Wd.nw W32 n ≤ 100000) (ht : t ≤ 1000000) :
    Calls Try.prog 34 #[v, .int .i64 t] w fun e w' => ∃ v', e = .returned v' ∧ Nm w' w.heap.size v' (n * 2 ^ t) ∧ Below w.heap.size w w' := by
  by_cases h0 : n = 0
  · subst h0
    obtain ⟨ao, cap, rfl⟩ := Row.slice hr
    rw [Wd.nw_zero]
    refine (nshift_0 ao cap t w).mono ?_
    rintro e w' ⟨rfl, rfl⟩
    refine ⟨_, rfl, ?_, Below.refl _ _⟩
    unfold Nm; rw [Nat.zero_mul, Wd.nw_zero]; exact Row.nil _ _ _ _ _
  · have h2 := nw_pos' (show 0 < n by omega)
    rcases Row.cases hr with ⟨rfl, h1⟩ | ⟨g, cap, rfl, _⟩
    · omega
    · exact nshift_n B _ n t (t / 32) (t % 32) (t / 32 + Wd.nw W32 n + 1) g cap w hr hk h2 (Wd.lt_pow_nw W32_2 n) ht (by omega) (by omega) (by omega)
end Go.Proofs.Ytmfnjmgdindlaaa
