/-
  timbrenat.Add where the first number is the shorter one.
-/
import Derived.Test.YtmfnjmgdindlaaaNb4
namespace Go.Proofs.Ytmfnjmgdindlaaa
open Flo Go.RowKit
set_option maxRecDepth 100000 in
set_option maxHeartbeats 1000000 in
theorem nadd_s (B C k l m n : Nat) (ao bo : Option Addr) (cap cbp : Nat) (w : World) (hr : Hid (Row 64 .u32 w B (.slice ao k cap) k (Wd.wd W32 m))) (hr2 : Hid (Row 64 .u32 w C (.slice bo l cbp) l (Wd.wd W32 n))) (hk : k ≤ 100000) (hm : Hid (m < W32 ^ k)) (hn : Hid (n < W32 ^ l)) (hlk : l < k) :
    Calls Try.prog 36 #[.slice bo l cbp, .slice ao k cap] w fun e w' => ∃ v', e = .returned v' ∧ Nm w' w.heap.size v' (m + n) ∧ Below w.heap.size w w' := by
  obtain ⟨K, hK⟩ : ∃ K, k + 1 = K := ⟨_, rfl⟩
  have hKI : (k : Int) + 1 = (K : Int) := by omega
  obtain ⟨w1, hmk, hmr, hmb⟩ := make32 w 0 K (by omega) (by omega)
  have hrow0 : Hid (Row 64 .u32 w1 w.heap.size (.slice (some ⟨w.heap.size, 0, none⟩) 0 K) 0 (Wd.wd W32 (m + n))) := hmr.out.congr (fun j hj => by omega)
  have hmk' : (Instr.makeSlice 47 (.int .i64 0) (.int .i64 (K : Int))).run Try.prog w = .ok (.slice (some ⟨w.heap.size, 0, none⟩) 0 K) w1 := hmk
  have hkl' : ((l : Int) < (k : Int)) := by omega
  clear hmr hmk
  go_enter Try.func36, Try.ntmps36
  go_wp2
  clear hmk'
  clear hKI
  go_loopw [5, 6, 22] (fun so sc si wr => ∃ i : Nat, i ≤ k ∧ si = .int .i64 i ∧ sc = .int .u64 (Wd.ca W32 m n i : Nat) ∧ Hid (Row 64 .u32 wr w.heap.size so i (Wd.wd W32 (m + n))) ∧ Hid (Below w.heap.size w wr)) (fun _ _ si _ => k - (intOf si).toNat)
  case atStart => exact ⟨0, Nat.zero_le _, rfl, by rw [Wd.ca_zero]; rfl, hrow0, hmb⟩
  case round =>
    clear hrow0 hmb
    obtain ⟨i, hi, rfl, rfl, hrow, hb⟩ := hrel
    have hsz := hb.out.size
    have hcm := Wd.ca_le W32_0 m n i
    by_cases hlt : i < k
    · have hlt' : (i : Int) < (k : Int) := by omega
      obtain ⟨g, rfl, hcells⟩ := Row.rd hr.out (by omega)
      have hcell := (hr.out.under hb.out).cell i hlt
      obtain ⟨S, hS, h2, h1⟩ := add_step m n i
      have hx := wd32 m i
      have hy := wd32 n i
      have hynil : Hid (l ≤ i → Wd.wd W32 n i = 0) := fun h => Wd.wd_big' W32_0 hn.out h
      have hycell : Hid (i < l → ∃ g2, bo = some ⟨g2, 0, none⟩ ∧ wr.cell? ⟨g2, i, none⟩ = some (.int .u32 (Wd.wd W32 n i : Nat))) := fun h => by
        obtain ⟨g2, rfl, _⟩ := Row.rd hr2.out (by omega)
        exact ⟨g2, rfl, (hr2.out.under hb.out).cell i h⟩
      generalize Wd.wd W32 m i = x at hcell hx hS
      generalize Wd.wd W32 n i = y at hy hS hynil hycell
      generalize Wd.ca W32 m n i = cc at hcm hS ⊢
      clear hcells
      have hSl : S < 18446744073709551616 := by omega
      have e3 : IntKind.u32.wrap (S : Int) = ((S % 4294967296 : Nat) : Int) := by simp only [IntKind.wrap_u32]; omega
      have e1 : IntKind.u64.wrap ((cc : Int) + (x : Int)) = ((cc + x : Nat) : Int) := by simp only [IntKind.wrap_u64]; omega
      have h1' : Hid (Wd.ca W32 m n (i + 1) = S / 4294967296) := h1
      by_cases hil : i < l
      · have hil' : (i : Int) < (l : Int) := by omega
        obtain ⟨g2, rfl, hyc⟩ := hycell.out hil
        have e2 : IntKind.u64.wrap (((cc + x : Nat) : Int) + (y : Int)) = (S : Int) := by simp only [IntKind.wrap_u64]; omega
        have e4 : (cc : Int) + (x : Int) + (y : Int) = (S : Int) := by omega
        clear hynil hycell hS
        go_wp2_with (at_builtin; refine app32 _ rfl _ _ rfl w.heap.size i (S % 4294967296) wr.heap.size (Wd.wd W32 (m + n)) _ rfl rfl (hrow.out.allocs _) (by simp) h2.out (by omega) (by simp; omega) ?_)
        intro v' w2 hr3 hb2
        have hr3H : Hid (Row 64 .u32 w2 w.heap.size v' (i + 1) (Wd.wd W32 (m + n))) := hr3
        have hb2H : Hid (Below w.heap.size w w2) := (hb.out.alloc hsz _).trans hb2
        clear hr3 hb2 hb hrow e1 e3 h2 h1
        go_wp2
        go_roundw
        case rel => exact ⟨i + 1, by omega, by go_num, by rw [h1'.out]; go_num, hr3H, hb2H⟩
        case measure => simp [intOf]; omega
      · have hil' : ¬ ((i : Int) < (l : Int)) := by omega
        have hy0 := hynil.out (by omega)
        have e4 : (cc : Int) + (x : Int) = (S : Int) := by omega
        clear hynil hycell hS
        go_wp2_with (at_builtin; refine app32 _ rfl _ _ rfl w.heap.size i (S % 4294967296) wr.heap.size (Wd.wd W32 (m + n)) _ rfl rfl (hrow.out.allocs _) (by simp) h2.out (by omega) (by simp; omega) ?_)
        intro v' w2 hr3 hb2
        have hr3H : Hid (Row 64 .u32 w2 w.heap.size v' (i + 1) (Wd.wd W32 (m + n))) := hr3
        have hb2H : Hid (Below w.heap.size w w2) := (hb.out.alloc hsz _).trans hb2
        clear hr3 hb2 hb hrow e1 e3 h2 h1
        go_wp2
        go_roundw
        case rel => exact ⟨i + 1, by omega, by go_num, by rw [h1'.out]; go_num, hr3H, hb2H⟩
        case measure => simp [intOf]; omega
    · have hlt' : decide ((i : Int) < (k : Int)) = false := decide_eq_false (by omega)
      have hik : i = k := by omega
      subst hik
      have hnk : n < W32 ^ i := Nat.lt_of_lt_of_le hn.out (Nat.pow_le_pow_right W32_0 (Nat.le_of_lt hlk))
      have htop : Hid (Wd.wd W32 (m + n) i = Wd.ca W32 m n i) := by
        show (m + n) / W32 ^ i % W32 = _
        rw [← Wd.ca_end hm.out hnk]; exact Nat.mod_eq_of_lt (show _ < 4294967296 by omega)
      have hlt2 : Hid (m + n < W32 ^ (i + 1)) := by
        have h1 := hm.out
        show _ < _
        rw [Nat.pow_succ]
        have h2 : W32 ^ i * 2 ≤ W32 ^ i * W32 := Nat.mul_le_mul_left _ W32_2
        omega
      clear hn hr hK hr2 hm hnk
      generalize Wd.ca W32 m n i = cc at hcm htop ⊢
      have e3 : IntKind.u32.wrap (cc : Int) = (cc : Int) := by simp only [IntKind.wrap_u32]; omega
      go_wp2_with (first | (at_builtin; refine app32 _ rfl _ _ rfl w.heap.size i cc wr.heap.size (Wd.wd W32 (m + n)) _ rfl rfl (hrow.out.allocs _) (by simp) htop.out (by omega) (by simp; omega) ?_) | fail)
      intro v' w2 hr2 hb2
      have hr2H : Hid (Row 64 .u32 w2 w.heap.size v' (i + 1) (Wd.wd W32 (m + n))) := hr2
      have hb2H : Hid (Below w.heap.size w w2) := (hb.out.alloc hsz _).trans hb2
      clear hr2 hb2 hb hrow e3 htop
      go_wp2_with fail
      refine (ntrim_c w.heap.size (i + 1) (m + n) v' w2 hr2H.out hlt2.out (by omega)).mono ?_
      rintro e w' ⟨v3, rfl, hv3, rfl⟩
      have hv3H : Hid (Nm w2 w.heap.size v3 (m + n)) := hv3
      clear hv3
      go_wp2
      go_ret
      exact ⟨_, rfl, hv3H.out, hb2H.out⟩
theorem nadd_any (B C m n : Nat) (u v : Value) (w : World) (hu : Nm w B u m) (hv : Nm w C v n) (hk : Wd.nw W32 m ≤ 100000) (hl : Wd.nw W32 n ≤ 100000) :
    Calls Try.prog 36 #[u, v] w fun e w' => ∃ v', e = .returned v' ∧ Nm w' w.heap.size v' (m + n) ∧ Below w.heap.size w w' := by
  obtain ⟨ao, cap, rfl⟩ := Row.slice hu
  obtain ⟨bo, cbp, rfl⟩ := Row.slice hv
  by_cases h : Wd.nw W32 n ≤ Wd.nw W32 m
  · exact nadd_n B C _ _ m n ao bo cap cbp w hu hv hk (Wd.lt_pow_nw W32_2 m) (Wd.lt_pow_nw W32_2 n) h
  · have := nadd_s C B _ _ n m bo ao cbp cap w hv hu hl (Wd.lt_pow_nw W32_2 n) (Wd.lt_pow_nw W32_2 m) (by omega)
    rw [Nat.add_comm] at this
    exact this
end Go.Proofs.Ytmfnjmgdindlaaa
