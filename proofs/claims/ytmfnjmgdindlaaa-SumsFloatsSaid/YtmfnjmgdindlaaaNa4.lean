/-
  timbrenat: Sub.
-/
import Derived.Test.YtmfnjmgdindlaaaNa3
namespace Go.Proofs.Ytmfnjmgdindlaaa
open Flo Go.RowKit
theorem sub_step {m n i : Nat} (hnm : n ≤ m) : ∃ d c1, Wd.wd W32 (m - n) i = d ∧ Wd.br W32 m n (i + 1) = c1 ∧ d < 4294967296 ∧ c1 ≤ 1 ∧ d + Wd.wd W32 n i + Wd.br W32 m n i = Wd.wd W32 m i + 4294967296 * c1 :=
  ⟨_, _, rfl, rfl, wd32 _ _, Wd.br_le _ _ _ _, Wd.br_key W32_0 m n i hnm⟩
set_option maxRecDepth 100000 in
set_option maxHeartbeats 1000000 in
theorem nsub_n (B C k l m n : Nat) (ao bo : Option Addr) (cap cbp : Nat) (w : World) (hr : Hid (Row 64 .u32 w B (.slice ao k cap) k (Wd.wd W32 m))) (hr2 : Hid (Row 64 .u32 w C (.slice bo l cbp) l (Wd.wd W32 n))) (hk : k ≤ 100000) (hm : Hid (m < W32 ^ k)) (hn : Hid (n < W32 ^ l)) (hlk : l ≤ 100000) (hnm : Hid (n ≤ m)) :
    Calls Try.prog 40 #[.slice ao k cap, .slice bo l cbp] w fun e w' => ∃ v', e = .returned v' ∧ Nm w' w.heap.size v' (m - n) ∧ Below w.heap.size w w' := by
  obtain ⟨w1, hmk, hmr, hmb⟩ := make32 w 0 k (by omega) (by omega)
  have hrow0 : Hid (Row 64 .u32 w1 w.heap.size (.slice (some ⟨w.heap.size, 0, none⟩) 0 k) 0 (Wd.wd W32 (m - n))) := hmr.out.congr (fun j hj => by omega)
  have hmk' : (Instr.makeSlice 47 (.int .i64 0) (.int .i64 (k : Int))).run Try.prog w = .ok (.slice (some ⟨w.heap.size, 0, none⟩) 0 k) w1 := hmk
  clear hmr hmk
  go_enter Try.func40, Try.ntmps40
  go_wp2
  clear hmk'
  go_loopw [5, 6, 15] (fun so sc si wr => ∃ i : Nat, i ≤ k ∧ si = .int .i64 i ∧ sc = .int .u64 (Wd.br W32 m n i : Nat) ∧ Hid (Row 64 .u32 wr w.heap.size so i (Wd.wd W32 (m - n))) ∧ Hid (Below w.heap.size w wr)) (fun _ _ si _ => k - (intOf si).toNat)
  case atStart => exact ⟨0, Nat.zero_le _, rfl, by rw [Wd.br_zero]; rfl, hrow0, hmb⟩
  case round =>
    clear hrow0 hmb
    obtain ⟨i, hi, rfl, rfl, hrow, hb⟩ := hrel
    have hsz := hb.out.size
    by_cases hlt : i < k
    · have hlt' : (i : Int) < (k : Int) := by omega
      obtain ⟨g, rfl, hcells⟩ := Row.rd hr.out (by omega)
      have hcell := (hr.out.under hb.out).cell i hlt
      obtain ⟨d, c1, hd, hc1', hd32, hc1l, hkey⟩ := sub_step (i := i) hnm.out
      have hx := wd32 m i
      have hy := wd32 n i
      have hbr := Wd.br_le W32 m n i
      have hdw : Hid (Wd.wd W32 (m - n) i = d) := hd
      have hc1 : Hid (Wd.br W32 m n (i + 1) = c1) := hc1'
      have hynil : Hid (l ≤ i → Wd.wd W32 n i = 0) := fun h => Wd.wd_big' W32_0 hn.out h
      have hycell : Hid (i < l → ∃ g2, bo = some ⟨g2, 0, none⟩ ∧ wr.cell? ⟨g2, i, none⟩ = some (.int .u32 (Wd.wd W32 n i : Nat))) := fun h => by
        obtain ⟨g2, rfl, _⟩ := Row.rd hr2.out (by omega)
        exact ⟨g2, rfl, (hr2.out.under hb.out).cell i h⟩
      generalize Wd.wd W32 m i = x at hcell hx hkey
      generalize Wd.wd W32 n i = y at hy hkey hynil hycell
      generalize Wd.br W32 m n i = cc at hbr hkey ⊢
      clear hcells hd hc1'
      obtain ⟨p, hp⟩ : ∃ p : Nat, IntKind.u64.wrap ((x : Int) - (cc : Int)) = (p : Int) := ⟨((x : Int) - (cc : Int)).toNat + (if x < cc then 18446744073709551615 else 0), by simp only [IntKind.wrap_u64]; split <;> omega⟩
      have hpv : Hid ((p : Int) = ((x : Int) - (cc : Int)) % 18446744073709551616) := by have h := hp; simp only [IntKind.wrap_u64] at h; exact h.symm
      by_cases hil : i < l
      · have hil' : (i : Int) < (l : Int) := by omega
        obtain ⟨g2, rfl, hyc⟩ := hycell.out hil
        obtain ⟨q, hq⟩ : ∃ q : Nat, q = d + 18446744069414584320 * c1 := ⟨_, rfl⟩
        have e2 : IntKind.u64.wrap ((p : Int) - (y : Int)) = (q : Int) := by have := hpv.out; simp only [IntKind.wrap_u64]; omega
        have e3 : IntKind.u32.wrap (q : Int) = (d : Int) := by simp only [IntKind.wrap_u32]; omega
        have e4 : Hid (q / 9223372036854775808 = c1) := (by omega : q / 9223372036854775808 = c1)
        have e1 := hp
        have hql : q < 18446744073709551616 := by omega
        clear hpv hp hq hkey hynil hycell
        go_wp2_with (at_builtin; refine app32 _ rfl _ _ rfl w.heap.size i d wr.heap.size (Wd.wd W32 (m - n)) _ rfl rfl (hrow.out.allocs _) (by simp) hdw.out (by omega) (by simp; omega) ?_)
        intro v' w2 hr3 hb2
        have hr3H : Hid (Row 64 .u32 w2 w.heap.size v' (i + 1) (Wd.wd W32 (m - n))) := hr3
        have hb2H : Hid (Below w.heap.size w w2) := (hb.out.alloc hsz _).trans hb2
        clear hr3 hb2 hb hrow e1 e3 hdw
        go_wp2
        go_roundw
        case rel => exact ⟨i + 1, by omega, by go_num, by rw [hc1.out, ← e4.out]; go_num, hr3H, hb2H⟩
        case measure => simp [intOf]; omega
      · have hil' : ¬ ((i : Int) < (l : Int)) := by omega
        have hy0 := hynil.out (by omega)
        have e3 : IntKind.u32.wrap (p : Int) = (d : Int) := by have := hpv.out; simp only [IntKind.wrap_u32]; omega
        have e4 : Hid (p / 9223372036854775808 = c1) := by have := hpv.out; show _ = _; omega
        have e1 := hp
        have hql : p < 18446744073709551616 := by have := hpv.out; omega
        clear hpv hp hkey hynil hycell
        go_wp2_with (at_builtin; refine app32 _ rfl _ _ rfl w.heap.size i d wr.heap.size (Wd.wd W32 (m - n)) _ rfl rfl (hrow.out.allocs _) (by simp) hdw.out (by omega) (by simp; omega) ?_)
        intro v' w2 hr3 hb2
        have hr3H : Hid (Row 64 .u32 w2 w.heap.size v' (i + 1) (Wd.wd W32 (m - n))) := hr3
        have hb2H : Hid (Below w.heap.size w w2) := (hb.out.alloc hsz _).trans hb2
        clear hr3 hb2 hb hrow e1 e3 hdw
        go_wp2
        go_roundw
        case rel => exact ⟨i + 1, by omega, by go_num, by rw [hc1.out, ← e4.out]; go_num, hr3H, hb2H⟩
        case measure => simp [intOf]; omega
    · have hlt' : decide ((i : Int) < (k : Int)) = false := decide_eq_false (by omega)
      have hik : i = k := by omega
      subst hik
      have hlt2 : Hid (m - n < W32 ^ i) := Nat.lt_of_le_of_lt (Nat.sub_le _ _) hm.out
      clear hn hr hr2 hm hnm
      have hi2 : i ≤ 1000000 := by omega
      have hrH := hrow
      go_wp2_with fail
      refine (ntrim_c w.heap.size i (m - n) u5 wr hrH.out hlt2.out hi2).mono ?_
      rintro e w' ⟨v3, rfl, hv3, rfl⟩
      have hv3H : Hid (Nm wr w.heap.size v3 (m - n)) := hv3
      clear hv3
      go_wp2
      go_ret
      exact ⟨_, rfl, hv3H.out, hb.out⟩
theorem nsub_c (B C m n : Nat) (u v : Value) (w : World) (hu : Nm w B u m) (hv : Nm w C v n) (hk : Wd.nw W32 m ≤ 100000) (hnm : n ≤ m) :
    Calls Try.prog 40 #[u, v] w fun e w' => ∃ v', e = .returned v' ∧ Nm w' w.heap.size v' (m - n) ∧ Below w.heap.size w w' := by
  obtain ⟨ao, c, rfl⟩ := Row.slice hu
  obtain ⟨bo, d, rfl⟩ := Row.slice hv
  have h2 := Wd.nw_mono W32_2 hnm
  exact nsub_n B C _ _ m n ao bo c d w hu hv hk (Wd.lt_pow_nw W32_2 m) (Wd.lt_pow_nw W32_2 n) (by omega) hnm
end Go.Proofs.Ytmfnjmgdindlaaa
