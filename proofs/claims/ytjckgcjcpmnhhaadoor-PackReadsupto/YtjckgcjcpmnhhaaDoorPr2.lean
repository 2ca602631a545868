/-
  timbreref04, the forms: fixed, Int, Float, Complex, Narrow, Text.
-/
import Derived.Test.YtjckgcjcpmnhhaaDoorPr1
namespace Go.Proofs.YtjckgcjcpmnhhaaDoor
open Flo Go.RowKit
set_option maxRecDepth 100000 in
set_option maxHeartbeats 1000000 in
theorem pfixed_c (x k : Nat) (w : World) (hx : x < 18446744073709551616) (hk : k ≤ 8) :
    Calls Tryd.prog 77 #[.int .u64 x, .int .i64 k] w fun e w' => ∃ v', e = .returned v' ∧ NewB w w' v' (Pk.lo k x) := by
  go_enter Tryd.func77, Tryd.ntmps77
  go_wp2
  go_loopw [0, 5, 6] (fun sx so si wr => ∃ (X i : Nat) (p : List Nat), sx = .int .u64 (X : Int) ∧ si = .int .i64 (i : Int) ∧ i ≤ k ∧ X < 18446744073709551616 ∧ Hid (X = x / 256 ^ i) ∧ Hid (p = Pk.lo i x) ∧ Hid (NewB w wr so p)) (fun _ _ si _ => k - (intOf si).toNat)
  case atStart => exact ⟨x, 0, [], rfl, rfl, Nat.zero_le _, hx, by simp [Hid], rfl, newB_made w⟩
  case round =>
    obtain ⟨X, i, p, rfl, rfl, hi, hX, hXe, hp, hN⟩ := hrel
    by_cases hlt : i < k
    · have hlt' : (i : Int) < (k : Int) := by omega
      have hpl : Hid (p.length ≤ 8) := by
        show _ ≤ _
        rw [hp.out, Pk.lo_len]; omega
      have hnext : Hid (p ++ [X % 256] = Pk.lo (i + 1) x) := by
        show _ = _
        rw [hp.out, hXe.out, Pk.lo_snoc]
      have hXn : Hid (X / 256 = x / 256 ^ (i + 1)) := by
        show _ = _
        rw [hXe.out, Nat.div_div_eq_div_mul, ← Nat.pow_succ]
      have hy : (X : Int) % 256 = ((X % 256 : Nat) : Int) := by omega
      clear hXe hp
      obtain ⟨y, hyy⟩ : ∃ y, X % 256 = y := ⟨_, rfl⟩
      rw [hyy] at hnext hy
      have hyl : y < 256 := by omega
      clear hyy
      go_wp2_with (first | (at_builtin; refine appB _ rfl _ _ rfl p y wr.heap.size u5 rfl rfl (World.ownsRow.alloc hN.out.own _) (by first | simp | (simp; omega)) (by have := hpl.out; omega) ?_) | fail)
      intro v' w2 ho hg hn
      have hN2 : Hid (NewB w w2 v' (p ++ [y])) := hN.out.app ((Below.refl _ _).alloc (Nat.le_refl _) _) ho hg (by simpa using hn)
      clear ho hg hn hN hy
      go_wp2
      go_roundw
      case rel => exact ⟨X / 256, i + 1, p ++ [y], by go_num, by go_num, by omega, by omega, hXn, hnext, hN2⟩
      case measure => simp [intOf]; omega
    · have hlt' : decide ((i : Int) < (k : Int)) = false := decide_eq_false (by omega)
      have hik : Hid (p = Pk.lo k x) := by
        have := hp.out; rw [show i = k by omega] at this; exact this
      clear hp hXe
      go_wp2
      go_ret
      exact ⟨_, rfl, by rw [← hik.out]; exact hN.out⟩
set_option maxHeartbeats 1000000 in
theorem pint_c (x : Int) (w : World) (h1 : -9223372036854775808 ≤ x) (h2 : x ≤ 9223372036854775807) :
    Calls Tryd.prog 34 #[.int .i64 x] w fun e w' => ∃ v', e = .returned v' ∧ NewB w w' v' (Pk.vi (zg x)) := by
  have hz := zg_lt h1 h2
  by_cases hx : x < 0
  · have hzH : Hid (((zg x : Nat) : Int) = (-1 - x) * 2 + 1) := by show _ = _; unfold zg; rw [if_pos hx]; omega
    obtain ⟨Z, hZ⟩ : ∃ Z, Hid (Z = zg x) := ⟨_, rfl⟩
    have e1 : IntKind.i64.wrap (-1 - x) = -1 - x := by rw [IntKind.wrap_i64]; omega
    have e2 : IntKind.u64.wrap (-1 - x) = -1 - x := by rw [IntKind.wrap_u64]; omega
    have e3 : IntKind.u64.wrap ((-1 - x) * 2) = (-1 - x) * 2 := by rw [IntKind.wrap_u64]; omega
    have e4 : IntKind.u64.wrap ((-1 - x) * 2 + 1) = (Z : Int) := by rw [IntKind.wrap_u64, hZ.out, hzH.out]; have := hz; omega
    have e5 : (-1 - x) * 2 + 1 = (Z : Int) := by rw [hZ.out, hzH.out]
    have hZl : Hid (Z < 18446744073709551616) := by rw [hZ.out]; exact hz
    go_enter Tryd.func34, Tryd.ntmps34
    go_wp2_with fail
    refine (puint_c Z w hZl.out).mono ?_
    rintro e w' ⟨v', rfl, hn⟩
    have hnH : Hid (NewB w w' v' (Pk.vi (zg x))) := by rw [← hZ.out]; exact hn
    clear hn
    go_wp2
    go_ret
    exact ⟨_, rfl, hnH.out⟩
  · have hzH : Hid (((zg x : Nat) : Int) = x * 2) := by show _ = _; unfold zg; rw [if_neg hx]; omega
    have hx' : decide (x < 0) = false := decide_eq_false hx
    obtain ⟨Z, hZ⟩ : ∃ Z, Hid (Z = zg x) := ⟨_, rfl⟩
    have e2 : IntKind.u64.wrap x = x := by rw [IntKind.wrap_u64]; omega
    have e4 : IntKind.u64.wrap (x * 2) = (Z : Int) := by rw [IntKind.wrap_u64, hZ.out, hzH.out]; omega
    have e5 : x * 2 = (Z : Int) := by rw [hZ.out, hzH.out]
    have hZl : Hid (Z < 18446744073709551616) := by rw [hZ.out]; exact hz
    go_enter Tryd.func34, Tryd.ntmps34
    go_wp2_with fail
    refine (puint_c Z w hZl.out).mono ?_
    rintro e w' ⟨v', rfl, hn⟩
    have hnH : Hid (NewB w w' v' (Pk.vi (zg x))) := by rw [← hZ.out]; exact hn
    clear hn
    go_wp2
    go_ret
    exact ⟨_, rfl, hnH.out⟩
set_option maxHeartbeats 1000000 in
theorem pfloat_c (n : Nat) (w : World) (hn : n < 18446744073709551616) :
    Calls Tryd.prog 36 #[.float .f64 n] w fun e w' => ∃ v', e = .returned v' ∧ NewB w w' v' (Pk.lo 8 (bt n)) := by
  have hbl := bt_lt hn
  go_enter Tryd.func36, Tryd.ntmps36
  go_wp2_with fail
  refine (rbits_c n w hn).mono ?_
  rintro e w' ⟨rfl, rfl⟩
  go_wp2_with fail
  refine (pfixed_c (bt n) 8 w hbl (by decide)).mono ?_
  rintro e w' ⟨v', rfl, h1⟩
  have h1H : Hid (NewB w w' v' (Pk.lo 8 (bt n))) := h1
  clear h1
  go_wp2
  go_ret
  exact ⟨_, rfl, h1H.out⟩
set_option maxHeartbeats 1000000 in
theorem pcomplex_c (a b : Nat) (w : World) (ha : a < 18446744073709551616) (hb : b < 18446744073709551616) :
    Calls Tryd.prog 39 #[.complex .f64 a b] w fun e w' => ∃ v', e = .returned v' ∧ NewB w w' v' (Pk.lo 8 (bt a) ++ Pk.lo 8 (bt b)) := by
  go_enter Tryd.func39, Tryd.ntmps39
  go_wp2_with fail
  refine (pfloat_c a w ha).mono ?_
  rintro e w1 ⟨v1, rfl, h1⟩
  have h1H : Hid (NewB w w1 v1 (Pk.lo 8 (bt a))) := h1
  clear h1
  go_wp2_with fail
  refine (pfloat_c b w1 hb).mono ?_
  rintro e w2 ⟨v2, rfl, h2⟩
  have h2H : Hid (NewB w w2 v1 (Pk.lo 8 (bt a))) := h1H.out.under h2.below
  have h3H : Hid (SrcB w2 v2 (Pk.lo 8 (bt b))) := h2.own.src
  have l1 : Hid ((Pk.lo 8 (bt a)).length = 8) := Pk.lo_len _ _
  have l2 : Hid ((Pk.lo 8 (bt b)).length = 8) := Pk.lo_len _ _
  clear h2 h1H
  go_wp2_with (first | (at_builtin; refine appY _ rfl _ _ rfl (Pk.lo 8 (bt a)) (Pk.lo 8 (bt b)) v1 v2 rfl rfl h2H.out.own h3H.out (by have := l1.out; have := l2.out; omega) ?_) | fail)
  intro v' w3 ho hg hn
  have hN2 : Hid (NewB w w3 v' (Pk.lo 8 (bt a) ++ Pk.lo 8 (bt b))) := h2H.out.app (Below.refl _ _) ho hg hn
  clear ho hg hn
  go_wp2
  go_ret
  exact ⟨_, rfl, hN2.out⟩
set_option maxHeartbeats 1000000 in
theorem pbits_c (n : Nat) (w : World) (h : n < 4294967296) :
    Calls Tryd.prog 81 #[.float .f32 n] w fun e w' => e = .returned (.int .u64 (bt32 n : Nat)) ∧ w = w' := by
  have h2 := run_f32bits
  by_cases hn : 2139095040 < n % 2147483648
  · have hn' : (2139095040 : Int) < (n : Int) % 2147483648 := by omega
    have hb : Hid (bt32 n = 2143289344) := if_pos hn
    go_enter Tryd.func81, Tryd.ntmps81
    go_wp2
    go_ret
    exact ⟨by rw [hb.out]; rfl, rfl⟩
  · have hn' : decide ((2139095040 : Int) < (n : Int) % 2147483648) = false := decide_eq_false (by omega)
    have hn2 : ¬ 2139095040 < n % 2147483648 := hn
    have hb : Hid (bt32 n = n) := if_neg hn
    go_enter Tryd.func81, Tryd.ntmps81
    go_wp2
    go_ret
    exact ⟨by rw [hb.out]; rfl, rfl⟩
set_option maxHeartbeats 1000000 in
theorem pnarrow_c (a b : Nat) (w : World) (ha : a < 4294967296) (hb : b < 4294967296) :
    Calls Tryd.prog 42 #[.complex .f32 a b] w fun e w' => ∃ v', e = .returned v' ∧ NewB w w' v' (Pk.lo 4 (bt32 a) ++ Pk.lo 4 (bt32 b)) := by
  have ha2 := bt32_lt ha
  have hb2 := bt32_lt hb
  go_enter Tryd.func42, Tryd.ntmps42
  go_wp2_with fail
  refine (pbits_c a w ha).mono ?_
  rintro e w' ⟨rfl, rfl⟩
  go_wp2_with fail
  refine (pfixed_c (bt32 a) 4 w (by omega) (by decide)).mono ?_
  rintro e w1 ⟨v1, rfl, h1⟩
  have h1H : Hid (NewB w w1 v1 (Pk.lo 4 (bt32 a))) := h1
  clear h1
  go_wp2_with fail
  refine (pbits_c b w1 hb).mono ?_
  rintro e w' ⟨rfl, rfl⟩
  go_wp2_with fail
  refine (pfixed_c (bt32 b) 4 w1 (by omega) (by decide)).mono ?_
  rintro e w2 ⟨v2, rfl, h2⟩
  have h2H : Hid (NewB w w2 v1 (Pk.lo 4 (bt32 a))) := h1H.out.under h2.below
  have h3H : Hid (SrcB w2 v2 (Pk.lo 4 (bt32 b))) := h2.own.src
  have l1 : Hid ((Pk.lo 4 (bt32 a)).length = 4) := Pk.lo_len _ _
  have l2 : Hid ((Pk.lo 4 (bt32 b)).length = 4) := Pk.lo_len _ _
  clear h2 h1H
  go_wp2_with (first | (at_builtin; refine appY _ rfl _ _ rfl (Pk.lo 4 (bt32 a)) (Pk.lo 4 (bt32 b)) v1 v2 rfl rfl h2H.out.own h3H.out (by have := l1.out; have := l2.out; omega) ?_) | fail)
  intro v' w3 ho hg hn
  have hN2 : Hid (NewB w w3 v' (Pk.lo 4 (bt32 a) ++ Pk.lo 4 (bt32 b))) := h2H.out.app (Below.refl _ _) ho hg hn
  clear ho hg hn
  go_wp2
  go_ret
  exact ⟨_, rfl, hN2.out⟩
set_option maxHeartbeats 1000000 in
theorem ptext_c (s : ByteArray) (w : World) (hl : s.size ≤ 140737488350000) :
    Calls Tryd.prog 43 #[.string s] w fun e w' => ∃ v', e = .returned v' ∧ NewB w w' v' (Pk.vi s.size ++ sb s) := by
  go_enter Tryd.func43, Tryd.ntmps43
  go_wp2_with fail
  refine (puint_c s.size w (by omega)).mono ?_
  rintro e w1 ⟨v1, rfl, h1⟩
  have h1H : Hid (NewB w w1 v1 (Pk.vi s.size)) := h1
  have l1 : Hid ((Pk.vi s.size).length ≤ 10) := Pk.vi_len (by omega)
  clear h1
  go_wp2_with (first | (at_builtin; refine appS _ rfl _ _ rfl (Pk.vi s.size) s v1 rfl rfl h1H.out.own (by have := l1.out; omega) ?_) | fail)
  intro v' w3 ho hg hn
  have hN2 : Hid (NewB w w3 v' (Pk.vi s.size ++ sb s)) := h1H.out.app (Below.refl _ _) ho hg hn
  clear ho hg hn
  go_wp2
  go_ret
  exact ⟨_, rfl, hN2.out⟩
end Go.Proofs.YtjckgcjcpmnhhaaDoor
