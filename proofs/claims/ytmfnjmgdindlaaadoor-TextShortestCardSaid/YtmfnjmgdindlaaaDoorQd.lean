/-
  The program's naturals: length, timesPlus.
-/
import Derived.Test.YtmfnjmgdindlaaaDoorQb
import Derived.Test.YtmfnjmgdindlaaaDoorQc
import Derived.Laws.Externs
namespace Go.Proofs.YtmfnjmgdindlaaaDoor
open Flo Go.RowKit
theorem add64_r (x y c : Nat) (hc : c ≤ 1) (w : World) : (callFunc 75 #[.int .u64 (x : Int), .int .u64 (y : Int), .int .u64 (c : Int)]).run Tryd.prog w =
    .ok (.value (.tuple #[.int .u64 (((x + y + c) % 18446744073709551616 : Nat) : Int), .int .u64 (((x + y + c) / 18446744073709551616 : Nat) : Int)])) w := by
  rw [run_callFunc_extern (P := Tryd.prog) (f := 75) (fn := Tryd.f75) (by kernel_rfl) (by kernel_rfl) (by kernel_rfl) (by kernel_rfl) (e := add64Entry) (by kernel_rfl), run_add64 x y c (by omega) (by omega) (by omega) (by omega)]
  simp only [Result.andThen]
  congr 5 <;> omega
theorem add64_0 (x y : Nat) (w : World) : (callFunc 75 #[.int .u64 (x : Int), .int .u64 (y : Int), .int .u64 0]).run Tryd.prog w =
    .ok (.value (.tuple #[.int .u64 (((x + y) % 18446744073709551616 : Nat) : Int), .int .u64 (((x + y) / 18446744073709551616 : Nat) : Int)])) w := add64_r x y 0 (by omega) w
theorem mul64_v (x y : Nat) (w : World) (hx : x < 18446744073709551616) (hy : y < 18446744073709551616) :
    Calls Tryd.prog 74 #[.int .u64 x, .int .u64 y] w fun e w' => ∃ hi lo : Nat, e = .returned (.tuple #[.int .u64 (hi : Int), .int .u64 (lo : Int)]) ∧ Hid (x * y = hi * 18446744073709551616 + lo ∧ lo < 18446744073709551616 ∧ hi < 18446744073709551616) ∧ w = w' := by
  refine (mul64_c x y w hx hy).mono ?_
  rintro e w' ⟨rfl, rfl⟩
  have h1 : x * y < 18446744073709551616 * 18446744073709551616 := Nat.mul_lt_mul_of_lt_of_lt hx hy
  exact ⟨_, _, rfl, (by refine ⟨?_, ?_, ?_⟩ <;> omega), rfl⟩
theorem add64_v (x y : Nat) (w : World) : ∃ hi lo : Nat, (callFunc 75 #[.int .u64 (x : Int), .int .u64 (y : Int), .int .u64 0]).run Tryd.prog w = .ok (.value (.tuple #[.int .u64 (lo : Int), .int .u64 (hi : Int)])) w ∧ Hid (x + y = hi * 18446744073709551616 + lo ∧ lo < 18446744073709551616) := ⟨_, _, add64_0 x y w, (by constructor <;> omega)⟩
theorem infoU64 : (Tryd.prog.info? 22).map (fun i => (i.zero, i.size, i.bytes)) = some (some (.int .u64 0), 1, 8) := by kernel_rfl
theorem tp_step {n fz c i x hi lo h2 sm cc : Nat} (hX : Wd.wd W64 n i = x) (hC : Wd.cm W64 n fz c i = cc)
    (hmul : x * fz = hi * 18446744073709551616 + lo ∧ lo < 18446744073709551616 ∧ hi < 18446744073709551616) (hs : lo + cc = h2 * 18446744073709551616 + sm ∧ sm < 18446744073709551616) (hf : fz < 18446744073709551616) (hc : c < 18446744073709551616) :
    Wd.cm W64 n fz c (i + 1) = hi + h2 ∧ Wd.wd W64 (n * fz + c) i = sm ∧ hi + h2 < 18446744073709551616 := by
  have e1 := Wd.cm_succ W64_0 n fz c i
  have e2 := Wd.cm_word W64_0 n fz c i
  have e3 : Wd.cm W64 n fz c (i + 1) < W64 := Wd.cm_lt W64_0 hf hc (i + 1)
  rw [hX, hC] at e1 e2
  have e4 : x * fz + cc = (hi + h2) * W64 + sm := by unfold W64; omega
  have hsm : sm < W64 := hs.2
  rw [e4] at e1 e2
  have e5 : ((hi + h2) * W64 + sm) / W64 = hi + h2 := by
    rw [Nat.mul_comm, Nat.mul_add_div W64_0, Nat.div_eq_of_lt hsm, Nat.add_zero]
  have e6 : ((hi + h2) * W64 + sm) % W64 = sm := by
    rw [Nat.mul_comm, Nat.mul_add_mod, Nat.mod_eq_of_lt hsm]
  rw [e5] at e1
  rw [e6] at e2
  exact ⟨e1, e2, by rw [← e1]; exact e3⟩
set_option maxRecDepth 100000 in
set_option maxHeartbeats 1000000 in
theorem timesPlus_n (B g k cap n fz c : Nat) (w : World) (hr : Row 22 .u64 w B (.slice (some ⟨g, 0, none⟩) k cap) k (Wd.wd W64 n)) (hk : k ≤ 1000000) (hn : Hid (n < W64 ^ k)) (hA : Hid (((n * fz + c) / W64 ^ k = 0 → Wd.nw W64 (n * fz + c) = k) ∧ ((n * fz + c) / W64 ^ k ≠ 0 → Wd.nw W64 (n * fz + c) = k + 1))) (hf : fz < 18446744073709551616) (hc : c < 18446744073709551616) :
    Calls Tryd.prog 55 #[.slice (some ⟨g, 0, none⟩) k cap, .int .u64 fz, .int .u64 c] w fun e w' => ∃ v', e = .returned v' ∧ Row 22 .u64 w' B v' (Wd.nw W64 (n * fz + c)) (Wd.wd W64 (n * fz + c)) ∧ Below B w w' ∧ Inp w w' (.slice (some ⟨g, 0, none⟩) k cap) v' := by
  obtain ⟨i0, hi0, hz0, hz1, hz2⟩ := info_parts infoU64
  have hgB : B ≤ g ∧ g < w.heap.size := hr.lt g rfl
  go_enter Tryd.func55, Tryd.ntmps55
  go_wp2
  go_loopw [2, 15] (fun sc si wr => ∃ i : Nat, i ≤ k ∧ si = .int .i64 i ∧ sc = .int .u64 (Wd.cm W64 n fz c i : Nat) ∧ Hid (Row 22 .u64 wr B (.slice (some ⟨g, 0, none⟩) k cap) k (fun j => if j < i then Wd.wd W64 (n * fz + c) j else Wd.wd W64 n j)) ∧ Hid (Below B w wr) ∧ Hid (w.grownBy wr (some g))) (fun _ si _ => k - (intOf si).toNat)
  case atStart => exact ⟨0, Nat.zero_le _, rfl, by rw [Wd.cm_zero], hr.congr (fun j _ => by rw [if_neg (by omega)]), Below.refl _ _, gb_refl _ _⟩
  case round =>
    obtain ⟨i, hi, rfl, rfl, hrow, hgb, hgg⟩ := hrel
    have hcm : Wd.cm W64 n fz c i < 18446744073709551616 := Wd.cm_lt W64_0 hf hc i
    by_cases hlt : i < k
    · have hlt' : (i : Int) < (k : Int) := by omega
      have hcell := hrow.out.cell i hlt
      rw [if_neg (by omega)] at hcell
      have hfree := hrow.out.free i
      have hx := wd64 n i
      generalize hX : Wd.wd W64 n i = x at hcell hx
      generalize hC : Wd.cm W64 n fz c i = cc at hcm ⊢
      go_wp2_with (go_at_call 74; refine (mul64_v _ _ _ hx hf).mono ?_; rintro e w' ⟨hi, lo, rfl, hmul, rfl⟩)
      obtain ⟨h2, sm, hadd, hs⟩ := add64_v lo cc wr
      rw [hadd]
      clear hadd
      go_wp2
      obtain ⟨f1, f2, f3⟩ := tp_step hX hC hmul.out hs.out hf hc
      obtain ⟨p1, p2⟩ := hrow.out.put i sm
      refine ⟨⟨i + 1, by omega, by go_num, ?_, p1.congr ?_, hgb.out.setCell hgB.1 _, gb_trans hgg.out p2 (fun _ h => .inl h)⟩, ?_⟩
      · rw [f1, castAdd, wrapId _ f3]
      · intro j hj
        by_cases h : j = i
        · rw [if_pos h, if_pos (by omega), h, f2]
        · rw [if_neg h]
          by_cases h' : j < i
          · rw [if_pos h', if_pos (by omega)]
          · rw [if_neg h', if_neg (by omega)]
      · simp [intOf]; omega
    · have hlt' : decide ((i : Int) < (k : Int)) = false := decide_eq_false (by omega)
      have hik : i = k := by omega
      subst hik
      have hend : Hid (Wd.cm W64 n fz c i = (n * fz + c) / W64 ^ i) := Wd.cm_end hn.out
      have hrow2 : Hid (Row 22 .u64 wr B (.slice (some ⟨g, 0, none⟩) i cap) i (Wd.wd W64 (n * fz + c))) := hrow.out.congr (fun j hj => by rw [if_pos hj])
      have hgs := hgb.out.size
      have htop : Hid (Wd.wd W64 (n * fz + c) i = Wd.cm W64 n fz c i) := by
        show (n * fz + c) / W64 ^ i % W64 = _
        rw [← hend.out]; exact Nat.mod_eq_of_lt hcm
      generalize hC : Wd.cm W64 n fz c i = cc at hcm hend htop ⊢
      by_cases h0 : cc = 0
      · subst h0
        go_wp2
        go_ret
        rw [hA.out.1 hend.out.symm]
        exact ⟨_, rfl, hrow2.out, hgb.out, ⟨hgg.out, fun _ h => .inl h⟩⟩
      · have h0' : ((cc : Int) == 0) = false := beq_eq_false_iff_ne.2 (by omega)
        have h0'' : ((cc : Int) != 0) = true := by simp [bne, h0']
        go_wp2_with (at_builtin; refine wpList_append_fr _ rfl _ _ 63 rfl B 22 i0 (.int .u64 0) 1 8 Tryd.underlying63 hi0 hz0 hz1 hz2 rfl (by decide) _ _ _ rfl (hrow2.out.allocs _) ⟨wr.heap.size, 0, none⟩ 1 1 [.int .u64 (cc : Int)] rfl rfl ?c1 ?c2 ?c3 ?c4 ?c5 ?_)
        case c1 =>
          intro j u hj
          match j, hj with
          | 0, hj => simp at hj; subst hj; simp [Addr.add]
        case c2 => intro u hu; simp at hu; subst hu; rfl
        case c3 => unfold maxLen; omega
        case c4 => omega
        case c5 => simp; omega
        · intro v' w1 hown' hgrow hfr
          have hr3 : Hid (Row 22 .u64 w1 B v' (i + 1) (Wd.wd W64 (n * fz + c))) := by
            show World.ownsRow _ _ _ _ _ _ _
            rw [Cl_succ, htop.out]; exact hown'
          have hin : Hid (Below B w w1) := (hgb.out.alloc (by omega) _).grown hgrow (by simp; omega) (fun k' hk' => (hrow2.out.lt k' hk').1)
          have hip : Hid (Inp w w1 (.slice (some ⟨g, 0, none⟩) i cap) v') := ⟨gb_trans (gb_trans hgg.out (World.grownBy_alloc _ _ none) (fun _ h => by cases h)) hgrow (fun _ h => .inl h), fun b hb => by
            rcases hfr b hb with h | h
            · exact .inl h
            · right; (try simp at h); omega⟩
          clear hown' hgrow hfr
          go_wp2
          go_ret
          rw [hA.out.2 (fun q => h0 (hend.out.trans q))]
          exact ⟨_, rfl, hr3.out, hin.out, hip.out⟩
set_option maxRecDepth 100000 in
set_option maxHeartbeats 1000000 in
theorem timesPlus_0 (B fz c : Nat) (w : World) (hB : B ≤ w.heap.size) :
    Calls Tryd.prog 55 #[.slice none 0 0, .int .u64 fz, .int .u64 c] w fun e w' => ∃ v', e = .returned v' ∧ ((c = 0 ∧ v' = .slice none 0 0) ∨ (c ≠ 0 ∧ Row 22 .u64 w' B v' 1 (fun _ => c))) ∧ Below B w w' ∧ Inp w w' (.slice none 0 0) v' := by
  obtain ⟨i0, hi0, hz0, hz1, hz2⟩ := info_parts infoU64
  have hrow : Row 22 .u64 w B (.slice none 0 0) 0 (fun _ => c) := Row.nil _ _ _ _ _
  by_cases h0 : c = 0
  · subst h0
    go_enter Tryd.func55, Tryd.ntmps55
    go_wp2
    refine wp_loop_rounds 1 ?_
    rw [rounds_succ]
    go_wp2
    go_ret
    exact ⟨_, rfl, by simp, Below.refl _ _, Inp.refl _ _⟩
  · have h0' : ((c : Int) == 0) = false := beq_eq_false_iff_ne.2 (by omega)
    have h0'' : ((c : Int) != 0) = true := by simp [bne, h0']
    go_enter Tryd.func55, Tryd.ntmps55
    go_wp2
    refine wp_loop_rounds 1 ?_
    rw [rounds_succ]
    go_wp2_with (at_builtin; refine wpList_append_fr _ rfl _ _ 63 rfl B 22 i0 (.int .u64 0) 1 8 Tryd.underlying63 hi0 hz0 hz1 hz2 rfl (by decide) _ _ _ rfl (hrow.allocs _) ⟨w.heap.size, 0, none⟩ 1 1 [.int .u64 (c : Int)] rfl rfl ?c1 ?c2 ?c3 ?c4 ?c5 ?_)
    case c1 =>
      intro j u hj
      match j, hj with
      | 0, hj => simp at hj; subst hj; simp [Addr.add]
    case c2 => intro u hu; simp at hu; subst hu; rfl
    case c3 => unfold maxLen; omega
    case c4 => omega
    case c5 => simp; omega
    · intro v' w1 hown' hgrow hfr
      have hr3 : Hid (Row 22 .u64 w1 B v' 1 (fun _ => c)) := hown'
      have hin : Hid (Below B w w1) := ((Below.refl B w).alloc hB _).grown hgrow (by simp; omega) (fun k' hk' => (hrow.lt k' hk').1)
      have hip : Hid (Inp w w1 (.slice none 0 0) v') := ⟨gb_trans (World.grownBy_alloc _ _ none) hgrow (fun _ h => by cases h), fun b hb => by
        rcases hfr b hb with h | h
        · exact .inl h
        · right; (try simp at h); omega⟩
      clear hown' hgrow hfr
      go_wp2
      go_ret
      exact ⟨_, rfl, .inr ⟨h0, hr3.out⟩, hin.out, hip.out⟩
/-- a natural -/
def Nl (w : World) (B : Nat) (v : Value) (n : Nat) : Prop := Row 22 .u64 w B v (Wd.nw W64 n) (Wd.wd W64 n)
theorem nw1 {c : Nat} (h0 : c ≠ 0) (h : c < W64) : Wd.nw W64 c = 1 := Wd.nw_eq W64_2 (by rw [Nat.pow_one]; exact h) (.inr (by simp; omega))
theorem wd0 {c : Nat} (h : c < W64) : Wd.wd W64 c 0 = c := by unfold Wd.wd; rw [Nat.pow_zero, Nat.div_one, Nat.mod_eq_of_lt h]
theorem timesPlus_c (B n fz c : Nat) (v : Value) (w : World) (hB : B ≤ w.heap.size) (hr : Nl w B v n) (hk : Wd.nw W64 n ≤ 1000000) (hf : fz < 18446744073709551616) (hf0 : 0 < fz) (hc : c < 18446744073709551616) :
    Calls Tryd.prog 55 #[v, .int .u64 fz, .int .u64 c] w fun e w' => ∃ v', e = .returned v' ∧ Nl w' B v' (n * fz + c) ∧ Below B w w' ∧ Inp w w' v v' := by
  rcases Row.cases hr with ⟨rfl, h0⟩ | ⟨g, cap, rfl, _⟩
  · have hn : n = 0 := by
      apply Nat.eq_zero_of_not_pos
      intro h
      rw [Wd.nw_pos W64_2 h] at h0
      omega
    subst hn
    rw [Nat.zero_mul, Nat.zero_add]
    refine (timesPlus_0 B fz c w hB).mono ?_
    rintro e w' ⟨v', rfl, h1, h2, h3⟩
    refine ⟨v', rfl, ?_, h2, h3⟩
    rcases h1 with ⟨rfl, rfl⟩ | ⟨h3, h4⟩
    · unfold Nl; rw [Wd.nw_zero]; exact Row.nil _ _ _ _ _
    · unfold Nl; rw [nw1 h3 hc]; exact h4.congr fun j hj => by rw [show j = 0 by omega, wd0 hc]
  · refine (timesPlus_n B g _ cap n fz c w hr hk (Wd.lt_pow_nw W64_2 n) ?_ hf hc).mono ?_
    · have hlt : n * fz + c < W64 ^ (Wd.nw W64 n + 1) := by
        have h1 := Wd.lt_pow_nw W64_2 n
        rw [Nat.pow_succ]
        have h2 : (n + 1) * W64 ≤ W64 ^ Wd.nw W64 n * W64 := Nat.mul_le_mul_right _ h1
        have h3 : n * fz ≤ n * W64 := Nat.mul_le_mul_left _ (Nat.le_of_lt hf)
        have h4 : c < W64 := hc
        rw [Nat.add_mul, Nat.one_mul] at h2
        omega
      have hge : n ≤ n * fz + c := by
        have := Nat.mul_le_mul_left n hf0
        omega
      refine ⟨fun h => ?_, fun h => ?_⟩
      · have h1 : n * fz + c < W64 ^ Wd.nw W64 n := by
          rcases Nat.div_eq_zero_iff.1 h with h5 | h5
          · have := Nat.pow_pos (n := Wd.nw W64 n) W64_0; omega
          · exact h5
        exact Nat.le_antisymm (Wd.nw_le W64_2 h1) (Wd.nw_mono W64_2 hge)
      · refine Wd.nw_eq W64_2 hlt (.inr ?_)
        rw [Nat.add_sub_cancel]
        apply Nat.le_of_not_lt
        intro h5
        exact h (Nat.div_eq_of_lt h5)
    · rintro e w' ⟨v', rfl, h1, h2, h3⟩
      exact ⟨v', rfl, h1, h2, h3⟩
end Go.Proofs.YtmfnjmgdindlaaaDoor
/-
  The program's naturals: tens, timesTens, naturalOf, length, Clone.
-/
namespace Go.Proofs.YtmfnjmgdindlaaaDoor
open Flo Go.RowKit
theorem pow10_le {k m : Nat} (h : k ≤ m) : 10 ^ k ≤ 10 ^ m := Nat.pow_le_pow_right (by decide) h
set_option maxHeartbeats 1000000 in
theorem tens_c (k : Nat) (w : World) (hk : k ≤ 19) :
    Calls Tryd.prog 43 #[.int .i64 k] w fun e w' => ∃ p : Nat, e = .returned (.int .u64 (p : Int)) ∧ Hid (p = 10 ^ k) ∧ w = w' := by
  go_enter Tryd.func43, Tryd.ntmps43
  go_wp2
  go_loop [3, 5] (fun sp si => ∃ i p : Nat, i ≤ k ∧ Hid (p = 10 ^ i) ∧ sp = .int .u64 p ∧ si = .int .i64 i) (fun _ si => k - (intOf si).toNat)
  case atStart => exact ⟨0, 1, by omega, rfl, rfl, rfl⟩
  case round =>
    obtain ⟨i, p, hi, hp, rfl, rfl⟩ := hrel
    by_cases hlt : i < k
    · have hlt' : (i : Int) < (k : Int) := by omega
      have hpl : p ≤ 1000000000000000000 := by rw [hp.out]; exact pow10_le (show i ≤ 18 by omega)
      have e1 : IntKind.u64.wrap ((p : Int) * 10) = ((p * 10 : Nat) : Int) := by rw [show (10 : Int) = ((10 : Nat) : Int) from rfl, castMul]; exact wrapId _ (by omega)
      go_wp2
      go_round
      case rel => exact ⟨i + 1, p * 10, by omega, by rw [hp.out]; exact (Nat.pow_succ _ _).symm, rfl, by go_num⟩
      case measure => simp [intOf]; omega
    · have hlt' : decide ((i : Int) < (k : Int)) = false := decide_eq_false (by omega)
      have hik : i = k := by omega
      subst hik
      go_wp2
      go_ret
      exact ⟨p, rfl, hp, rfl⟩
theorem W64_pow (j : Nat) : W64 ^ j = 2 ^ (64 * j) := by rw [Nat.pow_mul]; rfl
theorem bitLen_top {n : Nat} (h : 0 < n) : bitLen n = 64 * (Wd.nw W64 n - 1) + bitLen (Wd.wd W64 n (Wd.nw W64 n - 1)) := by
  have h1 := Wd.pow_le_of_nw W64_2 h
  have h2 := Wd.lt_pow_nw W64_2 n
  have h3 := Wd.nw_pos W64_2 h
  have e : Wd.wd W64 n (Wd.nw W64 n - 1) = n / 2 ^ (64 * (Wd.nw W64 n - 1)) := by
    unfold Wd.wd
    rw [Nat.mod_eq_of_lt, W64_pow]
    rw [Nat.div_lt_iff_lt_mul (Nat.pow_pos W64_0), ← Nat.pow_succ', show (Wd.nw W64 n - 1).succ = Wd.nw W64 n by omega]
    exact h2
  rw [e]
  apply bitLen_shift
  intro h4
  rw [← W64_pow] at h4
  rcases Nat.div_eq_zero_iff.1 h4 with h5 | h5
  · have := Nat.pow_pos (n := Wd.nw W64 n - 1) W64_0; omega
  · omega
set_option maxRecDepth 100000 in
set_option maxHeartbeats 1000000 in
theorem length_n (B n g cap k : Nat) (w : World) (K : Nat) (hK : (K : Int) - 1 = (k : Int)) (hr : Hid (Row 22 .u64 w B (.slice (some ⟨g, 0, none⟩) K cap) K (Wd.wd W64 n))) (hk : k ≤ 1000000) (h : Hid (bitLen n = 64 * k + bitLen (Wd.wd W64 n k))) :
    Calls Tryd.prog 57 #[.slice (some ⟨g, 0, none⟩) K cap] w fun e w' => e = .returned (.int .i64 (bitLen n : Nat)) ∧ w = w' := by
  have hc := hr.out.cell k (by omega)
  have hx := wd64 n k
  have hb := bitLen_lt (s := Wd.wd W64 n k) (k := 64) hx
  generalize Wd.wd W64 n k = x at hc hx hb h
  generalize bitLen n = r at h
  have hx' : Hid ((x : Int) < 18446744073709551616) := (by omega : (x : Int) < 18446744073709551616)
  have hbH : Hid (bitLen x ≤ 64) := hb
  clear hx hb
  have hK0 : ((K : Int) == 0) = false := beq_eq_false_iff_ne.2 (by omega)
  have hKk : (k : Int) < (K : Int) := by omega
  go_enter Tryd.func57, Tryd.ntmps57
  go_wp2_with (go_at_call 40; refine (len64_c (x : Int) _ (Int.natCast_nonneg x) hx'.out).mono ?_; rintro e w' ⟨rfl, rfl⟩)
  go_ret
  refine ⟨ret_int ?_, rfl⟩
  have := h.out
  have := hbH.out
  unfold wrap64
  omega
set_option maxRecDepth 100000 in
set_option maxHeartbeats 1000000 in
theorem length_c (B n : Nat) (v : Value) (w : World) (hr : Nl w B v n) (hk : Wd.nw W64 n ≤ 1000000) :
    Calls Tryd.prog 57 #[v] w fun e w' => e = .returned (.int .i64 (bitLen n : Nat)) ∧ w = w' := by
  by_cases h0 : n = 0
  · subst h0
    obtain ⟨ao, cap, rfl⟩ := Row.slice hr
    have hz : Wd.nw W64 0 = 0 := Wd.nw_zero _
    go_enter Tryd.func57, Tryd.ntmps57
    go_wp2
    go_ret
    exact ⟨ret_int (by decide), rfl⟩
  · have h2 := Wd.nw_pos W64_2 (show 0 < n by omega)
    have h3 := bitLen_top (show 0 < n by omega)
    unfold Nl at hr
    generalize Wd.nw W64 n = k1 at *
    obtain ⟨k, rfl⟩ : ∃ k, k1 = k + 1 := ⟨k1 - 1, by omega⟩
    rcases Row.cases hr with ⟨rfl, h1⟩ | ⟨g, cap, rfl, _⟩
    · omega
    · exact length_n B n g cap k w (k + 1) (by omega) hr (by omega) h3
set_option maxRecDepth 100000 in
set_option maxHeartbeats 1000000 in
theorem naturalOf_c (x : Nat) (w : World) (hx : x < 18446744073709551616) :
    Calls Tryd.prog 36 #[.int .u64 x] w fun e w' => ∃ v', e = .returned v' ∧ Nl w' w.heap.size v' x ∧ Below w.heap.size w w' := by
  have hrow : Row 22 .u64 (w.alloc (.cells #[.int .u64 (x : Int)] 22)) w.heap.size (.slice (some ⟨w.heap.size, 0, none⟩) 1 1) 1 (Wd.wd W64 x) := by
    have := World.ownsRow_lit (base := w.heap.size) (e := 22) (size := 1) w #[.int .u64 (x : Int)] 1 (Nat.le_refl _) (by decide) rfl
    have h2 : Row 22 .u64 (w.alloc (.cells #[.int .u64 (x : Int)] 22)) w.heap.size (.slice (some ⟨w.heap.size, 0, none⟩) 1 1) 1 (fun _ => x) := this
    exact h2.congr fun j hj => by rw [show j = 0 by omega, wd0 hx]
  go_enter Tryd.func36, Tryd.ntmps36
  go_wp2_with (go_at_call 56; refine (trimmed_c w.heap.size 1 x _ _ hrow (by rw [Nat.pow_one]; exact hx)).mono ?_; rintro e w' ⟨v', rfl, hv, _, rfl⟩)
  go_ret
  exact ⟨_, rfl, hv, (Below.refl _ _).alloc (Nat.le_refl _) _⟩
set_option maxRecDepth 100000 in
set_option maxHeartbeats 1000000 in
theorem timesTens_c (B n k : Nat) (v : Value) (w : World) (hB : B ≤ w.heap.size) (hr : Nl w B v n) (hkk : k ≤ 100000) (hk : Wd.nw W64 (n * 10 ^ k) ≤ 1000000) :
    Calls Tryd.prog 37 #[v, .int .i64 k] w fun e w' => ∃ v', e = .returned v' ∧ Nl w' B v' (n * 10 ^ k) ∧ Below B w w' ∧ Inp w w' v v' := by
  have hkH : Hid (Wd.nw W64 (n * 10 ^ k) ≤ 1000000) := hk
  clear hk
  go_enter Tryd.func37, Tryd.ntmps37
  go_wp2
  go_loopw [0, 1] (fun sv sk wr => ∃ (j : Nat), j ≤ k ∧ sk = .int .i64 j ∧ Hid (∃ q, n * 10 ^ k = q * 10 ^ j ∧ Nl wr B sv q) ∧ Hid (Below B w wr) ∧ Hid (Inp w wr v sv)) (fun _ sk _ => (intOf sk).toNat)
  case atStart => exact ⟨k, Nat.le_refl _, rfl, ⟨n, rfl, hr⟩, Below.refl _ _, Inp.refl _ _⟩
  case round =>
    obtain ⟨j, hj, rfl, hq, hb, hip⟩ := hrel
    obtain ⟨q, hqe, hrow⟩ := hq.out
    have hBr : B ≤ wr.heap.size := Nat.le_trans hB hb.out.size
    have hqw : Hid (Wd.nw W64 q ≤ 1000000) := by
      refine Nat.le_trans (Wd.nw_mono W64_2 ?_) hkH.out
      rw [hqe]; exact Nat.le_mul_of_pos_right _ (Nat.pow_pos (by decide))
    have hqeH : Hid (n * 10 ^ k = q * 10 ^ j) := hqe
    have hrowH : Hid (Nl wr B u0 q) := hrow
    clear hqe hrow hq
    by_cases h : 19 ≤ j
    · have h' : (19 : Int) ≤ (j : Int) := by omega
      obtain ⟨i, rfl⟩ : ∃ i, j = i + 19 := ⟨j - 19, by omega⟩
      go_wp2_with (go_at_call 55; refine (timesPlus_c B q 10000000000000000000 0 u0 wr hBr hrowH.out hqw.out (by decide) (by decide) (by decide)).mono ?_; rintro e w' ⟨v', rfl, hv, hb2, hi2⟩)
      go_roundw
      case rel => exact ⟨i, by omega, by go_num, ⟨_, by rw [hqeH.out, Nat.pow_add, Nat.add_zero, Nat.mul_assoc, Nat.mul_comm (10 ^ i)], hv⟩, hb.out.trans hb2, hip.out.trans hi2⟩
      case measure => simp [intOf]; omega
    · have h' : decide ((19 : Int) ≤ (j : Int)) = false := decide_eq_false (by omega)
      go_wp2_with (go_at_call 43; refine (tens_c j _ (by omega)).mono ?_; rintro e w' ⟨p, rfl, hp, rfl⟩)
      have hp1 : p < 18446744073709551616 := by rw [hp.out]; exact Nat.lt_of_le_of_lt (pow10_le (show j ≤ 19 by omega)) (by decide)
      have hp0 : 0 < p := by rw [hp.out]; exact Nat.pow_pos (by decide)
      go_wp2_with (go_at_call 55; refine (timesPlus_c B q p 0 u0 wr hBr hrowH.out hqw.out hp1 hp0 (by decide)).mono ?_; rintro e w' ⟨v', rfl, hv, hb2, hi2⟩)
      go_ret
      refine ⟨_, rfl, ?_, hb.out.trans hb2, hip.out.trans hi2⟩
      rw [hqeH.out, ← hp.out]
      exact hv
end Go.Proofs.YtmfnjmgdindlaaaDoor
/-
  The program's naturals: Clone, below, halve, minus.
-/
namespace Go.Proofs.YtmfnjmgdindlaaaDoor
open Flo Go.RowKit
set_option maxRecDepth 100000 in
set_option maxHeartbeats 1000000 in
theorem clone_0 (w : World) :
    Calls Tryd.prog 76 #[.slice none 0 0] w fun e w' => e = .returned (.slice none 0 0) ∧ w = w' := by
  have q75 : ∀ (w : World) (a : Option Addr) (n c n' c' : Nat), (binOp .eql 63 (.slice a n c) (.slice none n' c')).run Tryd.prog w = .ok (.bool a.isNone) w := fun w a n c n' c' => Lib.run_eql_slice_nil w _ _ a n c n' c' Tryd.underlying63
  go_enter Tryd.func76, Tryd.ntmps76
  go_wp2
  go_ret
  exact ⟨rfl, rfl⟩
set_option maxRecDepth 100000 in
set_option maxHeartbeats 1000000 in
theorem clone_n (B g k cap : Nat) (f : Nat → Nat) (w : World) (hr : Hid (Row 22 .u64 w B (.slice (some ⟨g, 0, none⟩) k cap) k f)) (hk : k ≤ 1000000) :
    Calls Tryd.prog 76 #[.slice (some ⟨g, 0, none⟩) k cap] w fun e w' => ∃ v', e = .returned v' ∧ Row 22 .u64 w' w.heap.size v' k f ∧ Below w.heap.size w w' := by
  obtain ⟨i0, hi0, hz0, hz1, hz2⟩ := info_parts infoU64
  have hgB := hr.out.lt g rfl
  have hmade : Hid ((w.alloc (.cells #[] 22)).ownsRow w.heap.size 22 1 (.slice (some ⟨w.heap.size, 0, none⟩) 0 0) 0 []) := World.ownsRow_made w #[] 0 (Nat.le_refl _) (by decide) rfl
  have q75 : ∀ (w : World) (a : Option Addr) (n c n' c' : Nat), (binOp .eql 63 (.slice a n c) (.slice none n' c')).run Tryd.prog w = .ok (.bool a.isNone) w := fun w a n c n' c' => Lib.run_eql_slice_nil w _ _ a n c n' c' Tryd.underlying63
  go_enter Tryd.func76, Tryd.ntmps76
  go_wp2_with (at_builtin; refine wpList_append_own _ rfl _ _ 63 rfl w.heap.size 22 i0 (.int .u64 0) 1 8 Tryd.underlying63 hi0 hz0 hz1 hz2 rfl (by decide) _ _ _ rfl hmade.out ⟨g, 0, none⟩ k cap (Cl .u64 k f) rfl (by rw [Cl_len, Nat.mul_one]) ?c1 ?c2 ?c3 ?c4 ?c5 ?_)
  case c1 =>
    intro j u hj
    have hjk : j < k := by
      apply Nat.lt_of_not_le
      intro h
      rw [List.getElem?_eq_none (by rw [Cl_len]; exact h)] at hj
      cases hj
    rw [Cl_get .u64 f hjk] at hj
    have h1 := (hr.out.allocs (.cells #[] 22)).cell j hjk
    cases hj
    by_cases hj0 : j = 0
    · subst hj0; simpa [Addr.add] using h1
    · simpa [Addr.add, hj0] using h1
  case c2 =>
    intro u hu
    unfold Cl at hu
    obtain ⟨x, _, rfl⟩ := List.mem_map.1 hu
    rfl
  case c3 => unfold maxLen; omega
  case c4 => omega
  case c5 => simp
  · intro v' w1 hown' hgrow hnil
    have hr3 : Hid (Row 22 .u64 w1 w.heap.size v' k f) := hown'
    have hin : Hid (Below w.heap.size w w1) := ((Below.refl _ w).alloc (Nat.le_refl _) _).grown hgrow (by simp) (fun k' hk' => by simp [Value.ownBlock] at hk'; omega)
    clear hown' hgrow hnil
    go_wp2
    go_ret
    exact ⟨_, rfl, hr3.out, hin.out⟩
theorem clone_c (B n : Nat) (v : Value) (w : World) (hr : Nl w B v n) (hk : Wd.nw W64 n ≤ 1000000) :
    Calls Tryd.prog 76 #[v] w fun e w' => ∃ v', e = .returned v' ∧ Nl w' w.heap.size v' n ∧ Below w.heap.size w w' := by
  rcases Row.cases hr with ⟨rfl, h0⟩ | ⟨g, cap, rfl, _⟩
  · refine (clone_0 w).mono ?_
    rintro e w' ⟨rfl, rfl⟩
    refine ⟨_, rfl, ?_, Below.refl _ _⟩
    unfold Nl; rw [h0]; exact Row.nil _ _ _ _ _
  · exact clone_n B g _ cap _ w hr hk
set_option maxRecDepth 100000 in
set_option maxHeartbeats 1000000 in
theorem below_ne (ao bo : Option Addr) (k l c d : Nat) (w : World) (h : ((k : Int) != (l : Int)) = true) :
    Calls Tryd.prog 77 #[.slice ao k c, .slice bo l d] w fun e w' => e = .returned (.bool (decide (k < l))) ∧ w = w' := by
  go_enter Tryd.func77, Tryd.ntmps77
  go_wp2
  go_ret
  exact ⟨rfl, rfl⟩
set_option maxRecDepth 100000 in
set_option maxHeartbeats 1000000 in
theorem below_n (ao bo : Option Addr) (k c d m n : Nat) (w : World) (hk : k ≤ 1000000) (hm : Hid (m < W64 ^ k)) (hn : Hid (n < W64 ^ k))
    (h1 : Hid (0 < k → ∃ g, ao = some ⟨g, 0, none⟩ ∧ ∀ i, i < k → w.cell? ⟨g, i, none⟩ = some (.int .u64 (Wd.wd W64 m i : Nat))))
    (h2 : Hid (0 < k → ∃ g, bo = some ⟨g, 0, none⟩ ∧ ∀ i, i < k → w.cell? ⟨g, i, none⟩ = some (.int .u64 (Wd.wd W64 n i : Nat)))) :
    Calls Tryd.prog 77 #[.slice ao k c, .slice bo k d] w fun e w' => e = .returned (.bool (decide (m < n))) ∧ ∃ q, w' = w.drewN q := by
  go_enter Tryd.func77, Tryd.ntmps77
  go_wp2
  go_loopw [5] (fun si wr => ∃ (i q : Nat), i ≤ k ∧ si = .int .i64 ((i : Int) - 1) ∧ wr = w.drewN q ∧ Hid (m / W64 ^ i = n / W64 ^ i)) (fun si _ => (intOf si + 1).toNat)
  case atStart => exact ⟨k, 0, Nat.le_refl _, rfl, rfl, by show m / W64 ^ k = n / W64 ^ k; rw [Nat.div_eq_of_lt hm.out, Nat.div_eq_of_lt hn.out]⟩
  case round =>
    obtain ⟨i, q, hi, rfl, rfl, hd⟩ := hrel
    by_cases h0 : i = 0
    · subst h0
      have hmn : Hid (m = n) := by have h := hd.out; rw [Nat.pow_zero, Nat.div_one, Nat.div_one] at h; exact h
      go_wp2
      go_ret
      refine ⟨ret_bool ?_, _, rfl⟩
      rw [hmn.out]; simp
    · obtain ⟨j, rfl⟩ : ∃ j, i = j + 1 := ⟨i - 1, by omega⟩
      obtain ⟨g1, rfl, hc1⟩ := h1.out (by omega)
      obtain ⟨g2, rfl, hc2⟩ := h2.out (by omega)
      have e1 := hc1 j (by omega)
      have e2 := hc2 j (by omega)
      clear hc1 hc2 h1 h2
      have hj : (j : Int) < (k : Int) := by omega
      have hj0 : (((j + 1 : Nat) : Int) - 1) = (j : Int) := by omega
      have hxl := wd64 m j
      have hyl := wd64 n j
      have hlt : Hid (Wd.wd W64 m j < Wd.wd W64 n j → m < n) := fun h => Wd.cmp_lt hd.out h
      have hgt : Hid (Wd.wd W64 n j < Wd.wd W64 m j → n < m) := fun h => Wd.cmp_lt hd.out.symm h
      have heq : Hid (Wd.wd W64 m j = Wd.wd W64 n j → m / W64 ^ j = n / W64 ^ j) := fun h => Wd.cmp_eq hd.out h
      generalize Wd.wd W64 m j = x at e1 hxl hlt hgt heq
      generalize Wd.wd W64 n j = y at e2 hyl hlt hgt heq
      rw [hj0]
      clear hd hj0
      by_cases hxy : x = y
      · subst hxy
        have hnew : Hid (m / W64 ^ j = n / W64 ^ j) := heq.out rfl
        clear hlt hgt heq
        go_wp2_with fail
        go_quiet (fail)
        go_wp2
        go_roundw
        case rel => exact ⟨j, _, by omega, by go_num, rfl, hnew⟩
        case measure => simp [intOf]
      · have hxy' : ((x : Int) == (y : Int)) = false := beq_eq_false_iff_ne.2 (by omega)
        have hxy2 : ((x : Int) != (y : Int)) = true := by simp [bne, hxy']
        go_wp2_with fail
        go_quiet (fail)
        go_wp2_with fail
        go_quiet (fail)
        go_wp2
        go_ret
        refine ⟨ret_bool ?_, _, by rw [World.drewN_drewN, World.drewN_drewN]⟩
        have key : x < y ↔ m < n := ⟨hlt.out, fun h => by
          rcases Nat.lt_trichotomy x y with h3 | h3 | h3
          · exact h3
          · exact absurd h3 hxy
          · have := hgt.out h3; omega⟩
        exact decide_eq_decide.2 key
theorem Row.rd {T : TypeId} {κ : IntKind} {w : World} {B k cap : Nat} {ao : Option Addr} {f : Nat → Nat} (h : Row T κ w B (.slice ao k cap) k f) : 0 < k → ∃ g, ao = some ⟨g, 0, none⟩ ∧ ∀ i, i < k → w.cell? ⟨g, i, none⟩ = some (.int κ (f i : Nat)) := by
  intro hk
  rcases h.cases with ⟨_, h1⟩ | ⟨g, cap', h1, _⟩
  · omega
  · cases h1
    exact ⟨g, rfl, fun i hi => h.cell i hi⟩
theorem below_c (B C m n : Nat) (u v : Value) (w : World) (hu : Nl w B u m) (hv : Nl w C v n) (hk : Wd.nw W64 m ≤ 1000000) :
    Calls Tryd.prog 77 #[u, v] w fun e w' => e = .returned (.bool (decide (m < n))) ∧ ∃ q, w' = w.drewN q := by
  obtain ⟨ao, c, rfl⟩ := Row.slice hu
  obtain ⟨bo, d, rfl⟩ := Row.slice hv
  by_cases hl : Wd.nw W64 m = Wd.nw W64 n
  · have h1 := Wd.lt_pow_nw W64_2 m
    have h2 := Wd.lt_pow_nw W64_2 n
    unfold Nl at hu hv
    rw [← hl] at hv h2 ⊢
    exact below_n ao bo _ c d m n w hk h1 h2 (Row.rd hu) (Row.rd hv)
  · refine (below_ne ao bo _ _ c d w ?_).mono ?_
    · simp [bne]; omega
    · rintro e w' ⟨rfl, rfl⟩
      refine ⟨?_, 0, rfl⟩
      congr 2
      apply decide_eq_decide.2
      constructor
      · intro h
        apply Nat.lt_of_not_le
        intro h'
        have := Wd.nw_mono W64_2 h'
        omega
      · intro h
        have := Wd.nw_mono W64_2 (Nat.le_of_lt h)
        omega
end Go.Proofs.YtmfnjmgdindlaaaDoor
