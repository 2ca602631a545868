/-
  The program's naturals: length, timesPlus.
-/
import Derived.Test.YtoojjefndkdnpaaGreatDoorNop
import Derived.Test.YtoojjefndkdnpaaGreatDoorApf
import Derived.Test.YtoojjefndkdnpaaGreatDoorDig
import Derived.Test.YtoojjefndkdnpaaGreatDoorMod
import Derived.Laws.Externs
namespace Go.Proofs.YtoojjefndkdnpaaGreatDoor
open Flo Go.RowKit
theorem add64_r (x y c : Nat) (hc : c ≤ 1) (w : World) : (callFunc 96 #[.int .u64 (x : Int), .int .u64 (y : Int), .int .u64 (c : Int)]).run Tryz.prog w =
    .ok (.value (.tuple #[.int .u64 (((x + y + c) % 18446744073709551616 : Nat) : Int), .int .u64 (((x + y + c) / 18446744073709551616 : Nat) : Int)])) w := by
  rw [run_callFunc_extern (P := Tryz.prog) (f := 96) (fn := Tryz.f96) (by kernel_rfl) (by kernel_rfl) (by kernel_rfl) (by kernel_rfl) (e := add64Entry) (by kernel_rfl), run_add64 x y c (by omega) (by omega) (by omega) (by omega)]
  simp only [Result.andThen]
  congr 5 <;> omega
theorem add64_0 (x y : Nat) (w : World) : (callFunc 96 #[.int .u64 (x : Int), .int .u64 (y : Int), .int .u64 0]).run Tryz.prog w =
    .ok (.value (.tuple #[.int .u64 (((x + y) % 18446744073709551616 : Nat) : Int), .int .u64 (((x + y) / 18446744073709551616 : Nat) : Int)])) w := add64_r x y 0 (by omega) w
theorem mul64_v (x y : Nat) (w : World) (hx : x < 18446744073709551616) (hy : y < 18446744073709551616) :
    Calls Tryz.prog 95 #[.int .u64 x, .int .u64 y] w fun e w' => ∃ hi lo : Nat, e = .returned (.tuple #[.int .u64 (hi : Int), .int .u64 (lo : Int)]) ∧ Hid (x * y = hi * 18446744073709551616 + lo ∧ lo < 18446744073709551616 ∧ hi < 18446744073709551616) ∧ w = w' := by
  refine (mul64_c x y w hx hy).mono ?_
  rintro e w' ⟨rfl, rfl⟩
  have h1 : x * y < 18446744073709551616 * 18446744073709551616 := Nat.mul_lt_mul_of_lt_of_lt hx hy
  exact ⟨_, _, rfl, (by refine ⟨?_, ?_, ?_⟩ <;> omega), rfl⟩
theorem add64_v (x y : Nat) (w : World) : ∃ hi lo : Nat, (callFunc 96 #[.int .u64 (x : Int), .int .u64 (y : Int), .int .u64 0]).run Tryz.prog w = .ok (.value (.tuple #[.int .u64 (lo : Int), .int .u64 (hi : Int)])) w ∧ Hid (x + y = hi * 18446744073709551616 + lo ∧ lo < 18446744073709551616) := ⟨_, _, add64_0 x y w, (by constructor <;> omega)⟩
theorem infoU64 : (Tryz.prog.info? 22).map (fun i => (i.zero, i.size, i.bytes)) = some (some (.int .u64 0), 1, 8) := by kernel_rfl
theorem tp_step {n fz c i x hi lo h2 sm cc : Nat} (hX : Wd.wd W64 n i = x) (hC : Wd.cm W64 n fz c i = cc)
    (hmul : x * fz = hi * 18446744073709551616 + lo ∧ lo < 18446744073709551616 ∧ hi < 18446744073709551616) (hs : lo + cc = h2 * 18446744073709551616 + sm ∧ sm < 18446744073709551616) (hf : fz < 18446744073709551616) (hc : c < 18446744073709551616) :
    Wd.cm W64 n fz c (i + 1) = hi + h2 ∧ Wd.wd W64 (n * fz + c) i = sm ∧ hi + h2 < 18446744073709551616 := by
  have e1 := Wd.cm_succ W64_0 n fz c i
  have e2 := Wd.cm_word W64_0 n fz c i
  have e3 : Wd.cm W64 n fz c (i + 1) < W64 := Wd.cm_lt W64_0 hf hc (i + 1)
  rw [hX, hC] at e1 e2
  have e4 : x * fz + cc = (hi + h2) * W64 + sm := by unfold W64; omega
  have hsm : sm < W64 := hs.2
  rw [e4] at e1 e2
  have e5 : ((hi + h2) * W64 + sm) / W64 = hi + h2 := by
    rw [Nat.mul_comm, Nat.mul_add_div W64_0, Nat.div_eq_of_lt hsm, Nat.add_zero]
  have e6 : ((hi + h2) * W64 + sm) % W64 = sm := by
    rw [Nat.mul_comm, Nat.mul_add_mod, Nat.mod_eq_of_lt hsm]
  rw [e5] at e1
  rw [e6] at e2
  exact ⟨e1, e2, by rw [← e1]; exact e3⟩
set_option maxRecDepth 100000 in
set_option maxHeartbeats 1000000 in
theorem timesPlus_n (B g k cap n fz c : Nat) (w : World) (hr : Row 22 .u64 w B (.slice (some ⟨g, 0, none⟩) k cap) k (Wd.wd W64 n)) (hk : k ≤ 1000000) (hn : Hid (n < W64 ^ k)) (hA : Hid (((n * fz + c) / W64 ^ k = 0 → Wd.nw W64 (n * fz + c) = k) ∧ ((n * fz + c) / W64 ^ k ≠ 0 → Wd.nw W64 (n * fz + c) = k + 1))) (hf : fz < 18446744073709551616) (hc : c < 18446744073709551616) :
    Calls Tryz.prog 73 #[.slice (some ⟨g, 0, none⟩) k cap, .int .u64 fz, .int .u64 c] w fun e w' => ∃ v', e = .returned v' ∧ Row 22 .u64 w' B v' (Wd.nw W64 (n * fz + c)) (Wd.wd W64 (n * fz + c)) ∧ Below B w w' ∧ Inp w w' (.slice (some ⟨g, 0, none⟩) k cap) v' := by
  obtain ⟨i0, hi0, hz0, hz1, hz2⟩ := info_parts infoU64
  have hgB : B ≤ g ∧ g < w.heap.size := hr.lt g rfl
  go_enter Tryz.func73, Tryz.ntmps73
  go_wp2
  go_loopw [2, 15] (fun sc si wr => ∃ i : Nat, i ≤ k ∧ si = .int .i64 i ∧ sc = .int .u64 (Wd.cm W64 n fz c i : Nat) ∧ Hid (Row 22 .u64 wr B (.slice (some ⟨g, 0, none⟩) k cap) k (fun j => if j < i then Wd.wd W64 (n * fz + c) j else Wd.wd W64 n j)) ∧ Hid (Below B w wr) ∧ Hid (w.grownBy wr (some g))) (fun _ si _ => k - (intOf si).toNat)
  case atStart => exact ⟨0, Nat.zero_le _, rfl, by rw [Wd.cm_zero], hr.congr (fun j _ => by rw [if_neg (by omega)]), Below.refl _ _, gb_refl _ _⟩
  case round =>
    obtain ⟨i, hi, rfl, rfl, hrow, hgb, hgg⟩ := hrel
    have hcm : Wd.cm W64 n fz c i < 18446744073709551616 := Wd.cm_lt W64_0 hf hc i
    by_cases hlt : i < k
    · have hlt' : (i : Int) < (k : Int) := by omega
      have hcell := hrow.out.cell i hlt
      rw [if_neg (by omega)] at hcell
      have hfree := hrow.out.free i
      have hx := wd64 n i
      generalize hX : Wd.wd W64 n i = x at hcell hx
      generalize hC : Wd.cm W64 n fz c i = cc at hcm ⊢
      go_wp2_with (go_at_call 95; refine (mul64_v _ _ _ hx hf).mono ?_; rintro e w' ⟨hi, lo, rfl, hmul, rfl⟩)
      obtain ⟨h2, sm, hadd, hs⟩ := add64_v lo cc wr
      rw [hadd]
      clear hadd
      go_wp2
      obtain ⟨f1, f2, f3⟩ := tp_step hX hC hmul.out hs.out hf hc
      obtain ⟨p1, p2⟩ := hrow.out.put i sm
      refine ⟨⟨i + 1, by omega, by go_num, ?_, p1.congr ?_, hgb.out.setCell hgB.1 _, gb_trans hgg.out p2 (fun _ h => .inl h)⟩, ?_⟩
      · rw [f1, castAdd, wrapId _ f3]
      · intro j hj
        by_cases h : j = i
        · rw [if_pos h, if_pos (by omega), h, f2]
        · rw [if_neg h]
          by_cases h' : j < i
          · rw [if_pos h', if_pos (by omega)]
          · rw [if_neg h', if_neg (by omega)]
      · simp [intOf]; omega
    · have hlt' : decide ((i : Int) < (k : Int)) = false := decide_eq_false (by omega)
      have hik : i = k := by omega
      subst hik
      have hend : Hid (Wd.cm W64 n fz c i = (n * fz + c) / W64 ^ i) := Wd.cm_end hn.out
      have hrow2 : Hid (Row 22 .u64 wr B (.slice (some ⟨g, 0, none⟩) i cap) i (Wd.wd W64 (n * fz + c))) := hrow.out.congr (fun j hj => by rw [if_pos hj])
      have hgs := hgb.out.size
      have htop : Hid (Wd.wd W64 (n * fz + c) i = Wd.cm W64 n fz c i) := by
        show (n * fz + c) / W64 ^ i % W64 = _
        rw [← hend.out]; exact Nat.mod_eq_of_lt hcm
      generalize hC : Wd.cm W64 n fz c i = cc at hcm hend htop ⊢
      by_cases h0 : cc = 0
      · subst h0
        go_wp2
        go_ret
        rw [hA.out.1 hend.out.symm]
        exact ⟨_, rfl, hrow2.out, hgb.out, ⟨hgg.out, fun _ h => .inl h⟩⟩
      · have h0' : ((cc : Int) == 0) = false := beq_eq_false_iff_ne.2 (by omega)
        have h0'' : ((cc : Int) != 0) = true := by simp [bne, h0']
        go_wp2_with (at_builtin; refine wpList_append_fr _ rfl _ _ 75 rfl B 22 i0 (.int .u64 0) 1 8 Tryz.underlying75 hi0 hz0 hz1 hz2 rfl (by decide) _ _ _ rfl (hrow2.out.allocs _) ⟨wr.heap.size, 0, none⟩ 1 1 [.int .u64 (cc : Int)] rfl rfl ?c1 ?c2 ?c3 ?c4 ?c5 ?_)
        case c1 =>
          intro j u hj
          match j, hj with
          | 0, hj => simp at hj; subst hj; simp [Addr.add]
        case c2 => intro u hu; simp at hu; subst hu; rfl
        case c3 => unfold maxLen; omega
        case c4 => omega
        case c5 => simp; omega
        · intro v' w1 hown' hgrow hfr
          have hr3 : Hid (Row 22 .u64 w1 B v' (i + 1) (Wd.wd W64 (n * fz + c))) := by
            show World.ownsRow _ _ _ _ _ _ _
            rw [Cl_succ, htop.out]; exact hown'
          have hin : Hid (Below B w w1) := (hgb.out.alloc (by omega) _).grown hgrow (by simp; omega) (fun k' hk' => (hrow2.out.lt k' hk').1)
          have hip : Hid (Inp w w1 (.slice (some ⟨g, 0, none⟩) i cap) v') := ⟨gb_trans (gb_trans hgg.out (World.grownBy_alloc _ _ none) (fun _ h => by cases h)) hgrow (fun _ h => .inl h), fun b hb => by
            rcases hfr b hb with h | h
            · exact .inl h
            · right; (try simp at h); omega⟩
          clear hown' hgrow hfr
          go_wp2
          go_ret
          rw [hA.out.2 (fun q => h0 (hend.out.trans q))]
          exact ⟨_, rfl, hr3.out, hin.out, hip.out⟩
set_option maxRecDepth 100000 in
set_option maxHeartbeats 1000000 in
theorem timesPlus_0 (B fz c : Nat) (w : World) (hB : B ≤ w.heap.size) :
    Calls Tryz.prog 73 #[.slice none 0 0, .int .u64 fz, .int .u64 c] w fun e w' => ∃ v', e = .returned v' ∧ ((c = 0 ∧ v' = .slice none 0 0) ∨ (c ≠ 0 ∧ Row 22 .u64 w' B v' 1 (fun _ => c))) ∧ Below B w w' ∧ Inp w w' (.slice none 0 0) v' := by
  obtain ⟨i0, hi0, hz0, hz1, hz2⟩ := info_parts infoU64
  have hrow : Row 22 .u64 w B (.slice none 0 0) 0 (fun _ => c) := Row.nil _ _ _ _ _
  by_cases h0 : c = 0
  · subst h0
    go_enter Tryz.func73, Tryz.ntmps73
    go_wp2
    refine wp_loop_rounds 1 ?_
    rw [rounds_succ]
    go_wp2
    go_ret
    exact ⟨_, rfl, by simp, Below.refl _ _, Inp.refl _ _⟩
  · have h0' : ((c : Int) == 0) = false := beq_eq_false_iff_ne.2 (by omega)
    have h0'' : ((c : Int) != 0) = true := by simp [bne, h0']
    go_enter Tryz.func73, Tryz.ntmps73
    go_wp2
    refine wp_loop_rounds 1 ?_
    rw [rounds_succ]
    go_wp2_with (at_builtin; refine wpList_append_fr _ rfl _ _ 75 rfl B 22 i0 (.int .u64 0) 1 8 Tryz.underlying75 hi0 hz0 hz1 hz2 rfl (by decide) _ _ _ rfl (hrow.allocs _) ⟨w.heap.size, 0, none⟩ 1 1 [.int .u64 (c : Int)] rfl rfl ?c1 ?c2 ?c3 ?c4 ?c5 ?_)
    case c1 =>
      intro j u hj
      match j, hj with
      | 0, hj => simp at hj; subst hj; simp [Addr.add]
    case c2 => intro u hu; simp at hu; subst hu; rfl
    case c3 => unfold maxLen; omega
    case c4 => omega
    case c5 => simp; omega
    · intro v' w1 hown' hgrow hfr
      have hr3 : Hid (Row 22 .u64 w1 B v' 1 (fun _ => c)) := hown'
      have hin : Hid (Below B w w1) := ((Below.refl B w).alloc hB _).grown hgrow (by simp; omega) (fun k' hk' => (hrow.lt k' hk').1)
      have hip : Hid (Inp w w1 (.slice none 0 0) v') := ⟨gb_trans (World.grownBy_alloc _ _ none) hgrow (fun _ h => by cases h), fun b hb => by
        rcases hfr b hb with h | h
        · exact .inl h
        · right; (try simp at h); omega⟩
      clear hown' hgrow hfr
      go_wp2
      go_ret
      exact ⟨_, rfl, .inr ⟨h0, hr3.out⟩, hin.out, hip.out⟩
/-- a natural -/
def Nl (w : World) (B : Nat) (v : Value) (n : Nat) : Prop := Row 22 .u64 w B v (Wd.nw W64 n) (Wd.wd W64 n)
theorem nw1 {c : Nat} (h0 : c ≠ 0) (h : c < W64) : Wd.nw W64 c = 1 := Wd.nw_eq W64_2 (by rw [Nat.pow_one]; exact h) (.inr (by simp; omega))
theorem wd0 {c : Nat} (h : c < W64) : Wd.wd W64 c 0 = c := by unfold Wd.wd; rw [Nat.pow_zero, Nat.div_one, Nat.mod_eq_of_lt h]
theorem timesPlus_c (B n fz c : Nat) (v : Value) (w : World) (hB : B ≤ w.heap.size) (hr : Nl w B v n) (hk : Wd.nw W64 n ≤ 1000000) (hf : fz < 18446744073709551616) (hf0 : 0 < fz) (hc : c < 18446744073709551616) :
    Calls Tryz.prog 73 #[v, .int .u64 fz, .int .u64 c] w fun e w' => ∃ v', e = .returned v' ∧ Nl w' B v' (n * fz + c) ∧ Below B w w' ∧ Inp w w' v v' := by
  rcases Row.cases hr with ⟨rfl, h0⟩ | ⟨g, cap, rfl, _⟩
  · have hn : n = 0 := by
      apply Nat.eq_zero_of_not_pos
      intro h
      rw [Wd.nw_pos W64_2 h] at h0
      omega
    subst hn
    rw [Nat.zero_mul, Nat.zero_add]
    refine (timesPlus_0 B fz c w hB).mono ?_
    rintro e w' ⟨v', rfl, h1, h2, h3⟩
    refine ⟨v', rfl, ?_, h2, h3⟩
    rcases h1 with ⟨rfl, rfl⟩ | ⟨h3, h4⟩
    · unfold Nl; rw [Wd.nw_zero]; exact Row.nil _ _ _ _ _
    · unfold Nl; rw [nw1 h3 hc]; exact h4.congr fun j hj => by rw [show j = 0 by omega, wd0 hc]
  · refine (timesPlus_n B g _ cap n fz c w hr hk (Wd.lt_pow_nw W64_2 n) ?_ hf hc).mono ?_
    · have hlt : n * fz + c < W64 ^ (Wd.nw W64 n + 1) := by
        have h1 := Wd.lt_pow_nw W64_2 n
        rw [Nat.pow_succ]
        have h2 : (n + 1) * W64 ≤ W64 ^ Wd.nw W64 n * W64 := Nat.mul_le_mul_right _ h1
        have h3 : n * fz ≤ n * W64 := Nat.mul_le_mul_left _ (Nat.le_of_lt hf)
        have h4 : c < W64 := hc
        rw [Nat.add_mul, Nat.one_mul] at h2
        omega
      have hge : n ≤ n * fz + c := by
        have := Nat.mul_le_mul_left n hf0
        omega
      refine ⟨fun h => ?_, fun h => ?_⟩
      · have h1 : n * fz + c < W64 ^ Wd.nw W64 n := by
          rcases Nat.div_eq_zero_iff.1 h with h5 | h5
          · have := Nat.pow_pos (n := Wd.nw W64 n) W64_0; omega
          · exact h5
        exact Nat.le_antisymm (Wd.nw_le W64_2 h1) (Wd.nw_mono W64_2 hge)
      · refine Wd.nw_eq W64_2 hlt (.inr ?_)
        rw [Nat.add_sub_cancel]
        apply Nat.le_of_not_lt
        intro h5
        exact h (Nat.div_eq_of_lt h5)
    · rintro e w' ⟨v', rfl, h1, h2, h3⟩
      exact ⟨v', rfl, h1, h2, h3⟩
end Go.Proofs.YtoojjefndkdnpaaGreatDoor
