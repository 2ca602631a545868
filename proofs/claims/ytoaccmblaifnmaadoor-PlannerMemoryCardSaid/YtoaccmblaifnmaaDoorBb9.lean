/-
  What PlannerLists and its fellows rest on, joined: Fc5 Pg4 Cpx Rts Ds0 Clx Ps7 Pt7 Dp1 Ch1 Ch2.
-/
import Derived.Test.YtoaccmblaifnmaaDoorProg
import Derived.WalkKit
import Ieee.Arith
import Derived.WalkLawsBesides
import Derived.Outline
import Derived.Deep.QuietTactic
import Derived.BigQuiet
import Derived.WalkSmall
import Derived.RegionTactic
import Derived.Lib.Mul64
import Derived.Laws.Bits64b
import Derived.Deep.CutBlock
import Derived.Deep.DeepCutAuto
import Derived.Test.YtoaccmblaifnmaaDoorRows
import Derived.LaidEql
import Derived.LaidLaws
import Derived.LaidHandle
import Derived.Stop.Joined
import Derived.Laws.CopyOwn
import Derived.Laws.FloatArith
import Derived.Laws.ComplexArith
import Derived.Laws.MakeOwn
import Derived.OwnWalk
import Derived.Test.YtoaccmblaifnmaaDoorBb3
import Derived.Test.YtoaccmblaifnmaaDoorBa2
import Derived.Test.YtoaccmblaifnmaaDoorBa4
import Derived.Test.YtoaccmblaifnmaaDoorBb8
import Derived.Test.YtoaccmblaifnmaaDoorBa8
import Derived.Test.YtoaccmblaifnmaaDoorBa1
namespace Go.Proofs.YtoaccmblaifnmaaDoor
open Flo Go.RowKit

set_option maxHeartbeats 2000000 in
theorem r5Factors_no (n : Int) (w : World) (h : n < 2 ∨ 4294967296 < n) :
    Calls Tryd.prog 104 #[.int .i64 n] w fun e w' => e = .returned (.slice none 0 0) ∧ w = w' := by
  by_cases h1 : n < 2
  · go_enter Tryd.func104, Tryd.ntmps104
    go_wp2
    go_ret
    exact ⟨rfl, rfl⟩
  · have c1 : decide (n < 2) = false := decide_eq_false h1
    have c2 : 4294967296 < n := by omega
    clear h
    go_enter Tryd.func104, Tryd.ntmps104
    go_wp2
    go_ret
    exact ⟨rfl, rfl⟩
set_option maxRecDepth 100000 in
set_option maxHeartbeats 2000000 in
theorem r5Factors_n (n : Nat) (w : World) (h2 : 2 ≤ n) (hn : n ≤ 4294967296) :
    Calls Tryd.prog 104 #[.int .i64 n] w fun e w' => ∃ v zs, e = .returned v ∧ Nt.Fac n zs ∧ w'.ownsRow w.heap.size 3 1 v zs.length (il zs) ∧ Below w.heap.size w w' := by
  obtain ⟨i0, hi, hz0, hz1, hz2⟩ := info_parts infoInt
  have c1 : decide ((n : Int) < 2) = false := decide_eq_false (by omega)
  have c2 : decide ((4294967296 : Int) < (n : Int)) = false := decide_eq_false (by omega)
  have hst : Hid (Nt.Tri n 2 n []) := Nt.Tri.start (by omega)
  have hnH : Hid (n ≤ 4294967296) := hn
  have h2H : Hid (2 ≤ n) := h2
  clear hn h2
  go_enter Tryd.func104, Tryd.ntmps104
  go_wp2
  go_loopw [0, 3, 4] (fun sn v sd wr => ∃ (N d : Nat) (zs : List Nat), Hid (Nt.Tri n d N zs) ∧ d ≤ 65537 ∧ sn = .int .i64 N ∧ sd = .int .i64 d ∧ wr.ownsRow w.heap.size 3 1 v zs.length (il zs) ∧ Below w.heap.size w wr) (fun _ _ sd _ => (n + 1) - (intOf sd).toNat)
  case atStart => exact ⟨n, 2, [], hst, by omega, rfl, rfl, World.ownsRow_nil _ _ _ _, Below.refl _ _⟩
  case round =>
    obtain ⟨N, d, zs, hT, hd, rfl, rfl, hown, hbl⟩ := hrel
    have hd2 : 2 ≤ d := hT.out.2.2.2.2.2
    have hNn : N ≤ n := hT.out.le
    have hN0 : 0 < N := hT.out.2.2.2.2.1
    have hlen : zs.length ≤ 32 := hT.out.len hnH.out
    have hnn := hnH.out
    obtain ⟨t, ht⟩ : ∃ t : Nat, t = d * d := ⟨_, rfl⟩
    have htl : t ≤ 4295098369 := by rw [ht]; exact Nat.mul_le_mul hd hd
    have ed : wrap64 ((d : Int) * (d : Int)) = (t : Int) := by
      rw [castMul, ← ht]; unfold wrap64; omega
    by_cases hc : t ≤ N
    · have hc' : (t : Int) ≤ (N : Int) := by omega
      have hd' : d < 65537 := by
        apply Nat.lt_of_not_le
        intro h9
        have : 4295098369 ≤ d * d := Nat.mul_le_mul h9 h9
        omega
      have hdn : d ≤ n := by
        have : d * 1 ≤ d * d := Nat.mul_le_mul_left d (by omega)
        omega
      have dz : ((d : Int) == 0) = false := beq_eq_false_iff_ne.2 (by omega)
      clear ht htl hc hNn hN0 hlen hnn
      go_wp2
      clear hc'
      go_loopw [0, 3] (fun sn v wx => ∃ (M : Nat) (ys : List Nat), Hid (Nt.Tri n d M ys) ∧ sn = .int .i64 M ∧ wx.ownsRow w.heap.size 3 1 v ys.length (il ys) ∧ Below w.heap.size w wx) (fun sn _ _ => (intOf sn).toNat)
      case atStart => exact ⟨N, zs, hT, rfl, hown, hbl⟩
      case round =>
        clear hT hown hbl
        obtain ⟨M, ys, hT, rfl, hown, hbl⟩ := hrel
        clear ed
        have hMn : M ≤ n := hT.out.le
        have hM0 : 0 < M := hT.out.2.2.2.2.1
        have hlen : ys.length ≤ 32 := hT.out.len hnH.out
        have hnn := hnH.out
        have hsz := hbl.size
        by_cases hm : M % d = 0
        · have m1 : ((M : Int) % (d : Int) == 0) = true := by rw [beq_iff_eq]; omega
          have hnew : Hid (Nt.Tri n d (M / d) (ys ++ [d])) := hT.out.push hm
          have hsn : Hid (il (ys ++ [d]) = il ys ++ [.int .i64 (d : Int)]) := il_snoc ys d
          obtain ⟨q, hq⟩ : ∃ q : Nat, q = M / d := ⟨_, rfl⟩
          have hqM : q < M := by rw [hq]; exact Nat.div_lt_self hM0 (by omega)
          have eq1 : wrap64 ((M : Int) / (d : Int)) = (q : Int) := by
            rw [show (M : Int) / (d : Int) = ((M / d : Nat) : Int) from rfl, ← hq]; unfold wrap64; omega
          rw [← hq] at hnew
          clear hm hq hM0 hMn hT
          go_wp2_with (at_builtin; refine wpList_append_own _ rfl _ _ 43 rfl w.heap.size 3 i0 (.int .i64 0) 1 8 Tryd.underlying43 hi hz0 hz1 hz2 rfl (by decide) _ _ _ rfl (hown.alloc _) ⟨wr.heap.size, 0, none⟩ 1 1 [.int .i64 (d : Int)] rfl rfl ?c1 ?c2 ?c3 ?c4 ?c5 ?_)
          case c1 =>
            intro j u hj
            match j, hj with
            | 0, hj => simp at hj; subst hj; simp [Addr.add]
          case c2 => intro u hu; simp at hu; subst hu; rfl
          case c3 => unfold maxLen; omega
          case c4 => omega
          case c5 => simp; omega
          · intro v' w1 hown' hgrow hnil
            have hbl' : Below w.heap.size w w1 := (hbl.alloc hsz _).grown hgrow (by simp; omega) (fun k' hk' => (hown.lt k' hk').1)
            rw [← hsn.out] at hown'
            have hl : (ys ++ [d]).length = ys.length + 1 := by simp
            clear hown hgrow hnil hbl
            go_wp2
            rw [eq1]
            clear eq1
            go_roundw
            case rel => exact ⟨q, ys ++ [d], hnew, rfl, by rw [hl]; exact hown', hbl'⟩
            case measure => simp [intOf]; exact hqM
        · have m1 : ((M : Int) % (d : Int) == 0) = false := beq_eq_false_iff_ne.2 (by omega)
          have hnew : Hid (Nt.Tri n (d + 1) M ys) := hT.out.next hm
          have hwd : wrap64 ((d : Int) + 1) = ((d + 1 : Nat) : Int) := by unfold wrap64; omega
          clear hm hM0 hMn hT
          go_wp2
          go_roundw
          case rel => exact ⟨M, d + 1, ys, hnew, by omega, rfl, by go_num, hown, hbl⟩
          case measure => simp [intOf]; omega
    · have hc' : decide ((t : Int) ≤ (N : Int)) = false := decide_eq_false (by omega)
      have hlt : Hid (N < d * d) := (by omega : N < d * d)
      have hsz := hbl.size
      by_cases h1 : 1 < N
      · have k1 : (1 : Int) < (N : Int) := by omega
        have hf : Hid (Nt.Fac n (zs ++ [N])) := hT.out.last hlt.out h1
        have hsn : Hid (il (zs ++ [N]) = il zs ++ [.int .i64 (N : Int)]) := il_snoc zs N
        clear ht htl hNn hN0 h1
        go_wp2_with (at_builtin; refine wpList_append_own _ rfl _ _ 43 rfl w.heap.size 3 i0 (.int .i64 0) 1 8 Tryd.underlying43 hi hz0 hz1 hz2 rfl (by decide) _ _ _ rfl (hown.alloc _) ⟨wr.heap.size, 0, none⟩ 1 1 [.int .i64 (N : Int)] rfl rfl ?c1 ?c2 ?c3 ?c4 ?c5 ?_)
        case c1 =>
          intro j u hj
          match j, hj with
          | 0, hj => simp at hj; subst hj; simp [Addr.add]
        case c2 => intro u hu; simp at hu; subst hu; rfl
        case c3 => unfold maxLen; omega
        case c4 => omega
        case c5 => simp; omega
        · intro v' w1 hown' hgrow hnil
          have hbl' : Below w.heap.size w w1 := (hbl.alloc hsz _).grown hgrow (by simp; omega) (fun k' hk' => (hown.lt k' hk').1)
          rw [← hsn.out] at hown'
          have hl : (zs ++ [N]).length = zs.length + 1 := by simp
          clear hown hgrow hnil hbl
          go_wp2
          go_ret
          exact ⟨_, zs ++ [N], rfl, hf.out, by rw [hl]; exact hown', hbl'⟩
      · have e1 : N = 1 := by omega
        subst e1
        have hf : Hid (Nt.Fac n zs) := hT.out.done
        clear ht htl hNn hN0 h1
        go_wp2
        go_ret
        exact ⟨_, zs, rfl, hf.out, hown, hbl⟩
end Go.Proofs.YtoaccmblaifnmaaDoor
namespace Go.Proofs.YtoaccmblaifnmaaDoor
open Flo Go.RowKit Go.Lib

/-- the least divisor of N from 2 on -/
def Ld (N p : Nat) : Prop := 2 ≤ p ∧ p ∣ N ∧ ∀ e, 2 ≤ e → e < p → ¬ e ∣ N
theorem Ld.self {N d : Nat} (h2 : 2 ≤ N) (h : ∀ e, 2 ≤ e → e < d → ¬ e ∣ N) (hl : N < d * d) : Ld N N := by
  refine ⟨h2, Nat.dvd_refl _, fun e e1 e2 hd => ?_⟩
  by_cases c : e < d
  · exact h e e1 c hd
  · obtain ⟨f, hf⟩ := hd
    have hf2 : 2 ≤ f := by
      rcases Nat.lt_or_ge f 2 with c | c
      · have : f = 0 ∨ f = 1 := by omega
        rcases this with rfl | rfl
        · simp at hf; omega
        · simp at hf; omega
      · exact c
    have hfd : f < d := by
      apply Nat.lt_of_not_le
      intro c2
      have : d * d ≤ e * f := Nat.mul_le_mul (by omega) c2
      omega
    exact h f hf2 hfd ⟨e, by rw [hf, Nat.mul_comm]⟩
theorem Ld.tri {n d N p : Nat} {zs : List Nat} (hT : Nt.Tri n d N zs) (h : Ld N p) : Nt.Tri n p (N / p) (zs ++ [p]) := by
  have hdp : d ≤ p := by
    apply Nat.le_of_not_lt
    intro c
    exact hT.2.2.2.1 p h.1 c h.2.1
  have hT' : Nt.Tri n p N zs := ⟨hT.1, fun x hx => ⟨(hT.2.1 x hx).1, Nat.le_trans (hT.2.1 x hx).2 hdp⟩, hT.2.2.1, h.2.2, hT.2.2.2.2.1, h.1⟩
  exact hT'.push (Nat.mod_eq_zero_of_dvd h.2.1)
set_option maxHeartbeats 2000000 in
theorem factorFrom_c (d N : Nat) (w : World) (h2 : 2 ≤ N) (hN : N ≤ 4294967296) (hd2 : 2 ≤ d) (hdl : d ≤ 65537) (hno : ∀ e, 2 ≤ e → e < d → ¬ e ∣ N) :
    Calls Tryd.prog 115 #[.int .i64 d, .int .i64 N] w fun e w' => ∃ p : Nat, e = .returned (.int .i64 (p : Int)) ∧ Ld N p ∧ w = w' := by
  have hnH : Hid (∀ e, 2 ≤ e → e < d → ¬ e ∣ N) := hno
  clear hno
  go_enter Tryd.func115, Tryd.ntmps115
  go_wp2
  go_loop [0] (fun sd => ∃ c : Nat, sd = .int .i64 c ∧ 2 ≤ c ∧ c ≤ 65537 ∧ Hid (∀ e, 2 ≤ e → e < c → ¬ e ∣ N)) (fun sd => 65538 - (intOf sd).toNat)
  case atStart => exact ⟨d, rfl, hd2, hdl, hnH⟩
  case round =>
    clear hnH hd2 hdl
    obtain ⟨c, rfl, hc2, hcl, hno⟩ := hrel
    obtain ⟨t, ht⟩ : ∃ t : Nat, t = c * c := ⟨_, rfl⟩
    have htl : t ≤ 4295098369 := by rw [ht]; exact Nat.mul_le_mul hcl hcl
    have ed : wrap64 ((c : Int) * (c : Int)) = (t : Int) := by
      rw [castMul, ← ht]; unfold wrap64; omega
    have dz : ((c : Int) == 0) = false := beq_eq_false_iff_ne.2 (by omega)
    by_cases hc : t ≤ N
    · have hc' : (t : Int) ≤ (N : Int) := by omega
      have hd' : c < 65537 := by
        apply Nat.lt_of_not_le
        intro h9
        have : 4295098369 ≤ c * c := Nat.mul_le_mul h9 h9
        omega
      by_cases hm : N % c = 0
      · have m1 : ((N : Int) % (c : Int) == 0) = true := by rw [beq_iff_eq]; omega
        have hL : Hid (Ld N c) := ⟨hc2, Nat.dvd_of_mod_eq_zero hm, hno.out⟩
        clear ht htl hc hm hno
        go_wp2
        go_ret
        exact ⟨c, rfl, hL.out, rfl⟩
      · have m1 : ((N : Int) % (c : Int) == 0) = false := beq_eq_false_iff_ne.2 (by omega)
        have hn' : Hid (∀ e, 2 ≤ e → e < c + 1 → ¬ e ∣ N) := fun e e1 e2 hd => by
          by_cases k : e = c
          · subst k; exact hm (Nat.mod_eq_zero_of_dvd hd)
          · exact hno.out e e1 (by omega) hd
        clear ht htl hc hm hno
        go_wp2
        go_round
        case rel => exact ⟨c + 1, by go_num, by omega, by omega, hn'⟩
        case measure => simp [intOf]; omega
    · have hc' : decide ((t : Int) ≤ (N : Int)) = false := decide_eq_false (by omega)
      have hL : Hid (Ld N N) := Ld.self h2 hno.out (by omega)
      clear ht htl hno
      go_wp2
      go_ret
      exact ⟨N, rfl, hL.out, rfl⟩
theorem Tri_small {n d N : Nat} {zs : List Nat} (h : Nt.Tri n d N zs) (hn : n ≤ 4294967296) (hz : zs ≠ [] → d ∈ zs) (hN : 2 ≤ N) (h0 : zs = [] → d = 2) : d ≤ 65537 := by
  by_cases e : zs = []
  · rw [h0 e]; decide
  · have hd := Nt.dvd_prod_of_mem (hz e)
    have hNd : d ≤ N := by
      apply Nat.le_of_not_lt
      intro c
      exact h.2.2.2.1 N hN c (Nat.dvd_refl _)
    apply Nat.le_of_not_lt
    intro c
    have h1 : Nt.prod zs * N = n := h.1
    have hp : d ≤ Nt.prod zs := Nat.le_of_dvd (by
      apply Nat.pos_of_ne_zero
      intro k
      rw [k, Nat.zero_mul] at h1
      have := h.le; omega) hd
    have : 65538 * 65538 ≤ Nt.prod zs * N := Nat.mul_le_mul (by omega) (by omega)
    omega
set_option maxHeartbeats 2000000 in
theorem pFactors_no (n : Int) (w : World) (h : n < 2 ∨ 4294967296 < n) :
    Calls Tryd.prog 111 #[.int .i64 n] w fun e w' => e = .returned (.slice none 0 0) ∧ w' = w := by
  by_cases h1 : n < 2
  · have c1 : decide (4294967296 < n) = false := decide_eq_false (by omega)
    have c2 : decide (1 < n) = false := decide_eq_false (by omega)
    clear h
    go_enter Tryd.func111, Tryd.ntmps111
    go_wp2
    go_loop [0, 3, 4] (fun sn v sd => sn = .int .i64 n ∧ v = .slice none 0 0 ∧ sd = .int .i64 2) (fun _ _ _ => 0)
    case atStart => exact ⟨rfl, rfl, rfl⟩
    case round =>
      obtain ⟨rfl, rfl, rfl⟩ := hrel
      go_wp2
      go_ret
      exact ⟨rfl, rfl⟩
  · have c2 : 4294967296 < n := by omega
    clear h
    go_enter Tryd.func111, Tryd.ntmps111
    go_wp2
    go_ret
    exact ⟨rfl, rfl⟩
set_option maxHeartbeats 2000000 in
theorem pFactors_n (n : Nat) (w : World) (h2 : 2 ≤ n) (hn : n ≤ 4294967296) :
    Calls Tryd.prog 111 #[.int .i64 n] w fun e w' => ∃ v zs, e = .returned v ∧ Nt.Fac n zs ∧ w'.ownsRow w.heap.size 3 1 v zs.length (il zs) ∧ Below w.heap.size w w' := by
  obtain ⟨i0, hi, hz0, hz1, hz2⟩ := info_parts infoInt
  have c2 : decide ((4294967296 : Int) < (n : Int)) = false := decide_eq_false (by omega)
  have hst : Hid (Nt.Tri n 2 n []) := Nt.Tri.start (by omega)
  have hnH : Hid (n ≤ 4294967296) := hn
  have h2H : Hid (2 ≤ n) := h2
  clear hn h2
  go_enter Tryd.func111, Tryd.ntmps111
  go_wp2
  go_loopw [0, 3, 4] (fun sn v sd wr => ∃ (N d : Nat) (zs : List Nat), Hid (Nt.Tri n d N zs) ∧ Hid ((zs ≠ [] → d ∈ zs) ∧ (zs = [] → d = 2)) ∧ sn = .int .i64 N ∧ sd = .int .i64 d ∧ wr.ownsRow w.heap.size 3 1 v zs.length (il zs) ∧ Below w.heap.size w wr) (fun sn _ _ _ => (intOf sn).toNat)
  case atStart => exact ⟨n, 2, [], hst, ⟨fun c => absurd rfl c, fun _ => rfl⟩, rfl, rfl, World.ownsRow_nil _ _ _ _, Below.refl _ _⟩
  case round =>
    clear hst c2
    obtain ⟨N, d, zs, hT, hz, rfl, rfl, hown, hbl⟩ := hrel
    have hsz := hbl.size
    by_cases h1 : 1 < N
    · have k1 : (1 : Int) < (N : Int) := by omega
      have hds : d ≤ 65537 := Tri_small hT.out hnH.out hz.out.1 h1 hz.out.2
      have hd2 : 2 ≤ d := hT.out.2.2.2.2.2
      have hNn : N ≤ 4294967296 := Nat.le_trans hT.out.le hnH.out
      have hlen : zs.length ≤ 32 := hT.out.len hnH.out
      have hno : Hid (∀ e, 2 ≤ e → e < d → ¬ e ∣ N) := hT.out.2.2.2.1
      go_wp2_with fail
      refine (factorFrom_c _ _ _ h1 hNn hd2 hds hno.out).mono ?_
      rintro e w' ⟨p, rfl, hL, rfl⟩
      have hnew : Hid (Nt.Tri n p (N / p) (zs ++ [p])) := hL.tri hT.out
      have hp2 : 2 ≤ p := hL.1
      have hsn : Hid (il (zs ++ [p]) = il zs ++ [.int .i64 (p : Int)]) := il_snoc zs p
      obtain ⟨q, hq⟩ : ∃ q : Nat, q = N / p := ⟨_, rfl⟩
      have hqM : q < N := by rw [hq]; exact Nat.div_lt_self (by omega) hp2
      have eq1 : wrap64 ((N : Int) / (p : Int)) = (q : Int) := by
        rw [show (N : Int) / (p : Int) = ((N / p : Nat) : Int) from rfl, ← hq]; unfold wrap64; omega
      rw [← hq] at hnew
      have pz : ((p : Int) == 0) = false := beq_eq_false_iff_ne.2 (by omega)
      clear hq hT hz hno hL hds hd2 k1
      go_wp2_with (at_builtin; refine wpList_append_own _ rfl _ _ 43 rfl w.heap.size 3 i0 (.int .i64 0) 1 8 Tryd.underlying43 hi hz0 hz1 hz2 rfl (by decide) _ _ _ rfl (hown.alloc _) ⟨wr.heap.size, 0, none⟩ 1 1 [.int .i64 (p : Int)] rfl rfl ?c1 ?c2 ?c3 ?c4 ?c5 ?_)
      case c1 =>
        intro j u hj
        match j, hj with
        | 0, hj => simp at hj; subst hj; simp [Addr.add]
      case c2 => intro u hu; simp at hu; subst hu; rfl
      case c3 => unfold maxLen; omega
      case c4 => omega
      case c5 => simp; omega
      · intro v' w1 hown' hgrow hnil
        have hbl' : Below w.heap.size w w1 := (hbl.alloc hsz _).grown hgrow (by simp; omega) (fun k' hk' => (hown.lt k' hk').1)
        rw [← hsn.out] at hown'
        have hl : (zs ++ [p]).length = zs.length + 1 := by simp
        clear hown hgrow hnil hbl
        go_wp2
        rw [eq1]
        clear eq1
        go_roundw
        case rel => exact ⟨q, p, zs ++ [p], hnew, ⟨fun _ => by simp, fun c => by simp at c⟩, rfl, rfl, by rw [hl]; exact hown', hbl'⟩
        case measure => simp [intOf]; exact hqM
    · have e1 : N = 1 := by have := hT.out.2.2.2.2.1; omega
      subst e1
      have hf : Hid (Nt.Fac n zs) := hT.out.done
      clear hT hz h1
      go_wp2
      go_ret
      exact ⟨_, zs, rfl, hf.out, hown, hbl⟩
end Go.Proofs.YtoaccmblaifnmaaDoor
namespace Go.Proofs.YtoaccmblaifnmaaDoor
open Flo Go.RowKit

def mulRe (a b c d : Nat) : Nat := co .sub (co .mul a c) (co .mul b d)
def mulIm (a b c d : Nat) : Nat := co .add (co .mul a d) (co .mul b c)
end Go.Proofs.YtoaccmblaifnmaaDoor
namespace Go.Proofs.YtoaccmblaifnmaaDoor.Rp
open Flo Ieee Ari

def one : Nat := 4607182418800017408
def turn : Nat := 4618760256179416344
def half : Nat := 4604544271217802189
def fl (n : Int) : Nat := floatOfInt .f64 n

/-- the product of the turn and a whole number: its word -/
def tw (r : Nat) : Nat := rg (vl turn * r) (-1074)
end Go.Proofs.YtoaccmblaifnmaaDoor.Rp
namespace Go.Proofs.YtoaccmblaifnmaaDoor.Rp
open Flo Ieee Ari

/-- finite, and at most A without its sign -/
def bd (x A : Nat) : Prop := fin x ∧ vl x ≤ A * 2 ^ ul
end Go.Proofs.YtoaccmblaifnmaaDoor.Rp
namespace Go.Proofs.YtoaccmblaifnmaaDoor.Rp
open Flo Ieee Ari

def ffac : Nat → Nat
  | 0 => one
  | 1 => one
  | n + 2 => co .mul (ffac (n + 1)) (fl ((n + 2 : Nat) : Int))
def cf (odd k : Nat) : Nat := co .quo one (ffac (2 * k + odd))
def ser (y odd : Nat) : Nat → Nat
  | 0 => cf odd 8
  | i + 1 => co .sub (cf odd (7 - i)) (co .mul y (ser y odd i))
def ang (r n : Nat) : Nat := co .quo (co .mul turn (fl r)) (fl n)
def eiC (r n : Nat) : Nat := if r = 0 then one else if 8 * r = n then half else ser (co .mul (ang r n) (ang r n)) 0 8
def eiS (r n : Nat) : Nat := if r = 0 then 0 else if 8 * r = n then half else co .mul (ang r n) (ser (co .mul (ang r n) (ang r n)) 1 8)

end Go.Proofs.YtoaccmblaifnmaaDoor.Rp
namespace Go.Proofs.YtoaccmblaifnmaaDoor.Rp
open Flo Ieee Ari

/-- a nought is the nought above -/
def zp (x : Nat) : Nat := if x % 9223372036854775808 = 0 then 0 else x
def bc (n r : Nat) : Nat := if 2 * r ≤ n then eiC r (4 * n) else eiS (n - r) (4 * n)
def bs (n r : Nat) : Nat := if 2 * r ≤ n then eiS r (4 * n) else eiC (n - r) (4 * n)
def qC (q c s : Nat) : Nat := if q = 1 then ng s else if q = 2 then ng c else if q = 3 then s else c
def qS (q c s : Nat) : Nat := if q = 1 then c else if q = 2 then ng s else if q = 3 then ng c else s
def pcQ (q n r : Nat) : Nat := zp (qC q (bc n r) (bs n r))
def psQ (q n r : Nat) : Nat := zp (qS q (bc n r) (bs n r))
def pc (n m : Nat) : Nat := pcQ (4 * m / n) n (4 * m % n)
def ps (n m : Nat) : Nat := psQ (4 * m / n) n (4 * m % n)
/-- the root's imaginary part -/
def pim (n m : Nat) : Nat := zp (ng (ps n m))
/-- k modulo n -/
def md (n : Nat) (k : Int) : Nat := (k % (n : Int)).toNat
end Go.Proofs.YtoaccmblaifnmaaDoor.Rp
namespace Go.Proofs.YtoaccmblaifnmaaDoor
open Flo Go.RowKit Ieee

/-- a pair times another -/
def mlc (z u : Nat × Nat) : Nat × Nat := (mulRe z.1 z.2 u.1 u.2, mulIm z.1 z.2 u.1 u.2)
/-- a pair twisted by the root m of n -/
def tws (n m : Nat) (z : Nat × Nat) : Nat × Nat := if m = 0 then z else mlc z (Rp.pc n m, Rp.pim n m)
def adc (z u : Nat × Nat) : Nat × Nat := (co .add z.1 u.1, co .add z.2 u.2)
/-- the sum k of n elements, as far as element j -/
def dst (n k : Nat) (f : Nat → Nat × Nat) : Nat → Nat × Nat
  | 0 => f 0
  | j + 1 => adc (dst n k f j) (tws n ((j + 1) * k % n) (f (j + 1)))
section
variable {P : Program}
end
end Go.Proofs.YtoaccmblaifnmaaDoor
namespace Go.Proofs.YtoaccmblaifnmaaDoor
open Flo Go.RowKit
/-- complex numbers as values -/
def cz (zs : List (Nat × Nat)) : List Value := zs.map fun z => Value.complex .f64 z.1 z.2
end Go.Proofs.YtoaccmblaifnmaaDoor
namespace Go.Proofs.YtoaccmblaifnmaaDoor
open Flo Go.RowKit

/-- may n be the length of a turn -/
def cu (n : Int) : Bool := decide (1 ≤ n ∧ n ≤ 4194304)
end Go.Proofs.YtoaccmblaifnmaaDoor
namespace Go.Proofs.YtoaccmblaifnmaaDoor
open Flo Go.RowKit

/-- the roots of n, as far as place j; noughts behind -/
def rlv (n k : Nat) : Nat × Nat := (Rp.pc n k, Rp.pim n k)
def rl (n : Nat) : List (Nat × Nat) := (List.range n).map (rlv n)
def inn (n : Int) : Bool := decide (1 ≤ n ∧ n ≤ 16384)
end Go.Proofs.YtoaccmblaifnmaaDoor
namespace Go.Proofs.YtoaccmblaifnmaaDoor
open Flo Go.RowKit

theorem getD_set_ne {zs : List (Nat × Nat)} {i j : Nat} (z : Nat × Nat) (h : i ≠ j) : (zs.set i z).getD j (0, 0) = zs.getD j (0, 0) := by simp [List.getD, h]
end Go.Proofs.YtoaccmblaifnmaaDoor
namespace Go.Proofs.YtoaccmblaifnmaaDoor
open Flo Go.RowKit

end Go.Proofs.YtoaccmblaifnmaaDoor
namespace Go.Proofs.YtoaccmblaifnmaaDoor
open Flo Go.RowKit

end Go.Proofs.YtoaccmblaifnmaaDoor
namespace Go.Proofs.YtoaccmblaifnmaaDoor
open Flo Go.RowKit

theorem chirps_c (n : Int) (w : World) : Calls Tryd.prog 121 #[.int .i64 n] w fun e w' => e = .returned (.bool (inn n)) ∧ w' = w := by
  by_cases h1 : 1 ≤ n
  · by_cases h2 : n ≤ 16384
    · have hv : Hid (true = inn n) := ((decide_eq_true ⟨h1, h2⟩ : inn n = true).symm : true = inn n)
      go_enter Tryd.func121, Tryd.ntmps121
      go_wp2
      go_ret
      exact ⟨ret_bool hv.out, rfl⟩
    · have hv : Hid (false = inn n) := ((decide_eq_false (fun h => h2 h.2) : inn n = false).symm : false = inn n)
      have h2' : decide (n ≤ 16384) = false := decide_eq_false h2
      go_enter Tryd.func121, Tryd.ntmps121
      go_wp2
      go_ret
      exact ⟨ret_bool hv.out, rfl⟩
  · have hv : Hid (false = inn n) := ((decide_eq_false (fun h => h1 h.1) : inn n = false).symm : false = inn n)
    have h1' : decide (1 ≤ n) = false := decide_eq_false h1
    have h1'' : decide (n ≥ 1) = false := decide_eq_false h1
    go_enter Tryd.func121, Tryd.ntmps121
    go_wp2
    go_ret
    exact ⟨ret_bool hv.out, rfl⟩
theorem inn_nat {n : Nat} (h : 0 < n) (hn : n ≤ 16384) : inn (n : Int) = true := decide_eq_true ⟨by omega, by omega⟩
theorem leastOk_c (n : Nat) (w : World) (h : 0 < n) (hn : n ≤ 16384) :
    Calls Tryd.prog 116 #[.int .i64 n] w fun e w' => e = .returned (.int .i64 ((2 * n - 1 : Nat) : Int)) ∧ w' = w := by
  have hc := chirps_c (n : Int) w
  rw [inn_nat h hn] at hc
  obtain ⟨K, hK, hK1⟩ : ∃ K : Nat, Hid (2 * n - 1 = K) ∧ (2 : Int) * (n : Int) - 1 = (K : Int) := ⟨2 * n - 1, (rfl : _ = _), by omega⟩
  rw [hK.out]
  go_enter Tryd.func116, Tryd.ntmps116
  go_wp2_with fail
  refine hc.mono ?_
  rintro e w1 ⟨rfl, rfl⟩
  go_wp2_with fail
  go_ret
  exact ⟨rfl, rfl⟩
end Go.Proofs.YtoaccmblaifnmaaDoor
namespace Go.Proofs.YtoaccmblaifnmaaDoor
open Flo Go.RowKit

/-- the least power of two that is at least K -/
def Sz (K s : Nat) : Prop := ∃ t, s = 2 ^ t ∧ K ≤ s ∧ (t = 0 ∨ s < 2 * K)
theorem Sz.uniq {K s s' : Nat} (h : Sz K s) (h' : Sz K s') : s = s' := by
  obtain ⟨t, rfl, h1, h2⟩ := h
  obtain ⟨t', rfl, h3, h4⟩ := h'
  have key : ∀ a b : Nat, K ≤ 2 ^ a → (b = 0 ∨ 2 ^ b < 2 * K) → ¬ a < b := fun a b ha hb hab => by
    rcases hb with rfl | hb
    · omega
    · have : 2 ^ (a + 1) ≤ 2 ^ b := Nat.pow_le_pow_right (by decide) hab
      rw [Nat.pow_succ] at this
      omega
  have k1 := key t t' h1 h4
  have k2 := key t' t h3 h2
  rw [show t = t' by omega]
theorem sz_small {K t : Nat} (h : t = 0 ∨ 2 ^ t < 2 * K) (hK : K ≤ 16383) : 2 ^ t ≤ 16384 := by
  rcases h with rfl | h
  · decide
  · have h1 : ¬ 15 ≤ t := fun h15 => by
      have : 2 ^ 15 ≤ 2 ^ t := Nat.pow_le_pow_right (by decide) h15
      omega
    have : 2 ^ t ≤ 2 ^ 14 := Nat.pow_le_pow_right (by decide) (by omega)
    exact this
set_option maxHeartbeats 1000000 in
theorem sizeOk_c (n : Nat) (w : World) (h : 0 < n) (hn : n ≤ 8192) :
    Calls Tryd.prog 112 #[.int .i64 n] w fun e w' => ∃ s : Nat, e = .returned (.tuple #[.int .i64 (s : Int), .nilIface]) ∧ Sz (2 * n - 1) s ∧ s ≤ 16384 ∧ w' = w := by
  have hc := leastOk_c n w h (by omega)
  obtain ⟨K, hK⟩ : ∃ K, 2 * n - 1 = K := ⟨_, rfl⟩
  rw [hK] at hc ⊢
  have hK1 : K ≤ 16383 := by omega
  have q1 : ((K : Int) == 0) = false := beq_eq_false_iff_ne.2 (by omega)
  clear hK
  go_enter Tryd.func112, Tryd.ntmps112
  go_wp2_with fail
  refine hc.mono ?_
  rintro e w0 ⟨rfl, rfl⟩
  clear hc
  go_wp2_with fail
  go_loopw [5] (fun ss wx => ∃ s : Nat, ss = .int .i64 (s : Int) ∧ s ≤ 32766 ∧ 0 < s ∧ Hid (∃ t, s = 2 ^ t ∧ (t = 0 ∨ 2 ^ t < 2 * K)) ∧ wx = w0) (fun ss _ => K - (intOf ss).toNat)
  case atStart => exact ⟨1, rfl, by decide, by decide, ⟨0, rfl, .inl rfl⟩, rfl⟩
  case round =>
    obtain ⟨s, rfl, hs1, hs0, hs, rfl⟩ := hrel
    by_cases hlt : s < K
    · have hlt' : (s : Int) < (K : Int) := by omega
      obtain ⟨s2, hs2, hs3⟩ : ∃ s2 : Nat, Hid (s2 = 2 * s) ∧ (s : Int) * 2 = (s2 : Int) := ⟨2 * s, (rfl : _ = _), by omega⟩
      have hs4 : s2 ≤ 32766 := by have := hs2.out; omega
      have hs5 : 0 < s2 := by have := hs2.out; omega
      have hH : Hid (∃ t, s2 = 2 ^ t ∧ (t = 0 ∨ 2 ^ t < 2 * K)) := by
        obtain ⟨t, e, _⟩ := hs.out
        exact ⟨t + 1, by rw [hs2.out, e, Nat.pow_succ]; omega, .inr (by rw [Nat.pow_succ]; omega)⟩
      clear hs
      go_wp2_with fail
      go_roundw
      case rel => exact ⟨s2, rfl, hs4, hs5, hH, by trivial⟩
      case measure => simp [intOf]; have := hs2.out; omega
    · have hlt' : decide ((s : Int) < (K : Int)) = false := decide_eq_false (by omega)
      have hE : Hid (Sz K s ∧ s ≤ 16384) := by
        obtain ⟨t, e, h2⟩ := hs.out
        exact ⟨⟨t, e, by omega, by rw [e]; exact h2⟩, by rw [e]; exact sz_small h2 hK1⟩
      have q2 : decide ((s : Int) > 16384) = false := decide_eq_false (by have := hE.out.2; omega)
      clear hs
      go_wp2_with fail
      go_ret2
      exact ⟨s, rfl, hE.out.1, hE.out.2, rfl⟩
end Go.Proofs.YtoaccmblaifnmaaDoor
