/-
  The contract of the document's Factors of layer 5: a new list of the prime factors.
-/
import Derived.Test.YtkgecgkjmikihabDoorIln
import Derived.Test.YtkgecgkjmikihabDoorNth
import Derived.Test.YtkgecgkjmikihabDoorMod
namespace Go.Proofs.YtkgecgkjmikihabDoor
open Flo Go.RowKit

set_option maxHeartbeats 2000000 in
theorem r5Factors_no (n : Int) (w : World) (h : n < 2 ∨ 4294967296 < n) :
    Calls Tryd.prog 15 #[.int .i64 n] w fun e w' => e = .returned (.slice none 0 0) ∧ w = w' := by
  by_cases h1 : n < 2
  · go_enter Tryd.func15, Tryd.ntmps15
    go_wp2
    go_ret
    exact ⟨rfl, rfl⟩
  · have c1 : decide (n < 2) = false := decide_eq_false h1
    have c2 : 4294967296 < n := by omega
    clear h
    go_enter Tryd.func15, Tryd.ntmps15
    go_wp2
    go_ret
    exact ⟨rfl, rfl⟩
set_option maxHeartbeats 2000000 in
theorem r5Factors_n (n : Nat) (w : World) (h2 : 2 ≤ n) (hn : n ≤ 4294967296) :
    Calls Tryd.prog 15 #[.int .i64 n] w fun e w' => ∃ v zs, e = .returned v ∧ Nt.Fac n zs ∧ w'.ownsRow w.heap.size 3 1 v zs.length (il zs) ∧ Below w.heap.size w w' := by
  obtain ⟨i0, hi, hz0, hz1, hz2⟩ := info_parts infoInt
  have c1 : decide ((n : Int) < 2) = false := decide_eq_false (by omega)
  have c2 : decide ((4294967296 : Int) < (n : Int)) = false := decide_eq_false (by omega)
  have hst : Hid (Nt.Tri n 2 n []) := Nt.Tri.start (by omega)
  have hnH : Hid (n ≤ 4294967296) := hn
  have h2H : Hid (2 ≤ n) := h2
  clear hn h2
  go_enter Tryd.func15, Tryd.ntmps15
  go_wp2
  go_loopw [0, 3, 4] (fun sn v sd wr => ∃ (N d : Nat) (zs : List Nat), Hid (Nt.Tri n d N zs) ∧ d ≤ 65537 ∧ sn = .int .i64 N ∧ sd = .int .i64 d ∧ wr.ownsRow w.heap.size 3 1 v zs.length (il zs) ∧ Below w.heap.size w wr) (fun _ _ sd _ => (n + 1) - (intOf sd).toNat)
  case atStart => exact ⟨n, 2, [], hst, by omega, rfl, rfl, World.ownsRow_nil _ _ _ _, Below.refl _ _⟩
  case round =>
    obtain ⟨N, d, zs, hT, hd, rfl, rfl, hown, hbl⟩ := hrel
    have hd2 : 2 ≤ d := hT.out.2.2.2.2.2
    have hNn : N ≤ n := hT.out.le
    have hN0 : 0 < N := hT.out.2.2.2.2.1
    have hlen : zs.length ≤ 32 := hT.out.len hnH.out
    have hnn := hnH.out
    obtain ⟨t, ht⟩ : ∃ t : Nat, t = d * d := ⟨_, rfl⟩
    have htl : t ≤ 4295098369 := by rw [ht]; exact Nat.mul_le_mul hd hd
    have ed : wrap64 ((d : Int) * (d : Int)) = (t : Int) := by
      rw [castMul, ← ht]; unfold wrap64; omega
    by_cases hc : t ≤ N
    · have hc' : (t : Int) ≤ (N : Int) := by omega
      have hd' : d < 65537 := by
        apply Nat.lt_of_not_le
        intro h9
        have : 4295098369 ≤ d * d := Nat.mul_le_mul h9 h9
        omega
      have hdn : d ≤ n := by
        have : d * 1 ≤ d * d := Nat.mul_le_mul_left d (by omega)
        omega
      have dz : ((d : Int) == 0) = false := beq_eq_false_iff_ne.2 (by omega)
      clear ht htl hc hNn hN0 hlen hnn
      go_wp2
      clear hc'
      go_loopw [0, 3] (fun sn v wx => ∃ (M : Nat) (ys : List Nat), Hid (Nt.Tri n d M ys) ∧ sn = .int .i64 M ∧ wx.ownsRow w.heap.size 3 1 v ys.length (il ys) ∧ Below w.heap.size w wx) (fun sn _ _ => (intOf sn).toNat)
      case atStart => exact ⟨N, zs, hT, rfl, hown, hbl⟩
      case round =>
        clear hT hown hbl
        obtain ⟨M, ys, hT, rfl, hown, hbl⟩ := hrel
        clear ed
        have hMn : M ≤ n := hT.out.le
        have hM0 : 0 < M := hT.out.2.2.2.2.1
        have hlen : ys.length ≤ 32 := hT.out.len hnH.out
        have hnn := hnH.out
        have hsz := hbl.size
        by_cases hm : M % d = 0
        · have m1 : ((M : Int) % (d : Int) == 0) = true := by rw [beq_iff_eq]; omega
          have hnew : Hid (Nt.Tri n d (M / d) (ys ++ [d])) := hT.out.push hm
          have hsn : Hid (il (ys ++ [d]) = il ys ++ [.int .i64 (d : Int)]) := il_snoc ys d
          obtain ⟨q, hq⟩ : ∃ q : Nat, q = M / d := ⟨_, rfl⟩
          have hqM : q < M := by rw [hq]; exact Nat.div_lt_self hM0 (by omega)
          have eq1 : wrap64 ((M : Int) / (d : Int)) = (q : Int) := by
            rw [show (M : Int) / (d : Int) = ((M / d : Nat) : Int) from rfl, ← hq]; unfold wrap64; omega
          rw [← hq] at hnew
          clear hm hq hM0 hMn hT
          go_wp2_with (at_builtin; refine wpList_append_own _ rfl _ _ 29 rfl w.heap.size 3 i0 (.int .i64 0) 1 8 Tryd.underlying29 hi hz0 hz1 hz2 rfl (by decide) _ _ _ rfl (hown.alloc _) ⟨wr.heap.size, 0, none⟩ 1 1 [.int .i64 (d : Int)] rfl rfl ?c1 ?c2 ?c3 ?c4 ?c5 ?_)
          case c1 =>
            intro j u hj
            match j, hj with
            | 0, hj => simp at hj; subst hj; simp [Addr.add]
          case c2 => intro u hu; simp at hu; subst hu; rfl
          case c3 => unfold maxLen; omega
          case c4 => omega
          case c5 => simp; omega
          · intro v' w1 hown' hgrow hnil
            have hbl' : Below w.heap.size w w1 := (hbl.alloc hsz _).grown hgrow (by simp; omega) (fun k' hk' => (hown.lt k' hk').1)
            rw [← hsn.out] at hown'
            have hl : (ys ++ [d]).length = ys.length + 1 := by simp
            clear hown hgrow hnil hbl
            go_wp2
            rw [eq1]
            clear eq1
            go_roundw
            case rel => exact ⟨q, ys ++ [d], hnew, rfl, by rw [hl]; exact hown', hbl'⟩
            case measure => simp [intOf]; exact hqM
        · have m1 : ((M : Int) % (d : Int) == 0) = false := beq_eq_false_iff_ne.2 (by omega)
          have hnew : Hid (Nt.Tri n (d + 1) M ys) := hT.out.next hm
          have hwd : wrap64 ((d : Int) + 1) = ((d + 1 : Nat) : Int) := by unfold wrap64; omega
          clear hm hM0 hMn hT
          go_wp2
          go_roundw
          case rel => exact ⟨M, d + 1, ys, hnew, by omega, rfl, by go_num, hown, hbl⟩
          case measure => simp [intOf]; omega
    · have hc' : decide ((t : Int) ≤ (N : Int)) = false := decide_eq_false (by omega)
      have hlt : Hid (N < d * d) := (by omega : N < d * d)
      have hsz := hbl.size
      by_cases h1 : 1 < N
      · have k1 : (1 : Int) < (N : Int) := by omega
        have hf : Hid (Nt.Fac n (zs ++ [N])) := hT.out.last hlt.out h1
        have hsn : Hid (il (zs ++ [N]) = il zs ++ [.int .i64 (N : Int)]) := il_snoc zs N
        clear ht htl hNn hN0 h1
        go_wp2_with (at_builtin; refine wpList_append_own _ rfl _ _ 29 rfl w.heap.size 3 i0 (.int .i64 0) 1 8 Tryd.underlying29 hi hz0 hz1 hz2 rfl (by decide) _ _ _ rfl (hown.alloc _) ⟨wr.heap.size, 0, none⟩ 1 1 [.int .i64 (N : Int)] rfl rfl ?c1 ?c2 ?c3 ?c4 ?c5 ?_)
        case c1 =>
          intro j u hj
          match j, hj with
          | 0, hj => simp at hj; subst hj; simp [Addr.add]
        case c2 => intro u hu; simp at hu; subst hu; rfl
        case c3 => unfold maxLen; omega
        case c4 => omega
        case c5 => simp; omega
        · intro v' w1 hown' hgrow hnil
          have hbl' : Below w.heap.size w w1 := (hbl.alloc hsz _).grown hgrow (by simp; omega) (fun k' hk' => (hown.lt k' hk').1)
          rw [← hsn.out] at hown'
          have hl : (zs ++ [N]).length = zs.length + 1 := by simp
          clear hown hgrow hnil hbl
          go_wp2
          go_ret
          exact ⟨_, zs ++ [N], rfl, hf.out, by rw [hl]; exact hown', hbl'⟩
      · have e1 : N = 1 := by omega
        subst e1
        have hf : Hid (Nt.Fac n zs) := hT.out.done
        clear ht htl hNn hN0 h1
        go_wp2
        go_ret
        exact ⟨_, zs, rfl, hf.out, hown, hbl⟩
end Go.Proofs.YtkgecgkjmikihabDoor
