/-
  What PlannerLists and its fellows rest on, joined: Dk0 Al5 Pnp.
-/
import Derived.WalkKit
import Ieee.Arith
import Derived.WalkLawsBesides
import Derived.Laws.FloatArith
import Derived.Test.YtoaccmblaifnmaaDoorProg
import Derived.RegionTactic
import Derived.Outline
import Derived.Lib.Mul64
import Derived.Laws.Bits64b
import Derived.Deep.QuietTactic
import Derived.BigQuiet
import Derived.WalkSmall
import Derived.Deep.CutBlock
import Derived.Deep.DeepCutAuto
import Derived.Laws.Rows
import Derived.Lib.ItoaNum
import Derived.Laws.IdiomStrings
import Derived.Deep.RegionHeld3
import Derived.Lib.SmallJoins
import Derived.Lib.HexFns
import Derived.Test.YtoaccmblaifnmaaDoorRows
import Derived.LaidEql
import Derived.LaidLaws
import Derived.LaidHandle
import Derived.Stop.Joined
import Derived.Deep.RegionWith
import Derived.Recover
import Derived.RegionDies
import Derived.Laws.CopyOwn
import Derived.Lib.AppendIntMem
import Derived.Deep.RegionHeldLaw
import Derived.Test.YtoaccmblaifnmaaDoorBb1
import Derived.Test.YtoaccmblaifnmaaDoorBa4
namespace Go.Proofs.YtoaccmblaifnmaaDoor
open Tr
namespace Pl
theorem flt_succ (a : Nat) : ∀ (l : List Nat), l.Pairwise (· < ·) → l.filter (fun x => decide (x < a + 1)) = l.filter (fun x => decide (x < a)) ++ if a ∈ l then [a] else []
  | [], _ => by simp
  | x :: l, h => by
    have h1 := List.pairwise_cons.1 h
    have ih := flt_succ a l h1.2
    by_cases hx : x < a
    · have hne : a ≠ x := by omega
      rw [List.filter_cons_of_pos (by simp; omega), List.filter_cons_of_pos (by simpa using hx), ih]
      simp [hne]
    · have e1 : l.filter (fun x => decide (x < a)) = [] := by
        rw [List.filter_eq_nil_iff]
        intro y hy
        have := h1.1 y hy
        simp only [decide_eq_true_eq]; omega
      rw [e1, List.nil_append] at ih
      rw [List.filter_cons_of_neg (p := fun x => decide (x < a)) (by simpa using hx), e1, List.nil_append]
      by_cases hxa : x = a
      · subst hxa
        have hn : x ∉ l := fun hm => Nat.lt_irrefl x (h1.1 x hm)
        rw [List.filter_cons_of_pos (by simp), ih]
        simp [hn]
      · have hn : a ∉ x :: l := fun hm => by
          rcases List.mem_cons.1 hm with e | e
          · omega
          · have := h1.1 a e; omega
        have hn2 : a ∉ l := fun hm => hn (List.mem_cons_of_mem _ hm)
        rw [List.filter_cons_of_neg (by simp; omega), ih, if_neg hn, if_neg hn2]
/-- the candidates up to the divisor a -/
def acc (D : Int) (F : List Int) (sec : Nat → List Tr) (n a : Nat) : List Tr := lvs D F n ++ ((Nt.divs n).filter fun x => decide (x < a)).flatMap (stp D F sec n)
theorem acc_two (D : Int) (F : List Int) (sec : Nat → List Tr) (n : Nat) : acc D F sec n 2 = lvs D F n := by
  unfold acc
  have e : ((Nt.divs n).filter fun x => decide (x < 2)).flatMap (stp D F sec n) = [] := by
    rw [List.flatMap_eq_nil_iff]
    intro x hx
    have := (List.mem_filter.1 hx).2
    simp only [decide_eq_true_eq] at this
    unfold stp
    rw [if_neg (by omega)]
  rw [e, List.append_nil]
theorem acc_skip {D : Int} {F : List Int} {sec : Nat → List Tr} {n a : Nat} (hn : 1 ≤ n) (h : ¬ a ∣ n) : acc D F sec n (a + 1) = acc D F sec n a := by
  unfold acc
  rw [flt_succ a _ (Nt.divs_sorted n), if_neg (fun hm => h ((Nt.mem_divs hn).1 hm)), List.append_nil]
theorem acc_dvd {D : Int} {F : List Int} {sec : Nat → List Tr} {n a : Nat} (hn : 1 ≤ n) (h : a ∣ n) (h1 : 1 < a) (h2 : a < n) : acc D F sec n (a + 1) = acc D F sec n a ++ (lvs D F a).flatMap fun l => (sec (n / a)).map fun b => ⟨3, 0, [l, b]⟩ := by
  unfold acc
  rw [flt_succ a _ (Nt.divs_sorted n), if_pos ((Nt.mem_divs hn).2 h), List.flatMap_append, ← List.append_assoc]
  congr 1
  rw [List.flatMap_cons, List.flatMap_nil, List.append_nil]
  unfold stp
  rw [if_pos ⟨h1, h2⟩]
theorem flt_all {α β : Type} {f : α → List β} {P : α → Bool} : ∀ (l : List α), (∀ x ∈ l, P x = false → f x = []) → (l.filter P).flatMap f = l.flatMap f
  | [], _ => rfl
  | x :: l, h => by
    have ih := flt_all l fun y hy => h y (List.mem_cons_of_mem _ hy)
    cases hp : P x with
    | true => rw [List.filter_cons_of_pos hp, List.flatMap_cons, List.flatMap_cons, ih]
    | false => rw [List.filter_cons_of_neg (by simp [hp]), List.flatMap_cons, h x (by simp) hp, List.nil_append, ih]
theorem acc_end {D : Int} {F : List Int} {sec : Nat → List Tr} {bl : List Tr} {n a : Nat} (h : n ≤ a) : acc D F sec n a ++ bl = cnd D F sec bl n := by
  unfold acc cnd
  congr 2
  refine flt_all _ fun x _ hx => ?_
  simp only [decide_eq_false_iff_not] at hx
  unfold stp
  rw [if_neg (by omega)]
/-- the cost that stands for what was met; -1: nothing yet -/
def lsv (l : List Tr) : Int := if l = [] then -1 else ((pks l).2 : Int)
def bst (l : List Tr) : Tr := (pks l).1
theorem lsv_nil : lsv [] = -1 := rfl
theorem lsv_pos {l : List Tr} (h : l ≠ []) : 0 ≤ lsv l ∧ lsv l = (tcs (bst l) : Int) := by
  unfold lsv bst
  rw [if_neg h]
  rcases pks_mem l with ⟨h1, _⟩ | ⟨_, h2⟩
  · exact absurd h1 h
  · rw [h2]; exact ⟨by omega, rfl⟩
theorem lsv_yes {l : List Tr} {t : Tr} (h : lsv l < 0 ∨ (tcs t : Int) < lsv l) : lsv (l ++ [t]) = (tcs t : Int) ∧ bst (l ++ [t]) = t := by
  have e : pks (l ++ [t]) = (t, tcs t) := by
    rw [pks_snoc]
    unfold pk
    rw [if_pos]
    rcases pks_mem l with ⟨h1, h2⟩ | ⟨h1, h2⟩
    · rw [h2]; exact tcs_lt t
    · have hne : l ≠ [] := fun e => by rw [e] at h1; cases h1
      unfold lsv at h
      rw [if_neg hne] at h
      omega
  unfold lsv bst
  rw [e, if_neg (by simp)]
  exact ⟨rfl, rfl⟩
theorem lsv_no {l : List Tr} {t : Tr} (h1 : ¬ lsv l < 0) (h2 : ¬ (tcs t : Int) < lsv l) : lsv (l ++ [t]) = lsv l ∧ bst (l ++ [t]) = bst l := by
  have hne : l ≠ [] := fun e => by rw [e] at h1; exact h1 (by decide)
  have e : pks (l ++ [t]) = pks l := by
    rw [pks_snoc]
    unfold pk
    rw [if_neg]
    unfold lsv at h2
    rw [if_neg hne] at h2
    omega
  unfold lsv bst
  rw [e, if_neg (by simp), if_neg hne]
  exact ⟨rfl, rfl⟩
theorem lsv_lt (l : List Tr) : -1 ≤ lsv l ∧ lsv l ≤ 4611686018427387905 := by
  by_cases h : l = []
  · rw [h, lsv_nil]; omega
  · rw [(lsv_pos h).2]
    unfold tcs tm
    omega
theorem pk_le : ∀ (l : List Tr) (x : Tr × Nat), (l.foldl pk x).2 ≤ x.2 ∧ ∀ t ∈ l, (l.foldl pk x).2 ≤ tcs t
  | [], x => ⟨Nat.le_refl _, fun t h => by cases h⟩
  | t :: l, x => by
    obtain ⟨h1, h2⟩ := pk_le l (pk x t)
    have h3 : (pk x t).2 ≤ x.2 ∧ (pk x t).2 ≤ tcs t := by
      unfold pk
      split
      · exact ⟨by show tcs t ≤ _; omega, Nat.le_refl _⟩
      · exact ⟨Nat.le_refl _, by omega⟩
    rw [List.foldl_cons]
    refine ⟨Nat.le_trans h1 h3.1, fun u hu => ?_⟩
    rcases List.mem_cons.1 hu with e | e
    · rw [e]; exact Nat.le_trans h1 h3.2
    · exact h2 u e
theorem pks_le {l : List Tr} {t : Tr} (h : t ∈ l) : (pks l).2 ≤ tcs t := (pk_le l _).2 t h
theorem tcs_le (t : Tr) : tcs t ≤ cs t := by unfold tcs tm; omega
/-- no candidate costs less than the cheapest -/
theorem ch_le {D : Int} {F : List Int} {p : Int} {n : Nat} (g : GP D F p) (h : Dm p n) {t : Tr} (ht : t ∈ cnd D F (fun m => [ch D F p m]) (blu p (ch D F p) n) n) : tcs (ch D F p n) ≤ tcs t := by
  rw [ch_eq g.p2 h]
  rcases pks_mem (cnd D F (fun m => [ch D F p m]) (blu p (ch D F p) n) n) with ⟨h1, _⟩ | ⟨_, h2⟩
  · rw [h1] at ht; cases ht
  · rw [← h2]; exact pks_le ht
theorem ch_ln {D : Int} {F : List Int} {p : Int} {n : Nat} (g : GP D F p) (h : Dm p n) : ln (ch D F p n) = n := (ch_gd g _ n h (Nat.le_refl _)).len
theorem ch_small {D : Int} {F : List Int} {p : Int} (g : GP D F p) : ∀ (k n : Nat), n ≤ k → Dm p n → big p n = false → cs (ch D F p n) ≤ 16 * (n * n) := by
  intro k
  induction k with
  | zero => intro n hn hd; have := hd.1; omega
  | succ k ih =>
    intro n hn hd hb
    have hnn : n * n ≤ 16384 * 16384 := Nat.mul_le_mul hd.2.1 hd.2.1
    have key : ∃ t ∈ cnd D F (fun m => [ch D F p m]) (blu p (ch D F p) n) n, cs t ≤ 16 * (n * n) := by
      by_cases hD : (n : Int) ≤ D
      · refine ⟨⟨1, n, []⟩, ?_, ?_⟩
        · unfold cnd lvs
          rw [if_pos hD]
          simp
        · rw [cs_d, Int.toNat_natCast, Nat.mul_assoc]
          omega
      · have := g.p2
        have := g.pD
        have hn2 : 2 ≤ n := by omega
        obtain ⟨q, q1, q2⟩ := least_pr n hn2
        have hqp : (q : Int) ≤ p := by
          refine Classical.byContradiction fun c => ?_
          have := (big_iff (p := p) hd.1).2 ⟨q, q1, q2, by omega⟩
          rw [hb] at this
          cases this
        have hq2 := q1.1
        have hqn : q < n := by omega
        obtain ⟨h1, h2, h3, h4, h5⟩ := quo_dm hd q2 (by omega) hqn
        have hbr : big p (n / q) = false := by
          cases e : big p (n / q) with
          | false => rfl
          | true => rw [big_quo hd.1 q2 e] at hb; cases hb
        have hr := ih (n / q) (by omega) h1 hbr
        have hlr := ch_ln g h1
        obtain ⟨r, hr0⟩ : ∃ r, n / q = r := ⟨_, rfl⟩
        rw [hr0] at h1 h3 h4 h5 hr hlr
        refine ⟨⟨3, 0, [⟨1, q, []⟩, ch D F p r]⟩, ?_, ?_⟩
        · unfold cnd
          refine List.mem_append_left _ (List.mem_append_right _ (List.mem_flatMap.2 ⟨q, (Nt.mem_divs hd.1).2 q2, ?_⟩))
          unfold stp
          rw [if_pos ⟨by omega, hqn⟩]
          refine List.mem_flatMap.2 ⟨⟨1, q, []⟩, ?_, ?_⟩
          · unfold lvs
            rw [if_pos (by omega)]
            simp
          · rw [hr0]; simp
        · have e1 : (ms ⟨1, (q : Int), []⟩).2.1 = q := by
            rw [ms_eq]
            simp [mc]
          have e2 : (ms (ch D F p r)).2.1 = r := by rw [ms_ln _ (by omega), hlr]
          rw [cs_two, e1, e2, cs_d, Int.toNat_natCast]
          have t1 : q * cs (ch D F p r) ≤ 8 * (n * n) := by
            have a1 := Nat.mul_le_mul_left q hr
            have a2 : q * (16 * (r * r)) = 8 * (n * (2 * r)) := by rw [← h4]; simp only [Nat.mul_comm, Nat.mul_left_comm, Nat.mul_assoc]
            have a3 : n * (2 * r) ≤ n * n := Nat.mul_le_mul_left n (by omega)
            omega
          have hq3 : 2 * q ≤ n := by
            have := Nat.mul_le_mul_left q h3
            omega
          have t2 : r * (8 * q * q) ≤ 4 * (n * n) := by
            have a2 : r * (8 * q * q) = 4 * (n * (2 * q)) := by rw [← h4]; simp only [Nat.mul_comm, Nat.mul_left_comm, Nat.mul_assoc]
            have a3 : n * (2 * q) ≤ n * n := Nat.mul_le_mul_left n hq3
            omega
          have t3 : 6 * (q - 1) * (r - 1) ≤ 6 * n := by
            have : (q - 1) * (r - 1) ≤ q * r := Nat.mul_le_mul (by omega) (by omega)
            rw [Nat.mul_assoc]; omega
          have t4 : 2 * n ≤ n * n := Nat.mul_le_mul_right n hn2
          have t5 : (if (⟨1, (q : Int), []⟩ : Tr).k = 2 then 0 else q * r) = n := by rw [if_neg (show ¬ (1 : Int) = 2 by decide)]; exact h4
          rw [t5]
          omega
    obtain ⟨t, t1, t2⟩ := key
    have h1 := ch_le g hd t1
    have h2 := tcs_le t
    have h3 : tcs (ch D F p n) = tm (cs (ch D F p n)) := rfl
    unfold tm at h3
    omega
theorem tcs_prod {x y : Tr} {a b : Nat} (ha : 1 ≤ a) (hb : 1 ≤ b) (hx : ln x = a) (hy : ln y = b) : prc a b (tcs x) (tcs y) (x.k == 2) = tcs ⟨3, 0, [x, y]⟩ := by
  unfold tcs
  rw [prc_tm a b _ _ _ ha hb, cs_two, ms_ln x (by omega), ms_ln y (by omega), hx, hy]
  by_cases h : x.k = 2
  · rw [h]; simp
  · have : (x.k == 2) = false := beq_eq_false_iff_ne.2 h
    rw [this, if_neg h]; simp
theorem tcs_blue {n M : Nat} {t : Tr} (hn : n ≤ 16384) (hM : M ≤ 16384) (h : ln t = M) (h0 : 1 ≤ M) (hs : cs t ≤ 4294967296) : (3 * tcs t + 12 * n) + 10 * M = tcs ⟨4, n, [t]⟩ ∧ tcs t ≤ 4294967296 := by
  unfold tcs
  rw [cs_one, ms_ln t (by omega), h, Int.toNat_natCast]
  unfold tm
  omega
end Pl
end Go.Proofs.YtoaccmblaifnmaaDoor
namespace Go.Proofs.YtoaccmblaifnmaaDoor
open Tr
namespace Pl
/-- P is gathered so far, Q would be were there no bound, X is all of it -/
structure Cut (X Q P : List Tr) (top : Nat) : Prop where
  pre : P <+: X
  or : P = Q ∨ top ≤ P.length
theorem Cut.take {X P bl : List Tr} {top : Nat} (h : Cut X X P top) : (P ++ bl).take top = (X ++ bl).take top := by
  rcases h.or with rfl | hl
  · rfl
  · obtain ⟨r, rfl⟩ := h.pre
    rw [List.append_assoc, List.take_append_of_le_length hl, List.take_append_of_le_length hl]
theorem Cut.lt {X Q P : List Tr} {top : Nat} (h : Cut X Q P top) (hl : P.length < top) : P = Q := by
  rcases h.or with e | e
  · exact e
  · omega
theorem Cut.ge {X Q Q' P : List Tr} {top : Nat} (h : Cut X Q P top) (hl : ¬ P.length < top) : Cut X Q' P top := ⟨h.pre, .inr (by omega)⟩
theorem Cut.more {X Q P r : List Tr} {top : Nat} (h : Cut X Q P top) (hl : P.length < top) (hx : Q ++ r <+: X) : Cut X (Q ++ r) (P ++ r.take (top - P.length)) top := by
  have e := h.lt hl
  subst e
  refine ⟨List.IsPrefix.trans ((List.prefix_append_right_inj _).2 (List.take_prefix _ _)) hx, ?_⟩
  by_cases hc : r.length ≤ top - P.length
  · exact .inl (by rw [List.take_of_length_le hc])
  · refine .inr ?_
    rw [List.length_append, List.length_take]
    omega
theorem acc_pre {D : Int} {F : List Int} {sec : Nat → List Tr} {n : Nat} (hn : 1 ≤ n) : ∀ (k a : Nat), 2 ≤ a → a + k = n → acc D F sec n a <+: acc D F sec n n := by
  intro k
  induction k with
  | zero => intro a _ h; have : a = n := by omega
            subst this; exact List.prefix_refl _
  | succ k ih =>
    intro a h1 h2
    refine List.IsPrefix.trans ?_ (ih (a + 1) (by omega) (by omega))
    by_cases hd : a ∣ n
    · rw [acc_dvd hn hd (by omega) (by omega)]; exact List.prefix_append _ _
    · rw [acc_skip hn hd]; exact List.prefix_refl _
/-- the candidates up to the divisor a, and those of its first i leaves -/
def pri (D : Int) (F : List Int) (sec : Nat → List Tr) (n a i : Nat) : List Tr := acc D F sec n a ++ ((lvs D F a).take i).flatMap fun l => (sec (n / a)).map fun b => ⟨3, 0, [l, b]⟩
theorem pri_zero (D : Int) (F : List Int) (sec : Nat → List Tr) (n a : Nat) : pri D F sec n a 0 = acc D F sec n a := by unfold pri; simp
theorem pri_succ {D : Int} {F : List Int} {sec : Nat → List Tr} {n a i : Nat} {x : Tr} (h : (lvs D F a)[i]? = some x) : pri D F sec n a (i + 1) = pri D F sec n a i ++ (sec (n / a)).map fun b => ⟨3, 0, [x, b]⟩ := by
  unfold pri
  rw [List.take_add_one, h, List.flatMap_append, ← List.append_assoc]
  simp
theorem pri_end {D : Int} {F : List Int} {sec : Nat → List Tr} {n a i : Nat} (hn : 1 ≤ n) (hd : a ∣ n) (h1 : 1 < a) (h2 : a < n) (hi : (lvs D F a).length ≤ i) : pri D F sec n a i = acc D F sec n (a + 1) := by
  rw [acc_dvd hn hd h1 h2]
  unfold pri
  rw [List.take_of_length_le hi]
theorem pri_pre {D : Int} {F : List Int} {sec : Nat → List Tr} {n a i : Nat} (hn : 1 ≤ n) (hd : a ∣ n) (h1 : 1 < a) (h2 : a < n) : pri D F sec n a i <+: acc D F sec n n := by
  refine List.IsPrefix.trans ?_ (acc_pre hn (n - (a + 1)) (a + 1) (by omega) (by omega))
  rw [acc_dvd hn hd h1 h2]
  unfold pri
  refine (List.prefix_append_right_inj _).2 ?_
  conv => rhs; rw [← List.take_append_drop i (lvs D F a), List.flatMap_append]
  exact List.prefix_append _ _
theorem lvs_le (D : Int) (F : List Int) (n : Nat) : (lvs D F n).length ≤ 2 := by
  unfold lvs
  split <;> split <;> simp
theorem acc_end0 {D : Int} {F : List Int} {sec : Nat → List Tr} {n a : Nat} (h : n ≤ a) : acc D F sec n a = acc D F sec n n := by
  have h1 := acc_end (D := D) (F := F) (sec := sec) (bl := []) h
  have h2 := acc_end (D := D) (F := F) (sec := sec) (bl := []) (Nat.le_refl n)
  rw [List.append_nil] at h1 h2
  rw [h1, h2]
end Pl
end Go.Proofs.YtoaccmblaifnmaaDoor
namespace Go.Proofs.YtoaccmblaifnmaaDoor
open Flo Go.RowKit Tr
open Pl (tm)
set_option maxHeartbeats 1000000 in
theorem dsum_c (a b c : Nat) (ha : a ≤ 4611686018427387905) (hb : b ≤ 4611686018427387905) (hc : c = tm (a + b)) (w : World) : Calls Tryd.prog 102 #[.int .i64 (a : Int), .int .i64 (b : Int)] w fun e w' => e = .returned (.int .i64 (c : Int)) ∧ w' = w := by
  obtain ⟨d, hd⟩ : ∃ d : Int, (4611686018427387904 : Int) - (b : Int) = d := ⟨_, rfl⟩
  have w1 : wrap64 d = d := by unfold wrap64; omega
  by_cases h : 4611686018427387904 < a + b
  · have h1 : (a : Int) > d := by omega
    have e : c = 4611686018427387905 := by rw [hc]; unfold tm; omega
    subst e
    clear hc
    clear h ha hb
    go_enter Tryd.func102, Tryd.ntmps102
    go_wp2_with fail
    go_ret
    exact ⟨rfl, rfl⟩
  · have h1 : decide ((a : Int) > d) = false := decide_eq_false (by omega)
    have h2 : ¬ d < (a : Int) := by omega
    have e : c = a + b := by rw [hc]; unfold tm; omega
    have e2 : (a : Int) + (b : Int) = (c : Int) := by rw [e]; omega
    have e3 : wrap64 (c : Int) = (c : Int) := by rw [e]; unfold wrap64; omega
    clear hc e h ha hb
    go_enter Tryd.func102, Tryd.ntmps102
    go_wp2_with fail
    go_ret
    exact ⟨rfl, rfl⟩
set_option maxHeartbeats 1000000 in
theorem dproduct_c (n a c : Nat) (hn : 1 ≤ n) (hn2 : n ≤ 16384) (hc : c = tm (n * a)) (w : World) : Calls Tryd.prog 103 #[.int .i64 (a : Int), .int .i64 (n : Int)] w fun e w' => e = .returned (.int .i64 (c : Int)) ∧ w' = w := by
  obtain ⟨q, hq⟩ : ∃ q : Nat, 4611686018427387904 / n = q := ⟨_, rfl⟩
  have hqi : (4611686018427387904 : Int) / (n : Int) = (q : Int) := by rw [← hq]; rfl
  have hql : q ≤ 4611686018427387904 := by rw [← hq]; exact Nat.div_le_self _ _
  have n0 : (n : Int) > 0 := by omega
  have nz : ((n : Int) == 0) = false := beq_eq_false_iff_ne.2 (by omega)
  have w1 : wrap64 ((4611686018427387904 : Int) / (n : Int)) = (q : Int) := by rw [hqi]; unfold wrap64; omega
  have key : a ≤ q ↔ n * a ≤ 4611686018427387904 := by rw [← hq, Nat.le_div_iff_mul_le (by omega), Nat.mul_comm]
  by_cases h : q < a
  · have h1 : (a : Int) > (q : Int) := by omega
    have e : c = 4611686018427387905 := by
      rw [hc]; unfold tm
      have : ¬ n * a ≤ 4611686018427387904 := fun hh => (by have := key.2 hh; omega)
      omega
    subst e
    clear hc
    clear hq hql key h w1
    go_enter Tryd.func103, Tryd.ntmps103
    go_wp2_with fail
    go_ret
    exact ⟨rfl, rfl⟩
  · have h1 : decide ((a : Int) > (q : Int)) = false := decide_eq_false (by omega)
    have hle := key.1 (by omega)
    have e : c = n * a := by rw [hc]; unfold tm; omega
    have e2 : (a : Int) * (n : Int) = (c : Int) := by rw [castMul, e, Nat.mul_comm]
    have e3 : wrap64 (c : Int) = (c : Int) := by unfold wrap64; omega
    have h2 : ¬ q < a := h
    clear hc e hq hql key hle w1
    go_enter Tryd.func103, Tryd.ntmps103
    go_wp2_with fail
    go_ret
    exact ⟨by rw [e3]; rfl, rfl⟩
set_option maxHeartbeats 2000000 in
set_option maxRecDepth 100000 in
theorem dtimes_c (k : Int) (a b x y : Nat) (ha : 2 ≤ a) (hb : 2 ≤ b) (hab : a * b ≤ 16384) (w : World) :
    Calls Tryd.prog 74 #[.int .i64 k, .int .i64 (x : Int), .int .i64 (a : Int), .int .i64 (y : Int), .int .i64 (b : Int)] w fun e w' => e = .returned (.int .i64 (prc a b x y (k == 2) : Int)) ∧ w' = w := by
  obtain ⟨n, hn⟩ : ∃ n, a * b = n := ⟨_, rfl⟩
  have hn1 : n ≤ 16384 := by rw [← hn]; exact hab
  have ha2 : a ≤ 16384 := by have := Nat.le_mul_of_pos_right a (show 0 < b by omega); omega
  have hb2 : b ≤ 16384 := by have := Nat.le_mul_of_pos_left b (show 0 < a by omega); omega
  obtain ⟨a1, ha1⟩ : ∃ a1 : Nat, (a : Int) - 1 = (a1 : Int) := ⟨a - 1, by omega⟩
  obtain ⟨b1, hb1⟩ : ∃ b1 : Nat, (b : Int) - 1 = (b1 : Int) := ⟨b - 1, by omega⟩
  obtain ⟨a6, ha6⟩ : ∃ a6 : Nat, 6 * (a1 : Int) = (a6 : Int) := ⟨6 * a1, by omega⟩
  have ea6 : a6 = 6 * (a - 1) := by omega
  have eb1 : b1 = b - 1 := by omega
  obtain ⟨tw, htw⟩ : ∃ tw, 6 * (a - 1) * (b - 1) = tw := ⟨_, rfl⟩
  have htl : tw ≤ 98304 := by
    have h1 : (a - 1) * (b - 1) ≤ a * b := Nat.mul_le_mul (by omega) (by omega)
    rw [← htw, Nat.mul_assoc]; omega
  obtain ⟨p1, hp1⟩ : ∃ p1, tm (a * y) = p1 := ⟨_, rfl⟩
  obtain ⟨p2, hp2⟩ : ∃ p2, tm (b * x) = p2 := ⟨_, rfl⟩
  obtain ⟨p3, hp3⟩ : ∃ p3, tm (p1 + p2) = p3 := ⟨_, rfl⟩
  obtain ⟨p4, hp4⟩ : ∃ p4, tm (p3 + tw) = p4 := ⟨_, rfl⟩
  have l1 : p1 ≤ 4611686018427387905 := by rw [← hp1]; exact tm_le _
  have l2 : p2 ≤ 4611686018427387905 := by rw [← hp2]; exact tm_le _
  have l3 : p3 ≤ 4611686018427387905 := by rw [← hp3]; exact tm_le _
  have l4 : p4 ≤ 4611686018427387905 := by rw [← hp4]; exact tm_le _
  have k1 : Hid (∀ w, Calls Tryd.prog 103 #[.int .i64 (y : Int), .int .i64 (a : Int)] w fun e w' => e = .returned (.int .i64 (p1 : Int)) ∧ w' = w) := fun w => dproduct_c a y p1 (by omega) ha2 hp1.symm w
  have k2 : Hid (∀ w, Calls Tryd.prog 103 #[.int .i64 (x : Int), .int .i64 (b : Int)] w fun e w' => e = .returned (.int .i64 (p2 : Int)) ∧ w' = w) := fun w => dproduct_c b x p2 (by omega) hb2 hp2.symm w
  have k3 : Hid (∀ w, Calls Tryd.prog 102 #[.int .i64 (p1 : Int), .int .i64 (p2 : Int)] w fun e w' => e = .returned (.int .i64 (p3 : Int)) ∧ w' = w) := fun w => dsum_c p1 p2 p3 l1 l2 hp3.symm w
  have k4 : Hid (∀ w, Calls Tryd.prog 102 #[.int .i64 (p3 : Int), .int .i64 (tw : Int)] w fun e w' => e = .returned (.int .i64 (p4 : Int)) ∧ w' = w) := fun w => dsum_c p3 tw p4 l3 (by omega) hp4.symm w
  obtain ⟨p5, hp5⟩ : ∃ p5, tm (p4 + n) = p5 := ⟨_, rfl⟩
  have k5 : Hid (∀ w, Calls Tryd.prog 102 #[.int .i64 (p4 : Int), .int .i64 (n : Int)] w fun e w' => e = .returned (.int .i64 (p5 : Int)) ∧ w' = w) := fun w => dsum_c p4 n p5 l4 (by omega) hp5.symm w
  have er : Hid (prc a b x y (k == 2) = if (k == 2) = true then p4 else p5) := by
    show _ = _
    unfold prc
    rw [hp1, hp2, hp3, htw, hp4, hn]
    cases (k == 2)
    · exact hp5
    · show tm (p4 + 0) = p4
      rw [Nat.add_zero, ← hp4, tm_tm]
  rw [er.out]
  have m1 : (a : Int) * (b : Int) = (n : Int) := by rw [castMul, hn]
  have m2 : (a6 : Int) * (b1 : Int) = (tw : Int) := by rw [castMul, ea6, eb1, htw]
  have a6l : a6 ≤ 98304 := by omega
  have wq1 : IntKind.i64.wrap (a1 : Int) = (a1 : Int) := by rw [IntKind.wrap_i64]; omega
  have wq2 : IntKind.i64.wrap (b1 : Int) = (b1 : Int) := by rw [IntKind.wrap_i64]; omega
  have wq3 : IntKind.i64.wrap (a6 : Int) = (a6 : Int) := by rw [IntKind.wrap_i64]; omega
  have wq4 : IntKind.i64.wrap (tw : Int) = (tw : Int) := by rw [IntKind.wrap_i64]; omega
  have wq5 : IntKind.i64.wrap (n : Int) = (n : Int) := by rw [IntKind.wrap_i64]; omega
  clear er hp1 hp2 hp3 hp4 hp5 hn htw hab ea6 eb1 l1 l2 l3 l4
  by_cases hk : k = 2
  · subst hk
    rw [if_pos (show ((2 : Int) == 2) = true from rfl)]
    go_enter Tryd.func74, Tryd.ntmps74
    go_wp2_with fail
    refine (k1.out _).mono ?_
    rintro e w' ⟨rfl, rfl⟩
    go_wp2_with fail
    refine (k2.out _).mono ?_
    rintro e w' ⟨rfl, rfl⟩
    go_wp2_with fail
    refine (k3.out _).mono ?_
    rintro e w' ⟨rfl, rfl⟩
    go_wp2_with fail
    refine (k4.out _).mono ?_
    rintro e w' ⟨rfl, rfl⟩
    go_wp2_with fail
    go_ret
    exact ⟨rfl, rfl⟩
  · have hkb : (k == 2) = false := beq_eq_false_iff_ne.2 hk
    have hkn : (k != 2) = true := by simp [bne, hkb]
    rw [hkb, if_neg (by decide)]
    go_enter Tryd.func74, Tryd.ntmps74
    go_wp2_with fail
    refine (k1.out _).mono ?_
    rintro e w' ⟨rfl, rfl⟩
    go_wp2_with fail
    refine (k2.out _).mono ?_
    rintro e w' ⟨rfl, rfl⟩
    go_wp2_with fail
    refine (k3.out _).mono ?_
    rintro e w' ⟨rfl, rfl⟩
    go_wp2_with fail
    refine (k4.out _).mono ?_
    rintro e w' ⟨rfl, rfl⟩
    go_wp2_with fail
    refine (k5.out _).mono ?_
    rintro e w' ⟨rfl, rfl⟩
    go_wp2_with fail
    go_ret
    exact ⟨rfl, rfl⟩
end Go.Proofs.YtoaccmblaifnmaaDoor
