/-
  Contracts of package primes that take words: gcd, size, Gcd, Mul, Pow, less.
-/
import Derived.Test.YtoaccmblaifnmaaDoorAb4
namespace Go.Proofs.YtoaccmblaifnmaaDoor
open Flo Go.RowKit Go.Lib

/-- what Pow keeps: what is reckoned so far times the rest of the power -/
def PwI (a x m o b y : Nat) : Prop := o < 18446744073709551616 ∧ b < 18446744073709551616 ∧ (m = 0 → o = 0) ∧ (0 < m → o < m ∧ o * b ^ y % m = a ^ x % m)
theorem PwI.start {a x m : Nat} (ha : a < 18446744073709551616) (hm : m < 18446744073709551616) : PwI a x m (mm 1 1 m) a x := by
  refine ⟨mm_lt _ _ hm, ha, fun h => by subst h; rfl, fun h => ?_⟩
  rw [mm_pos h]
  refine ⟨Nat.mod_lt _ h, ?_⟩
  rw [Nat.mod_mul_mod, Nat.one_mul]
theorem PwI.even {a x m o b y : Nat} (h : PwI a x m o b y) (hm : m < 18446744073709551616) (hy : y % 2 = 0) : PwI a x m o (mm b b m) (y / 2) := by
  obtain ⟨h1, h2, h3, h4⟩ := h
  refine ⟨h1, mm_lt _ _ hm, h3, fun hp => ⟨(h4 hp).1, ?_⟩⟩
  rw [← (h4 hp).2, mm_pos hp, Nat.mul_mod, ← Nat.pow_mod, ← Nat.mul_mod]
  congr 2
  rw [← Nat.pow_two, ← Nat.pow_mul]
  congr 1; omega
theorem PwI.odd {a x m o b y : Nat} (h : PwI a x m o b y) (hm : m < 18446744073709551616) (hy : y % 2 = 1) : PwI a x m (mm o b m) (mm b b m) (y / 2) := by
  obtain ⟨h1, h2, h3, h4⟩ := h
  refine ⟨mm_lt _ _ hm, mm_lt _ _ hm, fun h => by subst h; rfl, fun hp => ⟨?_, ?_⟩⟩
  · rw [mm_pos hp]; exact Nat.mod_lt _ hp
  · rw [← (h4 hp).2, mm_pos hp, mm_pos hp, Nat.mod_mul_mod, Nat.mul_mod, ← Nat.pow_mod, ← Nat.mul_mod, Nat.mul_assoc]
    congr 2
    rw [← Nat.pow_two, ← Nat.pow_mul, ← Nat.pow_succ']
    congr 1; omega
theorem PwI.done {a x m o b : Nat} (h : PwI a x m o b 0) : o = pw a x m := by
  obtain ⟨h1, h2, h3, h4⟩ := h
  by_cases hp : m = 0
  · rw [h3 hp, hp]; rfl
  · have := h4 (by omega)
    rw [Nat.pow_zero, Nat.mul_one, Nat.mod_eq_of_lt this.1] at this
    rw [pw_pos (by omega)]; exact this.2
end Go.Proofs.YtoaccmblaifnmaaDoor
/-
  Contracts of package primes: Inverse, Join.
-/
namespace Go.Proofs.YtoaccmblaifnmaaDoor
open Flo Go.RowKit Go.Lib

/-- what Euclid's way of the program keeps, whether there is an inverse or not -/
def Eug (a m p q s t : Nat) : Prop := q < p ∧ p ≤ m ∧ s < m ∧ t < m ∧ Nat.gcd p q = Nat.gcd (a % m) m ∧ (Nat.gcd (a % m) m = 1 → Euc a m p q s t)
theorem eug_start {a m : Nat} (hm : 2 ≤ m) : Eug a m m (a % m) 0 1 := by
  refine ⟨Nat.mod_lt _ (by omega), Nat.le_refl _, by omega, by omega, Nat.gcd_comm _ _, fun h => ?_⟩
  have := euc_start (a := a) (show 0 < m by omega) h
  rwa [Nat.mod_eq_of_lt (show 1 < m by omega)] at this
theorem eug_step {a m p q s t : Nat} (h : Eug a m p q s t) (hq : 0 < q) : Eug a m q (p % q) t (Cr.ls s (mm (p / q) t m) m) := by
  obtain ⟨h1, h2, h3, h4, h5, h6⟩ := h
  refine ⟨Nat.mod_lt _ hq, by omega, h4, Cr.ls_lt h3, ?_, fun h => euc_step (h6 h) hq⟩
  rw [← h5, Nat.gcd_comm q, ← Nat.gcd_rec, Nat.gcd_comm]
theorem eug_end {a m p s t : Nat} (h : Eug a m p 0 s t) : p = Nat.gcd (a % m) m := by
  have := h.2.2.2.2.1; rwa [Nat.gcd_zero_right] at this
theorem ivf_one (a : Nat) : ivf a 1 = 0 := ivf_of (a := a) (m := 1) ⟨by decide, by rw [Nat.mod_one]; rfl⟩ ⟨by decide, by rw [Nat.mod_one]⟩
end Go.Proofs.YtoaccmblaifnmaaDoor
/-
  The contract of package primes' Join.
-/
namespace Go.Proofs.YtoaccmblaifnmaaDoor
open Flo Go.RowKit Go.Lib

theorem ret_tupv {a b : Int} {v : Value} (h : a = b) : Ending.returned (.tuple #[.int .u64 a, v]) = .returned (.tuple #[.int .u64 b, v]) := by rw [h]
theorem ivf_mod (m n : Nat) : ivf (m % n) n = ivf m n := by
  unfold ivf
  have : (fun x => m % n * x % n == 1 % n) = (fun x => m * x % n == 1 % n) := by
    funext x; rw [Nat.mod_mul_mod]
  rw [this]
end Go.Proofs.YtoaccmblaifnmaaDoor
/-
  Contracts of package primes: factorFrom, Factors, Prime.
-/
namespace Go.Proofs.YtoaccmblaifnmaaDoor
open Flo Go.RowKit Go.Lib

/-- the least divisor of N from 2 on -/
def Ld (N p : Nat) : Prop := 2 ≤ p ∧ p ∣ N ∧ ∀ e, 2 ≤ e → e < p → ¬ e ∣ N
theorem Ld.self {N d : Nat} (h2 : 2 ≤ N) (h : ∀ e, 2 ≤ e → e < d → ¬ e ∣ N) (hl : N < d * d) : Ld N N := by
  refine ⟨h2, Nat.dvd_refl _, fun e e1 e2 hd => ?_⟩
  by_cases c : e < d
  · exact h e e1 c hd
  · obtain ⟨f, hf⟩ := hd
    have hf2 : 2 ≤ f := by
      rcases Nat.lt_or_ge f 2 with c | c
      · have : f = 0 ∨ f = 1 := by omega
        rcases this with rfl | rfl
        · simp at hf; omega
        · simp at hf; omega
      · exact c
    have hfd : f < d := by
      apply Nat.lt_of_not_le
      intro c2
      have : d * d ≤ e * f := Nat.mul_le_mul (by omega) c2
      omega
    exact h f hf2 hfd ⟨e, by rw [hf, Nat.mul_comm]⟩
theorem Ld.tri {n d N p : Nat} {zs : List Nat} (hT : Nt.Tri n d N zs) (h : Ld N p) : Nt.Tri n p (N / p) (zs ++ [p]) := by
  have hdp : d ≤ p := by
    apply Nat.le_of_not_lt
    intro c
    exact hT.2.2.2.1 p h.1 c h.2.1
  have hT' : Nt.Tri n p N zs := ⟨hT.1, fun x hx => ⟨(hT.2.1 x hx).1, Nat.le_trans (hT.2.1 x hx).2 hdp⟩, hT.2.2.1, h.2.2, hT.2.2.2.2.1, h.1⟩
  exact hT'.push (Nat.mod_eq_zero_of_dvd h.2.1)
theorem Ld.prime {N p : Nat} (h : Ld N p) : Nt.Pr p := by
  refine ⟨h.1, fun d hd => ?_⟩
  have h0 := h.1
  by_cases c : d = 1
  · exact Or.inl c
  · right
    apply Nat.le_antisymm (Nat.le_of_dvd (by omega) hd)
    apply Nat.le_of_not_lt
    intro c2
    have : d ≠ 0 := by intro c3; subst c3; have := Nat.eq_zero_of_zero_dvd hd; omega
    exact h.2.2 d (by omega) c2 (Nat.dvd_trans hd h.2.1)
theorem Ld.iff {N : Nat} {p : Nat} (h : Ld N p) : p = N ↔ Nt.Pr N := by
  constructor
  · intro e; rw [← e]; exact h.prime
  · intro hp
    rcases hp.2 p h.2.1 with c | c
    · have := h.1; omega
    · exact c
set_option maxHeartbeats 2000000 in
theorem factorFrom_c (d N : Nat) (w : World) (h2 : 2 ≤ N) (hN : N ≤ 4294967296) (hd2 : 2 ≤ d) (hdl : d ≤ 65537) (hno : ∀ e, 2 ≤ e → e < d → ¬ e ∣ N) :
    Calls Tryd.prog 115 #[.int .i64 d, .int .i64 N] w fun e w' => ∃ p : Nat, e = .returned (.int .i64 (p : Int)) ∧ Ld N p ∧ w = w' := by
  have hnH : Hid (∀ e, 2 ≤ e → e < d → ¬ e ∣ N) := hno
  clear hno
  go_enter Tryd.func115, Tryd.ntmps115
  go_wp2
  go_loop [0] (fun sd => ∃ c : Nat, sd = .int .i64 c ∧ 2 ≤ c ∧ c ≤ 65537 ∧ Hid (∀ e, 2 ≤ e → e < c → ¬ e ∣ N)) (fun sd => 65538 - (intOf sd).toNat)
  case atStart => exact ⟨d, rfl, hd2, hdl, hnH⟩
  case round =>
    clear hnH hd2 hdl
    obtain ⟨c, rfl, hc2, hcl, hno⟩ := hrel
    obtain ⟨t, ht⟩ : ∃ t : Nat, t = c * c := ⟨_, rfl⟩
    have htl : t ≤ 4295098369 := by rw [ht]; exact Nat.mul_le_mul hcl hcl
    have ed : wrap64 ((c : Int) * (c : Int)) = (t : Int) := by
      rw [castMul, ← ht]; unfold wrap64; omega
    have dz : ((c : Int) == 0) = false := beq_eq_false_iff_ne.2 (by omega)
    by_cases hc : t ≤ N
    · have hc' : (t : Int) ≤ (N : Int) := by omega
      have hd' : c < 65537 := by
        apply Nat.lt_of_not_le
        intro h9
        have : 4295098369 ≤ c * c := Nat.mul_le_mul h9 h9
        omega
      by_cases hm : N % c = 0
      · have m1 : ((N : Int) % (c : Int) == 0) = true := by rw [beq_iff_eq]; omega
        have hL : Hid (Ld N c) := ⟨hc2, Nat.dvd_of_mod_eq_zero hm, hno.out⟩
        clear ht htl hc hm hno
        go_wp2
        go_ret
        exact ⟨c, rfl, hL.out, rfl⟩
      · have m1 : ((N : Int) % (c : Int) == 0) = false := beq_eq_false_iff_ne.2 (by omega)
        have hn' : Hid (∀ e, 2 ≤ e → e < c + 1 → ¬ e ∣ N) := fun e e1 e2 hd => by
          by_cases k : e = c
          · subst k; exact hm (Nat.mod_eq_zero_of_dvd hd)
          · exact hno.out e e1 (by omega) hd
        clear ht htl hc hm hno
        go_wp2
        go_round
        case rel => exact ⟨c + 1, by go_num, by omega, by omega, hn'⟩
        case measure => simp [intOf]; omega
    · have hc' : decide ((t : Int) ≤ (N : Int)) = false := decide_eq_false (by omega)
      have hL : Hid (Ld N N) := Ld.self h2 hno.out (by omega)
      clear ht htl hno
      go_wp2
      go_ret
      exact ⟨N, rfl, hL.out, rfl⟩
theorem Tri_small {n d N : Nat} {zs : List Nat} (h : Nt.Tri n d N zs) (hn : n ≤ 4294967296) (hz : zs ≠ [] → d ∈ zs) (hN : 2 ≤ N) (h0 : zs = [] → d = 2) : d ≤ 65537 := by
  by_cases e : zs = []
  · rw [h0 e]; decide
  · have hd := Nt.dvd_prod_of_mem (hz e)
    have hNd : d ≤ N := by
      apply Nat.le_of_not_lt
      intro c
      exact h.2.2.2.1 N hN c (Nat.dvd_refl _)
    apply Nat.le_of_not_lt
    intro c
    have h1 : Nt.prod zs * N = n := h.1
    have hp : d ≤ Nt.prod zs := Nat.le_of_dvd (by
      apply Nat.pos_of_ne_zero
      intro k
      rw [k, Nat.zero_mul] at h1
      have := h.le; omega) hd
    have : 65538 * 65538 ≤ Nt.prod zs * N := Nat.mul_le_mul (by omega) (by omega)
    omega
set_option maxHeartbeats 2000000 in
theorem pFactors_no (n : Int) (w : World) (h : n < 2 ∨ 4294967296 < n) :
    Calls Tryd.prog 111 #[.int .i64 n] w fun e w' => e = .returned (.slice none 0 0) ∧ w' = w := by
  by_cases h1 : n < 2
  · have c1 : decide (4294967296 < n) = false := decide_eq_false (by omega)
    have c2 : decide (1 < n) = false := decide_eq_false (by omega)
    clear h
    go_enter Tryd.func111, Tryd.ntmps111
    go_wp2
    go_loop [0, 3, 4] (fun sn v sd => sn = .int .i64 n ∧ v = .slice none 0 0 ∧ sd = .int .i64 2) (fun _ _ _ => 0)
    case atStart => exact ⟨rfl, rfl, rfl⟩
    case round =>
      obtain ⟨rfl, rfl, rfl⟩ := hrel
      go_wp2
      go_ret
      exact ⟨rfl, rfl⟩
  · have c2 : 4294967296 < n := by omega
    clear h
    go_enter Tryd.func111, Tryd.ntmps111
    go_wp2
    go_ret
    exact ⟨rfl, rfl⟩
set_option maxHeartbeats 2000000 in
theorem pFactors_n (n : Nat) (w : World) (h2 : 2 ≤ n) (hn : n ≤ 4294967296) :
    Calls Tryd.prog 111 #[.int .i64 n] w fun e w' => ∃ v zs, e = .returned v ∧ Nt.Fac n zs ∧ w'.ownsRow w.heap.size 3 1 v zs.length (il zs) ∧ Below w.heap.size w w' := by
  obtain ⟨i0, hi, hz0, hz1, hz2⟩ := info_parts infoInt
  have c2 : decide ((4294967296 : Int) < (n : Int)) = false := decide_eq_false (by omega)
  have hst : Hid (Nt.Tri n 2 n []) := Nt.Tri.start (by omega)
  have hnH : Hid (n ≤ 4294967296) := hn
  have h2H : Hid (2 ≤ n) := h2
  clear hn h2
  go_enter Tryd.func111, Tryd.ntmps111
  go_wp2
  go_loopw [0, 3, 4] (fun sn v sd wr => ∃ (N d : Nat) (zs : List Nat), Hid (Nt.Tri n d N zs) ∧ Hid ((zs ≠ [] → d ∈ zs) ∧ (zs = [] → d = 2)) ∧ sn = .int .i64 N ∧ sd = .int .i64 d ∧ wr.ownsRow w.heap.size 3 1 v zs.length (il zs) ∧ Below w.heap.size w wr) (fun sn _ _ _ => (intOf sn).toNat)
  case atStart => exact ⟨n, 2, [], hst, ⟨fun c => absurd rfl c, fun _ => rfl⟩, rfl, rfl, World.ownsRow_nil _ _ _ _, Below.refl _ _⟩
  case round =>
    clear hst c2
    obtain ⟨N, d, zs, hT, hz, rfl, rfl, hown, hbl⟩ := hrel
    have hsz := hbl.size
    by_cases h1 : 1 < N
    · have k1 : (1 : Int) < (N : Int) := by omega
      have hds : d ≤ 65537 := Tri_small hT.out hnH.out hz.out.1 h1 hz.out.2
      have hd2 : 2 ≤ d := hT.out.2.2.2.2.2
      have hNn : N ≤ 4294967296 := Nat.le_trans hT.out.le hnH.out
      have hlen : zs.length ≤ 32 := hT.out.len hnH.out
      have hno : Hid (∀ e, 2 ≤ e → e < d → ¬ e ∣ N) := hT.out.2.2.2.1
      go_wp2_with fail
      refine (factorFrom_c _ _ _ h1 hNn hd2 hds hno.out).mono ?_
      rintro e w' ⟨p, rfl, hL, rfl⟩
      have hnew : Hid (Nt.Tri n p (N / p) (zs ++ [p])) := hL.tri hT.out
      have hp2 : 2 ≤ p := hL.1
      have hsn : Hid (il (zs ++ [p]) = il zs ++ [.int .i64 (p : Int)]) := il_snoc zs p
      obtain ⟨q, hq⟩ : ∃ q : Nat, q = N / p := ⟨_, rfl⟩
      have hqM : q < N := by rw [hq]; exact Nat.div_lt_self (by omega) hp2
      have eq1 : wrap64 ((N : Int) / (p : Int)) = (q : Int) := by
        rw [show (N : Int) / (p : Int) = ((N / p : Nat) : Int) from rfl, ← hq]; unfold wrap64; omega
      rw [← hq] at hnew
      have pz : ((p : Int) == 0) = false := beq_eq_false_iff_ne.2 (by omega)
      clear hq hT hz hno hL hds hd2 k1
      go_wp2_with (at_builtin; refine wpList_append_own _ rfl _ _ 43 rfl w.heap.size 3 i0 (.int .i64 0) 1 8 Tryd.underlying43 hi hz0 hz1 hz2 rfl (by decide) _ _ _ rfl (hown.alloc _) ⟨wr.heap.size, 0, none⟩ 1 1 [.int .i64 (p : Int)] rfl rfl ?c1 ?c2 ?c3 ?c4 ?c5 ?_)
      case c1 =>
        intro j u hj
        match j, hj with
        | 0, hj => simp at hj; subst hj; simp [Addr.add]
      case c2 => intro u hu; simp at hu; subst hu; rfl
      case c3 => unfold maxLen; omega
      case c4 => omega
      case c5 => simp; omega
      · intro v' w1 hown' hgrow hnil
        have hbl' : Below w.heap.size w w1 := (hbl.alloc hsz _).grown hgrow (by simp; omega) (fun k' hk' => (hown.lt k' hk').1)
        rw [← hsn.out] at hown'
        have hl : (zs ++ [p]).length = zs.length + 1 := by simp
        clear hown hgrow hnil hbl
        go_wp2
        rw [eq1]
        clear eq1
        go_roundw
        case rel => exact ⟨q, p, zs ++ [p], hnew, ⟨fun _ => by simp, fun c => by simp at c⟩, rfl, rfl, by rw [hl]; exact hown', hbl'⟩
        case measure => simp [intOf]; exact hqM
    · have e1 : N = 1 := by have := hT.out.2.2.2.2.1; omega
      subst e1
      have hf : Hid (Nt.Fac n zs) := hT.out.done
      clear hT hz h1
      go_wp2
      go_ret
      exact ⟨_, zs, rfl, hf.out, hown, hbl⟩
end Go.Proofs.YtoaccmblaifnmaaDoor
/-
  Lists of factors, of the program and of the document, in one sentence each.
-/
namespace Go.Proofs.YtoaccmblaifnmaaDoor
open Flo Go.RowKit
/-- the list of factors, none outside 2 to 2^32 -/
def FacO (n : Int) (zs : List Nat) : Prop := (2 ≤ n ∧ n ≤ 4294967296 ∧ Nt.Fac n.toNat zs) ∨ ((n < 2 ∨ 4294967296 < n) ∧ zs = [])
theorem FacO.eq {n : Int} {xs ys : List Nat} (a : FacO n xs) (b : FacO n ys) : xs = ys := by
  rcases a with ⟨a1, a2, a3⟩ | ⟨a1, a2⟩ <;> rcases b with ⟨b1, b2, b3⟩ | ⟨b1, b2⟩
  · exact a3.eq b3
  · omega
  · omega
  · rw [a2, b2]
theorem FacO.len {n : Int} {xs : List Nat} (a : FacO n xs) : xs.length ≤ 32 := by
  rcases a with ⟨a1, a2, a3⟩ | ⟨a1, a2⟩
  · exact a3.len (by omega)
  · rw [a2]; simp
theorem pFac_o (n : Int) (w : World) :
    Calls Tryd.prog 111 #[.int .i64 n] w fun e w' => ∃ v zs, e = .returned v ∧ FacO n zs ∧ w'.ownsRow w.heap.size 3 1 v zs.length (il zs) ∧ Below w.heap.size w w' := by
  by_cases h : n < 2 ∨ 4294967296 < n
  · refine (pFactors_no n w h).mono ?_
    rintro e w' ⟨rfl, rfl⟩
    exact ⟨_, [], rfl, Or.inr ⟨h, rfl⟩, World.ownsRow_nil _ _ _ _, Below.refl _ _⟩
  · obtain ⟨m, rfl⟩ : ∃ m : Nat, n = (m : Int) := ⟨n.toNat, by omega⟩
    refine (pFactors_n m w (by omega) (by omega)).mono ?_
    rintro e w' ⟨v, zs, rfl, hf, hown, hb⟩
    exact ⟨v, zs, rfl, Or.inl ⟨by omega, by omega, by rw [Int.toNat_natCast]; exact hf⟩, hown, hb⟩
theorem rFac_o (n : Int) (w : World) :
    Calls Tryd.prog 104 #[.int .i64 n] w fun e w' => ∃ v zs, e = .returned v ∧ FacO n zs ∧ w'.ownsRow w.heap.size 3 1 v zs.length (il zs) ∧ Below w.heap.size w w' := by
  by_cases h : n < 2 ∨ 4294967296 < n
  · refine (r5Factors_no n w h).mono ?_
    rintro e w' ⟨rfl, rfl⟩
    exact ⟨_, [], rfl, Or.inr ⟨h, rfl⟩, World.ownsRow_nil _ _ _ _, Below.refl _ _⟩
  · obtain ⟨m, rfl⟩ : ∃ m : Nat, n = (m : Int) := ⟨n.toNat, by omega⟩
    refine (r5Factors_n m w (by omega) (by omega)).mono ?_
    rintro e w' ⟨v, zs, rfl, hf, hown, hb⟩
    exact ⟨v, zs, rfl, Or.inl ⟨by omega, by omega, by rw [Int.toNat_natCast]; exact hf⟩, hown, hb⟩
end Go.Proofs.YtoaccmblaifnmaaDoor
