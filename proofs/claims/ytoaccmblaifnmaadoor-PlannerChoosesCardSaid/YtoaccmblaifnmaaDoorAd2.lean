/-
  Lists of bits that came in, each place by itself; the pairs that they are.
-/
import Derived.Test.YtoaccmblaifnmaaDoorAb6
import Derived.Test.YtoaccmblaifnmaaDoorAb7
import Derived.Test.YtoaccmblaifnmaaDoorAa1
import Derived.RegionTactic
import Derived.ChangeAlike
import Derived.Outline
import Derived.Test.YtoaccmblaifnmaaDoorProg
import Derived.Test.YtoaccmblaifnmaaDoorWrd
import Derived.Deep.RegionLaw
import Derived.Laws.CopyOwn
import Derived.OwnWalk
namespace Go.Proofs.YtoaccmblaifnmaaDoor
open Flo Go.RowKit
/-- a list of bits that came in, each place by itself -/
def InU (w : World) (v : Value) (zs : List Nat) : Prop :=
  ∃ ao cap, v = .slice ao zs.length cap ∧ (∀ i, i < zs.length → ∃ b off, ao = some ⟨b, off, none⟩ ∧ b < w.heap.size ∧ w.cell? ⟨b, off + i, none⟩ = some (.int .u64 ((zs.getD i 0 : Nat) : Int))) ∧ (∀ i, i < zs.length → zs.getD i 0 < 18446744073709551616)
theorem InU.below {w w' : World} {v : Value} {zs : List Nat} (h : InU w v zs) (hb : Below w.heap.size w w') : InU w' v zs := by
  obtain ⟨ao, cap, e, h2, h3⟩ := h
  refine ⟨ao, cap, e, fun i hi => ?_, h3⟩
  obtain ⟨b, off, e2, h4, h5⟩ := h2 i hi
  exact ⟨b, off, e2, Nat.lt_of_lt_of_le h4 hb.size, (hb.cell (p := ⟨b, off + i, none⟩) h4).trans h5⟩
/-- the pairs, as far as pair k -/
def prk (zs : List Nat) (k : Nat) : List (Nat × Nat) := (List.range k).map fun i => (zs.getD (2 * i) 0, zs.getD (2 * i + 1) 0)
def prs (zs : List Nat) : List (Nat × Nat) := prk zs (zs.length / 2)
theorem prk_len (zs : List Nat) (k : Nat) : (prk zs k).length = k := by simp [prk]
theorem prs_len (zs : List Nat) : (prs zs).length = zs.length / 2 := prk_len ..
theorem prk_snoc (zs : List Nat) (k : Nat) : prk zs (k + 1) = prk zs k ++ [(zs.getD (2 * k) 0, zs.getD (2 * k + 1) 0)] := by simp [prk, List.range_succ]
theorem prs_lim {zs : List Nat} (h : ∀ i, i < zs.length → zs.getD i 0 < 18446744073709551616) : Lim (prs zs) := by
  intro i hi
  rw [prs_len] at hi
  unfold prs prk
  rw [getD_map_range _ _ _ _ hi]
  exact ⟨h _ (by omega), h _ (by omega)⟩
/-- a list of whole numbers that came in, each place by itself -/
def InS (w : World) (v : Value) (zs : List Int) : Prop :=
  ∃ ao cap, v = .slice ao zs.length cap ∧ ∀ i, i < zs.length → ∃ b off, ao = some ⟨b, off, none⟩ ∧ b < w.heap.size ∧ w.cell? ⟨b, off + i, none⟩ = some (.int .i64 (zs.getD i 0))
/-- a place's cells, from p on -/
structure PlAt (w : World) (q p : Nat) (k s n m : Int) : Prop where
  c0 : w.cell? ⟨q, p, none⟩ = some (.int .i64 k)
  c1 : w.cell? ⟨q, p + 1, none⟩ = some (.int .i64 s)
  c2 : w.cell? ⟨q, p + 2, none⟩ = some (.int .i64 n)
  c3 : w.cell? ⟨q, p + 3, none⟩ = some (.int .i64 m)
  b0 : -9223372036854775808 ≤ k ∧ k ≤ 9223372036854775807
  b1 : -9223372036854775808 ≤ s ∧ s ≤ 9223372036854775807
  b2 : -9223372036854775808 ≤ n ∧ n ≤ 9223372036854775807
  b3 : -9223372036854775808 ≤ m ∧ m ≤ 9223372036854775807
/-- a list of places -/
def InP (w : World) (ao : Option Addr) (len : Nat) : Prop :=
  ∀ i, i < len → ∃ q o k s n m, ao = some ⟨q, o, none⟩ ∧ q < w.heap.size ∧ PlAt w q (o + i * 4) k s n m
end Go.Proofs.YtoaccmblaifnmaaDoor
/-
  Contracts of bits.Apart: the steps between two floats that are no NaN; ErrNumber's value where one is.
-/
namespace Go.Proofs.YtoaccmblaifnmaaDoor
open Flo Go.RowKit
theorem ret_pair {k : IntKind} {a b : Int} {v : Value} (h : a = b) : Ending.returned (.tuple #[.int k a, v]) = .returned (.tuple #[.int k b, v]) := by rw [h]
def ap (a b : Nat) : Nat := if pl a ≤ pl b then pl b - pl a else pl a - pl b
end Go.Proofs.YtoaccmblaifnmaaDoor
/-
  Contracts of bits.halved, bits.compose, bits.Scale, bits.Whole.
-/
namespace Go.Proofs.YtoaccmblaifnmaaDoor
open Flo Go.RowKit
/-- m over 2^s, rounded to the nearest whole number, a half to the even one. -/
def hv (m s : Nat) : Nat := if 53 < s then 0 else if 2 ^ (s - 1) < m % 2 ^ s ∨ (m % 2 ^ s = 2 ^ (s - 1) ∧ m / 2 ^ s % 2 = 1) then m / 2 ^ s + 1 else m / 2 ^ s
theorem pow_le (a b : Nat) (h : a ≤ b) : 2 ^ a ≤ 2 ^ b := Nat.pow_le_pow_right (by omega) h
/-- The raw expressions of the walk, by plain numbers. -/
theorem rawW (s : Nat) (h : s ≤ 53) : IntKind.u64.wrap (2 ^ (s - 1)) = ((2 ^ (s - 1) : Nat) : Int) := by
  have := shl_wrap 1 (s - 1) (by have := pow_le (s - 1) 53 (by omega); omega)
  simpa using this
theorem rawR (m s : Nat) (h0 : 1 ≤ s) (h : s ≤ 53) (hm : m < 18446744073709551616) :
    bits .and .u64 (m : Int) (IntKind.u64.wrap (IntKind.u64.wrap (2 * IntKind.u64.wrap (2 ^ (s - 1))) - 1)) = ((m % 2 ^ s : Nat) : Int) := by
  have hp := pow_le s 53 h
  have h1 : 2 * 2 ^ (s - 1) = 2 ^ s := by rw [← Nat.pow_succ', Nat.succ_eq_add_one, show s - 1 + 1 = s by omega]
  have h2 : 0 < 2 ^ s := Nat.two_pow_pos s
  rw [rawW s h]
  have e1 : IntKind.u64.wrap (2 * ((2 ^ (s - 1) : Nat) : Int)) = ((2 ^ s : Nat) : Int) := by rw [IntKind.wrap_u64]; omega
  rw [e1]
  have e2 : IntKind.u64.wrap (((2 ^ s : Nat) : Int) - 1) = ((2 ^ s - 1 : Nat) : Int) := by rw [IntKind.wrap_u64]; omega
  rw [e2, u64_and_nat m (2 ^ s - 1) hm (by omega), Nat.and_two_pow_sub_one_eq_mod]
theorem rawB (m s : Nat) (hm : m < 18446744073709551616) : bits .and .u64 ((m : Int) / 2 ^ s) 1 = ((m / 2 ^ s % 2 : Nat) : Int) := by
  have e : (m : Int) / 2 ^ s = ((m / 2 ^ s : Nat) : Int) := by simp
  have hl := Nat.div_le_self m (2 ^ s)
  rw [e]
  refine (u64_and_nat (m / 2 ^ s) 1 (by omega) (by decide)).trans ?_
  rw [Nat.and_one_is_mod]
theorem rawU (m s : Nat) (hm : m < 9007199254740992) : IntKind.u64.wrap ((m : Int) / 2 ^ s + 1) = ((m / 2 ^ s + 1 : Nat) : Int) := by
  have e : (m : Int) / 2 ^ s = ((m / 2 ^ s : Nat) : Int) := by simp
  have hl := Nat.div_le_self m (2 ^ s)
  rw [e, IntKind.wrap_u64]
  generalize m / 2 ^ s = c at *
  omega
theorem rawH (m s : Nat) (h0 : 1 ≤ s) (h : s ≤ 53) (hm : m < 9007199254740992) : ((hv m s : Nat) : Int) =
    if IntKind.u64.wrap (2 ^ (s - 1)) < bits .and .u64 (m : Int) (IntKind.u64.wrap (IntKind.u64.wrap (2 * IntKind.u64.wrap (2 ^ (s - 1))) - 1)) ∨ (bits .and .u64 (m : Int) (IntKind.u64.wrap (IntKind.u64.wrap (2 * IntKind.u64.wrap (2 ^ (s - 1))) - 1)) = IntKind.u64.wrap (2 ^ (s - 1)) ∧ bits .and .u64 ((m : Int) / 2 ^ s) 1 = 1)
    then IntKind.u64.wrap ((m : Int) / 2 ^ s + 1) else (m : Int) / 2 ^ s := by
  rw [rawR m s h0 h (by omega), rawW s h, rawB m s (by omega), rawU m s hm]
  have e : (m : Int) / 2 ^ s = ((m / 2 ^ s : Nat) : Int) := by simp
  rw [e]
  unfold hv
  rw [if_neg (by omega)]
  generalize 2 ^ (s - 1) = a
  generalize m % 2 ^ s = b
  generalize m / 2 ^ s = c
  by_cases hc : a < b ∨ (b = a ∧ c % 2 = 1)
  · rw [if_pos hc, if_pos (by omega)]
  · rw [if_neg hc, if_neg (by omega)]
/-- The size of the float nearest to m x 2^p, m of 53 digits. -/
def cm (m : Nat) (p : Int) : Nat := if 971 < p then 9218868437227405312 else if p < -1074 then hv m (-1074 - p).toNat else (p + 1075).toNat * 4503599627370496 + m % 4503599627370496
theorem hv_le (m s : Nat) (h0 : 1 ≤ s) (hm : m < 9007199254740992) : hv m s ≤ 4503599627370496 := by
  unfold hv
  have h1 : m / 2 ^ s < 4503599627370496 := by
    apply Nat.div_lt_of_lt_mul
    have := pow_le 1 s h0
    omega
  split
  · omega
  · split <;> omega
theorem cm_le (m : Nat) (p : Int) (hm : m < 9007199254740992) : cm m p ≤ 9218868437227405312 := by
  unfold cm
  split
  · omega
  · split
    · have := hv_le m (-1074 - p).toNat (by omega) hm; omega
    · omega
def ck (k : Int) : Int := if k < -2200 then -2200 else if 2200 < k then 2200 else k
/-- A float times 2^k, rounded once. -/
def sc (n : Nat) (k : Int) : Nat := if sz (bt n) = 0 ∨ 9218868437227405312 ≤ sz (bt n) then n else (if bt n < 9223372036854775808 then 0 else 9223372036854775808) + cm (dm (sz (bt n))) (dp (sz (bt n)) + ck k)
theorem or_zero (c : Nat) (h : c < 18446744073709551616) : bits .or .u64 0 (c : Int) = (c : Int) := by
  refine (u64_or_nat 0 c (by decide) h).trans ?_
  simp
theorem or_sign2 (c : Nat) (h : c < 9223372036854775808) : bits .or .u64 9223372036854775808 (c : Int) = ((c + 9223372036854775808 : Nat) : Int) := by
  refine (u64_or_nat 9223372036854775808 c (by decide) (by omega)).trans ?_
  rw [nat_join 63 _ _ (by decide) (by omega)]
  omega
/-- Is a float finite and a whole number? -/
def wh (n : Nat) : Bool := if sz (bt n) = 0 then true else if 9218868437227405312 ≤ sz (bt n) then false else if 0 ≤ dp (sz (bt n)) then true else if dp (sz (bt n)) < -52 then false else decide (dm (sz (bt n)) % 2 ^ (-dp (sz (bt n))).toNat = 0)
theorem rawM (m : Nat) (p : Int) (hp : -52 ≤ p) (hp0 : p < 0) (hm : m < 18446744073709551616) :
    bits .and .u64 (m : Int) (IntKind.u64.wrap (IntKind.u64.wrap (2 ^ (-p).toNat) - 1)) = ((m % 2 ^ (-p).toNat : Nat) : Int) := by
  have hq := pow_le (-p).toNat 52 (by omega)
  have h2 : 0 < 2 ^ (-p).toNat := Nat.two_pow_pos _
  have e0 := shl_wrap 1 (-p).toNat (by omega)
  have e1 : IntKind.u64.wrap (2 ^ (-p).toNat) = ((2 ^ (-p).toNat : Nat) : Int) := by simpa using e0
  have e2 : IntKind.u64.wrap (((2 ^ (-p).toNat : Nat) : Int) - 1) = ((2 ^ (-p).toNat - 1 : Nat) : Int) := by rw [IntKind.wrap_u64]; omega
  rw [e1, e2, u64_and_nat m _ hm (by omega), Nat.and_two_pow_sub_one_eq_mod]
end Go.Proofs.YtoaccmblaifnmaaDoor
/-
  Contracts of the document's answers of layer 1 (timbreref01): Bits, Same, Place, Compare, Apart, at, Up, Down, Class: each is the plain function that package bits' own call was shown to be.
-/
namespace Go.Proofs.YtoaccmblaifnmaaDoor
open Flo Go.RowKit
/-- The document's place of a float. -/
def rp (n : Nat) : Int := if bt n = 9221120237041090560 then 9223372036854775807 else if 9223372036854775808 ≤ bt n then -1 - ((bt n : Int) - 9223372036854775808) else (bt n : Int)
theorem rp_bounds {n : Nat} (h : n < 18446744073709551616) : -9223372036854775808 ≤ rp n ∧ rp n ≤ 9223372036854775807 := by
  have := bt_lt h
  unfold rp; split <;> (try split) <;> omega
theorem nan_iff {n : Nat} : nanB n = true ↔ bt n = 9221120237041090560 := by
  unfold nanB bt
  by_cases h : 9218868437227405312 < n % 9223372036854775808
  · simp [h]
  · rw [if_neg h, decide_eq_false h]
    constructor
    · intro h'; cases h'
    · intro h'; omega
theorem fin_of {n : Nat} (h : nanB n = false) : bt n = n ∧ n % 9223372036854775808 ≤ 9218868437227405312 := by
  unfold nanB at h
  have := of_decide_eq_false h
  unfold bt; rw [if_neg this]; omega
theorem rp_nan {n : Nat} (h : nanB n = true) : rp n = 9223372036854775807 := by unfold rp; rw [if_pos (nan_iff.1 h)]
theorem rp_fin {n : Nat} (hn : n < 18446744073709551616) (h : nanB n = false) : rp n = (pl n : Int) - 9223372036854775808 ∧ -9218868437227405313 ≤ rp n ∧ rp n ≤ 9218868437227405312 := by
  obtain ⟨e, hl⟩ := fin_of h
  unfold rp pl
  rw [e, if_neg (by omega)]
  split <;> split <;> omega
theorem pl_nanR {n : Nat} (h : nanB n = true) : pl n = 18444492273895866368 := by unfold pl; rw [nan_iff.1 h]; decide
theorem rp_lt {a b : Nat} (ha : a < 18446744073709551616) (hb : b < 18446744073709551616) : rp a < rp b ↔ pl a < pl b := by
  cases h1 : nanB a
  · have x := rp_fin ha h1
    cases h2 : nanB b
    · have y := rp_fin hb h2; omega
    · have y := rp_nan h2; have z := pl_nanR h2; omega
  · have x := rp_nan h1; have x' := pl_nanR h1
    cases h2 : nanB b
    · have y := rp_fin hb h2; omega
    · have y := rp_nan h2; have z := pl_nanR h2; omega
/-- The float of a place, the document's way. -/
def rat (p : Int) : Nat := if p < 0 then (-1 - p).toNat + 9223372036854775808 else p.toNat
theorem rup_eq {n : Nat} (hn : n < 18446744073709551616) : (9218868437227405312 ≤ rp n → up n = n) ∧ (rp n < 9218868437227405312 → up n = rat (rp n + 1)) := by
  cases h : nanB n
  · have x := rp_fin hn h
    obtain ⟨e, hl⟩ := fin_of h
    constructor
    · intro h1
      have : n = 9218868437227405312 := by unfold pl at x; rw [e] at x; split at x <;> omega
      unfold up; rw [if_pos (Or.inr this)]
    · intro h1
      have : n ≠ 9218868437227405312 := by unfold pl at x; rw [e] at x; split at x <;> omega
      unfold up; rw [if_neg (by omega)]
      unfold att rat
      split <;> split <;> omega
  · have x := rp_nan h
    constructor
    · intro _; unfold up; rw [if_pos (Or.inl (of_decide_eq_true h))]
    · intro h1; omega
theorem rdn_eq {n : Nat} (hn : n < 18446744073709551616) : ((rp n = 9223372036854775807 ∨ rp n = -9218868437227405313) → dn n = n) ∧ (rp n ≠ 9223372036854775807 → rp n ≠ -9218868437227405313 → dn n = rat (rp n - 1)) := by
  cases h : nanB n
  · have x := rp_fin hn h
    obtain ⟨e, hl⟩ := fin_of h
    constructor
    · intro h1
      have : n = 18442240474082181120 := by unfold pl at x; rw [e] at x; split at x <;> omega
      unfold dn; rw [if_pos (Or.inr this)]
    · intro _ h1
      have : n ≠ 18442240474082181120 := by unfold pl at x; rw [e] at x; split at x <;> omega
      have p1 : 1 ≤ pl n := by omega
      unfold dn; rw [if_neg (by omega)]
      unfold att rat
      split <;> split <;> omega
  · have x := rp_nan h
    constructor
    · intro _; unfold dn; rw [if_pos (Or.inl (of_decide_eq_true h))]
    · intro h1; omega
end Go.Proofs.YtoaccmblaifnmaaDoor
/-
  append onto a row of one's own, as one step of a region that draws its order.
-/
namespace Go.Proofs.YtoaccmblaifnmaaDoor
open Flo Go.RowKit
theorem step_app {P : Program} {ops : Array Oper} {o : Oper} {a : Act} {w : World} {K : Act → World → Prop} {Q : Exit → Act → World → Prop} {E : Prop}
    (hg : o.guard = none) (s x : Operand) (t : TypeId) (hop : o.op = Op.call { callee := Callee.builtin Builtin.append, args := #[s, x], argTypes := #[t, t] })
    (base : Nat) (e : TypeId) (i : TypeInfo) (z : Value) (size bytes : Nat) (h1 : P.underlying t = some (.slice e)) (h2 : P.info? e = some i) (h3 : i.zero = some z) (h4 : i.size = size) (h5 : i.bytes = bytes) (h6 : z.cells.size = size) (h7 : 0 < size)
    (v : Value) (n : Nat) (xs : List Value) (hs : a.eval s = v) (hown : w.ownsRow base e size v n xs)
    (ad : Addr) (m c : Nat) (news : List Value) (hx : a.eval x = .slice (some ad) m c) (hn : news.length = m * size) (hc : ∀ j u, news[j]? = some u → w.cell? (ad.add j) = some u) (h1c : ∀ u ∈ news, u.oneCell' = true)
    (b1 : n + m ≤ maxLen) (b2 : (n + m) * bytes ≤ 140737488355328) (hb : base ≤ w.heap.size)
    (hK : ∀ v' w', w'.ownsRow base e size v' (n + m) (xs ++ news) → w.grownBy w' v.ownBlock → K (a.put o.dst v') w') :
    if Region.wanted o (yielded ops a.tmps) = true then Oper.wp P o a w K Q else E := by
  have hw : Region.wanted o (yielded ops a.tmps) = true := by simp [Region.wanted, hg]
  rw [if_pos hw]
  obtain ⟨v', w', hrun, r1, r2, _⟩ := run_append_own (P := P) w base t o.type e i z size bytes h1 h2 h3 h4 h5 h6 h7 v n xs hown ad m c news hn hc h1c b1 b2 hb
  unfold Oper.wp
  simp [execOp, hop, resolve, invoke, builtin, hs, hx, hrun, Result.andThen]
  exact hK v' w' r1 r2
end Go.Proofs.YtoaccmblaifnmaaDoor
namespace Go.Proofs.YtoaccmblaifnmaaDoor
open Flo Go.RowKit
theorem step_app2 {P : Program} {ops : Array Oper} {o : Oper} {a : Act} {w : World} {K : Act → World → Prop} {Q : Exit → Act → World → Prop} {E : Prop}
    (hg : o.guard = none) (s x : Operand) (t : TypeId) (hop : o.op = Op.call { callee := Callee.builtin Builtin.append, args := #[s, x], argTypes := #[t, t] })
    (base : Nat) (e : TypeId) (i : TypeInfo) (z : Value) (size bytes : Nat) (h1 : P.underlying t = some (.slice e)) (h2 : P.info? e = some i) (h3 : i.zero = some z) (h4 : i.size = size) (h5 : i.bytes = bytes) (h6 : z.cells.size = size) (h7 : 0 < size)
    (v : Value) (n : Nat) (xs : List Value) (hs : a.eval s = v) (hown : w.ownsRow base e size v n xs)
    (ad : Addr) (m c : Nat) (news : List Value) (hx : a.eval x = .slice (some ad) m c) (hn : news.length = m * size) (hc : ∀ j u, news[j]? = some u → w.cell? (ad.add j) = some u) (h1c : ∀ u ∈ news, u.oneCell' = true)
    (b1 : n + m ≤ maxLen) (b2 : (n + m) * bytes ≤ 140737488355328) (hb : base ≤ w.heap.size)
    (hK : ∀ v' w', w'.ownsRow base e size v' (n + m) (xs ++ news) → w.grownBy w' v.ownBlock → (v' = .slice none 0 0 ↔ v = .slice none 0 0 ∧ m = 0) → K (a.put o.dst v') w') :
    if Region.wanted o (yielded ops a.tmps) = true then Oper.wp P o a w K Q else E := by
  have hw : Region.wanted o (yielded ops a.tmps) = true := by simp [Region.wanted, hg]
  rw [if_pos hw]
  obtain ⟨v', w', hrun, r1, r2, r3⟩ := run_append_own (P := P) w base t o.type e i z size bytes h1 h2 h3 h4 h5 h6 h7 v n xs hown ad m c news hn hc h1c b1 b2 hb
  unfold Oper.wp
  simp [execOp, hop, resolve, invoke, builtin, hs, hx, hrun, Result.andThen]
  exact hK v' w' r1 r2 r3
end Go.Proofs.YtoaccmblaifnmaaDoor
/-
  Layer 10's statements: alike, lists alike, the list of bits.
-/
namespace Go.Proofs.YtoaccmblaifnmaaDoor
open Flo Go.RowKit

theorem RdC.each {w : World} {ao : Option Addr} {n cap : Nat} {zs : List (Nat × Nat)} (h : RdC w (.slice ao n cap) zs) {i : Nat} (hi : i < n) (hn : zs.length = n) : ∃ b off, ao = some ⟨b, off, none⟩ ∧ b < w.heap.size ∧ w.cell? ⟨b, off + i, none⟩ = some (.complex .f64 (zs.getD i (0, 0)).1 (zs.getD i (0, 0)).2) := by
  obtain ⟨ao', cap', e, h2⟩ := h
  cases e
  obtain ⟨b, off, e2, h3, h4⟩ := h2 (fun e => by have hz : zs.length = 0 := (by rw [e]; rfl); omega)
  exact ⟨b, off, e2, h3, h4 i (by omega)⟩
theorem cell_one_new10 (w : World) (o : Value) (t : TypeId) : ∀ (j : Nat) u, [o][j]? = some u → (w.alloc (.cells #[o] t)).cell? ((⟨w.heap.size, 0, none⟩ : Addr).add j) = some u := by
  intro j u hj
  match j, hj with
  | 0, hj => simp at hj; subst hj; simp [Addr.add]
end Go.Proofs.YtoaccmblaifnmaaDoor
/-
  The statements' own 'lives', 'same' and 'fit' of layer 7; the document's Mul and Twist.
-/
namespace Go.Proofs.YtoaccmblaifnmaaDoor
open Flo Go.RowKit

theorem w41 : Rp.pc 4 (Rp.md 4 1) = 0 ∧ Rp.pim 4 (Rp.md 4 1) = 13830554455654793216 := by decide +kernel
theorem w81 : Rp.pc 8 (Rp.md 8 1) = 4604544271217802189 := by decide +kernel
theorem e18 : Rp.eiC 1 8 = 4604544271217802189 ∧ Rp.eiS 1 8 = 4604544271217802189 := by decide +kernel
theorem w42 : Rp.pc 4 2 = 13830554455654793216 ∧ Rp.pim 4 2 = 0 := by decide +kernel
theorem md_zero {n : Nat} (h : 0 < n) {k : Int} : Rp.md n k = 0 ↔ k.tmod n = 0 := by
  have e := Rp.md_eq h k
  have : k.tmod n = 0 ↔ k % (n : Int) = 0 := by
    rw [← Int.dvd_iff_tmod_eq_zero, Int.dvd_iff_emod_eq_zero]
  rw [this, ← e]
  omega
end Go.Proofs.YtoaccmblaifnmaaDoor
/-
  Lists of complex numbers that grow, told by a function; a sum and a twist of the document's; literal lists.
-/
namespace Go.Proofs.YtoaccmblaifnmaaDoor
open Flo Go.RowKit
theorem Lim.snoc {us : List (Nat × Nat)} (h : Lim us) {x y : Nat} (hx : x < 18446744073709551616) (hy : y < 18446744073709551616) : Lim (us ++ [(x, y)]) := by
  intro i hi
  rw [List.length_append] at hi
  by_cases c : i < us.length
  · rw [show (us ++ [(x, y)]).getD i (0, 0) = us.getD i (0, 0) by simp [List.getD, List.getElem?_append, c]]
    exact h i c
  · have e : i = us.length := by simp at hi; omega
    subst e
    rw [show (us ++ [(x, y)]).getD us.length (0, 0) = (x, y) by simp [List.getD]]
    exact ⟨hx, hy⟩
theorem eqbt10 {x c : Nat} (h : bt x = bt c) (hc : nanB c = false) : x = c := by
  have h1 : nanB x = false := by rw [← nan_bt, h, nan_bt, hc]
  rw [bt_fin hc, bt_fin h1] at h
  exact h
theorem Lk.eq {z : Nat × Nat} {a b : Nat} (h : Lk z (a, b)) (ha : nanB a = false) (hb : nanB b = false) : z = (a, b) := by
  obtain ⟨x, y⟩ := z
  have e1 : x = a := eqbt10 h.1 ha
  have e2 : y = b := eqbt10 h.2 hb
  rw [e1, e2]
def lva : List (Nat × Nat) := [(4607182418800017408, 0), (4611686018427387904, 0)]
def lvb : List (Nat × Nat) := [(4613937818241073152, 0), (13830554455654793216, 0)]
def lvc : List (Nat × Nat) := [(4617315517961601024, 0), (4619567317775286272, 0), (4621256167635550208, 0)]
theorem lim_of (zs : List (Nat × Nat)) (h : (zs.all fun z => decide (z.1 < 18446744073709551616) && decide (z.2 < 18446744073709551616)) = true) : Lim zs := by
  intro i hi
  have := List.all_eq_true.1 h (zs.getD i (0, 0)) (by simp [List.getD, hi])
  simpa using this
theorem lv1 : (dsm 2 0 fun j => lva.getD j (0, 0)) = (4613937818241073152, 0) ∧ (dsm 2 1 fun j => lva.getD j (0, 0)) = (13830554455654793216, 0) := by decide +kernel
end Go.Proofs.YtoaccmblaifnmaaDoor
/-
  The document's layer 13: At, Chirp, List, Other, May, Least, Size.
-/
namespace Go.Proofs.YtoaccmblaifnmaaDoor
open Flo Go.RowKit
set_option maxHeartbeats 1000000 in
theorem r13SizeNo_c (n : Int) (w : World) (h : ¬ (1 ≤ n ∧ n ≤ 8192)) :
    Calls Tryd.prog 77 #[.int .i64 n] w fun e w' => e = .returned (.tuple #[.int .i64 0, .int .i64 7]) ∧ w' = w := by
  by_cases h1 : n < 1
  · clear h
    go_enter Tryd.func77, Tryd.ntmps77
    go_wp2_with fail
    go_ret2
    exact ⟨rfl, rfl⟩
  · have h1' : decide (n < 1) = false := decide_eq_false h1
    by_cases h2 : 16384 < n
    · have h2' : n > 16384 := h2
      clear h
      go_enter Tryd.func77, Tryd.ntmps77
      go_wp2_with fail
      go_ret2
      exact ⟨rfl, rfl⟩
    · have h2' : decide (n > 16384) = false := decide_eq_false h2
      obtain ⟨K, hK, hK0⟩ : ∃ K : Nat, Hid ((K : Int) = 2 * n - 1) ∧ 2 * n - 1 = (K : Int) := ⟨(2 * n - 1).toNat, (by omega : ((2 * n - 1).toNat : Int) = 2 * n - 1), by omega⟩
      have hK1 : K ≤ 32767 := by have := hK.out; omega
      have hK2 : 16385 ≤ K := by have := hK.out; omega
      clear h
      go_enter Tryd.func77, Tryd.ntmps77
      go_wp2_with fail
      go_loopw [4] (fun ss wx => ∃ s : Nat, ss = .int .i64 (s : Int) ∧ s ≤ 65534 ∧ 0 < s ∧ wx = w) (fun ss _ => K - (intOf ss).toNat)
      case atStart => exact ⟨1, rfl, by decide, by decide, rfl⟩
      case round =>
        obtain ⟨s, rfl, hs1, hs0, rfl⟩ := hrel
        by_cases hlt : s < K
        · have hlt' : (s : Int) < (K : Int) := by omega
          obtain ⟨s2, hs2, hs3⟩ : ∃ s2 : Nat, Hid (s2 = 2 * s) ∧ (s : Int) * 2 = (s2 : Int) := ⟨2 * s, (rfl : _ = _), by omega⟩
          have hs4 : s2 ≤ 65534 := by have := hs2.out; omega
          have hs5 : 0 < s2 := by have := hs2.out; omega
          go_wp2_with fail
          go_roundw
          case rel => exact ⟨s2, rfl, hs4, hs5, by trivial⟩
          case measure => simp [intOf]; have := hs2.out; omega
        · have hlt' : decide ((s : Int) < (K : Int)) = false := decide_eq_false (by omega)
          have q2 : (s : Int) > 16384 := by omega
          go_wp2_with fail
          go_ret2
          exact ⟨rfl, rfl⟩
set_option maxHeartbeats 1000000 in
theorem r13SizeOk_c (n : Nat) (w : World) (h : 0 < n) (hn : n ≤ 8192) :
    Calls Tryd.prog 77 #[.int .i64 n] w fun e w' => ∃ s : Nat, e = .returned (.tuple #[.int .i64 (s : Int), .int .i64 0]) ∧ Sz (2 * n - 1) s ∧ s ≤ 16384 ∧ w' = w := by
  have g1 : decide ((n : Int) < 1) = false := decide_eq_false (by omega)
  have g2 : decide ((n : Int) > 16384) = false := decide_eq_false (by omega)
  obtain ⟨K, hK, hK0⟩ : ∃ K : Nat, Hid (2 * n - 1 = K) ∧ (2 : Int) * (n : Int) - 1 = (K : Int) := ⟨2 * n - 1, (rfl : _ = _), by omega⟩
  rw [hK.out]
  have hK1 : K ≤ 16383 := by have := hK.out; omega
  go_enter Tryd.func77, Tryd.ntmps77
  go_wp2_with fail
  go_loopw [4] (fun ss wx => ∃ s : Nat, ss = .int .i64 (s : Int) ∧ s ≤ 32766 ∧ 0 < s ∧ Hid (∃ t, s = 2 ^ t ∧ (t = 0 ∨ 2 ^ t < 2 * K)) ∧ wx = w) (fun ss _ => K - (intOf ss).toNat)
  case atStart => exact ⟨1, rfl, by decide, by decide, ⟨0, rfl, .inl rfl⟩, rfl⟩
  case round =>
    obtain ⟨s, rfl, hs1, hs0, hs, rfl⟩ := hrel
    by_cases hlt : s < K
    · have hlt' : (s : Int) < (K : Int) := by omega
      obtain ⟨s2, hs2, hs3⟩ : ∃ s2 : Nat, Hid (s2 = 2 * s) ∧ (s : Int) * 2 = (s2 : Int) := ⟨2 * s, (rfl : _ = _), by omega⟩
      have hs4 : s2 ≤ 32766 := by have := hs2.out; omega
      have hs5 : 0 < s2 := by have := hs2.out; omega
      have hH : Hid (∃ t, s2 = 2 ^ t ∧ (t = 0 ∨ 2 ^ t < 2 * K)) := by
        obtain ⟨t, e, _⟩ := hs.out
        exact ⟨t + 1, by rw [hs2.out, e, Nat.pow_succ]; omega, .inr (by rw [Nat.pow_succ]; omega)⟩
      clear hs
      go_wp2_with fail
      go_roundw
      case rel => exact ⟨s2, rfl, hs4, hs5, hH, by trivial⟩
      case measure => simp [intOf]; have := hs2.out; omega
    · have hlt' : decide ((s : Int) < (K : Int)) = false := decide_eq_false (by omega)
      have hE : Hid (Sz K s ∧ s ≤ 16384) := by
        obtain ⟨t, e, h2⟩ := hs.out
        exact ⟨⟨t, e, by omega, by rw [e]; exact h2⟩, by rw [e]; exact sz_small h2 hK1⟩
      have q2 : decide ((s : Int) > 16384) = false := decide_eq_false (by have := hE.out.2; omega)
      clear hs
      go_wp2_with fail
      go_ret2
      exact ⟨s, rfl, hE.out.1, hE.out.2, rfl⟩
end Go.Proofs.YtoaccmblaifnmaaDoor
