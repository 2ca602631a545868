/-
  What PlannerLists and its fellows rest on, joined: Al0 Ari Fop Dig Knu Mod Od1 Od2.
-/
import Derived.WalkKit
import Ieee.Arith
import Derived.WalkLawsBesides
import Derived.Laws.FloatArith
import Derived.Test.YtoaccmblaifnmaaDoorProg
import Derived.RegionTactic
import Derived.Outline
import Derived.Lib.Mul64
import Derived.Laws.Bits64b
import Derived.Deep.QuietTactic
import Derived.BigQuiet
import Derived.WalkSmall
import Derived.Deep.CutBlock
import Derived.Deep.DeepCutAuto
import Derived.Test.YtoaccmblaifnmaaDoorBa3
import Derived.Test.YtoaccmblaifnmaaDoorBa1
namespace Go.Proofs.YtoaccmblaifnmaaDoor
open Tr
namespace Pl
def alF (D : Int) (F : List Int) (p : Int) : Nat → Nat → List Tr
  | 0, _ => []
  | f + 1, n => cnd D F (fun m => alF D F p f m) (blu p (ch D F p) n) n
/-- all orders of n, in their order -/
def als (D : Int) (F : List Int) (p : Int) (n : Nat) : List Tr := alF D F p (mu p n) n
theorem mu_pos {p : Int} {n : Nat} (h : Dm p n) : 1 ≤ mu p n := by have := h.1; unfold mu; split <;> omega
theorem alF_any {D : Int} {F : List Int} {p : Int} : ∀ (k n f g : Nat), Dm p n → mu p n ≤ k → mu p n ≤ f → mu p n ≤ g → alF D F p f n = alF D F p g n := by
  intro k
  induction k with
  | zero =>
    intro n f g h hk
    have := mu_pos h
    omega
  | succ k ih =>
    intro n f g h hk hf hg
    have h1 := mu_pos h
    obtain ⟨f, rfl⟩ : ∃ f', f = f' + 1 := ⟨f - 1, by omega⟩
    obtain ⟨g, rfl⟩ : ∃ g', g = g' + 1 := ⟨g - 1, by omega⟩
    have hs : ∀ m, Dm p m → mu p m < mu p n → alF D F p f m = alF D F p g m := fun m hm hlt => ih m f g hm (by omega) (by omega) (by omega)
    unfold alF
    exact cnd_congr h hs
theorem als_eq {D : Int} {F : List Int} {p : Int} {n : Nat} (h : Dm p n) : als D F p n = cnd D F (als D F p) (blu p (ch D F p) n) n := by
  have h1 := mu_pos h
  obtain ⟨f, hf⟩ : ∃ f, mu p n = f + 1 := ⟨mu p n - 1, by omega⟩
  have hs : ∀ m, Dm p m → mu p m < mu p n → alF D F p f m = als D F p m := fun m hm hlt => alF_any f m f (mu p m) hm (by omega) (by omega) (Nat.le_refl _)
  conv => lhs; unfold als
  rw [hf]
  unfold alF
  exact cnd_congr h hs
theorem als_gd {D : Int} {F : List Int} {p : Int} (g : GP D F p) : ∀ (k n : Nat), Dm p n → mu p n ≤ k → ∀ t ∈ als D F p n, Gd p n t := by
  intro k
  induction k with
  | zero => intro n h hk; have := mu_pos h; omega
  | succ k ih =>
    intro n h hk t ht
    rw [als_eq h] at ht
    exact cnd_gd g h (fun m h1 h2 => ih m h1 (by omega)) (fun m h1 _ => ch_gd g _ m h1 (Nat.le_refl _)) t ht
theorem gd_pt {p : Int} {n : Nat} {t : Tr} (h : Dm p n) (hg : Gd p n t) : pt t ≤ 65536 := by
  have h1 := hg.few
  have h2 := h.2.1
  unfold pb at h1
  split at h1
  · rename_i hb; have := h.2.2 hb; omega
  · omega
theorem als_pt {D : Int} {F : List Int} {p : Int} (g : GP D F p) {n : Nat} (h : Dm p n) : ∀ t ∈ als D F p n, pt t ≤ 65536 := fun t ht => gd_pt h (als_gd g _ n h (Nat.le_refl _) t ht)
end Pl
end Go.Proofs.YtoaccmblaifnmaaDoor
namespace Go.Proofs.YtoaccmblaifnmaaDoor.Ari
open Ieee
open Go.Proofs.YtoaccmblaifnmaaDoor.Flo (ex mg mg_eq mg_lt mg_ge read_fin read_inf read_nan shl_lt sv nanB eq_iff lt_iff gt_iff)

/-- to the nearest, between two the even one -/
def rhe (n d : Nat) : Nat :=
  n / 2 ^ d + (decide (2 ^ d < 2 * (n % 2 ^ d)) || (2 ^ d == 2 * (n % 2 ^ d) && n / 2 ^ d % 2 == 1)).toNat

theorem signWeight_d : double.signWeight = 9223372036854775808 := by decide
theorem binade_d : double.binade = 4503599627370496 := by decide
theorem infRung_d : double.infRung = 9218868437227405312 := by decide

/-- the last place that is kept -/
def lst (m : Nat) (i : Int) : Int := max (i + m.log2 - 52) (-1074)
/-- the rung, unbounded -/
def rg (m : Nat) (i : Int) : Nat :=
  if m = 0 then 0 else (lst m i + 1074).toNat * 4503599627370496 + rhe (m * 2 ^ (i - lst m i).toNat) (lst m i - i).toNat

/-- finite words -/
def fin (n : Nat) : Prop := n < 18446744073709551616 ∧ n % 9223372036854775808 < 9218868437227405312
def sg (n : Nat) : Bool := decide (9223372036854775808 ≤ n)
/-- the size, in units of the least float above 0 -/
def vr (r : Nat) : Nat := mg r * 2 ^ ex r
def vl (n : Nat) : Nat := vr (n % 9223372036854775808)
def fz (n : Nat) : Int := if sg n then -(vl n : Int) else vl n
/-- the sign turned -/
def ng (n : Nat) : Nat := if n < 9223372036854775808 then n + 9223372036854775808 else n - 9223372036854775808

/-- how far 1 lies above the least float -/
def ul : Nat := 1074
/-- The word stands for the whole number (0: either nought). -/
def W (x : Nat) (n : Int) : Prop := fin x ∧ fz x = n * ((2 ^ ul : Nat) : Int)

theorem sum_comm (a b : Datum) : a.sum b = b.sum a := by
  cases a <;> cases b <;> simp only [Datum.sum]
  · rename_i s m i t n j
    rw [Int.min_comm i j, Int.add_comm (signed s m _), Bool.and_comm]
  · rename_i s t
    by_cases h : s = t
    · subst h; rfl
    · rw [if_neg h, if_neg (fun h' => h h'.symm)]
theorem product_comm (a b : Datum) : a.product b = b.product a := by
  cases a <;> cases b <;> simp only [Datum.product] <;> (try rfl)
  · rw [Bool.xor_comm, Nat.mul_comm, Int.add_comm]
  · rw [Bool.xor_comm]
theorem add_comm (x y : Nat) : double.add x y = double.add y x := by unfold Format.add; rw [sum_comm]
theorem mul_comm (x y : Nat) : double.mul x y = double.mul y x := by unfold Format.mul; rw [product_comm]

end Go.Proofs.YtoaccmblaifnmaaDoor.Ari
namespace Go.Proofs.YtoaccmblaifnmaaDoor
open Flo Go.RowKit Ieee

def nanAt (w : World) (x y : Nat) : Nat := Question.cut (.nanBits .f64 x y) (w.tape w.drawn (.nanBits .f64 x y))
/-- what an operation gives in a world -/
def fr (op : BinOp) (x y : Nat) (w : World) : Nat := match floatBits op .f64 x y with | some r => r | none => nanAt w x y
/-- what it gives, all NaN being one -/
def co (op : BinOp) (x y : Nat) : Nat := match floatBits op .f64 x y with | some r => r | none => 9221120237041090560

end Go.Proofs.YtoaccmblaifnmaaDoor
namespace Go.Proofs.YtoaccmblaifnmaaDoor
open Flo Go.RowKit
def dm (s : Nat) : Nat := if s < 4503599627370496 then s * 2 ^ (53 - bitLen s) else s % 4503599627370496 + 4503599627370496
def dpD (s : Nat) : Int := if s < 4503599627370496 then -1074 - (53 - (bitLen s : Int)) else ((s / 4503599627370496 : Nat) : Int) - 1075
end Go.Proofs.YtoaccmblaifnmaaDoor
namespace Go.Proofs.YtoaccmblaifnmaaDoor.Kn
/-- the digit that is sought -/
def Q (u n y : Nat) : Nat := (u * 4294967296 + n) / y

/-- both digits make the rest by y -/
theorem two {u m n y : Nat} : (((u * 4294967296 + m) % y) * 4294967296 + n) % y = (u * 18446744073709551616 + m * 4294967296 + n) % y := by
  have e : u * 18446744073709551616 + m * 4294967296 + n = (u * 4294967296 + m) * 4294967296 + n := by omega
  rw [e, Nat.add_mod, Nat.mul_mod, Nat.mod_mod, ← Nat.mul_mod, ← Nat.add_mod]
end Go.Proofs.YtoaccmblaifnmaaDoor.Kn
namespace Go.Proofs.YtoaccmblaifnmaaDoor
open Flo Go.RowKit Go.Lib

/-- whole numbers among the integers -/
theorem castMul (a b : Nat) : (a : Int) * (b : Int) = ((a * b : Nat) : Int) := by simp
end Go.Proofs.YtoaccmblaifnmaaDoor
namespace Go.Proofs.YtoaccmblaifnmaaDoor
open Flo Go.RowKit Tr
theorem btr {w a b : World} (h : Below w.heap.size w a) (k : Below a.heap.size a b) : Below w.heap.size w b := h.trans (k.mono h.size)
/-- the parts of the first i Kids -/
def pti (ks : List Tr) (i : Nat) : Nat := ((ks.take i).map pt).sum
theorem pti_zero (ks : List Tr) : pti ks 0 = 0 := by simp [pti]
theorem pti_succ {ks : List Tr} {i : Nat} (h : i < ks.length) : pti ks (i + 1) = pti ks i + pt ks[i] := by
  unfold pti
  rw [List.take_succ_eq_append_getElem h, List.map_append, List.sum_append]; simp
theorem pt_any (k n : Int) (ks : List Tr) : pt ⟨k, n, ks⟩ = 1 + pti ks ks.length := by rw [pt_eq]; simp [pti]
theorem pti_le (k n : Int) (ks : List Tr) (i : Nat) : 1 + pti ks i ≤ pt ⟨k, n, ks⟩ := by
  rw [pt_eq]
  have := sum_take_le (ls := ks.map pt) i
  unfold pti
  rw [List.map_take]
  omega
/-- a Kid, opened -/
structure Kid (w : World) (ao : Option Addr) (i : Nat) (t : Tr) (b off : Nat) (s : Value) : Prop where
  at0 : ao = some ⟨b, off, none⟩
  lt : b < w.heap.size
  c0 : w.cell? ⟨b, off + i * 3, none⟩ = some (.int .i64 t.k)
  c1 : w.cell? ⟨b, off + i * 3 + 1, none⟩ = some (.int .i64 t.n)
  c2 : w.cell? ⟨b, off + i * 3 + 2, none⟩ = some s
  od : Od w t (.agg #[.int .i64 t.k, .int .i64 t.n, s])
theorem Kid.below {w w' : World} {ao : Option Addr} {i : Nat} {t : Tr} {b off : Nat} {s : Value} (h : Kid w ao i t b off s) (hb : Below w.heap.size w w') : Kid w' ao i t b off s :=
  ⟨h.at0, Nat.lt_of_lt_of_le h.lt hb.size, (hb.cell (p := ⟨b, off + i * 3, none⟩) h.lt).trans h.c0, (hb.cell (p := ⟨b, off + i * 3 + 1, none⟩) h.lt).trans h.c1, (hb.cell (p := ⟨b, off + i * 3 + 2, none⟩) h.lt).trans h.c2, Od.below hb _ _ h.od⟩
theorem Od.open {w : World} {k n : Int} {ks : List Tr} {v : Value} (h : Od w ⟨k, n, ks⟩ v) : ∃ ao cap, v = .agg #[.int .i64 k, .int .i64 n, .slice ao ks.length cap] ∧ ks.length ≤ 9223372036854775807 ∧ ∀ i (h : i < ks.length), ∃ b off s, Kid w ao i ks[i] b off s := by
  rw [od_eq] at h
  obtain ⟨ao, cap, e, hl, hc⟩ := h
  refine ⟨ao, cap, e, hl.1, fun i hi => ?_⟩
  obtain ⟨b, off, s, e1, e2, c0, c1, c2, ho⟩ := hc i hi
  exact ⟨b, off, s, e1, e2, c0, c1, c2, ho⟩
theorem Od.fits {w : World} {k n : Int} {ks : List Tr} {v : Value} (h : Od w ⟨k, n, ks⟩ v) : fit k n := by
  rw [od_eq] at h
  obtain ⟨_, _, _, hl, _⟩ := h
  exact hl.2
theorem Kid.slc {w : World} {ao : Option Addr} {i : Nat} {t : Tr} {b off : Nat} {s : Value} (h : Kid w ao i t b off s) : ∃ a l c, s = .slice a l c := by
  obtain ⟨k, n, ks⟩ := t
  obtain ⟨a, c, e, _⟩ := h.od.open
  simp only [Value.agg.injEq, Array.mk.injEq, List.cons.injEq] at e
  exact ⟨a, _, c, e.2.2.1⟩
/-- the Kids of an order in memory, L of them -/
def Kds (w : World) (ao : Option Addr) (L : Nat) (ks : List Tr) : Prop := ∀ i, i < L → ∃ b off s t, ks[i]? = some t ∧ Kid w ao i t b off s
theorem Kds.below {w w' : World} {ao : Option Addr} {L : Nat} {ks : List Tr} (h : Kds w ao L ks) (hb : Below w.heap.size w w') : Kds w' ao L ks := fun i hi => by
  obtain ⟨b, off, s, t, e, k⟩ := h i hi
  exact ⟨b, off, s, t, e, k.below hb⟩
theorem Od.kds {w : World} {k n : Int} {ks : List Tr} {v : Value} (h : Od w ⟨k, n, ks⟩ v) : ∃ ao cap, v = .agg #[.int .i64 k, .int .i64 n, .slice ao ks.length cap] ∧ ks.length ≤ 9223372036854775807 ∧ Kds w ao ks.length ks := by
  obtain ⟨ao, cap, e, hl, hc⟩ := h.open
  refine ⟨ao, cap, e, hl, fun i hi => ?_⟩
  obtain ⟨b, off, s, k⟩ := hc i hi
  exact ⟨b, off, s, ks[i], List.getElem?_eq_getElem hi, k⟩
set_option maxHeartbeats 1000000 in
theorem rParts_c (t : Tr) : ∀ (v : Value) (m : Nat) (w : World), Od w t v → m ≤ 4500 → Calls Tryd.prog 40 #[v, .int .i64 (m : Int)] w fun e w' => e = .returned (.int .i64 ((min (pt t) (m + 1) : Nat) : Int)) ∧ Below w.heap.size w w' := by
  refine Tr.ind (P := fun t => ∀ (v : Value) (m : Nat) (w : World), Od w t v → m ≤ 4500 → Calls Tryd.prog 40 #[v, .int .i64 (m : Int)] w fun e w' => e = .returned (.int .i64 ((min (pt t) (m + 1) : Nat) : Int)) ∧ Below w.heap.size w w') (fun k n ks ih0 v m w ho hm => ?_) t
  obtain ⟨ao, cap, rfl, hl0, hk0⟩ := ho.kds
  obtain ⟨L, hL⟩ : ∃ L, Hid (ks.length = L) := ⟨_, (rfl : _ = _)⟩
  have hk : Hid (Kds w ao L ks) := by show Kds _ _ _ _; rw [← hL.out]; exact hk0
  have hl : L ≤ 9223372036854775807 := by rw [← hL.out]; exact hl0
  have ih : Hid (∀ t ∈ ks, ∀ (v : Value) (m : Nat) (w : World), Od w t v → m ≤ 4500 → Calls Tryd.prog 40 #[v, .int .i64 (m : Int)] w fun e w' => e = .returned (.int .i64 ((min (pt t) (m + 1) : Nat) : Int)) ∧ Below w.heap.size w w') := ih0
  have hpt : Hid (pt ⟨k, n, ks⟩ = 1 + pti ks L) := by show _ = _; rw [← hL.out]; exact pt_any k n ks
  rw [hL.out]
  rw [hpt.out]
  clear hk0 hl0 ih0 ho
  go_enter Tryd.func40, Tryd.ntmps40
  go_wp2_with fail
  have B0 : Hid (Below w.heap.size w (w.alloc (.cells #[.int .i64 k, .int .i64 n, .slice ao L cap] 24))) := (Below.refl _ _).alloc (Nat.le_refl _) _
  go_loopw [5, 11] (fun sn si wx => ∃ (i : Nat), i ≤ L ∧ sn = .int .i64 ((min (1 + pti ks i) (m + 1) : Nat) : Int) ∧ si = .int .i64 (i : Int) ∧ Hid (Below w.heap.size w wx)) (fun _ si _ => L - (intOf si).toNat)
  case atStart => exact ⟨0, Nat.zero_le _, by rw [pti_zero, Nat.add_zero, Nat.min_eq_left (by omega)]; rfl, rfl, B0⟩
  case round =>
    clear B0
    obtain ⟨i, hi, rfl, rfl, hb⟩ := hrel
    obtain ⟨N, hN⟩ : ∃ N, Hid (min (1 + pti ks i) (m + 1) = N) := ⟨_, (rfl : _ = _)⟩
    rw [hN.out]
    by_cases hlt : i < L
    · have hlt' : (i : Int) < (L : Int) := by omega
      obtain ⟨b, off, s, t', et, K0⟩ := hk.out i hlt
      have K := K0.below hb.out
      obtain rfl := K.at0
      obtain ⟨a1, l1, p1, rfl⟩ := K.slc
      have c0 := K.c0
      have c1 := K.c1
      have c2 := K.c2
      have hod : Hid (Od wr t' (.agg #[.int .i64 t'.k, .int .i64 t'.n, .slice a1 l1 p1])) := K.od
      have hN1 : N ≤ m + 1 := by rw [← hN.out]; exact Nat.min_le_right _ _
      have hmem : Hid (t' ∈ ks) := List.mem_of_getElem? et
      have hst : Hid (pti ks (i + 1) = pti ks i + pt t') := by
        have hi' : i < ks.length := by rw [hL.out]; exact hlt
        have e2 : ks[i] = t' := by rw [List.getElem?_eq_getElem hi'] at et; exact Option.some.inj et
        show _ = _
        rw [pti_succ hi', e2]
      clear K K0 et
      generalize t'.k = k1 at *
      generalize t'.n = n1 at *
      by_cases hgt : m < N
      · have hgt' : (N : Int) > (m : Int) := by omega
        have hr : Hid (N = min (1 + pti ks L) (m + 1)) := by
          have h1 := pti_le k n ks i
          rw [hpt.out] at h1
          have := hN.out
          show _ = _
          omega
        have hB : Hid (Below w.heap.size w (wr.alloc (.cells #[.int .i64 k1, .int .i64 n1, .slice a1 l1 p1] 24))) := hb.out.alloc hb.out.size _
        go_wp2_with fail
        go_ret
        exact ⟨by rw [← hr.out]; rfl, hB.out⟩
      · have hgt' : decide ((N : Int) > (m : Int)) = false := decide_eq_false (by omega)
        obtain ⟨M, hM, hM1⟩ : ∃ M : Nat, Hid (M = m - N) ∧ (m : Int) - (N : Int) = (M : Int) := ⟨m - N, (rfl : _ = _), by omega⟩
        have hM2 : M ≤ 4500 := by have := hM.out; omega
        have hal : Hid (Below wr.heap.size wr (wr.alloc (.cells #[.int .i64 k1, .int .i64 n1, .slice a1 l1 p1] 24))) := (Below.refl _ _).alloc (Nat.le_refl _) _
        go_wp2_with fail
        refine (ih.out t' hmem.out _ M _ (Od.below hal.out _ _ hod.out) hM2).mono ?_
        rintro e w1 ⟨rfl, B1⟩
        have hB1 : Hid (Below w.heap.size w w1) := btr (btr hb.out hal.out) B1
        obtain ⟨R, hR, hR1⟩ : ∃ R : Nat, Hid (R = min (pt t') (M + 1)) ∧ (N : Int) + ((min (pt t') (M + 1) : Nat) : Int) = ((N + R : Nat) : Int) := ⟨_, (rfl : _ = _), by omega⟩
        have hNR : N + R ≤ 4501 := by have h1 := hR.out; have h2 := hM.out; omega
        obtain ⟨NR, hNR1, hNR2⟩ : ∃ NR : Nat, Hid (NR = N + R) ∧ (N : Int) + (R : Int) = (NR : Int) := ⟨N + R, (rfl : _ = _), by omega⟩
        have hfin : Hid (NR = min (1 + pti ks (i + 1)) (m + 1)) := by
          have h1 := hN.out
          have h2 := hR.out
          have h3 := hM.out
          have h4 := hNR1.out
          have h5 := hst.out
          show _ = _
          omega
        have hNR3 : NR ≤ 4501 := by have := hNR1.out; omega
        rw [← hR.out]
        clear hR1 hNR B1 hal hR hNR1
        go_wp2_with fail
        go_roundw
        case rel => exact ⟨i + 1, by omega, by rw [← hfin.out], by go_num, hB1⟩
        case measure => simp [intOf]; omega
    · have hlt' : decide ((i : Int) < (L : Int)) = false := decide_eq_false (by omega)
      have ei : i = L := by omega
      subst ei
      go_wp2_with fail
      go_ret
      exact ⟨by rw [hN.out]; rfl, hb.out⟩
end Go.Proofs.YtoaccmblaifnmaaDoor
namespace Go.Proofs.YtoaccmblaifnmaaDoor
open Flo Go.RowKit Tr
set_option maxHeartbeats 1000000 in
theorem rdeep_c (t : Tr) : ∀ (v : Value) (m : Nat) (w : World), Od w t v → m ≤ 4500 → Calls Tryd.prog 107 #[v, .int .i64 (m : Int)] w fun e w' => e = .returned (.bool (decide (dp t ≤ m))) ∧ Below w.heap.size w w' := by
  refine Tr.ind (P := fun t => ∀ (v : Value) (m : Nat) (w : World), Od w t v → m ≤ 4500 → Calls Tryd.prog 107 #[v, .int .i64 (m : Int)] w fun e w' => e = .returned (.bool (decide (dp t ≤ m))) ∧ Below w.heap.size w w') (fun k n ks ih0 v m w ho hm => ?_) t
  obtain ⟨ao, cap, rfl, hl0, hk0⟩ := ho.kds
  obtain ⟨L, hL⟩ : ∃ L, Hid (ks.length = L) := ⟨_, (rfl : _ = _)⟩
  have hk : Hid (Kds w ao L ks) := by show Kds _ _ _ _; rw [← hL.out]; exact hk0
  have hl : L ≤ 9223372036854775807 := by rw [← hL.out]; exact hl0
  have ih : Hid (∀ t ∈ ks, ∀ (v : Value) (m : Nat) (w : World), Od w t v → m ≤ 4500 → Calls Tryd.prog 107 #[v, .int .i64 (m : Int)] w fun e w' => e = .returned (.bool (decide (dp t ≤ m))) ∧ Below w.heap.size w w') := ih0
  obtain ⟨R, hR⟩ : ∃ R : Bool, Hid (decide (dp ⟨k, n, ks⟩ ≤ m) = R) := ⟨_, (rfl : _ = _)⟩
  rw [hL.out]
  rw [hR.out]
  clear hk0 hl0 ih0 ho
  have B0 : Hid (Below w.heap.size w (w.alloc (.cells #[.int .i64 k, .int .i64 n, .slice ao L cap] 24))) := (Below.refl _ _).alloc (Nat.le_refl _) _
  by_cases hm0 : m < 1
  · have hm1 : (m : Int) < 1 := by omega
    have hf : Hid (false = R) := by show _ = _; rw [← hR.out]; exact (decide_eq_false (by have := dp_pos ⟨k, n, ks⟩; omega)).symm
    go_enter Tryd.func107, Tryd.ntmps107
    go_wp2_with fail
    go_ret
    exact ⟨by rw [← hf.out]; rfl, B0.out⟩
  · have hm1 : decide ((m : Int) < 1) = false := decide_eq_false (by omega)
    obtain ⟨M, hM, hM1⟩ : ∃ M : Nat, Hid (M = m - 1) ∧ (m : Int) - 1 = (M : Int) := ⟨m - 1, (rfl : _ = _), by omega⟩
    have hM2 : M ≤ 4500 := by have := hM.out; omega
    go_enter Tryd.func107, Tryd.ntmps107
    go_wp2_with fail
    go_loopw [13] (fun si wx => ∃ (i : Nat), i ≤ L ∧ si = .int .i64 (i : Int) ∧ Hid (∀ j t', j < i → ks[j]? = some t' → dp t' ≤ M) ∧ Hid (Below w.heap.size w wx)) (fun si _ => L - (intOf si).toNat)
    case atStart => exact ⟨0, Nat.zero_le _, rfl, fun j _ hj => absurd hj (Nat.not_lt_zero _), B0⟩
    case round =>
      clear B0
      obtain ⟨i, hi, rfl, hall, hb⟩ := hrel
      by_cases hlt : i < L
      · have hlt' : (i : Int) < (L : Int) := by omega
        obtain ⟨b, off, s, t', et, K0⟩ := hk.out i hlt
        have K := K0.below hb.out
        obtain rfl := K.at0
        obtain ⟨a1, l1, p1, rfl⟩ := K.slc
        have c0 := K.c0
        have c1 := K.c1
        have c2 := K.c2
        have hod : Hid (Od wr t' (.agg #[.int .i64 t'.k, .int .i64 t'.n, .slice a1 l1 p1])) := K.od
        have hmem : Hid (t' ∈ ks) := List.mem_of_getElem? et
        have etH : Hid (ks[i]? = some t') := et
        clear K K0 et
        generalize t'.k = k1 at *
        generalize t'.n = n1 at *
        have hal : Hid (Below wr.heap.size wr (wr.alloc (.cells #[.int .i64 k1, .int .i64 n1, .slice a1 l1 p1] 24))) := (Below.refl _ _).alloc (Nat.le_refl _) _
        go_wp2_with fail
        refine (ih.out t' hmem.out _ M _ (Od.below hal.out _ _ hod.out) hM2).mono ?_
        rintro e w1 ⟨rfl, B1⟩
        have hB1 : Hid (Below w.heap.size w w1) := btr (btr hb.out hal.out) B1
        clear B1 hal
        by_cases hd : dp t' ≤ M
        · have hd' : decide (dp t' ≤ M) = true := decide_eq_true hd
          have hnew : Hid (∀ j t', j < i + 1 → ks[j]? = some t' → dp t' ≤ M) := fun j u hj hu => by
            rcases Nat.lt_or_ge j i with h | h
            · exact hall.out j u h hu
            · obtain rfl : j = i := by omega
              rw [etH.out] at hu
              cases hu
              exact hd
          rw [hd']
          clear hd'
          go_wp2_with fail
          exact ⟨⟨i + 1, by omega, by go_num, hnew, hB1⟩, by simp [intOf]; omega⟩
        · have hd' : decide (dp t' ≤ M) = false := decide_eq_false hd
          have hf : Hid (false = R) := by
            show _ = _
            rw [← hR.out]
            exact (decide_eq_false (fun h => hd (by have := (dp_le.1 h).2 t' hmem.out; rw [hM.out]; exact this))).symm
          rw [hd']
          clear hd'
          go_wp2_with fail
          go_ret
          exact ⟨by rw [← hf.out]; rfl, hB1.out⟩
      · have hlt' : decide ((i : Int) < (L : Int)) = false := decide_eq_false (by omega)
        have ei : i = L := by omega
        subst ei
        have hf : Hid (true = R) := by
          show _ = _
          rw [← hR.out]
          refine (decide_eq_true (dp_le.2 ⟨by omega, fun u hu => ?_⟩)).symm
          obtain ⟨j, hj, e⟩ := List.getElem_of_mem hu
          have := hall.out j u (by rw [← hL.out]; exact hj) (by rw [List.getElem?_eq_getElem hj, e])
          rw [← hM.out]; exact this
        go_wp2_with fail
        go_ret
        exact ⟨by rw [← hf.out]; rfl, hb.out⟩
end Go.Proofs.YtoaccmblaifnmaaDoor
