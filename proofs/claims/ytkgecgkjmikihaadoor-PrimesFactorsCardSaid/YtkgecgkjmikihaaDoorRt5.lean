/-
  Contracts of the document's Prime and Root of layer 5.
-/
import Derived.Test.YtkgecgkjmikihaaDoorFc5
import Derived.Test.YtkgecgkjmikihaaDoorRf5
namespace Go.Proofs.YtkgecgkjmikihaaDoor
open Flo Go.RowKit

def isP (n : Nat) : Bool := decide (2 ≤ n) && (List.range n).all fun d => decide (d < 2) || n % d != 0
theorem isP_iff {n : Nat} : isP n = true ↔ Nt.Pr n := by
  unfold isP
  rw [Bool.and_eq_true, decide_eq_true_eq, List.all_eq_true]
  constructor
  · rintro ⟨h2, h⟩
    refine ⟨h2, fun d hd => ?_⟩
    by_cases c1 : d = 1
    · exact Or.inl c1
    · by_cases c2 : d = n
      · exact Or.inr c2
      · exfalso
        have hle := Nat.le_of_dvd (by omega) hd
        have hd0 : d ≠ 0 := by intro c; subst c; have := Nat.eq_zero_of_zero_dvd hd; omega
        have := h d (List.mem_range.2 (by omega))
        rw [Bool.or_eq_true, decide_eq_true_eq, bne_iff_ne] at this
        rcases this with h3 | h3
        · omega
        · exact h3 (Nat.mod_eq_zero_of_dvd hd)
  · intro hp
    refine ⟨hp.1, fun d hd => ?_⟩
    rw [Bool.or_eq_true, decide_eq_true_eq, bne_iff_ne]
    by_cases c : d < 2
    · exact Or.inl c
    · right
      intro h3
      have := hp.2 d (Nat.dvd_of_mod_eq_zero h3)
      have := List.mem_range.1 hd
      omega
/-- is it a prime up to 2^32? -/
def prB (n : Int) : Bool := decide (2 ≤ n ∧ n ≤ 4294967296) && isP n.toNat
theorem prB_no {n : Int} (h : n < 2 ∨ 4294967296 < n) : prB n = false := by
  unfold prB; rw [decide_eq_false (by omega)]; rfl
theorem prB_nat {n : Nat} (h2 : 2 ≤ n) (hn : n ≤ 4294967296) : prB (n : Int) = isP n := by
  unfold prB; rw [decide_eq_true (by omega), Int.toNat_natCast]; rfl

set_option maxHeartbeats 1000000 in
theorem r5Prime_c (n : Int) (w : World) :
    Calls Tryd.prog 20 #[.int .i64 n] w fun e w' => e = .returned (.bool (prB n)) ∧ Below w.heap.size w w' := by
  by_cases h : n < 2 ∨ 4294967296 < n
  · have hr : Hid (false = prB n) := (prB_no h).symm
    go_enter Tryd.func20, Tryd.ntmps20
    go_wp2_with (go_at_call 18; refine (r5Factors_no n _ h).mono ?_; rintro e w' ⟨rfl, rfl⟩)
    go_ret
    exact ⟨ret_bool hr.out, Below.refl _ _⟩
  · obtain ⟨m, rfl⟩ : ∃ m : Nat, n = (m : Int) := ⟨n.toNat, by omega⟩
    have h2 : 2 ≤ m := by omega
    have hn : m ≤ 4294967296 := by omega
    have hB : Hid (prB (m : Int) = isP m) := prB_nat h2 hn
    clear h
    go_enter Tryd.func20, Tryd.ntmps20
    go_wp2_with (go_at_call 18; refine (r5Factors_n m _ h2 hn).mono ?_; rintro e w' ⟨v, zs, rfl, hf, hown, hbl⟩; obtain ⟨ao, cap, rfl, hrd⟩ := RdI.of_own hown; clear hrd hown)
    go_ret
    refine ⟨ret_bool ?_, hbl⟩
    rw [hB.out, Bool.eq_iff_iff, isP_iff, ← hf.prime, beq_iff_eq]
    omega
/-- by no prime factor of p - 1 is the power 1 -/
def good (p h : Nat) : Prop := ∀ q, Nt.Pr q → q ∣ p - 1 → h ^ ((p - 1) / q) % p ≠ 1
/-- the least such number -/
def Rt (p g : Nat) : Prop := 1 ≤ g ∧ g < p ∧ good p g ∧ ∀ h, 1 ≤ h → h < g → ¬ good p h
theorem Rt.eq {p g h : Nat} (a : Rt p g) (b : Rt p h) : g = h := by
  rcases Nat.lt_trichotomy g h with c | c | c
  · exact absurd a.2.2.1 (b.2.2.2 g a.1 c)
  · exact c
  · exact absurd b.2.2.1 (a.2.2.2 h b.1 c)
/-- the prime factors of p - 1, as a list; none of 1 -/
def Fq (p : Nat) (zs : List Nat) : Prop := ∀ q, q ∈ zs ↔ (Nt.Pr q ∧ q ∣ p - 1)
theorem Fq_of {p : Nat} {zs : List Nat} (h : Nt.Fac (p - 1) zs) : Fq p zs := by
  intro q
  constructor
  · intro hq; exact ⟨h.2.1 q hq, by rw [← h.1]; exact Nt.dvd_prod_of_mem hq⟩
  · rintro ⟨hq, hd⟩
    rw [← h.1] at hd
    obtain ⟨x, hx, hxd⟩ := hq.dvd_prod zs hd
    rcases (h.2.1 x hx).2 q hxd with e | e
    · have := hq.1; omega
    · rw [e]; exact hx
theorem Fq_two : Fq 2 [] := by
  intro q
  constructor
  · intro h; cases h
  · rintro ⟨h1, h2⟩
    have := Nat.le_of_dvd (by omega) h2
    have := h1.1
    omega
/-- the look over the first i factors -/
def lookB (p g : Nat) (zs : List Nat) : Bool := zs.all fun q => pw g ((p - 1) / q) p != 1
theorem lookB_snoc (p g : Nat) (zs : List Nat) (i : Nat) (h : i < zs.length) : lookB p g (zs.take (i + 1)) = (lookB p g (zs.take i) && pw g ((p - 1) / zs.getD i 0) p != 1) := by
  unfold lookB
  have e : zs.getD i 0 = zs[i] := by simp [List.getD, h]
  rw [List.take_succ_eq_append_getElem h, List.all_append, e]
  simp
theorem lookB_good {p g : Nat} {zs : List Nat} (hp : 0 < p) (h : Fq p zs) : lookB p g zs = true ↔ good p g := by
  unfold lookB good
  rw [List.all_eq_true]
  constructor
  · intro h1 q hq hd
    have := h1 q ((h q).2 ⟨hq, hd⟩)
    rwa [pw_pos hp, bne_iff_ne] at this
  · intro h1 q hq
    have := (h q).1 hq
    rw [pw_pos hp, bne_iff_ne]
    exact h1 q this.1 this.2
theorem good_ex {p : Nat} {zs : List Nat} (hp : Nt.Pr p) (h : Fq p zs) : ∃ g, 0 < g ∧ g < p ∧ good p g := by
  obtain ⟨g, g1, g2, g3⟩ := Nt.prim_exists hp zs (fun q hq => (h q).1 hq)
  exact ⟨g, g1, g2, fun q hq hd => g3 q ((h q).2 ⟨hq, hd⟩)⟩

set_option maxHeartbeats 1000000 in
theorem r5Root_no (n : Int) (w : World) (h : prB n = false) :
    Calls Tryd.prog 12 #[.int .i64 n] w fun e w' => e = .returned (.tuple #[.int .i64 0, .int .i64 11]) ∧ Below w.heap.size w w' := by
  go_enter Tryd.func12, Tryd.ntmps12
  go_wp2_with (go_at_call 20; refine (r5Prime_c _ _).mono ?_; rintro e w' ⟨rfl, hbl⟩; rw [h])
  go_ret2
  exact ⟨rfl, hbl⟩
/-- Factors of p - 1, in one sentence for p = 2 too -/
theorem r5Factors_p (p : Nat) (w : World) (h2 : 2 ≤ p) (hp : p ≤ 4294967296) :
    Calls Tryd.prog 18 #[.int .i64 ((p : Int) - 1)] w fun e w' => ∃ v zs, e = .returned v ∧ Fq p zs ∧ zs.length ≤ 32 ∧ w'.ownsRow w.heap.size 3 1 v zs.length (il zs) ∧ Below w.heap.size w w' := by
  by_cases h : p = 2
  · subst h
    refine (r5Factors_no _ w (Or.inl (by omega))).mono ?_
    rintro e w' ⟨rfl, rfl⟩
    exact ⟨_, [], rfl, Fq_two, by simp, World.ownsRow_nil _ _ _ _, Below.refl _ _⟩
  · have e1 : (p : Int) - 1 = ((p - 1 : Nat) : Int) := by omega
    rw [e1]
    refine (r5Factors_n (p - 1) w (by omega) (by omega)).mono ?_
    rintro e w' ⟨v, zs, rfl, hf, hown, hbl⟩
    exact ⟨v, zs, rfl, Fq_of hf, hf.len (by omega), hown, hbl⟩

theorem r5Pow_e (a x m : Int) (a' x' m' : Nat) (w : World) (ea : a = (a' : Int)) (ex : x = (x' : Int)) (em : m = (m' : Int)) (ha : a' < 18446744073709551616) (hx : x' < 18446744073709551616) (hm : m' < 18446744073709551616) :
    Calls Tryd.prog 29 #[.int .u64 a, .int .u64 x, .int .u64 m] w fun e w' => e = .returned (.int .u64 (pw a' x' m' : Nat)) ∧ ∃ k, w' = w.drewN k := by
  subst ea ex em; exact r5Pow_c a' x' m' w ha hx hm
set_option maxHeartbeats 2000000 in
theorem r5Root_p (p : Nat) (w : World) (h2 : 2 ≤ p) (hp : p ≤ 4294967296) (hP : Nt.Pr p) :
    Calls Tryd.prog 12 #[.int .i64 p] w fun e w' => ∃ g : Nat, e = .returned (.tuple #[.int .i64 g, .int .i64 0]) ∧ Rt p g ∧ Below w.heap.size w w' := by
  have hB : prB (p : Int) = true := by rw [prB_nat h2 hp]; exact isP_iff.2 hP
  have hPH : Hid (Nt.Pr p) := hP
  have ew : wrap64 ((p : Int) - 1) = (p : Int) - 1 := by unfold wrap64; omega
  clear hP
  go_enter Tryd.func12, Tryd.ntmps12
  go_wp2_with (first | (go_at_call 20; refine (r5Prime_c _ _).mono ?_; rintro e w0 ⟨rfl, hbl0⟩; rw [hB]) | (go_at_call 18; refine (r5Factors_p p _ h2 hp).mono ?_; rintro e w1 ⟨v, zs, rfl, hfq, hl, hown, hbl1⟩; obtain ⟨ao, cap, rfl, hrd⟩ := RdI.of_own hown; have hF : Hid (Fq p zs) := hfq; have hR : Hid (zs ≠ [] → ∃ b off, ao = some ⟨b, off, none⟩ ∧ b < w1.heap.size ∧ ∀ i, i < zs.length → w1.cell? ⟨b, off + i, none⟩ = some (.int .i64 ((zs.getD i 0 : Nat) : Int))) := hrd; clear hfq hown hrd))
  have hBl : Hid (Below w.heap.size w w1) := hbl0.trans (hbl1.mono hbl0.size)
  clear hbl0 hbl1
  go_loopw [5, 6, 7] (fun sg _ _ wx => ∃ g k : Nat, 1 ≤ g ∧ g < p ∧ sg = .int .i64 g ∧ wx = w1.drewN k ∧ Hid (∀ h, 1 ≤ h → h < g → ¬ good p h)) (fun sg _ _ _ => p - (intOf sg).toNat)
  case atStart => exact ⟨1, 0, Nat.le_refl _, by omega, rfl, rfl, fun h h1 h2 => absurd h2 (by omega)⟩
  case round =>
    obtain ⟨g, k, g1, gp, rfl, rfl, hno⟩ := hrel
    go_wp2
    go_loopw [6, 7] (fun so si wx => ∃ i k' : Nat, i ≤ zs.length ∧ so = .bool (lookB p g (zs.take i)) ∧ si = .int .i64 i ∧ wx = w1.drewN k') (fun _ si _ => zs.length - (intOf si).toNat)
    case atStart => exact ⟨0, k, Nat.zero_le _, by rw [List.take_zero]; rfl, rfl, rfl⟩
    case round =>
      obtain ⟨i, k', hi, rfl, rfl, rfl⟩ := hrel
      by_cases hlt : i < zs.length
      · have hlt' : (i : Int) < (zs.length : Int) := by omega
        obtain ⟨b, off, rfl, hb, hcell⟩ := hR.out (fun e => by rw [e] at hlt; simp at hlt)
        have c1 : (w1.drewN k').cell? ⟨b, off + i, none⟩ = some (.int .i64 ((zs.getD i 0 : Nat) : Int)) := hcell i hlt
        have hsn := lookB_snoc p g zs i hlt
        have hqm : zs.getD i 0 ∈ zs := by simp [List.getD, hlt]
        have hq2 : 2 ≤ zs.getD i 0 := ((hF.out _).1 hqm).1.1
        clear hcell hqm
        generalize zs.getD i 0 = q at c1 hsn hq2
        obtain ⟨d, hd⟩ : ∃ d : Nat, d = (p - 1) / q := ⟨_, rfl⟩
        have hdl : d < 4294967296 := by rw [hd]; exact Nat.lt_of_le_of_lt (Nat.div_le_self _ _) (by omega)
        have ed : ((p : Int) - 1) / (q : Int) = (d : Int) := by
          rw [show (p : Int) - 1 = ((p - 1 : Nat) : Int) by omega, hd]; rfl
        have ed1 : Hid (IntKind.u64.wrap (wrap64 (((p : Int) - 1) / (q : Int))) = (d : Int)) := (by
          rw [ed, show wrap64 (d : Int) = (d : Int) by unfold wrap64; omega]; exact wrapId _ (by omega) : IntKind.u64.wrap (wrap64 (((p : Int) - 1) / (q : Int))) = (d : Int))
        have ed2 : Hid (wrap64 (((p : Int) - 1) / (q : Int)) = (d : Int)) := (by
          rw [ed]; unfold wrap64; omega : wrap64 (((p : Int) - 1) / (q : Int)) = (d : Int))
        have ed3 : Hid (IntKind.u64.wrap (((p : Int) - 1) / (q : Int)) = (d : Int)) := (by rw [ed]; exact wrapId _ (by omega) : IntKind.u64.wrap (((p : Int) - 1) / (q : Int)) = (d : Int))
        have qz : ((q : Int) == 0) = false := beq_eq_false_iff_ne.2 (by omega)
        rw [← hd] at hsn
        clear hd ed
        have hLs : Hid (lookB p g (zs.take (i + 1)) = (lookB p g (zs.take i) && pw g d p != 1)) := hsn
        clear hsn
        by_cases hone : pw g d p = 1
        · have o1 : (((pw g d p : Nat) : Int) == 1) = true := by rw [hone]; rfl
          have hL' : Hid (lookB p g (zs.take (i + 1)) = false) := (by rw [hLs.out, hone]; simp : lookB p g (zs.take (i + 1)) = false)
          clear hone
          go_wp2_with (go_at_call 29; refine (r5Pow_e _ _ _ g d p _ (by first | rfl | exact wrapId _ (by omega)) (by first | exact ed3.out | exact ed1.out | exact ed2.out) (by first | rfl | exact wrapId _ (by omega)) (by omega) (by omega) (by omega)).mono ?_; rintro e w' ⟨rfl, k1, rfl⟩)
          go_roundw
          case rel => exact ⟨i + 1, k' + k1, by omega, by rw [hL'.out], by go_num, rfl⟩
          case measure => simp [intOf]; omega
        · have o1 : (((pw g d p : Nat) : Int) == 1) = false := beq_eq_false_iff_ne.2 (by omega)
          have hL' : Hid (lookB p g (zs.take (i + 1)) = lookB p g (zs.take i)) := (by rw [hLs.out, bne_iff_ne.2 hone, Bool.and_true] : lookB p g (zs.take (i + 1)) = lookB p g (zs.take i))
          clear hone
          go_wp2_with (go_at_call 29; refine (r5Pow_e _ _ _ g d p _ (by first | rfl | exact wrapId _ (by omega)) (by first | exact ed3.out | exact ed1.out | exact ed2.out) (by first | rfl | exact wrapId _ (by omega)) (by omega) (by omega) (by omega)).mono ?_; rintro e w' ⟨rfl, k1, rfl⟩)
          go_roundw
          case rel => exact ⟨i + 1, k' + k1, by omega, by rw [hL'.out], by go_num, rfl⟩
          case measure => simp [intOf]; omega
      · have hlt' : decide ((i : Int) < (zs.length : Int)) = false := decide_eq_false (by omega)
        have ei : i = zs.length := by omega
        subst ei
        rw [List.take_length]
        have hg := lookB_good (g := g) (show 0 < p by omega) hF.out
        cases hL : lookB p g zs
        · have hng : Hid (¬ good p g) := fun hh => by rw [hg.2 hh] at hL; cases hL
          have hnext : g + 1 < p := by
            obtain ⟨h, h1, h2', h3⟩ := good_ex hPH.out hF.out
            apply Nat.lt_of_not_le
            intro hc
            by_cases e : h = g
            · subst e; exact hng.out h3
            · exact hno.out h (by omega) (by omega) h3
          have hno' : Hid (∀ h, 1 ≤ h → h < g + 1 → ¬ good p h) := fun h a1 a2 => if e : h = g then by rw [e]; exact hng.out else hno.out h a1 (by omega)
          have hwg : wrap64 ((g : Int) + 1) = ((g + 1 : Nat) : Int) := by unfold wrap64; omega
          clear hg hL
          go_wp2
          go_roundw
          case rel => exact ⟨g + 1, k', by omega, hnext, by go_num, rfl, hno'⟩
          case measure => simp [intOf]; omega
        · have hgd : Hid (Rt p g) := ⟨g1, gp, hg.1 hL, hno.out⟩
          clear hg hL
          go_wp2
          go_ret2
          exact ⟨g, rfl, hgd.out, below_drewN hBl.out _⟩
end Go.Proofs.YtkgecgkjmikihaaDoor
