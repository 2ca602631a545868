/-
  Contracts of the document's Prime and Root of layer 5.
-/
import Derived.Test.YtkgecgkjmikihabDoorFc5
import Derived.Test.YtkgecgkjmikihabDoorRf5
namespace Go.Proofs.YtkgecgkjmikihabDoor
open Flo Go.RowKit

def isP (n : Nat) : Bool := decide (2 ≤ n) && (List.range n).all fun d => decide (d < 2) || n % d != 0
theorem isP_iff {n : Nat} : isP n = true ↔ Nt.Pr n := by
  unfold isP
  rw [Bool.and_eq_true, decide_eq_true_eq, List.all_eq_true]
  constructor
  · rintro ⟨h2, h⟩
    refine ⟨h2, fun d hd => ?_⟩
    by_cases c1 : d = 1
    · exact Or.inl c1
    · by_cases c2 : d = n
      · exact Or.inr c2
      · exfalso
        have hle := Nat.le_of_dvd (by omega) hd
        have hd0 : d ≠ 0 := by intro c; subst c; have := Nat.eq_zero_of_zero_dvd hd; omega
        have := h d (List.mem_range.2 (by omega))
        rw [Bool.or_eq_true, decide_eq_true_eq, bne_iff_ne] at this
        rcases this with h3 | h3
        · omega
        · exact h3 (Nat.mod_eq_zero_of_dvd hd)
  · intro hp
    refine ⟨hp.1, fun d hd => ?_⟩
    rw [Bool.or_eq_true, decide_eq_true_eq, bne_iff_ne]
    by_cases c : d < 2
    · exact Or.inl c
    · right
      intro h3
      have := hp.2 d (Nat.dvd_of_mod_eq_zero h3)
      have := List.mem_range.1 hd
      omega
/-- is it a prime up to 2^32? -/
def prB (n : Int) : Bool := decide (2 ≤ n ∧ n ≤ 4294967296) && isP n.toNat
theorem prB_no {n : Int} (h : n < 2 ∨ 4294967296 < n) : prB n = false := by
  unfold prB; rw [decide_eq_false (by omega)]; rfl
theorem prB_nat {n : Nat} (h2 : 2 ≤ n) (hn : n ≤ 4294967296) : prB (n : Int) = isP n := by
  unfold prB; rw [decide_eq_true (by omega), Int.toNat_natCast]; rfl

/-- by no prime factor of p - 1 is the power 1 -/
def good (p h : Nat) : Prop := ∀ q, Nt.Pr q → q ∣ p - 1 → h ^ ((p - 1) / q) % p ≠ 1
/-- the least such number -/
def Rt (p g : Nat) : Prop := 1 ≤ g ∧ g < p ∧ good p g ∧ ∀ h, 1 ≤ h → h < g → ¬ good p h
theorem Rt.eq {p g h : Nat} (a : Rt p g) (b : Rt p h) : g = h := by
  rcases Nat.lt_trichotomy g h with c | c | c
  · exact absurd a.2.2.1 (b.2.2.2 g a.1 c)
  · exact c
  · exact absurd b.2.2.1 (a.2.2.2 h b.1 c)
/-- the prime factors of p - 1, as a list; none of 1 -/
def Fq (p : Nat) (zs : List Nat) : Prop := ∀ q, q ∈ zs ↔ (Nt.Pr q ∧ q ∣ p - 1)
theorem Fq_of {p : Nat} {zs : List Nat} (h : Nt.Fac (p - 1) zs) : Fq p zs := by
  intro q
  constructor
  · intro hq; exact ⟨h.2.1 q hq, by rw [← h.1]; exact Nt.dvd_prod_of_mem hq⟩
  · rintro ⟨hq, hd⟩
    rw [← h.1] at hd
    obtain ⟨x, hx, hxd⟩ := hq.dvd_prod zs hd
    rcases (h.2.1 x hx).2 q hxd with e | e
    · have := hq.1; omega
    · rw [e]; exact hx
theorem Fq_two : Fq 2 [] := by
  intro q
  constructor
  · intro h; cases h
  · rintro ⟨h1, h2⟩
    have := Nat.le_of_dvd (by omega) h2
    have := h1.1
    omega
/-- the look over the first i factors -/
def lookB (p g : Nat) (zs : List Nat) : Bool := zs.all fun q => pw g ((p - 1) / q) p != 1
theorem lookB_snoc (p g : Nat) (zs : List Nat) (i : Nat) (h : i < zs.length) : lookB p g (zs.take (i + 1)) = (lookB p g (zs.take i) && pw g ((p - 1) / zs.getD i 0) p != 1) := by
  unfold lookB
  have e : zs.getD i 0 = zs[i] := by simp [List.getD, h]
  rw [List.take_succ_eq_append_getElem h, List.all_append, e]
  simp
theorem lookB_good {p g : Nat} {zs : List Nat} (hp : 0 < p) (h : Fq p zs) : lookB p g zs = true ↔ good p g := by
  unfold lookB good
  rw [List.all_eq_true]
  constructor
  · intro h1 q hq hd
    have := h1 q ((h q).2 ⟨hq, hd⟩)
    rwa [pw_pos hp, bne_iff_ne] at this
  · intro h1 q hq
    have := (h q).1 hq
    rw [pw_pos hp, bne_iff_ne]
    exact h1 q this.1 this.2
theorem good_ex {p : Nat} {zs : List Nat} (hp : Nt.Pr p) (h : Fq p zs) : ∃ g, 0 < g ∧ g < p ∧ good p g := by
  obtain ⟨g, g1, g2, g3⟩ := Nt.prim_exists hp zs (fun q hq => (h q).1 hq)
  exact ⟨g, g1, g2, fun q hq hd => g3 q ((h q).2 ⟨hq, hd⟩)⟩

/-- Factors of p - 1, in one sentence for p = 2 too -/
theorem r5Factors_p (p : Nat) (w : World) (h2 : 2 ≤ p) (hp : p ≤ 4294967296) :
    Calls Tryd.prog 15 #[.int .i64 ((p : Int) - 1)] w fun e w' => ∃ v zs, e = .returned v ∧ Fq p zs ∧ zs.length ≤ 32 ∧ w'.ownsRow w.heap.size 3 1 v zs.length (il zs) ∧ Below w.heap.size w w' := by
  by_cases h : p = 2
  · subst h
    refine (r5Factors_no _ w (Or.inl (by omega))).mono ?_
    rintro e w' ⟨rfl, rfl⟩
    exact ⟨_, [], rfl, Fq_two, by simp, World.ownsRow_nil _ _ _ _, Below.refl _ _⟩
  · have e1 : (p : Int) - 1 = ((p - 1 : Nat) : Int) := by omega
    rw [e1]
    refine (r5Factors_n (p - 1) w (by omega) (by omega)).mono ?_
    rintro e w' ⟨v, zs, rfl, hf, hown, hbl⟩
    exact ⟨v, zs, rfl, Fq_of hf, hf.len (by omega), hown, hbl⟩

end Go.Proofs.YtkgecgkjmikihabDoor
