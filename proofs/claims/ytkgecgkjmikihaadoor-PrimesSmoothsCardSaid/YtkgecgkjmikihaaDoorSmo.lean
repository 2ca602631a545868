/-
  Plain mathematics of numbers without a great prime factor. No condition; nothing of the program.
-/
import Derived.Test.YtkgecgkjmikihaaDoorNth
namespace Go.Proofs.YtkgecgkjmikihaaDoor.Nt
/-- no prime factor above M -/
def Sm (k M : Nat) : Prop := ∀ q, Pr q → q ∣ k → q ≤ M
theorem prime_ex : ∀ n : Nat, 2 ≤ n → ∃ q, Pr q ∧ q ∣ n := by
  intro n
  induction n using Nat.strongRecOn with
  | _ n ih =>
    intro h2
    by_cases hp : ∀ d, d ∣ n → d = 1 ∨ d = n
    · exact ⟨n, ⟨h2, hp⟩, Nat.dvd_refl n⟩
    · have : ∃ d, d ∣ n ∧ ¬ (d = 1 ∨ d = n) := by
        apply Classical.byContradiction
        intro hc
        apply hp
        intro d hd
        apply Classical.byContradiction
        intro hne
        exact hc ⟨d, hd, hne⟩
      obtain ⟨d, hd, hne⟩ := this
      have hle := Nat.le_of_dvd (by omega) hd
      have hd0 : d ≠ 0 := by intro c; subst c; have := Nat.eq_zero_of_zero_dvd hd; omega
      obtain ⟨q, hq, hqd⟩ := ih d (by omega) (by omega)
      exact ⟨q, hq, Nat.dvd_trans hqd hd⟩
/-- what dividing out keeps: K is left of k, all below d is out (strictly: b = 0; d too may be: b = 1) -/
def Cut (k d K b : Nat) : Prop := 0 < K ∧ K ∣ k ∧ (∀ e, 2 ≤ e → e < d → ¬ e ∣ K) ∧ (∀ q, Pr q → q ∣ k → q ∣ K ∨ q < d + b) ∧ 2 ≤ d
theorem Cut.start {k : Nat} (h : 0 < k) : Cut k 2 k 0 := ⟨h, Nat.dvd_refl _, fun e h1 h2 => by omega, fun q _ hd => Or.inl hd, by omega⟩
theorem Cut.loose {k d K : Nat} (h : Cut k d K 0) : Cut k d K 1 := by
  obtain ⟨h1, h2, h3, h4, h5⟩ := h
  exact ⟨h1, h2, h3, fun q hq hd => (h4 q hq hd).imp id (fun h => by omega), h5⟩
theorem Cut.div {k d K : Nat} (h : Cut k d K 1) (hm : K % d = 0) : Cut k d (K / d) 1 := by
  obtain ⟨h1, h2, h3, h4, h5⟩ := h
  have hd := Nat.dvd_of_mod_eq_zero hm
  have e := Nat.div_mul_cancel hd
  have hk : K / d ∣ K := ⟨d, e.symm⟩
  refine ⟨Nat.div_pos (Nat.le_of_dvd h1 hd) (by omega), Nat.dvd_trans hk h2, fun x hx hlt hdv => h3 x hx hlt (Nat.dvd_trans hdv hk), ?_, h5⟩
  intro q hq hqd
  rcases h4 q hq hqd with h | h
  · rw [← e] at h
    rcases hq.dvd_mul h with h | h
    · exact Or.inl h
    · right; have := Nat.le_of_dvd (by omega) h; omega
  · exact Or.inr h
theorem Cut.next {k d K : Nat} (h : Cut k d K 1) (hm : K % d ≠ 0) : Cut k (d + 1) K 0 := by
  obtain ⟨h1, h2, h3, h4, h5⟩ := h
  refine ⟨h1, h2, ?_, fun q hq hd => (h4 q hq hd).imp id (fun h => by omega), by omega⟩
  intro e he hlt hdv
  by_cases c : e = d
  · subst c; exact hm (Nat.mod_eq_zero_of_dvd hdv)
  · exact h3 e he (by omega) hdv
theorem Cut.le {k d K b : Nat} (h : Cut k d K b) (hk : 0 < k) : K ≤ k := Nat.le_of_dvd hk h.2.1
theorem Cut.done {k d K M : Nat} (h : Cut k d K 0) (hdM : d ≤ M + 1) (hx : M < d ∨ K < d * d) : (K = 1 ∨ K ≤ M) ↔ Sm k M := by
  obtain ⟨h1, h2, h3, h4, h5⟩ := h
  constructor
  · intro hr q hq hqd
    rcases h4 q hq hqd with h | h
    · have hqK := Nat.le_of_dvd h1 h
      have := hq.1
      rcases hr with hr | hr
      · omega
      · omega
    · omega
  · intro hs
    by_cases hK : K = 1
    · exact Or.inl hK
    · right
      obtain ⟨q, hq, hqK⟩ := prime_ex K (by omega)
      have hqM := hs q hq (Nat.dvd_trans hqK h2)
      have hqd : ¬ q < d := fun hl => h3 q hq.1 hl hqK
      rcases hx with hx | hx
      · omega
      · have hKp : Pr K := by
          refine Pr.of_small (by omega) ?_
          intro e he hee
          refine h3 e he ?_
          apply Nat.lt_of_not_le
          intro h9
          have : d * d ≤ e * e := Nat.mul_le_mul h9 h9
          omega
        rcases hKp.2 q hqK with c | c
        · have := hq.1; omega
        · omega
end Go.Proofs.YtkgecgkjmikihaaDoor.Nt
