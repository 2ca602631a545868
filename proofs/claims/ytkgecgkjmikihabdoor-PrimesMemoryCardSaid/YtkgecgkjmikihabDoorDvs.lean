/-
  Plain mathematics of divisors in their order: those up to the root, then those across from them; how many there are at most. No condition; nothing of the program.
-/
import Derived.Test.YtkgecgkjmikihabDoorNth
namespace Go.Proofs.YtkgecgkjmikihabDoor.Nt
/-- what a look at 0, 1, .. k - 1 finds -/
def gen (f : Nat → Option Nat) (k : Nat) : List Nat := (List.range k).filterMap f
theorem gen_succ (f : Nat → Option Nat) (k : Nat) : gen f (k + 1) = gen f k ++ (f k).toList := by
  unfold gen
  rw [List.range_succ, List.filterMap_append]
  congr 1
theorem gen_some {f : Nat → Option Nat} {k x : Nat} (h : f k = some x) : gen f (k + 1) = gen f k ++ [x] := by rw [gen_succ, h]; rfl
theorem gen_none {f : Nat → Option Nat} {k : Nat} (h : f k = none) : gen f (k + 1) = gen f k := by rw [gen_succ, h]; simp
theorem gen_pre (f : Nat → Option Nat) {k m : Nat} (h : k ≤ m) : gen f k <+: gen f m := by
  induction m with
  | zero => rw [show k = 0 by omega]; exact List.prefix_refl _
  | succ m ih =>
    by_cases c : k = m + 1
    · rw [c]; exact List.prefix_refl _
    · rw [gen_succ]; exact List.IsPrefix.trans (ih (by omega)) (List.prefix_append _ _)
theorem mem_gen {f : Nat → Option Nat} {k x : Nat} : x ∈ gen f k ↔ ∃ t, t < k ∧ f t = some x := by
  unfold gen
  rw [List.mem_filterMap]
  constructor
  · rintro ⟨t, ht, e⟩; exact ⟨t, List.mem_range.1 ht, e⟩
  · rintro ⟨t, ht, e⟩; exact ⟨t, List.mem_range.2 ht, e⟩
theorem gen_sorted {f : Nat → Option Nat} {k : Nat} (h : ∀ t u x y, t < u → u < k → f t = some x → f u = some y → x < y) : (gen f k).Pairwise (· < ·) := by
  induction k with
  | zero => simp [gen]
  | succ k ih =>
    have ih' := ih (fun t u x y a b => h t u x y a (by omega))
    cases e : f k with
    | none => rw [gen_none e]; exact ih'
    | some y =>
      rw [gen_some e, List.pairwise_append]
      refine ⟨ih', by simp, fun a ha b hb => ?_⟩
      obtain rfl : b = y := by simpa using hb
      obtain ⟨t, ht, et⟩ := mem_gen.1 ha
      exact h t k a b ht (by omega) et e
/-- the divisors up to the root -/
def loF (n t : Nat) : Option Nat := if n % (t + 1) = 0 then some (t + 1) else none
/-- those across from them, from the root down -/
def hiF (n s t : Nat) : Option Nat := if n % (s - t) = 0 ∧ (s - t) * (s - t) ≠ n then some (n / (s - t)) else none
def DV (n s : Nat) : List Nat := gen (loF n) s ++ gen (hiF n s) s
theorem loF_some {n t x : Nat} (h : loF n t = some x) : x = t + 1 ∧ x ∣ n := by
  unfold loF at h
  split at h
  · rename_i c
    obtain rfl := Option.some.inj h
    exact ⟨rfl, Nat.dvd_of_mod_eq_zero c⟩
  · cases h
theorem hiF_some {n s t x : Nat} (hn : 0 < n) (h : hiF n s t = some x) : 0 < s - t ∧ (s - t) * x = n ∧ (s - t) * (s - t) ≠ n := by
  unfold hiF at h
  split at h
  · rename_i c
    obtain rfl := Option.some.inj h
    have hd := Nat.dvd_of_mod_eq_zero c.1
    have h0 : s - t ≠ 0 := by
      intro c2; rw [c2, Nat.zero_dvd] at hd; omega
    exact ⟨by omega, Nat.mul_div_cancel' hd, c.2⟩
  · cases h
theorem lt_across {d s n y : Nat} (hs : s * s ≤ n) (hd : d ≤ s) (e : d * y = n) (hne : d * d ≠ n) : s < y := by
  apply Nat.lt_of_not_le
  intro hy
  by_cases c : d = s
  · subst c
    by_cases c2 : y = d
    · subst c2; exact hne e
    · have : d * y < d * d := Nat.mul_lt_mul_of_pos_left (by omega) (by omega)
      omega
  · have h1 : d * y ≤ d * s := Nat.mul_le_mul_left _ hy
    have h2 : d * s < s * s := Nat.mul_lt_mul_of_pos_right (by omega) (by omega)
    omega
theorem DV_sorted {n s : Nat} (hn : 0 < n) (hs : s * s ≤ n) : (DV n s).Pairwise (· < ·) := by
  unfold DV
  rw [List.pairwise_append]
  refine ⟨gen_sorted fun t u x y a _ h1 h2 => ?_, gen_sorted fun t u x y a b h1 h2 => ?_, fun a ha b hb => ?_⟩
  · rw [(loF_some h1).1, (loF_some h2).1]; omega
  · obtain ⟨p1, e1, _⟩ := hiF_some hn h1
    obtain ⟨p2, e2, _⟩ := hiF_some hn h2
    apply Nat.lt_of_not_le
    intro c
    have h3 : (s - u) * y ≤ (s - u) * x := Nat.mul_le_mul_left _ c
    have hx : 0 < x := by
      apply Nat.pos_of_ne_zero
      intro c0; rw [c0] at e1; omega
    have h4 : (s - u) * x < (s - t) * x := Nat.mul_lt_mul_of_pos_right (by omega) hx
    omega
  · obtain ⟨t, ht, e⟩ := mem_gen.1 ha
    obtain ⟨u, hu, e2⟩ := mem_gen.1 hb
    have h1 := (loF_some e).1
    obtain ⟨p2, e3, e4⟩ := hiF_some hn e2
    have := lt_across hs (Nat.sub_le _ _) e3 e4
    omega
theorem mem_DV {n s x : Nat} (hn : 0 < n) (hs2 : n < (s + 1) * (s + 1)) : x ∈ DV n s ↔ x ∣ n := by
  unfold DV
  rw [List.mem_append, mem_gen, mem_gen]
  constructor
  · rintro (⟨t, _, e⟩ | ⟨t, _, e⟩)
    · exact (loF_some e).2
    · obtain ⟨_, e1, _⟩ := hiF_some hn e
      exact ⟨s - t, by rw [Nat.mul_comm]; exact e1.symm⟩
  · intro hd
    have hx0 : 0 < x := Nat.pos_of_dvd_of_pos hd hn
    by_cases c : x ≤ s
    · left
      refine ⟨x - 1, by omega, ?_⟩
      unfold loF
      rw [show x - 1 + 1 = x by omega, if_pos (Nat.mod_eq_zero_of_dvd hd)]
    · right
      obtain ⟨d, e⟩ := hd
      have hd0 : 0 < d := by
        apply Nat.pos_of_ne_zero
        intro c0; rw [c0] at e; omega
      have hds : d ≤ s := by
        apply Nat.le_of_not_lt
        intro c2
        have : (s + 1) * (s + 1) ≤ x * d := Nat.mul_le_mul (by omega) (by omega)
        omega
      refine ⟨s - d, by omega, ?_⟩
      have e0 : s - (s - d) = d := by omega
      unfold hiF
      rw [e0]
      have hm : n % d = 0 := Nat.mod_eq_zero_of_dvd ⟨x, by rw [e, Nat.mul_comm]⟩
      have hne : d * d ≠ n := by
        intro c3
        rw [e] at c3
        have := Nat.eq_of_mul_eq_mul_right hd0 c3
        omega
      rw [if_pos ⟨hm, hne⟩, e, Nat.mul_div_cancel _ hd0]
theorem sorted_ext : ∀ {l m : List Nat}, l.Pairwise (· < ·) → m.Pairwise (· < ·) → (∀ x, x ∈ l ↔ x ∈ m) → l = m
  | [], [], _, _, _ => rfl
  | [], b :: m, _, _, h => absurd ((h b).2 (by simp)) (by simp)
  | a :: l, [], _, _, h => absurd ((h a).1 (by simp)) (by simp)
  | a :: l, b :: m, h1, h2, h => by
    have ha := (h a).1 (by simp)
    have hb := (h b).2 (by simp)
    have e : a = b := by
      rcases List.mem_cons.1 ha with c | c
      · exact c
      · rcases List.mem_cons.1 hb with c2 | c2
        · exact c2.symm
        · have k1 := (List.pairwise_cons.1 h2).1 a c
          have k2 := (List.pairwise_cons.1 h1).1 b c2
          omega
    subst e
    congr 1
    refine sorted_ext (List.pairwise_cons.1 h1).2 (List.pairwise_cons.1 h2).2 fun x => ?_
    constructor
    · intro hx
      rcases List.mem_cons.1 ((h x).1 (List.mem_cons_of_mem _ hx)) with c | c
      · subst c; exact absurd ((List.pairwise_cons.1 h1).1 x hx) (by omega)
      · exact c
    · intro hx
      rcases List.mem_cons.1 ((h x).2 (List.mem_cons_of_mem _ hx)) with c | c
      · subst c; exact absurd ((List.pairwise_cons.1 h2).1 x hx) (by omega)
      · exact c
theorem divs_sorted (n : Nat) : (divs n).Pairwise (· < ·) := by
  unfold divs
  exact List.Pairwise.filter _ (List.pairwise_lt_range' ..)
theorem DV_divs {n s : Nat} (hn : 0 < n) (hs : s * s ≤ n) (hs2 : n < (s + 1) * (s + 1)) : DV n s = divs n :=
  sorted_ext (DV_sorted hn hs) (divs_sorted n) fun x => by rw [mem_DV hn hs2, mem_divs hn]
theorem root_ex (n : Nat) : ∃ s, s * s ≤ n ∧ n < (s + 1) * (s + 1) := by
  induction n with
  | zero => exact ⟨0, by decide, by decide⟩
  | succ n ih =>
    obtain ⟨s, h1, h2⟩ := ih
    by_cases c : (s + 1) * (s + 1) ≤ n + 1
    · refine ⟨s + 1, c, ?_⟩
      have : (s + 1) * (s + 1) < (s + 1 + 1) * (s + 1 + 1) := Nat.mul_lt_mul'' (by omega) (by omega)
      omega
    · exact ⟨s, by omega, by omega⟩
/-- how many divisors at most: (number)^4 is at most n times 41 for the prime 2, 10 for 3, .. -/
theorem divs_one : (divs 1).length = 1 := by decide
theorem pow_ge_two (e : Nat) : e + 1 ≤ 2 ^ e := by
  induction e with
  | zero => decide
  | succ e ih => rw [Nat.pow_succ]; omega
theorem pow4 (a b : Nat) : (a * b) ^ 4 = a ^ 4 * b ^ 4 := Nat.mul_pow a b 4
theorem few_great : ∀ m : Nat, 0 < m → (∀ q, Pr q → q ∣ m → 16 ≤ q) → (divs m).length ^ 4 ≤ m := by
  intro m
  induction m using Nat.strongRecOn with
  | _ m ih =>
    intro h0 hq
    by_cases h1 : m = 1
    · subst h1; decide
    · obtain ⟨q, hp, hd⟩ : ∃ q, Pr q ∧ q ∣ m := by
        by_cases hpr : Pr m
        · exact ⟨m, hpr, Nat.dvd_refl _⟩
        · have hex : ∃ d, 2 ≤ d ∧ d ∣ m := ⟨m, by omega, Nat.dvd_refl _⟩
          have : ∃ d, (2 ≤ d ∧ d ∣ m) ∧ ∀ e, 2 ≤ e → e < d → ¬ e ∣ m := by
            obtain ⟨d0, hd0⟩ := hex
            induction d0 using Nat.strongRecOn with
            | _ d0 ih0 =>
              by_cases c : ∃ e, 2 ≤ e ∧ e < d0 ∧ e ∣ m
              · obtain ⟨e, e1, e2, e3⟩ := c
                exact ih0 e e2 ⟨e1, e3⟩
              · exact ⟨d0, hd0, fun e e1 e2 e3 => c ⟨e, e1, e2, e3⟩⟩
          obtain ⟨d, ⟨d2, dd⟩, dl⟩ := this
          exact ⟨d, Pr.of_least d2 dd dl, dd⟩
      obtain ⟨a, M, e, hM⟩ := part_of q hp.1 m h0
      have hM0 : 0 < M := by
        apply Nat.pos_of_ne_zero
        intro c; subst c; exact hM ⟨0, rfl⟩
      have hq16 := hq q hp hd
      have ha : a ≠ 0 := by
        intro c; subst c; rw [Nat.pow_zero, Nat.one_mul] at e; rw [e] at hd; exact hM hd
      have hMm : M < m := by
        rw [e]
        have : 16 ^ 1 ≤ q ^ a := Nat.le_trans (Nat.pow_le_pow_left hq16 1) (Nat.pow_le_pow_right (by omega) (by omega))
        have h2 : 16 * M ≤ q ^ a * M := Nat.mul_le_mul_right _ (by simpa using this)
        omega
      have hI := ih M hMm hM0 (fun r hr hrd => hq r hr (by rw [e]; exact Nat.dvd_trans hrd (Nat.dvd_mul_left _ _)))
      rw [e, divs_pow hp hM0 hM, pow4]
      refine Nat.mul_le_mul ?_ hI
      calc (a + 1) ^ 4 ≤ (2 ^ a) ^ 4 := Nat.pow_le_pow_left (pow_ge_two a) 4
        _ = 16 ^ a := by rw [← Nat.pow_mul, Nat.mul_comm, Nat.pow_mul]
        _ ≤ q ^ a := Nat.pow_le_pow_left hq16 a
/-- a prime taken out -/
theorem take_out {p m K C : Nat} (hp : Pr p) (hm : 0 < m) (hl : m ≤ 4294967296) (hK : ∀ a, a < 33 → (a + 1) ^ 4 ≤ C * p ^ a)
    (h : ∀ M, 0 < M → M ≤ 4294967296 → M ∣ m → ¬ p ∣ M → (divs M).length ^ 4 ≤ K * M) : (divs m).length ^ 4 ≤ C * K * m := by
  obtain ⟨a, M, e, hM⟩ := part_of p hp.1 m hm
  have hM0 : 0 < M := by
    apply Nat.pos_of_ne_zero
    intro c; subst c; exact hM ⟨0, rfl⟩
  have hpa : 0 < p ^ a := Nat.pow_pos (by have := hp.1; omega)
  have hMm : M ≤ m := by
    rw [e]
    have := Nat.mul_le_mul_right M hpa
    simpa using this
  have ha : a < 33 := by
    apply Nat.lt_of_not_le
    intro c
    have h1 : 2 ^ 33 ≤ p ^ a := Nat.le_trans (Nat.pow_le_pow_right (by decide) c) (Nat.pow_le_pow_left hp.1 a)
    have h2 : p ^ a * 1 ≤ p ^ a * M := Nat.mul_le_mul_left _ hM0
    have h3 : (2 : Nat) ^ 33 = 8589934592 := by decide
    omega
  have hI := h M hM0 (by omega) ⟨p ^ a, by rw [e, Nat.mul_comm]⟩ hM
  rw [e, divs_pow hp hM0 hM, pow4]
  calc (a + 1) ^ 4 * (divs M).length ^ 4 ≤ (C * p ^ a) * (K * M) := Nat.mul_le_mul (hK a ha) hI
    _ = C * K * (p ^ a * M) := by rw [Nat.mul_mul_mul_comm]
theorem pr_small (q : Nat) (h : Pr q) (hl : q < 16) : q = 2 ∨ q = 3 ∨ q = 5 ∨ q = 7 ∨ q = 11 ∨ q = 13 := by
  have h2 : q % 2 = 0 → q = 2 := fun c => by
    rcases h.2 2 (Nat.dvd_of_mod_eq_zero c) with e | e
    · omega
    · omega
  have h3 : q % 3 = 0 → q = 3 := fun c => by
    rcases h.2 3 (Nat.dvd_of_mod_eq_zero c) with e | e
    · omega
    · omega
  have h1 := h.1
  omega
theorem prD (p : Nat) (h2 : 2 ≤ p) (h : ∀ d, d < p + 1 → p % d = 0 → d = 1 ∨ d = p) : Pr p :=
  ⟨h2, fun d hd => h d (by have := Nat.le_of_dvd (by omega) hd; omega) (Nat.mod_eq_zero_of_dvd hd)⟩
theorem divs_few {n : Nat} (hn : 0 < n) (hl : n ≤ 4294967296) : (divs n).length ≤ 5000 := by
  have h : (divs n).length ^ 4 ≤ 41 * (10 * (4 * (3 * (2 * (2 * 1))))) * n := by
    refine take_out (p := 2) (prD 2 (by decide) (by decide)) hn hl (by decide) fun M2 a2 l2 d2 n2 => ?_
    refine take_out (p := 3) (prD 3 (by decide) (by decide)) a2 l2 (by decide) fun M3 a3 l3 d3 n3 => ?_
    refine take_out (p := 5) (prD 5 (by decide) (by decide)) a3 l3 (by decide) fun M5 a5 l5 d5 n5 => ?_
    refine take_out (p := 7) (prD 7 (by decide) (by decide)) a5 l5 (by decide) fun M7 a7 l7 d7 n7 => ?_
    refine take_out (p := 11) (prD 11 (by decide) (by decide)) a7 l7 (by decide) fun M11 a11 l11 d11 n11 => ?_
    refine take_out (p := 13) (prD 13 (by decide) (by decide)) a11 l11 (by decide) fun M13 a13 l13 d13 n13 => ?_
    rw [Nat.one_mul]
    refine few_great M13 a13 fun q hq hd => ?_
    apply Nat.le_of_not_lt
    intro c
    rcases pr_small q hq (by omega) with rfl | rfl | rfl | rfl | rfl | rfl
    · exact n2 (Nat.dvd_trans hd (Nat.dvd_trans d13 (Nat.dvd_trans d11 (Nat.dvd_trans d7 (Nat.dvd_trans d5 d3)))))
    · exact n3 (Nat.dvd_trans hd (Nat.dvd_trans d13 (Nat.dvd_trans d11 (Nat.dvd_trans d7 d5))))
    · exact n5 (Nat.dvd_trans hd (Nat.dvd_trans d13 (Nat.dvd_trans d11 d7)))
    · exact n7 (Nat.dvd_trans hd (Nat.dvd_trans d13 d11))
    · exact n11 (Nat.dvd_trans hd d13)
    · exact n13 hd
  apply Nat.le_of_not_lt
  intro c
  have h1 : 5001 ^ 4 ≤ (divs n).length ^ 4 := Nat.pow_le_pow_left c 4
  have h2 : (5001 : Nat) ^ 4 = 625500150020001 := by decide
  omega
theorem DV_few {n s : Nat} (hn : 0 < n) (hl : n ≤ 4294967296) (hs : s * s ≤ n) (hs2 : n < (s + 1) * (s + 1)) : (DV n s).length ≤ 5000 := by
  rw [DV_divs hn hs hs2]; exact divs_few hn hl
end Go.Proofs.YtkgecgkjmikihabDoor.Nt
