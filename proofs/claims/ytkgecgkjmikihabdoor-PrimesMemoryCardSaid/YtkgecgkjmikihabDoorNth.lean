/-
  Plain mathematics of whole numbers: primes, Fermat, roots of 1 modulo a prime and a primitive root, the one list of prime factors, how many divisors. No condition; nothing of the program.
-/
namespace Go.Proofs.YtkgecgkjmikihabDoor.Nt

def Pr (p : Nat) : Prop := 2 ≤ p ∧ ∀ d, d ∣ p → d = 1 ∨ d = p

theorem Pr.coprime {p a : Nat} (hp : Pr p) (h : ¬ p ∣ a) : Nat.Coprime p a := by
  have h1 : Nat.gcd p a ∣ p := Nat.gcd_dvd_left p a
  have h2 : Nat.gcd p a ∣ a := Nat.gcd_dvd_right p a
  rcases hp.2 _ h1 with e | e
  · exact e
  · exact absurd (e ▸ h2) h

theorem Pr.dvd_mul {p a b : Nat} (hp : Pr p) (h : p ∣ a * b) : p ∣ a ∨ p ∣ b := by
  by_cases c : p ∣ a
  · exact Or.inl c
  · exact Or.inr ((hp.coprime c).dvd_of_dvd_mul_left h)

theorem Pr.dvd_pow {p a n : Nat} (hp : Pr p) (h : p ∣ a ^ n) : p ∣ a := by
  induction n with
  | zero => rw [Nat.pow_zero] at h; have := Nat.le_of_dvd (by omega) h; have := hp.1; omega
  | succ n ih =>
    rw [Nat.pow_succ] at h
    rcases hp.dvd_mul h with h | h
    · exact ih h
    · exact h

theorem mod_cancel {p a b c : Nat} (hp : Pr p) (ha : ¬ p ∣ a) (h : a * b % p = a * c % p) : b % p = c % p := by
  have key : ∀ b c : Nat, c ≤ b → a * b % p = a * c % p → b % p = c % p := by
    intro b c hbc h
    have h1 : p ∣ a * b - a * c := by
      have := Nat.sub_mod_eq_zero_of_mod_eq h
      exact Nat.dvd_of_mod_eq_zero this
    rw [← Nat.mul_sub] at h1
    have h2 : p ∣ b - c := (hp.dvd_mul h1).resolve_left ha
    obtain ⟨k, hk⟩ := h2
    have : b = c + p * k := by omega
    rw [this, Nat.add_mul_mod_self_left]
  rcases Nat.le_total c b with hc | hc
  · exact key b c hc h
  · exact (key c b hc h.symm).symm

/-- a list without repeats, inside another that is no longer, is the other in another order -/
theorem perm_of_inside {α : Type} [DecidableEq α] (l : List α) : ∀ (m : List α), l.Nodup → (∀ x ∈ l, x ∈ m) → m.length ≤ l.length → l.Perm m := by
  induction l with
  | nil =>
    intro m _ _ h
    have : m = [] := List.length_eq_zero_iff.1 (by simpa using h)
    rw [this]
  | cons a l ih =>
    intro m hn hs hl
    rw [List.nodup_cons] at hn
    have ha : a ∈ m := hs a (by simp)
    have p1 : m.Perm (a :: m.erase a) := List.perm_cons_erase ha
    have h2 : l.Perm (m.erase a) := by
      apply ih _ hn.2
      · intro x hx
        have hne : x ≠ a := fun e => hn.1 (e ▸ hx)
        exact (List.mem_erase_of_ne hne).2 (hs x (by simp [hx]))
      · rw [List.length_erase_of_mem ha]; simp at hl; omega
    exact (h2.cons a).trans p1.symm

def prod (l : List Nat) : Nat := l.foldr (· * ·) 1
theorem prod_cons (a : Nat) (l : List Nat) : prod (a :: l) = a * prod l := rfl
theorem prod_perm {l m : List Nat} (h : l.Perm m) : prod l = prod m := by
  induction h with
  | nil => rfl
  | cons x _ ih => rw [prod_cons, prod_cons, ih]
  | swap x y l => rw [prod_cons, prod_cons, prod_cons, prod_cons]; exact Nat.mul_left_comm y x _
  | trans _ _ h1 h2 => rw [h1, h2]

theorem prod_map_mod (a p : Nat) (l : List Nat) : prod (l.map fun k => a * k % p) % p = a ^ l.length * prod l % p := by
  induction l with
  | nil => simp [prod]
  | cons x l ih =>
    rw [List.map_cons, prod_cons, prod_cons, List.length_cons, Nat.mul_mod, ih, Nat.mod_mod, ← Nat.mul_mod, Nat.pow_succ]
    congr 1
    simp only [Nat.mul_assoc, Nat.mul_left_comm]

theorem prod_not_dvd {p : Nat} (hp : Pr p) (l : List Nat) (h : ∀ x ∈ l, ¬ p ∣ x) : ¬ p ∣ prod l := by
  induction l with
  | nil => intro c; have h1 : p ≤ 1 := Nat.le_of_dvd (by decide) c; have := hp.1; omega
  | cons x l ih =>
    rw [prod_cons]; intro c
    rcases hp.dvd_mul c with c | c
    · exact h x (by simp) c
    · exact ih (fun y hy => h y (by simp [hy])) c

/-- Fermat -/
theorem fermat {p a : Nat} (hp : Pr p) (ha : ¬ p ∣ a) : a ^ (p - 1) % p = 1 := by
  have h2 := hp.1
  let L := List.range' 1 (p - 1)
  have hL : ∀ x ∈ L, 1 ≤ x ∧ x < p := by
    intro x hx
    have := List.mem_range'_1.1 hx
    omega
  have hnd : ∀ x ∈ L, ¬ p ∣ x := by
    intro x hx c
    have := Nat.le_of_dvd (by have := hL x hx; omega) c
    have := hL x hx; omega
  have hperm : (L.map fun k => a * k % p).Perm L := by
    apply perm_of_inside
    · have hnl : L.Nodup := List.nodup_range'
      rw [List.nodup_iff_pairwise_ne, List.pairwise_map]
      rw [List.nodup_iff_pairwise_ne] at hnl
      refine List.Pairwise.imp_of_mem ?_ hnl
      intro x y hx hy hne e
      apply hne
      have := mod_cancel hp ha e
      have h1 := hL x hx; have h2 := hL y hy
      rwa [Nat.mod_eq_of_lt h1.2, Nat.mod_eq_of_lt h2.2] at this
    · intro y hy
      obtain ⟨x, hx, e⟩ := List.mem_map.1 hy
      have e' : a * x % p = y := e
      have hx' : x ∈ L := hx
      rw [List.mem_range'_1]
      have hlt : a * x % p < p := Nat.mod_lt _ (by omega)
      have hne : a * x % p ≠ 0 := by
        intro c
        rcases hp.dvd_mul (Nat.dvd_of_mod_eq_zero c) with c | c
        · exact ha c
        · exact hnd x hx' c
      omega
    · simp
  have e1 := prod_map_mod a p L
  rw [prod_perm hperm] at e1
  have e2 : L.length = p - 1 := List.length_range'
  rw [e2] at e1
  have e3 : prod L * 1 % p = prod L * a ^ (p - 1) % p := by rw [Nat.mul_one, Nat.mul_comm (prod L)]; exact e1
  have := mod_cancel hp (prod_not_dvd hp L hnd) e3
  rw [← this]
  exact Nat.mod_eq_of_lt (by omega)

/-- a polynomial that begins with 1, by its other coefficients, the lowest first -/
def ev : List Int → Int → Int
  | [], _ => 1
  | c :: cs, x => c + x * ev cs x

theorem ev_add (k : Int) (bs : List Int) : ∀ as : List Int, as.length = bs.length + 1 → ∃ es : List Int, es.length = as.length ∧ ∀ x, ev es x = ev as x + k * ev bs x := by
  induction bs with
  | nil =>
    intro as h
    match as, h with
    | [a], _ => exact ⟨[a + k], rfl, fun x => by simp only [ev]; omega⟩
  | cons b bs ih =>
    intro as h
    match as, h with
    | a :: as, h =>
      obtain ⟨es, h1, h2⟩ := ih as (by simpa using h)
      refine ⟨(a + k * b) :: es, by simp [h1], fun x => ?_⟩
      simp only [ev]
      rw [h2, Int.mul_add, Int.mul_add, Int.mul_left_comm x k]; omega

theorem ev_div (r : Int) (cs : List Int) : ∀ c : Int, ∃ ds : List Int, ds.length = cs.length ∧ ∀ x, ev (c :: cs) x - ev (c :: cs) r = (x - r) * ev ds x := by
  induction cs with
  | nil => intro c; exact ⟨[], rfl, fun x => by simp only [ev]; omega⟩
  | cons d cs ih =>
    intro c
    obtain ⟨g, hg, h⟩ := ih d
    obtain ⟨es, h1, h2⟩ := ev_add r g (d :: cs) (by simp [hg])
    refine ⟨es, by simpa using h1, fun x => ?_⟩
    have := h x
    have e1 : ev (c :: d :: cs) x = c + x * ev (d :: cs) x := rfl
    have e2 : ev (c :: d :: cs) r = c + r * ev (d :: cs) r := rfl
    rw [e1, e2, h2, Int.mul_add, Int.mul_left_comm (x - r) r, ← this, Int.mul_sub, Int.sub_mul]
    omega

/-- a polynomial of degree n hasn't n + 1 roots modulo a prime -/
theorem few_roots {p : Nat} (hp : Pr p) (n : Nat) : ∀ cs : List Int, cs.length = n → ∀ rs : List Int, rs.length = n + 1 → rs.Pairwise (fun a b => ¬ (p : Int) ∣ b - a) → ¬ ∀ r ∈ rs, (p : Int) ∣ ev cs r := by
  induction n with
  | zero =>
    intro cs hc rs hr _ h
    match cs, hc with
    | [], _ =>
      match rs, hr with
      | [r], _ =>
        have h1 : (p : Int) ∣ 1 := h r (by simp)
        have := hp.1
        have := Int.le_of_dvd (by decide) h1
        omega
  | succ n ih =>
    intro cs hc rs hr hp' h
    match cs, hc with
    | c :: cs, hc =>
      match rs, hr with
      | r :: rs, hr =>
        obtain ⟨ds, h1, h2⟩ := ev_div r cs c
        rw [List.pairwise_cons] at hp'
        refine ih ds (by rw [h1]; simpa using hc) rs (by simpa using hr) hp'.2 ?_
        intro s hs
        have e := h2 s
        have d1 : (p : Int) ∣ (s - r) * ev ds s := by
          rw [← e]; exact Int.dvd_sub (h s (by simp [hs])) (h r (by simp))
        have d2 : p ∣ (s - r).natAbs * (ev ds s).natAbs := by
          rw [← Int.natAbs_mul]; exact Int.ofNat_dvd_left.1 d1
        rcases hp.dvd_mul d2 with d3 | d3
        · exact absurd (Int.ofNat_dvd_left.2 d3) (hp'.1 s hs)
        · exact Int.ofNat_dvd_left.2 d3

theorem ev_zeros (j : Nat) (x : Int) : ev (List.replicate j 0) x = x ^ j := by
  induction j with
  | zero => simp [ev]
  | succ j ih => rw [List.replicate_succ]; simp only [ev]; rw [ih, Int.pow_succ, Int.mul_comm]; omega

/-- fewer than p - 1: not all are its roots of 1 -/
theorem not_all_one {p k : Nat} (hp : Pr p) (hk : 0 < k) (hk' : k < p - 1) : ∃ x, 0 < x ∧ x < p ∧ x ^ k % p ≠ 1 := by
  apply Classical.byContradiction
  intro hno
  have hall : ∀ x, 0 < x → x < p → x ^ k % p = 1 := by
    intro x h1 h2
    apply Classical.byContradiction
    intro h3
    exact hno ⟨x, h1, h2, h3⟩
  let rs : List Int := (List.range' 1 (k + 1)).map fun (x : Nat) => (x : Int)
  refine few_roots hp k ((-1) :: List.replicate (k - 1) 0) (by simp; omega) rs (by simp [rs]) ?_ ?_
  · rw [List.pairwise_map]
    have hs : (List.range' 1 (k + 1)).Pairwise (· < ·) := List.pairwise_lt_range'
    refine List.Pairwise.imp_of_mem ?_ hs
    intro a b ha hb hlt hd
    have h1 := List.mem_range'_1.1 ha
    have h2 := List.mem_range'_1.1 hb
    have := Int.le_of_dvd (by omega) hd
    omega
  · intro r hr
    obtain ⟨x, hx, rfl⟩ := List.mem_map.1 hr
    have h1 := List.mem_range'_1.1 hx
    have h2 := hall x (by omega) (by omega)
    simp only [ev]
    rw [ev_zeros]
    have e : (-1 : Int) + (x : Int) * (x : Int) ^ (k - 1) = ((x ^ k : Nat) : Int) - 1 := by
      have : x ^ k = x * x ^ (k - 1) := by
        conv => lhs; rw [show k = (k - 1) + 1 by omega, Nat.pow_succ, Nat.mul_comm]
      rw [this, Int.natCast_mul, Int.natCast_pow]; omega
    rw [e]
    have h3 := Nat.div_add_mod (x ^ k) p
    rw [h2] at h3
    refine ⟨((x ^ k / p : Nat) : Int), ?_⟩
    rw [← Int.natCast_mul]; omega

theorem one_mul_mod {p A B : Nat} (h : A % p = 1) : A * B % p = B % p := by
  rw [Nat.mul_mod, h, Nat.one_mul, Nat.mod_mod]
theorem mul_one_mod {p A B : Nat} (h : B % p = 1) : A * B % p = A % p := by
  rw [Nat.mul_comm]; exact one_mul_mod h
theorem pow_one_mod {p A : Nat} (hp : 2 ≤ p) (h : A % p = 1) (k : Nat) : A ^ k % p = 1 := by
  rw [Nat.pow_mod, h, Nat.one_pow]; exact Nat.mod_eq_of_lt (by omega)

theorem part_of (q : Nat) (hq : 2 ≤ q) : ∀ N : Nat, 0 < N → ∃ a M, N = q ^ a * M ∧ ¬ q ∣ M := by
  intro N
  induction N using Nat.strongRecOn with
  | _ N ih =>
    intro hN
    by_cases c : q ∣ N
    · obtain ⟨K, hK⟩ := c
      have hK0 : 0 < K := by
        rcases Nat.eq_zero_or_pos K with e | e
        · rw [e] at hK; omega
        · exact e
      have hlt : K < N := by
        rw [hK]
        calc K = 1 * K := (Nat.one_mul K).symm
          _ < q * K := Nat.mul_lt_mul_of_pos_right (by omega) hK0
      obtain ⟨a, M, h1, h2⟩ := ih K hlt hK0
      refine ⟨a + 1, M, ?_, h2⟩
      rw [hK, h1, Nat.pow_succ, Nat.mul_comm (q ^ a) q, Nat.mul_assoc]
    · exact ⟨0, N, by simp, c⟩

/-- an element of prime order r stays apart from 1 in a power that r doesn't divide -/
theorem apart {p z r m : Nat} (hp : 2 ≤ p) (hr : Pr r) (h1 : z ^ r % p = 1) (h2 : z % p ≠ 1) (hm : ¬ r ∣ m) : z ^ m % p ≠ 1 := by
  intro h3
  have hf := fermat hr hm
  have hd := Nat.div_add_mod (m ^ (r - 1)) r
  rw [hf] at hd
  have e1 : z ^ (m ^ (r - 1)) % p = 1 := by
    have : m ^ (r - 1) = m * m ^ (r - 2) := by
      have h2 := hr.1
      conv => lhs; rw [show r - 1 = (r - 2) + 1 by omega, Nat.pow_succ, Nat.mul_comm]
    rw [this, Nat.pow_mul]; exact pow_one_mod hp h3 _
  rw [← hd, Nat.pow_add, Nat.pow_mul, Nat.pow_one, one_mul_mod (pow_one_mod hp h1 _)] at e1
  exact h2 e1

theorem prim_exists {p : Nat} (hp : Pr p) (qs : List Nat) (hq : ∀ q ∈ qs, Pr q ∧ q ∣ p - 1) :
    ∃ g, 0 < g ∧ g < p ∧ ∀ q ∈ qs, g ^ ((p - 1) / q) % p ≠ 1 := by
  have hp2 := hp.1
  induction qs with
  | nil => exact ⟨1, by omega, by omega, by simp⟩
  | cons q qs ih =>
    obtain ⟨g, g1, g2, g3⟩ := ih (fun r hr => hq r (by simp [hr]))
    obtain ⟨hqp, hqd⟩ := hq q (by simp)
    by_cases c : g ^ ((p - 1) / q) % p = 1
    · have hq2 := hqp.1
      obtain ⟨a, M, hN, hM⟩ := part_of q hq2 (p - 1) (by omega)
      have ha : 0 < a := by
        rcases Nat.eq_zero_or_pos a with e | e
        · subst e
          rw [Nat.pow_zero, Nat.one_mul] at hN
          exact absurd (hN ▸ hqd) hM
        · exact e
      have hNq : (p - 1) / q = q ^ (a - 1) * M := by
        have : p - 1 = q * (q ^ (a - 1) * M) := by
          rw [hN, ← Nat.mul_assoc]; congr 1
          conv => lhs; rw [show a = (a - 1) + 1 by omega, Nat.pow_succ, Nat.mul_comm]
        rw [this, Nat.mul_div_cancel_left _ (by omega)]
      have hk1 : 0 < (p - 1) / q := Nat.div_pos (Nat.le_of_dvd (by omega) hqd) (by omega)
      have hk2 : (p - 1) / q < p - 1 := Nat.div_lt_self (by omega) (by omega)
      obtain ⟨x, x1, x2, x3⟩ := not_all_one hp hk1 hk2
      have nd : ∀ y, 0 < y → y < p → ¬ p ∣ y := fun y h1 h2 h => by have := Nat.le_of_dvd h1 h; omega
      have fg := fermat hp (nd g g1 g2)
      have fx := fermat hp (nd x x1 x2)
      have hdvd : ¬ p ∣ g ^ (q ^ a) * x ^ M := by
        intro h
        rcases hp.dvd_mul h with h | h
        · exact nd g g1 g2 (hp.dvd_pow h)
        · exact nd x x1 x2 (hp.dvd_pow h)
      refine ⟨g ^ (q ^ a) * x ^ M % p, ?_, Nat.mod_lt _ (by omega), ?_⟩
      · rcases Nat.eq_zero_or_pos (g ^ (q ^ a) * x ^ M % p) with e | e
        · exact absurd (Nat.dvd_of_mod_eq_zero e) hdvd
        · exact e
      · intro r hr
        rw [← Nat.pow_mod, Nat.mul_pow]
        by_cases hrq : r = q
        · subst hrq
          have t1 : (g ^ r ^ a) ^ ((p - 1) / r) % p = 1 := by
            rw [← Nat.pow_mul]
            have : r ^ a * ((p - 1) / r) = (p - 1) * r ^ (a - 1) := by
              rw [hNq]; conv => rhs; rw [hN]
              simp only [Nat.mul_assoc, Nat.mul_left_comm, Nat.mul_comm]
            rw [this, Nat.pow_mul]; exact pow_one_mod hp2 fg _
          rw [one_mul_mod t1, ← Nat.pow_mul, Nat.mul_comm M, Nat.pow_mul]
          refine apart hp2 hqp ?_ x3 hM
          rw [← Nat.pow_mul, Nat.div_mul_cancel hqd]; exact fx
        · have hrs : r ∈ qs := by
            rcases List.mem_cons.1 hr with h | h
            · exact absurd h hrq
            · exact h
          obtain ⟨hrp, hrd⟩ := hq r hr
          have hr2 := hrp.1
          have hnq : ¬ r ∣ q ^ a := by
            intro h
            have := hrp.dvd_pow h
            rcases hqp.2 r this with h | h
            · omega
            · exact hrq h
          have hrM : r ∣ M := (hrp.dvd_mul (hN ▸ hrd)).resolve_left hnq
          obtain ⟨M', hM'⟩ := hrM
          have hNr : (p - 1) / r = q ^ a * M' := by
            have : p - 1 = r * (q ^ a * M') := by rw [hN, hM', Nat.mul_left_comm]
            rw [this, Nat.mul_div_cancel_left _ (by omega)]
          have t1 : (x ^ M) ^ ((p - 1) / r) % p = 1 := by
            rw [← Nat.pow_mul]
            have : M * ((p - 1) / r) = (p - 1) * M' := by
              rw [hNr]; conv => rhs; rw [hN]
              simp only [Nat.mul_left_comm, Nat.mul_comm]
            rw [this, Nat.pow_mul]; exact pow_one_mod hp2 fx _
          rw [mul_one_mod t1, ← Nat.pow_mul, Nat.mul_comm (q ^ a), Nat.pow_mul]
          refine apart hp2 hrp ?_ (g3 r hrs) hnq
          rw [← Nat.pow_mul, Nat.div_mul_cancel hrd]; exact fg
    · refine ⟨g, g1, g2, ?_⟩
      intro r hr
      rcases List.mem_cons.1 hr with h | h
      · rw [h]; exact c
      · exact g3 r h


theorem Pr.dvd_prod {p : Nat} (hp : Pr p) (l : List Nat) (h : p ∣ prod l) : ∃ x ∈ l, p ∣ x := by
  induction l with
  | nil => have h1 : p ≤ 1 := Nat.le_of_dvd (by decide) h; have := hp.1; omega
  | cons a l ih =>
    rw [prod_cons] at h
    rcases hp.dvd_mul h with h | h
    · exact ⟨a, by simp, h⟩
    · obtain ⟨x, hx, hd⟩ := ih h; exact ⟨x, by simp [hx], hd⟩

theorem dvd_prod_of_mem {l : List Nat} {x : Nat} (h : x ∈ l) : x ∣ prod l := by
  induction l with
  | nil => cases h
  | cons a l ih =>
    rw [prod_cons]
    rcases List.mem_cons.1 h with h | h
    · rw [h]; exact Nat.dvd_mul_right _ _
    · exact Nat.dvd_trans (ih h) (Nat.dvd_mul_left _ _)

theorem prod_pos {l : List Nat} (h : ∀ x ∈ l, 0 < x) : 0 < prod l := by
  induction l with
  | nil => decide
  | cons a l ih => rw [prod_cons]; exact Nat.mul_pos (h a (by simp)) (ih fun x hx => h x (by simp [hx]))

/-- a number is the product of one rising list of primes alone -/
theorem factors_unique (l : List Nat) : ∀ m : List Nat, (∀ x ∈ l, Pr x) → (∀ x ∈ m, Pr x) → l.Pairwise (· ≤ ·) → m.Pairwise (· ≤ ·) → prod l = prod m → l = m := by
  induction l with
  | nil =>
    intro m _ hm _ _ h
    match m with
    | [] => rfl
    | a :: m =>
      exfalso
      have h1 : a ∣ prod (a :: m) := dvd_prod_of_mem (by simp)
      rw [← h] at h1
      have h2 : a ≤ 1 := Nat.le_of_dvd (by decide) h1
      have := (hm a (by simp)).1; omega
  | cons a l ih =>
    intro m hl hm sl sm h
    have ha := hl a (by simp)
    have d1 : a ∣ prod m := by rw [← h]; exact dvd_prod_of_mem (by simp)
    obtain ⟨x, hx, hd⟩ := ha.dvd_prod m d1
    have hxp := hm x hx
    have eax : a = x := by
      rcases hxp.2 a hd with e | e
      · have := ha.1; omega
      · exact e
    match m with
    | [] => cases hx
    | b :: m =>
      have hb := hm b (by simp)
      have hba : b ≤ a := by
        rw [eax]
        rcases List.mem_cons.1 hx with e | e
        · omega
        · exact (List.pairwise_cons.1 sm).1 x e
      have d2 : b ∣ prod (a :: l) := by rw [h]; exact dvd_prod_of_mem (by simp)
      obtain ⟨y, hy, hdy⟩ := hb.dvd_prod (a :: l) d2
      have hyp := hl y hy
      have eby : b = y := by
        rcases hyp.2 b hdy with e | e
        · have := hb.1; omega
        · exact e
      have hab : a ≤ b := by
        rw [eby]
        rcases List.mem_cons.1 hy with e | e
        · omega
        · exact (List.pairwise_cons.1 sl).1 y e
      have e : a = b := by omega
      subst e
      rw [prod_cons, prod_cons] at h
      have h' := Nat.eq_of_mul_eq_mul_left (by have := ha.1; omega) h
      rw [ih m (fun x hx => hl x (by simp [hx])) (fun x hx => hm x (by simp [hx])) (List.pairwise_cons.1 sl).2 (List.pairwise_cons.1 sm).2 h']

/-- a number without a divisor from 2 up to its root is a prime -/
theorem Pr.of_small {n : Nat} (h2 : 2 ≤ n) (h : ∀ d, 2 ≤ d → d * d ≤ n → ¬ d ∣ n) : Pr n := by
  refine ⟨h2, ?_⟩
  intro d hd
  by_cases c1 : d = 1
  · exact Or.inl c1
  · by_cases c2 : d = n
    · exact Or.inr c2
    · exfalso
      obtain ⟨e, he⟩ := hd
      have hd0 : d ≠ 0 := by intro c; subst c; omega
      have he0 : e ≠ 0 := by intro c; subst c; omega
      have he1 : e ≠ 1 := by intro c; subst c; omega
      rcases Nat.le_total d e with hde | hde
      · refine h d (by omega) ?_ ⟨e, he⟩
        rw [he]; exact Nat.mul_le_mul_left _ hde
      · refine h e (by omega) ?_ ⟨d, by rw [he, Nat.mul_comm]⟩
        rw [he]; exact Nat.mul_le_mul_right _ hde

/-- the least divisor above 1 is a prime -/
theorem Pr.of_least {n d : Nat} (h2 : 2 ≤ d) (hd : d ∣ n) (h : ∀ e, 2 ≤ e → e < d → ¬ e ∣ n) : Pr d := by
  refine ⟨h2, ?_⟩
  intro e he
  by_cases c1 : e = 1
  · exact Or.inl c1
  · by_cases c2 : e = d
    · exact Or.inr c2
    · exfalso
      have he0 : e ≠ 0 := by
        intro c; subst c
        have := Nat.eq_zero_of_zero_dvd he
        omega
      have hle : e ≤ d := Nat.le_of_dvd (by omega) he
      exact h e (by omega) (by omega) (Nat.dvd_trans he hd)


def divs (n : Nat) : List Nat := (List.range' 1 n).filter fun d => n % d == 0
theorem mem_divs {n d : Nat} (hn : 0 < n) : d ∈ divs n ↔ d ∣ n := by
  unfold divs
  rw [List.mem_filter, List.mem_range'_1, beq_iff_eq]
  constructor
  · intro h; exact Nat.dvd_of_mod_eq_zero h.2
  · intro h
    have h1 := Nat.le_of_dvd hn h
    have h0 : d ≠ 0 := by intro c; subst c; have := Nat.eq_zero_of_zero_dvd h; omega
    exact ⟨by omega, Nat.mod_eq_zero_of_dvd h⟩
theorem divs_nodup (n : Nat) : (divs n).Nodup := by
  unfold divs
  rw [List.nodup_iff_pairwise_ne]
  exact (List.nodup_iff_pairwise_ne.1 List.nodup_range').filter _

theorem nodup_map_mul {k : Nat} (hk : 0 < k) {l : List Nat} (h : l.Nodup) : (l.map (k * ·)).Nodup := by
  rw [List.nodup_iff_pairwise_ne] at *
  rw [List.pairwise_map]
  refine h.imp ?_
  intro a b hab e
  exact hab (Nat.eq_of_mul_eq_mul_left hk e)

theorem divs_step {p m : Nat} (hp : Pr p) (hm : 0 < m) (hd : ¬ p ∣ m) (e : Nat) :
    (divs (p ^ (e + 1) * m)).length = (divs (p ^ e * m)).length + (divs m).length := by
  have hp2 := hp.1
  have hpos : ∀ k, 0 < p ^ k * m := fun k => Nat.mul_pos (Nat.pow_pos (by omega)) hm
  have hperm : (divs (p ^ e * m) ++ (divs m).map (p ^ (e + 1) * ·)).Perm (divs (p ^ (e + 1) * m)) := by
    have hn : (divs (p ^ e * m) ++ (divs m).map (p ^ (e + 1) * ·)).Nodup := by
      rw [List.nodup_append]
      refine ⟨divs_nodup _, nodup_map_mul (Nat.pow_pos (by omega)) (divs_nodup _), ?_⟩
      intro a ha b hb hab
      subst hab
      obtain ⟨c, hc, rfl⟩ := List.mem_map.1 hb
      have h1 := (mem_divs (hpos e)).1 ha
      have h2 : p ^ (e + 1) ∣ p ^ e * m := Nat.dvd_trans (Nat.dvd_mul_right _ _) h1
      rw [Nat.pow_succ] at h2
      exact hd (Nat.dvd_of_mul_dvd_mul_left (Nat.pow_pos (by omega)) h2)
    have hsub : ∀ x ∈ divs (p ^ (e + 1) * m), x ∈ divs (p ^ e * m) ++ (divs m).map (p ^ (e + 1) * ·) := by
      intro x hx
      have h1 := (mem_divs (hpos (e + 1))).1 hx
      rw [List.mem_append]
      by_cases c : x ∣ p ^ e * m
      · exact Or.inl ((mem_divs (hpos e)).2 c)
      · right
        have hx0 : 0 < x := Nat.pos_of_dvd_of_pos h1 (hpos _)
        obtain ⟨a, y, hxy, hy⟩ := part_of p hp2 x hx0
        have hcop : ∀ k, Nat.Coprime y (p ^ k) := fun k => Nat.Coprime.symm (Nat.Coprime.pow_left k (hp.coprime hy))
        have hym : y ∣ m := by
          have : y ∣ p ^ (e + 1) * m := Nat.dvd_trans (by rw [hxy]; exact Nat.dvd_mul_left _ _) h1
          exact (hcop (e + 1)).dvd_of_dvd_mul_left this
        have hpa : p ^ a ∣ p ^ (e + 1) := by
          have : p ^ a ∣ p ^ (e + 1) * m := Nat.dvd_trans (by rw [hxy]; exact Nat.dvd_mul_right _ _) h1
          exact Nat.Coprime.dvd_of_dvd_mul_right (Nat.Coprime.pow_left a (hp.coprime hd)) this
        have hale : a ≤ e + 1 := by
          apply Classical.byContradiction
          intro hc
          have : p ^ (e + 1) < p ^ a := Nat.pow_lt_pow_right (by omega) (by omega)
          have := Nat.le_of_dvd (Nat.pow_pos (by omega)) hpa
          omega
        have hae : a = e + 1 := by
          apply Classical.byContradiction
          intro hc
          apply c
          rw [hxy]
          exact Nat.mul_dvd_mul (Nat.pow_dvd_pow p (by omega)) hym
        rw [List.mem_map]
        exact ⟨y, (mem_divs hm).2 hym, by rw [hxy, hae]⟩
    refine (perm_of_inside _ _ (divs_nodup _) hsub ?_).symm
    refine Nat.le_of_not_lt fun hlt => ?_
    have hsub2 : ∀ x ∈ divs (p ^ e * m) ++ (divs m).map (p ^ (e + 1) * ·), x ∈ divs (p ^ (e + 1) * m) := by
      intro x hx
      rw [mem_divs (hpos _)]
      rcases List.mem_append.1 hx with h | h
      · refine Nat.dvd_trans ((mem_divs (hpos e)).1 h) ?_
        rw [Nat.pow_succ, Nat.mul_right_comm]; exact Nat.dvd_mul_right _ _
      · obtain ⟨c, hc, rfl⟩ := List.mem_map.1 h
        exact Nat.mul_dvd_mul (Nat.dvd_refl _) ((mem_divs hm).1 hc)
    have := (perm_of_inside _ _ hn hsub2 (by omega)).length_eq
    omega
  rw [← hperm.length_eq, List.length_append, List.length_map]

theorem divs_pow {p m : Nat} (hp : Pr p) (hm : 0 < m) (hd : ¬ p ∣ m) (e : Nat) : (divs (p ^ e * m)).length = (e + 1) * (divs m).length := by
  induction e with
  | zero => rw [Nat.pow_zero, Nat.one_mul, Nat.zero_add, Nat.one_mul]
  | succ e ih => rw [divs_step hp hm hd, ih, Nat.add_mul (e + 1) 1, Nat.one_mul]

/-- the prime factors of n -/
def Fac (n : Nat) (zs : List Nat) : Prop := prod zs = n ∧ (∀ x ∈ zs, Pr x) ∧ zs.Pairwise (· ≤ ·)
theorem Fac.eq {n : Nat} {xs ys : List Nat} (h : Fac n xs) (k : Fac n ys) : xs = ys := factors_unique xs ys h.2.1 k.2.1 h.2.2 k.2.2 (h.1.trans k.1.symm)

/-- what trial division keeps: zs found, N left, d to be tried -/
def Tri (n d N : Nat) (zs : List Nat) : Prop := prod zs * N = n ∧ (∀ x ∈ zs, Pr x ∧ x ≤ d) ∧ zs.Pairwise (· ≤ ·) ∧ (∀ e, 2 ≤ e → e < d → ¬ e ∣ N) ∧ 0 < N ∧ 2 ≤ d

theorem prod_append (l m : List Nat) : prod (l ++ m) = prod l * prod m := by
  induction l with
  | nil => simp [prod]
  | cons a l ih => rw [List.cons_append, prod_cons, prod_cons, ih, Nat.mul_assoc]
theorem prod_one (a : Nat) : prod [a] = a := by simp [prod]

theorem Tri.start {n : Nat} (h : 0 < n) : Tri n 2 n [] := ⟨by simp [prod], by simp, List.Pairwise.nil, fun e h1 h2 => by omega, h, by omega⟩
theorem Tri.push {n d N : Nat} {zs : List Nat} (h : Tri n d N zs) (hd : N % d = 0) : Tri n d (N / d) (zs ++ [d]) := by
  obtain ⟨h1, h2, h3, h4, h5, h6⟩ := h
  have hdv := Nat.dvd_of_mod_eq_zero hd
  have e := Nat.div_mul_cancel hdv
  have hp : Pr d := Pr.of_least h6 hdv h4
  refine ⟨?_, ?_, ?_, ?_, Nat.div_pos (Nat.le_of_dvd h5 hdv) (by omega), h6⟩
  · rw [prod_append, prod_one, Nat.mul_assoc, Nat.mul_comm d, e]; exact h1
  · intro x hx
    rcases List.mem_append.1 hx with hx | hx
    · exact h2 x hx
    · have : x = d := by simpa using hx
      rw [this]; exact ⟨hp, Nat.le_refl _⟩
  · rw [List.pairwise_append]
    refine ⟨h3, List.pairwise_singleton _ _, ?_⟩
    intro a ha b hb
    have : b = d := by simpa using hb
    rw [this]; exact (h2 a ha).2
  · intro e' h7 h8 h9
    exact h4 e' h7 h8 (Nat.dvd_trans h9 ⟨d, e.symm⟩)
theorem Tri.next {n d N : Nat} {zs : List Nat} (h : Tri n d N zs) (hd : N % d ≠ 0) : Tri n (d + 1) N zs := by
  obtain ⟨h1, h2, h3, h4, h5, h6⟩ := h
  refine ⟨h1, fun x hx => ⟨(h2 x hx).1, by have := (h2 x hx).2; omega⟩, h3, ?_, h5, by omega⟩
  intro e h7 h8 h9
  by_cases c : e = d
  · subst c; exact hd (Nat.mod_eq_zero_of_dvd h9)
  · exact h4 e h7 (by omega) h9
theorem Tri.last {n d N : Nat} {zs : List Nat} (h : Tri n d N zs) (hd : N < d * d) (hN : 1 < N) : Fac n (zs ++ [N]) := by
  obtain ⟨h1, h2, h3, h4, h5, h6⟩ := h
  have hp : Pr N := by
    refine Pr.of_small (by omega) ?_
    intro e h7 h8
    refine h4 e h7 ?_
    apply Nat.lt_of_not_le
    intro h9
    have : d * d ≤ e * e := Nat.mul_le_mul h9 h9
    omega
  have hdN : d ≤ N := by
    apply Nat.le_of_not_lt
    intro h9
    exact h4 N (by omega) h9 (Nat.dvd_refl _)
  refine ⟨?_, ?_, ?_⟩
  · rw [prod_append, prod_one]; exact h1
  · intro x hx
    rcases List.mem_append.1 hx with hx | hx
    · exact (h2 x hx).1
    · have : x = N := by simpa using hx
      rw [this]; exact hp
  · rw [List.pairwise_append]
    refine ⟨h3, List.pairwise_singleton _ _, ?_⟩
    intro a ha b hb
    have : b = N := by simpa using hb
    rw [this]; have := (h2 a ha).2; omega
theorem Tri.done {n d : Nat} {zs : List Nat} (h : Tri n d 1 zs) : Fac n zs := by
  obtain ⟨h1, h2, h3, h4, h5, h6⟩ := h
  exact ⟨by rw [← h1, Nat.mul_one], fun x hx => (h2 x hx).1, h3⟩
theorem pow_le_prod {l : List Nat} (h : ∀ x ∈ l, 2 ≤ x) : 2 ^ l.length ≤ prod l := by
  induction l with
  | nil => decide
  | cons a l ih =>
    rw [List.length_cons, prod_cons, Nat.pow_succ, Nat.mul_comm]
    exact Nat.mul_le_mul (h a (by simp)) (ih fun x hx => h x (by simp [hx]))
theorem len_of_prod {l : List Nat} {n : Nat} (h : ∀ x ∈ l, 2 ≤ x) (hp : prod l ≤ n) (hn : n ≤ 4294967296) : l.length ≤ 32 := by
  have := pow_le_prod h
  apply Nat.le_of_not_lt
  intro hc
  have : 2 ^ 33 ≤ 2 ^ l.length := Nat.pow_le_pow_right (by omega) hc
  omega
theorem Tri.len {n d N : Nat} {zs : List Nat} (h : Tri n d N zs) (hn : n ≤ 4294967296) : zs.length ≤ 32 := by
  obtain ⟨h1, h2, h3, h4, h5, h6⟩ := h
  refine len_of_prod (fun x hx => (h2 x hx).1.1) ?_ hn
  rw [← h1]; exact Nat.le_mul_of_pos_right _ h5
theorem Fac.len {n : Nat} {zs : List Nat} (h : Fac n zs) (hn : n ≤ 4294967296) : zs.length ≤ 32 :=
  len_of_prod (fun x hx => (h.2.1 x hx).1) (by rw [h.1]; exact Nat.le_refl _) hn
theorem Tri.le {n d N : Nat} {zs : List Nat} (h : Tri n d N zs) : N ≤ n := by
  obtain ⟨h1, h2, h3, h4, h5, h6⟩ := h
  rw [← h1]
  exact Nat.le_mul_of_pos_left _ (prod_pos fun x hx => by have := (h2 x hx).1.1; omega)
/-- a prime has itself alone -/
theorem Fac.prime {n : Nat} {zs : List Nat} (h : Fac n zs) : (zs.length = 1) ↔ Pr n := by
  constructor
  · intro hl
    match zs, hl with
    | [a], _ => have := h.1; rw [prod_one] at this; rw [← this]; exact h.2.1 a (by simp)
  · intro hp
    have : Fac n [n] := ⟨prod_one n, fun x hx => by have : x = n := by simpa using hx
                                                    rw [this]; exact hp, List.pairwise_singleton _ _⟩
    rw [h.eq this]; rfl
end Go.Proofs.YtkgecgkjmikihabDoor.Nt
