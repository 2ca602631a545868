/-
  What PlannerLists and its fellows rest on, joined: Nth Dvs.
-/
namespace Go.Proofs.YtoaccmblaifnmaaDoor.Nt

def Pr (p : Nat) : Prop := 2 ≤ p ∧ ∀ d, d ∣ p → d = 1 ∨ d = p

theorem Pr.coprime {p a : Nat} (hp : Pr p) (h : ¬ p ∣ a) : Nat.Coprime p a := by
  have h1 : Nat.gcd p a ∣ p := Nat.gcd_dvd_left p a
  have h2 : Nat.gcd p a ∣ a := Nat.gcd_dvd_right p a
  rcases hp.2 _ h1 with e | e
  · exact e
  · exact absurd (e ▸ h2) h

theorem Pr.dvd_mul {p a b : Nat} (hp : Pr p) (h : p ∣ a * b) : p ∣ a ∨ p ∣ b := by
  by_cases c : p ∣ a
  · exact Or.inl c
  · exact Or.inr ((hp.coprime c).dvd_of_dvd_mul_left h)

theorem Pr.dvd_pow {p a n : Nat} (hp : Pr p) (h : p ∣ a ^ n) : p ∣ a := by
  induction n with
  | zero => rw [Nat.pow_zero] at h; have := Nat.le_of_dvd (by omega) h; have := hp.1; omega
  | succ n ih =>
    rw [Nat.pow_succ] at h
    rcases hp.dvd_mul h with h | h
    · exact ih h
    · exact h

theorem mod_cancel {p a b c : Nat} (hp : Pr p) (ha : ¬ p ∣ a) (h : a * b % p = a * c % p) : b % p = c % p := by
  have key : ∀ b c : Nat, c ≤ b → a * b % p = a * c % p → b % p = c % p := by
    intro b c hbc h
    have h1 : p ∣ a * b - a * c := by
      have := Nat.sub_mod_eq_zero_of_mod_eq h
      exact Nat.dvd_of_mod_eq_zero this
    rw [← Nat.mul_sub] at h1
    have h2 : p ∣ b - c := (hp.dvd_mul h1).resolve_left ha
    obtain ⟨k, hk⟩ := h2
    have : b = c + p * k := by omega
    rw [this, Nat.add_mul_mod_self_left]
  rcases Nat.le_total c b with hc | hc
  · exact key b c hc h
  · exact (key c b hc h.symm).symm

/-- a list without repeats, inside another that is no longer, is the other in another order -/
theorem perm_of_inside {α : Type} [DecidableEq α] (l : List α) : ∀ (m : List α), l.Nodup → (∀ x ∈ l, x ∈ m) → m.length ≤ l.length → l.Perm m := by
  induction l with
  | nil =>
    intro m _ _ h
    have : m = [] := List.length_eq_zero_iff.1 (by simpa using h)
    rw [this]
  | cons a l ih =>
    intro m hn hs hl
    rw [List.nodup_cons] at hn
    have ha : a ∈ m := hs a (by simp)
    have p1 : m.Perm (a :: m.erase a) := List.perm_cons_erase ha
    have h2 : l.Perm (m.erase a) := by
      apply ih _ hn.2
      · intro x hx
        have hne : x ≠ a := fun e => hn.1 (e ▸ hx)
        exact (List.mem_erase_of_ne hne).2 (hs x (by simp [hx]))
      · rw [List.length_erase_of_mem ha]; simp at hl; omega
    exact (h2.cons a).trans p1.symm

def prod (l : List Nat) : Nat := l.foldr (· * ·) 1
theorem prod_cons (a : Nat) (l : List Nat) : prod (a :: l) = a * prod l := rfl
theorem prod_perm {l m : List Nat} (h : l.Perm m) : prod l = prod m := by
  induction h with
  | nil => rfl
  | cons x _ ih => rw [prod_cons, prod_cons, ih]
  | swap x y l => rw [prod_cons, prod_cons, prod_cons, prod_cons]; exact Nat.mul_left_comm y x _
  | trans _ _ h1 h2 => rw [h1, h2]

theorem prod_map_mod (a p : Nat) (l : List Nat) : prod (l.map fun k => a * k % p) % p = a ^ l.length * prod l % p := by
  induction l with
  | nil => simp [prod]
  | cons x l ih =>
    rw [List.map_cons, prod_cons, prod_cons, List.length_cons, Nat.mul_mod, ih, Nat.mod_mod, ← Nat.mul_mod, Nat.pow_succ]
    congr 1
    simp only [Nat.mul_assoc, Nat.mul_left_comm]

theorem prod_not_dvd {p : Nat} (hp : Pr p) (l : List Nat) (h : ∀ x ∈ l, ¬ p ∣ x) : ¬ p ∣ prod l := by
  induction l with
  | nil => intro c; have h1 : p ≤ 1 := Nat.le_of_dvd (by decide) c; have := hp.1; omega
  | cons x l ih =>
    rw [prod_cons]; intro c
    rcases hp.dvd_mul c with c | c
    · exact h x (by simp) c
    · exact ih (fun y hy => h y (by simp [hy])) c

/-- Fermat -/
theorem fermat {p a : Nat} (hp : Pr p) (ha : ¬ p ∣ a) : a ^ (p - 1) % p = 1 := by
  have h2 := hp.1
  let L := List.range' 1 (p - 1)
  have hL : ∀ x ∈ L, 1 ≤ x ∧ x < p := by
    intro x hx
    have := List.mem_range'_1.1 hx
    omega
  have hnd : ∀ x ∈ L, ¬ p ∣ x := by
    intro x hx c
    have := Nat.le_of_dvd (by have := hL x hx; omega) c
    have := hL x hx; omega
  have hperm : (L.map fun k => a * k % p).Perm L := by
    apply perm_of_inside
    · have hnl : L.Nodup := List.nodup_range'
      rw [List.nodup_iff_pairwise_ne, List.pairwise_map]
      rw [List.nodup_iff_pairwise_ne] at hnl
      refine List.Pairwise.imp_of_mem ?_ hnl
      intro x y hx hy hne e
      apply hne
      have := mod_cancel hp ha e
      have h1 := hL x hx; have h2 := hL y hy
      rwa [Nat.mod_eq_of_lt h1.2, Nat.mod_eq_of_lt h2.2] at this
    · intro y hy
      obtain ⟨x, hx, e⟩ := List.mem_map.1 hy
      have e' : a * x % p = y := e
      have hx' : x ∈ L := hx
      rw [List.mem_range'_1]
      have hlt : a * x % p < p := Nat.mod_lt _ (by omega)
      have hne : a * x % p ≠ 0 := by
        intro c
        rcases hp.dvd_mul (Nat.dvd_of_mod_eq_zero c) with c | c
        · exact ha c
        · exact hnd x hx' c
      omega
    · simp
  have e1 := prod_map_mod a p L
  rw [prod_perm hperm] at e1
  have e2 : L.length = p - 1 := List.length_range'
  rw [e2] at e1
  have e3 : prod L * 1 % p = prod L * a ^ (p - 1) % p := by rw [Nat.mul_one, Nat.mul_comm (prod L)]; exact e1
  have := mod_cancel hp (prod_not_dvd hp L hnd) e3
  rw [← this]
  exact Nat.mod_eq_of_lt (by omega)

/-- a polynomial that begins with 1, by its other coefficients, the lowest first -/
def ev : List Int → Int → Int
  | [], _ => 1
  | c :: cs, x => c + x * ev cs x

theorem one_mul_mod {p A B : Nat} (h : A % p = 1) : A * B % p = B % p := by
  rw [Nat.mul_mod, h, Nat.one_mul, Nat.mod_mod]
theorem pow_one_mod {p A : Nat} (hp : 2 ≤ p) (h : A % p = 1) (k : Nat) : A ^ k % p = 1 := by
  rw [Nat.pow_mod, h, Nat.one_pow]; exact Nat.mod_eq_of_lt (by omega)

/-- an element of prime order r stays apart from 1 in a power that r doesn't divide -/
theorem apart {p z r m : Nat} (hp : 2 ≤ p) (hr : Pr r) (h1 : z ^ r % p = 1) (h2 : z % p ≠ 1) (hm : ¬ r ∣ m) : z ^ m % p ≠ 1 := by
  intro h3
  have hf := fermat hr hm
  have hd := Nat.div_add_mod (m ^ (r - 1)) r
  rw [hf] at hd
  have e1 : z ^ (m ^ (r - 1)) % p = 1 := by
    have : m ^ (r - 1) = m * m ^ (r - 2) := by
      have h2 := hr.1
      conv => lhs; rw [show r - 1 = (r - 2) + 1 by omega, Nat.pow_succ, Nat.mul_comm]
    rw [this, Nat.pow_mul]; exact pow_one_mod hp h3 _
  rw [← hd, Nat.pow_add, Nat.pow_mul, Nat.pow_one, one_mul_mod (pow_one_mod hp h1 _)] at e1
  exact h2 e1

theorem Pr.dvd_prod {p : Nat} (hp : Pr p) (l : List Nat) (h : p ∣ prod l) : ∃ x ∈ l, p ∣ x := by
  induction l with
  | nil => have h1 : p ≤ 1 := Nat.le_of_dvd (by decide) h; have := hp.1; omega
  | cons a l ih =>
    rw [prod_cons] at h
    rcases hp.dvd_mul h with h | h
    · exact ⟨a, by simp, h⟩
    · obtain ⟨x, hx, hd⟩ := ih h; exact ⟨x, by simp [hx], hd⟩

theorem dvd_prod_of_mem {l : List Nat} {x : Nat} (h : x ∈ l) : x ∣ prod l := by
  induction l with
  | nil => cases h
  | cons a l ih =>
    rw [prod_cons]
    rcases List.mem_cons.1 h with h | h
    · rw [h]; exact Nat.dvd_mul_right _ _
    · exact Nat.dvd_trans (ih h) (Nat.dvd_mul_left _ _)

theorem prod_pos {l : List Nat} (h : ∀ x ∈ l, 0 < x) : 0 < prod l := by
  induction l with
  | nil => decide
  | cons a l ih => rw [prod_cons]; exact Nat.mul_pos (h a (by simp)) (ih fun x hx => h x (by simp [hx]))

/-- a number is the product of one rising list of primes alone -/
theorem factors_unique (l : List Nat) : ∀ m : List Nat, (∀ x ∈ l, Pr x) → (∀ x ∈ m, Pr x) → l.Pairwise (· ≤ ·) → m.Pairwise (· ≤ ·) → prod l = prod m → l = m := by
  induction l with
  | nil =>
    intro m _ hm _ _ h
    match m with
    | [] => rfl
    | a :: m =>
      exfalso
      have h1 : a ∣ prod (a :: m) := dvd_prod_of_mem (by simp)
      rw [← h] at h1
      have h2 : a ≤ 1 := Nat.le_of_dvd (by decide) h1
      have := (hm a (by simp)).1; omega
  | cons a l ih =>
    intro m hl hm sl sm h
    have ha := hl a (by simp)
    have d1 : a ∣ prod m := by rw [← h]; exact dvd_prod_of_mem (by simp)
    obtain ⟨x, hx, hd⟩ := ha.dvd_prod m d1
    have hxp := hm x hx
    have eax : a = x := by
      rcases hxp.2 a hd with e | e
      · have := ha.1; omega
      · exact e
    match m with
    | [] => cases hx
    | b :: m =>
      have hb := hm b (by simp)
      have hba : b ≤ a := by
        rw [eax]
        rcases List.mem_cons.1 hx with e | e
        · omega
        · exact (List.pairwise_cons.1 sm).1 x e
      have d2 : b ∣ prod (a :: l) := by rw [h]; exact dvd_prod_of_mem (by simp)
      obtain ⟨y, hy, hdy⟩ := hb.dvd_prod (a :: l) d2
      have hyp := hl y hy
      have eby : b = y := by
        rcases hyp.2 b hdy with e | e
        · have := hb.1; omega
        · exact e
      have hab : a ≤ b := by
        rw [eby]
        rcases List.mem_cons.1 hy with e | e
        · omega
        · exact (List.pairwise_cons.1 sl).1 y e
      have e : a = b := by omega
      subst e
      rw [prod_cons, prod_cons] at h
      have h' := Nat.eq_of_mul_eq_mul_left (by have := ha.1; omega) h
      rw [ih m (fun x hx => hl x (by simp [hx])) (fun x hx => hm x (by simp [hx])) (List.pairwise_cons.1 sl).2 (List.pairwise_cons.1 sm).2 h']

/-- a number without a divisor from 2 up to its root is a prime -/
theorem Pr.of_small {n : Nat} (h2 : 2 ≤ n) (h : ∀ d, 2 ≤ d → d * d ≤ n → ¬ d ∣ n) : Pr n := by
  refine ⟨h2, ?_⟩
  intro d hd
  by_cases c1 : d = 1
  · exact Or.inl c1
  · by_cases c2 : d = n
    · exact Or.inr c2
    · exfalso
      obtain ⟨e, he⟩ := hd
      have hd0 : d ≠ 0 := by intro c; subst c; omega
      have he0 : e ≠ 0 := by intro c; subst c; omega
      have he1 : e ≠ 1 := by intro c; subst c; omega
      rcases Nat.le_total d e with hde | hde
      · refine h d (by omega) ?_ ⟨e, he⟩
        rw [he]; exact Nat.mul_le_mul_left _ hde
      · refine h e (by omega) ?_ ⟨d, by rw [he, Nat.mul_comm]⟩
        rw [he]; exact Nat.mul_le_mul_right _ hde

/-- the least divisor above 1 is a prime -/
theorem Pr.of_least {n d : Nat} (h2 : 2 ≤ d) (hd : d ∣ n) (h : ∀ e, 2 ≤ e → e < d → ¬ e ∣ n) : Pr d := by
  refine ⟨h2, ?_⟩
  intro e he
  by_cases c1 : e = 1
  · exact Or.inl c1
  · by_cases c2 : e = d
    · exact Or.inr c2
    · exfalso
      have he0 : e ≠ 0 := by
        intro c; subst c
        have := Nat.eq_zero_of_zero_dvd he
        omega
      have hle : e ≤ d := Nat.le_of_dvd (by omega) he
      exact h e (by omega) (by omega) (Nat.dvd_trans he hd)


def divs (n : Nat) : List Nat := (List.range' 1 n).filter fun d => n % d == 0
theorem mem_divs {n d : Nat} (hn : 0 < n) : d ∈ divs n ↔ d ∣ n := by
  unfold divs
  rw [List.mem_filter, List.mem_range'_1, beq_iff_eq]
  constructor
  · intro h; exact Nat.dvd_of_mod_eq_zero h.2
  · intro h
    have h1 := Nat.le_of_dvd hn h
    have h0 : d ≠ 0 := by intro c; subst c; have := Nat.eq_zero_of_zero_dvd h; omega
    exact ⟨by omega, Nat.mod_eq_zero_of_dvd h⟩
/-- the prime factors of n -/
def Fac (n : Nat) (zs : List Nat) : Prop := prod zs = n ∧ (∀ x ∈ zs, Pr x) ∧ zs.Pairwise (· ≤ ·)
theorem Fac.eq {n : Nat} {xs ys : List Nat} (h : Fac n xs) (k : Fac n ys) : xs = ys := factors_unique xs ys h.2.1 k.2.1 h.2.2 k.2.2 (h.1.trans k.1.symm)

/-- what trial division keeps: zs found, N left, d to be tried -/
def Tri (n d N : Nat) (zs : List Nat) : Prop := prod zs * N = n ∧ (∀ x ∈ zs, Pr x ∧ x ≤ d) ∧ zs.Pairwise (· ≤ ·) ∧ (∀ e, 2 ≤ e → e < d → ¬ e ∣ N) ∧ 0 < N ∧ 2 ≤ d

theorem prod_append (l m : List Nat) : prod (l ++ m) = prod l * prod m := by
  induction l with
  | nil => simp [prod]
  | cons a l ih => rw [List.cons_append, prod_cons, prod_cons, ih, Nat.mul_assoc]
theorem prod_one (a : Nat) : prod [a] = a := by simp [prod]

theorem Tri.start {n : Nat} (h : 0 < n) : Tri n 2 n [] := ⟨by simp [prod], by simp, List.Pairwise.nil, fun e h1 h2 => by omega, h, by omega⟩
theorem Tri.push {n d N : Nat} {zs : List Nat} (h : Tri n d N zs) (hd : N % d = 0) : Tri n d (N / d) (zs ++ [d]) := by
  obtain ⟨h1, h2, h3, h4, h5, h6⟩ := h
  have hdv := Nat.dvd_of_mod_eq_zero hd
  have e := Nat.div_mul_cancel hdv
  have hp : Pr d := Pr.of_least h6 hdv h4
  refine ⟨?_, ?_, ?_, ?_, Nat.div_pos (Nat.le_of_dvd h5 hdv) (by omega), h6⟩
  · rw [prod_append, prod_one, Nat.mul_assoc, Nat.mul_comm d, e]; exact h1
  · intro x hx
    rcases List.mem_append.1 hx with hx | hx
    · exact h2 x hx
    · have : x = d := by simpa using hx
      rw [this]; exact ⟨hp, Nat.le_refl _⟩
  · rw [List.pairwise_append]
    refine ⟨h3, List.pairwise_singleton _ _, ?_⟩
    intro a ha b hb
    have : b = d := by simpa using hb
    rw [this]; exact (h2 a ha).2
  · intro e' h7 h8 h9
    exact h4 e' h7 h8 (Nat.dvd_trans h9 ⟨d, e.symm⟩)
theorem Tri.next {n d N : Nat} {zs : List Nat} (h : Tri n d N zs) (hd : N % d ≠ 0) : Tri n (d + 1) N zs := by
  obtain ⟨h1, h2, h3, h4, h5, h6⟩ := h
  refine ⟨h1, fun x hx => ⟨(h2 x hx).1, by have := (h2 x hx).2; omega⟩, h3, ?_, h5, by omega⟩
  intro e h7 h8 h9
  by_cases c : e = d
  · subst c; exact hd (Nat.mod_eq_zero_of_dvd h9)
  · exact h4 e h7 (by omega) h9
theorem Tri.last {n d N : Nat} {zs : List Nat} (h : Tri n d N zs) (hd : N < d * d) (hN : 1 < N) : Fac n (zs ++ [N]) := by
  obtain ⟨h1, h2, h3, h4, h5, h6⟩ := h
  have hp : Pr N := by
    refine Pr.of_small (by omega) ?_
    intro e h7 h8
    refine h4 e h7 ?_
    apply Nat.lt_of_not_le
    intro h9
    have : d * d ≤ e * e := Nat.mul_le_mul h9 h9
    omega
  have hdN : d ≤ N := by
    apply Nat.le_of_not_lt
    intro h9
    exact h4 N (by omega) h9 (Nat.dvd_refl _)
  refine ⟨?_, ?_, ?_⟩
  · rw [prod_append, prod_one]; exact h1
  · intro x hx
    rcases List.mem_append.1 hx with hx | hx
    · exact (h2 x hx).1
    · have : x = N := by simpa using hx
      rw [this]; exact hp
  · rw [List.pairwise_append]
    refine ⟨h3, List.pairwise_singleton _ _, ?_⟩
    intro a ha b hb
    have : b = N := by simpa using hb
    rw [this]; have := (h2 a ha).2; omega
theorem Tri.done {n d : Nat} {zs : List Nat} (h : Tri n d 1 zs) : Fac n zs := by
  obtain ⟨h1, h2, h3, h4, h5, h6⟩ := h
  exact ⟨by rw [← h1, Nat.mul_one], fun x hx => (h2 x hx).1, h3⟩
theorem pow_le_prod {l : List Nat} (h : ∀ x ∈ l, 2 ≤ x) : 2 ^ l.length ≤ prod l := by
  induction l with
  | nil => decide
  | cons a l ih =>
    rw [List.length_cons, prod_cons, Nat.pow_succ, Nat.mul_comm]
    exact Nat.mul_le_mul (h a (by simp)) (ih fun x hx => h x (by simp [hx]))
theorem len_of_prod {l : List Nat} {n : Nat} (h : ∀ x ∈ l, 2 ≤ x) (hp : prod l ≤ n) (hn : n ≤ 4294967296) : l.length ≤ 32 := by
  have := pow_le_prod h
  apply Nat.le_of_not_lt
  intro hc
  have : 2 ^ 33 ≤ 2 ^ l.length := Nat.pow_le_pow_right (by omega) hc
  omega
theorem Tri.len {n d N : Nat} {zs : List Nat} (h : Tri n d N zs) (hn : n ≤ 4294967296) : zs.length ≤ 32 := by
  obtain ⟨h1, h2, h3, h4, h5, h6⟩ := h
  refine len_of_prod (fun x hx => (h2 x hx).1.1) ?_ hn
  rw [← h1]; exact Nat.le_mul_of_pos_right _ h5
theorem Fac.len {n : Nat} {zs : List Nat} (h : Fac n zs) (hn : n ≤ 4294967296) : zs.length ≤ 32 :=
  len_of_prod (fun x hx => (h.2.1 x hx).1) (by rw [h.1]; exact Nat.le_refl _) hn
theorem Tri.le {n d N : Nat} {zs : List Nat} (h : Tri n d N zs) : N ≤ n := by
  obtain ⟨h1, h2, h3, h4, h5, h6⟩ := h
  rw [← h1]
  exact Nat.le_mul_of_pos_left _ (prod_pos fun x hx => by have := (h2 x hx).1.1; omega)
end Go.Proofs.YtoaccmblaifnmaaDoor.Nt
namespace Go.Proofs.YtoaccmblaifnmaaDoor.Nt
/-- what a look at 0, 1, .. k - 1 finds -/
def gen (f : Nat → Option Nat) (k : Nat) : List Nat := (List.range k).filterMap f
theorem gen_succ (f : Nat → Option Nat) (k : Nat) : gen f (k + 1) = gen f k ++ (f k).toList := by
  unfold gen
  rw [List.range_succ, List.filterMap_append]
  congr 1
theorem gen_some {f : Nat → Option Nat} {k x : Nat} (h : f k = some x) : gen f (k + 1) = gen f k ++ [x] := by rw [gen_succ, h]; rfl
theorem gen_none {f : Nat → Option Nat} {k : Nat} (h : f k = none) : gen f (k + 1) = gen f k := by rw [gen_succ, h]; simp
theorem gen_pre (f : Nat → Option Nat) {k m : Nat} (h : k ≤ m) : gen f k <+: gen f m := by
  induction m with
  | zero => rw [show k = 0 by omega]; exact List.prefix_refl _
  | succ m ih =>
    by_cases c : k = m + 1
    · rw [c]; exact List.prefix_refl _
    · rw [gen_succ]; exact List.IsPrefix.trans (ih (by omega)) (List.prefix_append _ _)
theorem mem_gen {f : Nat → Option Nat} {k x : Nat} : x ∈ gen f k ↔ ∃ t, t < k ∧ f t = some x := by
  unfold gen
  rw [List.mem_filterMap]
  constructor
  · rintro ⟨t, ht, e⟩; exact ⟨t, List.mem_range.1 ht, e⟩
  · rintro ⟨t, ht, e⟩; exact ⟨t, List.mem_range.2 ht, e⟩
theorem gen_sorted {f : Nat → Option Nat} {k : Nat} (h : ∀ t u x y, t < u → u < k → f t = some x → f u = some y → x < y) : (gen f k).Pairwise (· < ·) := by
  induction k with
  | zero => simp [gen]
  | succ k ih =>
    have ih' := ih (fun t u x y a b => h t u x y a (by omega))
    cases e : f k with
    | none => rw [gen_none e]; exact ih'
    | some y =>
      rw [gen_some e, List.pairwise_append]
      refine ⟨ih', by simp, fun a ha b hb => ?_⟩
      obtain rfl : b = y := by simpa using hb
      obtain ⟨t, ht, et⟩ := mem_gen.1 ha
      exact h t k a b ht (by omega) et e
/-- the divisors up to the root -/
def loF (n t : Nat) : Option Nat := if n % (t + 1) = 0 then some (t + 1) else none
/-- those across from them, from the root down -/
def hiF (n s t : Nat) : Option Nat := if n % (s - t) = 0 ∧ (s - t) * (s - t) ≠ n then some (n / (s - t)) else none
def DV (n s : Nat) : List Nat := gen (loF n) s ++ gen (hiF n s) s
theorem loF_some {n t x : Nat} (h : loF n t = some x) : x = t + 1 ∧ x ∣ n := by
  unfold loF at h
  split at h
  · rename_i c
    obtain rfl := Option.some.inj h
    exact ⟨rfl, Nat.dvd_of_mod_eq_zero c⟩
  · cases h
theorem hiF_some {n s t x : Nat} (hn : 0 < n) (h : hiF n s t = some x) : 0 < s - t ∧ (s - t) * x = n ∧ (s - t) * (s - t) ≠ n := by
  unfold hiF at h
  split at h
  · rename_i c
    obtain rfl := Option.some.inj h
    have hd := Nat.dvd_of_mod_eq_zero c.1
    have h0 : s - t ≠ 0 := by
      intro c2; rw [c2, Nat.zero_dvd] at hd; omega
    exact ⟨by omega, Nat.mul_div_cancel' hd, c.2⟩
  · cases h
theorem lt_across {d s n y : Nat} (hs : s * s ≤ n) (hd : d ≤ s) (e : d * y = n) (hne : d * d ≠ n) : s < y := by
  apply Nat.lt_of_not_le
  intro hy
  by_cases c : d = s
  · subst c
    by_cases c2 : y = d
    · subst c2; exact hne e
    · have : d * y < d * d := Nat.mul_lt_mul_of_pos_left (by omega) (by omega)
      omega
  · have h1 : d * y ≤ d * s := Nat.mul_le_mul_left _ hy
    have h2 : d * s < s * s := Nat.mul_lt_mul_of_pos_right (by omega) (by omega)
    omega
theorem DV_sorted {n s : Nat} (hn : 0 < n) (hs : s * s ≤ n) : (DV n s).Pairwise (· < ·) := by
  unfold DV
  rw [List.pairwise_append]
  refine ⟨gen_sorted fun t u x y a _ h1 h2 => ?_, gen_sorted fun t u x y a b h1 h2 => ?_, fun a ha b hb => ?_⟩
  · rw [(loF_some h1).1, (loF_some h2).1]; omega
  · obtain ⟨p1, e1, _⟩ := hiF_some hn h1
    obtain ⟨p2, e2, _⟩ := hiF_some hn h2
    apply Nat.lt_of_not_le
    intro c
    have h3 : (s - u) * y ≤ (s - u) * x := Nat.mul_le_mul_left _ c
    have hx : 0 < x := by
      apply Nat.pos_of_ne_zero
      intro c0; rw [c0] at e1; omega
    have h4 : (s - u) * x < (s - t) * x := Nat.mul_lt_mul_of_pos_right (by omega) hx
    omega
  · obtain ⟨t, ht, e⟩ := mem_gen.1 ha
    obtain ⟨u, hu, e2⟩ := mem_gen.1 hb
    have h1 := (loF_some e).1
    obtain ⟨p2, e3, e4⟩ := hiF_some hn e2
    have := lt_across hs (Nat.sub_le _ _) e3 e4
    omega
theorem mem_DV {n s x : Nat} (hn : 0 < n) (hs2 : n < (s + 1) * (s + 1)) : x ∈ DV n s ↔ x ∣ n := by
  unfold DV
  rw [List.mem_append, mem_gen, mem_gen]
  constructor
  · rintro (⟨t, _, e⟩ | ⟨t, _, e⟩)
    · exact (loF_some e).2
    · obtain ⟨_, e1, _⟩ := hiF_some hn e
      exact ⟨s - t, by rw [Nat.mul_comm]; exact e1.symm⟩
  · intro hd
    have hx0 : 0 < x := Nat.pos_of_dvd_of_pos hd hn
    by_cases c : x ≤ s
    · left
      refine ⟨x - 1, by omega, ?_⟩
      unfold loF
      rw [show x - 1 + 1 = x by omega, if_pos (Nat.mod_eq_zero_of_dvd hd)]
    · right
      obtain ⟨d, e⟩ := hd
      have hd0 : 0 < d := by
        apply Nat.pos_of_ne_zero
        intro c0; rw [c0] at e; omega
      have hds : d ≤ s := by
        apply Nat.le_of_not_lt
        intro c2
        have : (s + 1) * (s + 1) ≤ x * d := Nat.mul_le_mul (by omega) (by omega)
        omega
      refine ⟨s - d, by omega, ?_⟩
      have e0 : s - (s - d) = d := by omega
      unfold hiF
      rw [e0]
      have hm : n % d = 0 := Nat.mod_eq_zero_of_dvd ⟨x, by rw [e, Nat.mul_comm]⟩
      have hne : d * d ≠ n := by
        intro c3
        rw [e] at c3
        have := Nat.eq_of_mul_eq_mul_right hd0 c3
        omega
      rw [if_pos ⟨hm, hne⟩, e, Nat.mul_div_cancel _ hd0]
theorem sorted_ext : ∀ {l m : List Nat}, l.Pairwise (· < ·) → m.Pairwise (· < ·) → (∀ x, x ∈ l ↔ x ∈ m) → l = m
  | [], [], _, _, _ => rfl
  | [], b :: m, _, _, h => absurd ((h b).2 (by simp)) (by simp)
  | a :: l, [], _, _, h => absurd ((h a).1 (by simp)) (by simp)
  | a :: l, b :: m, h1, h2, h => by
    have ha := (h a).1 (by simp)
    have hb := (h b).2 (by simp)
    have e : a = b := by
      rcases List.mem_cons.1 ha with c | c
      · exact c
      · rcases List.mem_cons.1 hb with c2 | c2
        · exact c2.symm
        · have k1 := (List.pairwise_cons.1 h2).1 a c
          have k2 := (List.pairwise_cons.1 h1).1 b c2
          omega
    subst e
    congr 1
    refine sorted_ext (List.pairwise_cons.1 h1).2 (List.pairwise_cons.1 h2).2 fun x => ?_
    constructor
    · intro hx
      rcases List.mem_cons.1 ((h x).1 (List.mem_cons_of_mem _ hx)) with c | c
      · subst c; exact absurd ((List.pairwise_cons.1 h1).1 x hx) (by omega)
      · exact c
    · intro hx
      rcases List.mem_cons.1 ((h x).2 (List.mem_cons_of_mem _ hx)) with c | c
      · subst c; exact absurd ((List.pairwise_cons.1 h2).1 x hx) (by omega)
      · exact c
theorem divs_sorted (n : Nat) : (divs n).Pairwise (· < ·) := by
  unfold divs
  exact List.Pairwise.filter _ (List.pairwise_lt_range' ..)
theorem DV_divs {n s : Nat} (hn : 0 < n) (hs : s * s ≤ n) (hs2 : n < (s + 1) * (s + 1)) : DV n s = divs n :=
  sorted_ext (DV_sorted hn hs) (divs_sorted n) fun x => by rw [mem_DV hn hs2, mem_divs hn]
theorem root_ex (n : Nat) : ∃ s, s * s ≤ n ∧ n < (s + 1) * (s + 1) := by
  induction n with
  | zero => exact ⟨0, by decide, by decide⟩
  | succ n ih =>
    obtain ⟨s, h1, h2⟩ := ih
    by_cases c : (s + 1) * (s + 1) ≤ n + 1
    · refine ⟨s + 1, c, ?_⟩
      have : (s + 1) * (s + 1) < (s + 1 + 1) * (s + 1 + 1) := Nat.mul_lt_mul'' (by omega) (by omega)
      omega
    · exact ⟨s, by omega, by omega⟩
end Go.Proofs.YtoaccmblaifnmaaDoor.Nt
