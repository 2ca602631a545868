/-
  Which steps are good: what acts read and write, as rows of cells (the program's way) and act by act (the document's). Plain.
-/
import Derived.Test.YtedfjedmapimnaaDoorSp0
namespace Go.Proofs.YtedfjedmapimnaaDoor.Kc
structure Rw where
  f : Nat
  j : Nat
  c : Nat
def Rw.at (r : Rw) (i : Nat) : Nat := r.f + i * r.j
def Rw.last (r : Rw) : Nat := r.at (r.c - 1)
def Rw.rea (r : Rw) (x : Nat) : Nat := (x - r.f + r.j - 1) / r.j
def crx (r w : Rw) : Bool :=
  bif r.rea w.f == r.at (r.rea w.f) - w.f then
    !(r.rea w.f + 1 == r.at (r.rea w.f) - w.f + r.j) && (decide (r.rea w.f + 1 < r.c) && decide (r.at (r.rea w.f) - w.f + r.j < w.c))
  else decide (r.rea w.f < r.c) && decide (r.at (r.rea w.f) - w.f < w.c)
def crossed (r w : Rw) : Bool := bif w.j == 1 then crx r w else crx w r
def meets (r w : Rw) : Bool := decide (r.rea w.f < r.c) && decide (r.at (r.rea w.f) ≤ w.last)
theorem rea_ge (r : Rw) (x : Nat) (h : 1 ≤ r.j) : x ≤ r.at (r.rea x) := by
  unfold Rw.at Rw.rea
  have h1 := Nat.div_add_mod (x - r.f + r.j - 1) r.j
  have h2 := Nat.mod_lt (x - r.f + r.j - 1) (by omega : r.j > 0)
  rw [Nat.mul_comm] at h1
  omega
theorem rea_le (r : Rw) (x i : Nat) (h : 1 ≤ r.j) (hi : x ≤ r.at i) : r.rea x ≤ i := by
  unfold Rw.at at hi
  unfold Rw.rea
  rw [Nat.div_le_iff_le_mul_add_pred (by omega)]
  have : r.j * i = i * r.j := Nat.mul_comm _ _
  omega
theorem at_add (r : Rw) (i d : Nat) : r.at (i + d) = r.at i + d * r.j := by unfold Rw.at; rw [Nat.add_mul]; omega
theorem crx_iff (r w : Rw) (h : 1 ≤ r.j) : crx r w = true ↔ ∃ i k, i < r.c ∧ k < w.c ∧ i ≠ k ∧ r.at i = w.f + k := by
  have hg := rea_ge r w.f h
  have hl := fun i => rea_le r w.f i h
  unfold crx
  generalize r.rea w.f = a at *
  obtain ⟨b, hb⟩ : ∃ b, r.at a = w.f + b := ⟨r.at a - w.f, by omega⟩
  have e : r.at a - w.f = b := by omega
  rw [e]
  constructor
  · intro hh
    by_cases q : a = b
    · have q1 : (a == b) = true := beq_iff_eq.2 q
      rw [q1] at hh
      simp only [cond_true, Bool.and_eq_true, decide_eq_true_eq, Bool.not_eq_true', beq_eq_false_iff_ne] at hh
      refine ⟨a + 1, b + r.j, hh.2.1, hh.2.2, hh.1, ?_⟩
      rw [at_add, hb]; omega
    · have q1 : (a == b) = false := beq_eq_false_iff_ne.2 q
      rw [q1] at hh
      simp only [cond_false, Bool.and_eq_true, decide_eq_true_eq] at hh
      exact ⟨a, b, hh.1, hh.2, q, hb⟩
  · rintro ⟨i, k, h1, h2, h3, h4⟩
    have hi := hl i (by omega)
    obtain ⟨d, rfl⟩ : ∃ d, i = a + d := ⟨i - a, by omega⟩
    rw [at_add, hb] at h4
    have hk : k = b + d * r.j := by omega
    have hdj : d ≤ d * r.j := Nat.le_mul_of_pos_right d (by omega)
    by_cases q : a = b
    · have q1 : (a == b) = true := beq_iff_eq.2 q
      rw [q1]
      simp only [cond_true, Bool.and_eq_true, decide_eq_true_eq, Bool.not_eq_true', beq_eq_false_iff_ne]
      have hd : 1 ≤ d := by
        rcases Nat.eq_zero_or_pos d with rfl | hd
        · simp at hk; omega
        · exact hd
      have hj : r.j ≤ d * r.j := Nat.le_mul_of_pos_left r.j hd
      have hj2 : r.j ≠ 1 := fun c => by rw [c, Nat.mul_one] at hk; omega
      exact ⟨by omega, by omega, by omega⟩
    · have q1 : (a == b) = false := beq_eq_false_iff_ne.2 q
      rw [q1]
      simp only [cond_false, Bool.and_eq_true, decide_eq_true_eq]
      exact ⟨by omega, by omega⟩
theorem crossed_iff (r w : Rw) (hr : 1 ≤ r.j) (hw : 1 ≤ w.j) (h : r.j = 1 ∨ w.j = 1) : crossed r w = true ↔ ∃ i k, i < r.c ∧ k < w.c ∧ i ≠ k ∧ r.at i = w.at k := by
  unfold crossed
  by_cases q : w.j = 1
  · rw [beq_iff_eq.2 q, cond_true, crx_iff r w hr]
    have : ∀ k, w.at k = w.f + k := fun k => by unfold Rw.at; rw [q, Nat.mul_one]
    simp only [this]
  · have q1 : (w.j == 1) = false := beq_eq_false_iff_ne.2 q
    rw [q1, cond_false, crx_iff w r hw]
    have hr1 : r.j = 1 := h.resolve_right q
    have : ∀ k, r.at k = r.f + k := fun k => by unfold Rw.at; rw [hr1, Nat.mul_one]
    simp only [this]
    constructor
    · rintro ⟨i, k, h1, h2, h3, h4⟩; exact ⟨k, i, h2, h1, fun e => h3 e.symm, h4.symm⟩
    · rintro ⟨i, k, h1, h2, h3, h4⟩; exact ⟨k, i, h2, h1, fun e => h3 e.symm, h4.symm⟩
theorem meets_iff (r w : Rw) (hr : 1 ≤ r.j) (hw : w.j = 1) (hc : 1 ≤ w.c) : meets r w = true ↔ ∃ i k, i < r.c ∧ k < w.c ∧ r.at i = w.f + k := by
  have hg := rea_ge r w.f hr
  have hl := fun i => rea_le r w.f i hr
  have e : w.last = w.f + (w.c - 1) := by unfold Rw.last Rw.at; rw [hw, Nat.mul_one]
  unfold meets
  rw [e]
  generalize r.rea w.f = a at *
  simp only [Bool.and_eq_true, decide_eq_true_eq]
  constructor
  · rintro ⟨h1, h2⟩; exact ⟨a, r.at a - w.f, h1, by omega, by omega⟩
  · rintro ⟨i, k, h1, h2, h3⟩
    have hi := hl i (by omega)
    obtain ⟨d, rfl⟩ : ∃ d, i = a + d := ⟨i - a, by omega⟩
    rw [at_add] at h3
    exact ⟨by omega, by omega⟩
structure To where
  rd : List Rw
  wr : List Rw
  wh : Bool
def flr (d j c n : Nat) : List Rw := (List.range n).map fun q => ⟨d + q * j, 1, c⟩
def tou (o d s j c n : Nat) : To :=
  if o = 1 then ⟨[⟨s, j, c⟩], [⟨d, 1, c⟩], false⟩ else if o = 2 then ⟨[⟨s, 1, c⟩], [⟨d, j, c⟩], false⟩
  else if o = 3 ∨ o = 8 then ⟨[], [⟨d, 1, c⟩], false⟩ else if o = 5 then ⟨flr d j c n, flr d j c n, false⟩
  else if o = 6 then ⟨[⟨s, j, n⟩], [⟨d, 1, c⟩], true⟩ else if o = 9 then ⟨[⟨d, 1, c⟩, ⟨s, 1, c⟩], [⟨d, 1, c⟩], false⟩ else ⟨[⟨d, 1, c⟩], [⟨d, 1, c⟩], false⟩
def bey (cells : Int) (r : Rw) : Bool := decide (cells ≤ (r.last : Int))
def To.below (t : To) (cells : Int) : Bool := !(t.rd.any (bey cells)) && !(t.wr.any (bey cells))
def To.hit (t : To) (w r : Rw) : Bool := bif t.wh then decide (1 < w.c) && meets r w else crossed r w
def To.clash (t : To) : Bool := t.wr.any fun w => t.rd.any fun r => t.hit w r
/-- the document: what act i reads and writes -/
def rds (o d s j n i : Nat) : List Nat :=
  if o = 1 then [s + i * j] else if o = 2 then [s + i] else if o = 3 ∨ o = 8 then [] else if o = 5 then (List.range n).map fun q => d + i + q * j
  else if o = 6 then (List.range n).map fun q => s + q * j else if o = 9 then [d + i, s + i] else [d + i]
def wrs (o d j n i : Nat) : List Nat := if o = 2 then [d + i * j] else if o = 5 then (List.range n).map fun q => d + i + q * j else [d + i]
def lasl (o d s j c n : Nat) : List Nat := rds o d s j n 0 ++ wrs o d j n 0 ++ (rds o d s j n (c - 1) ++ wrs o d j n (c - 1))
def las (o d s j c n : Nat) : Nat := (lasl o d s j c n).foldl max 0
def wri (o d j c n x : Nat) : Option Nat :=
  if x < d then none else
  if o = 2 then (if (x - d) % j ≠ 0 ∨ c ≤ (x - d) / j then none else some ((x - d) / j))
  else if o = 5 then (if n ≤ (x - d) / j ∨ c ≤ (x - d) % j then none else some ((x - d) % j))
  else if c ≤ x - d then none else some (x - d)
def hit1 (o d j c n i x : Nat) : Bool := match wri o d j c n x with | none => true | some b => b == i
def apa (o d s j c n : Nat) : Bool := (List.range c).all fun i => (rds o d s j n i).all fun x => hit1 o d j c n i x
theorem foldl_max (l : List Nat) : ∀ a x, l.foldl max a < x ↔ a < x ∧ ∀ y ∈ l, y < x := by
  induction l with
  | nil => simp
  | cons b l ih =>
    intro a x
    rw [List.foldl_cons, ih]
    simp only [List.mem_cons, forall_eq_or_imp]
    constructor
    · rintro ⟨h1, h2⟩; exact ⟨by omega, by omega, h2⟩
    · rintro ⟨h1, h2, h3⟩; exact ⟨by omega, h3⟩
theorem hit1_iff {o d j c n i x : Nat} : hit1 o d j c n i x = true ↔ ∀ b, wri o d j c n x = some b → b = i := by
  unfold hit1
  cases wri o d j c n x with
  | none => simp
  | some b => simp
theorem apa_iff {o d s j c n : Nat} : apa o d s j c n = true ↔ ∀ i, i < c → ∀ x ∈ rds o d s j n i, ∀ b, wri o d j c n x = some b → b = i := by
  unfold apa
  simp only [List.all_eq_true, List.mem_range, hit1_iff]
/-- what form gives -/
structure Fo (o d s j c n : Nat) : Prop where
  o1 : 1 ≤ o
  o2 : o ≤ 11
  d2 : d ≤ 262143
  s2 : s ≤ 262143
  c1 : 1 ≤ c
  c2 : c ≤ 262144
  j2 : j ≤ 262144
  jj : o = 1 ∨ o = 2 ∨ o = 5 ∨ o = 6 → 1 ≤ j
  n5 : o = 5 → 2 ≤ n ∧ n ≤ 5 ∧ c ≤ j
  n6 : o = 6 → 1 ≤ n ∧ n ≤ 64 ∧ c ≤ n
theorem any_false {α : Type} {l : List α} {p : α → Bool} : l.any p = false ↔ ∀ x ∈ l, p x = false := by
  rw [← Bool.not_eq_true, List.any_eq_true]
  constructor
  · intro h x hx
    cases e : p x with
    | false => rfl
    | true => exact absurd ⟨x, hx, e⟩ h
  · rintro h ⟨x, hx, e⟩; rw [h x hx] at e; cases e
theorem bey_false {cells : Int} {r : Rw} : bey cells r = false ↔ (r.last : Int) < cells := by unfold bey; rw [decide_eq_false_iff_not]; omega
theorem below_iff {t : To} {cells : Int} : t.below cells = true ↔ (∀ r ∈ t.rd, (r.last : Int) < cells) ∧ ∀ r ∈ t.wr, (r.last : Int) < cells := by
  unfold To.below
  rw [Bool.and_eq_true, Bool.not_eq_true', Bool.not_eq_true', any_false, any_false]
  simp only [bey_false]
theorem las_iff {o d s j c n : Nat} {cells : Int} : (las o d s j c n : Int) < cells ↔ 0 < cells ∧ ∀ y ∈ lasl o d s j c n, (y : Int) < cells := by
  by_cases h : 0 < cells
  · obtain ⟨m, rfl⟩ : ∃ m : Nat, cells = m := ⟨cells.toNat, by omega⟩
    have := foldl_max (lasl o d s j c n) 0 m
    unfold las
    constructor
    · intro h1
      exact ⟨h, fun y hy => by have := (this.1 (by omega)).2 y hy; omega⟩
    · rintro ⟨_, h2⟩
      have := this.2 ⟨by omega, fun y hy => by have := h2 y hy; omega⟩
      omega
  · constructor
    · intro h1; have := Int.natCast_nonneg (las o d s j c n); omega
    · rintro ⟨h1, _⟩; exact absurd h1 h
theorem ops {o : Nat} (h1 : 1 ≤ o) (h2 : o ≤ 11) : o = 1 ∨ o = 2 ∨ (o = 3 ∨ o = 8) ∨ o = 5 ∨ o = 6 ∨ o = 9 ∨ (o = 4 ∨ o = 7 ∨ o = 10 ∨ o = 11) := by omega
theorem mem_flr {d j c n : Nat} {r : Rw} : r ∈ flr d j c n ↔ ∃ q, q < n ∧ r = ⟨d + q * j, 1, c⟩ := by
  unfold flr
  simp only [List.mem_map, List.mem_range]
  constructor
  · rintro ⟨q, h, e⟩; exact ⟨q, h, e.symm⟩
  · rintro ⟨q, h, e⟩; exact ⟨q, h, e.symm⟩
theorem last_eq (f j c : Nat) : (Rw.mk f j c).last = f + (c - 1) * j := rfl
theorem below_eq {o d s j c n : Nat} (h : Fo o d s j c n) (cells : Int) : (tou o d s j c n).below cells = decide ((las o d s j c n : Int) < cells) := by
  rw [Bool.eq_iff_iff, decide_eq_true_eq, below_iff, las_iff]
  have hc := h.c1
  rcases ops h.o1 h.o2 with rfl | rfl | ho | rfl | rfl | rfl | ho
  · have e : tou 1 d s j c n = ⟨[⟨s, j, c⟩], [⟨d, 1, c⟩], false⟩ := rfl
    have e2 : lasl 1 d s j c n = [s + 0 * j, d + 0, s + (c - 1) * j, d + (c - 1)] := rfl
    rw [e, e2]
    simp only [forall_eq, last_eq, List.mem_cons, List.not_mem_nil, or_false, forall_eq_or_imp, Nat.mul_one]
    rw [Nat.zero_mul]
    generalize (c - 1) * j = X
    omega
  · have e : tou 2 d s j c n = ⟨[⟨s, 1, c⟩], [⟨d, j, c⟩], false⟩ := rfl
    have e2 : lasl 2 d s j c n = [s + 0, d + 0 * j, s + (c - 1), d + (c - 1) * j] := rfl
    rw [e, e2]
    simp only [forall_eq, last_eq, List.mem_cons, List.not_mem_nil, or_false, forall_eq_or_imp, Nat.mul_one]
    rw [Nat.zero_mul]
    generalize (c - 1) * j = X
    omega
  · have e : tou o d s j c n = ⟨[], [⟨d, 1, c⟩], false⟩ := by unfold tou; rcases ho with rfl | rfl <;> rfl
    have e2 : lasl o d s j c n = [d + 0, d + (c - 1)] := by unfold lasl rds wrs; rcases ho with rfl | rfl <;> rfl
    rw [e, e2]
    simp only [forall_eq, last_eq, List.mem_cons, List.not_mem_nil, or_false, forall_eq_or_imp, Nat.mul_one]
    simp
    omega
  · obtain ⟨h1, h2, h3⟩ := h.n5 rfl
    have e : tou 5 d s j c n = ⟨flr d j c n, flr d j c n, false⟩ := rfl
    have e2 : lasl 5 d s j c n = ((List.range n).map fun q => d + 0 + q * j) ++ ((List.range n).map fun q => d + 0 + q * j) ++ (((List.range n).map fun q => d + (c - 1) + q * j) ++ ((List.range n).map fun q => d + (c - 1) + q * j)) := rfl
    rw [e, e2]
    simp only [mem_flr, List.mem_append, List.mem_map, List.mem_range, or_self]
    constructor
    · rintro ⟨ha, _⟩
      have hq : ∀ q, q < n → ((d + q * j + (c - 1) : Nat) : Int) < cells := fun q hq => by
        have := ha _ ⟨q, hq, rfl⟩
        rw [last_eq, Nat.mul_one] at this
        exact this
      refine ⟨by have := hq 0 (by omega); omega, ?_⟩
      rintro y (⟨q, h5, rfl⟩ | ⟨q, h5, rfl⟩)
      · have := hq q h5; omega
      · have := hq q h5; omega
    · rintro ⟨_, ha⟩
      have hq : ∀ r : Rw, (∃ q, q < n ∧ r = ⟨d + q * j, 1, c⟩) → (r.last : Int) < cells := by
        rintro r ⟨q, h5, rfl⟩
        rw [last_eq, Nat.mul_one]
        have := ha _ (Or.inr ⟨q, h5, rfl⟩)
        omega
      exact ⟨hq, hq⟩
  · obtain ⟨h1, h2, h3⟩ := h.n6 rfl
    have e : tou 6 d s j c n = ⟨[⟨s, j, n⟩], [⟨d, 1, c⟩], true⟩ := rfl
    have e2 : lasl 6 d s j c n = ((List.range n).map fun q => s + q * j) ++ [d + 0] ++ (((List.range n).map fun q => s + q * j) ++ [d + (c - 1)]) := rfl
    rw [e, e2]
    simp only [List.mem_singleton, forall_eq, last_eq, List.mem_append, List.mem_map, List.mem_range, Nat.mul_one]
    constructor
    · rintro ⟨ha, hb⟩
      refine ⟨by omega, ?_⟩
      have hq : ∀ q, q < n → ((s + q * j : Nat) : Int) < cells := fun q hq => by
        have := Nat.mul_le_mul_right j (by omega : q ≤ n - 1)
        omega
      rintro y ((⟨q, h5, rfl⟩ | rfl) | (⟨q, h5, rfl⟩ | rfl))
      · exact hq q h5
      · omega
      · exact hq q h5
      · exact hb
    · rintro ⟨_, ha⟩
      exact ⟨ha _ (Or.inl (Or.inl ⟨n - 1, by omega, rfl⟩)), ha _ (Or.inr (Or.inr rfl))⟩
  · have e : tou 9 d s j c n = ⟨[⟨d, 1, c⟩, ⟨s, 1, c⟩], [⟨d, 1, c⟩], false⟩ := rfl
    have e2 : lasl 9 d s j c n = [d + 0, s + 0, d + 0, d + (c - 1), s + (c - 1), d + (c - 1)] := rfl
    rw [e, e2]
    simp only [forall_eq, last_eq, List.mem_cons, List.not_mem_nil, or_false, forall_eq_or_imp, Nat.mul_one]
    omega
  · have e : tou o d s j c n = ⟨[⟨d, 1, c⟩], [⟨d, 1, c⟩], false⟩ := by unfold tou; rcases ho with rfl | rfl | rfl | rfl <;> rfl
    have e2 : lasl o d s j c n = [d + 0, d + 0, d + (c - 1), d + (c - 1)] := by unfold lasl rds wrs; rcases ho with rfl | rfl | rfl | rfl <;> rfl
    rw [e, e2]
    simp only [forall_eq, last_eq, List.mem_cons, List.not_mem_nil, or_false, forall_eq_or_imp, Nat.mul_one]
    omega
theorem wri_own {o d j c n x b : Nat} (h2 : o ≠ 2) (h5 : o ≠ 5) : wri o d j c n x = some b ↔ b < c ∧ x = d + b := by
  unfold wri
  by_cases h : x < d
  · rw [if_pos h]; simp; omega
  · rw [if_neg h, if_neg h2, if_neg h5]
    by_cases hc : c ≤ x - d
    · rw [if_pos hc]; simp; omega
    · rw [if_neg hc]; simp; omega
theorem wri_sc {d j c n x b : Nat} (hj : 1 ≤ j) : wri 2 d j c n x = some b ↔ b < c ∧ x = d + b * j := by
  unfold wri
  by_cases h : x < d
  · rw [if_pos h]; simp; omega
  · rw [if_neg h, if_pos rfl]
    obtain ⟨y, rfl⟩ : ∃ y, x = d + y := ⟨x - d, by omega⟩
    rw [Nat.add_sub_cancel_left]
    by_cases hc : y % j ≠ 0 ∨ c ≤ y / j
    · rw [if_pos hc]
      constructor
      · intro h; cases h
      · rintro ⟨h1, h2⟩
        have : y = b * j := by omega
        subst this
        rw [Nat.mul_mod_left, Nat.mul_div_cancel _ (by omega)] at hc
        omega
    · rw [if_neg hc]
      have h1 : y % j = 0 := by omega
      have h3 := Nat.div_add_mod y j
      rw [h1, Nat.mul_comm] at h3
      constructor
      · intro e; obtain rfl := Option.some.inj e; exact ⟨by omega, by omega⟩
      · rintro ⟨h4, h5⟩
        have : y = b * j := by omega
        rw [this, Nat.mul_div_cancel _ (by omega)]
theorem not_true_iff {a b : Bool} (h : a = true ↔ ¬ b = true) : a = !b := by cases a <;> cases b <;> simp_all
theorem ap_single {c : Nat} (A W : Nat → Nat) : (∀ i, i < c → ∀ b, (b < c ∧ A i = W b) → b = i) ↔ ¬ ∃ i k, i < c ∧ k < c ∧ i ≠ k ∧ A i = W k := by
  constructor
  · rintro h ⟨i, k, h1, h2, h3, h4⟩; exact h3 (h i h1 k ⟨h2, h4⟩).symm
  · rintro h i hi b ⟨h1, h2⟩; exact Classical.byContradiction fun hc => h ⟨i, b, hi, h1, fun e => hc e.symm, h2⟩
theorem apa_eq {o d s j c n : Nat} (h : Fo o d s j c n) : apa o d s j c n = !(tou o d s j c n).clash := by
  apply not_true_iff
  rw [apa_iff]
  have hc := h.c1
  rcases ops h.o1 h.o2 with rfl | rfl | ho | rfl | rfl | rfl | ho
  · have hj := h.jj (by decide)
    have e : (tou 1 d s j c n).clash = crossed ⟨s, j, c⟩ ⟨d, 1, c⟩ := by simp [tou, To.clash, To.hit]
    rw [e, crossed_iff _ _ hj (Nat.le_refl _) (Or.inr rfl)]
    have := ap_single (c := c) (fun i => s + i * j) (fun k => d + k * 1)
    simp only [rds, ↓reduceIte, List.mem_singleton, forall_eq, wri_own (o := 1) (by decide) (by decide)]
    simp only [Nat.mul_one] at this
    rw [this]
    simp only [Rw.at, Nat.mul_one]
  · have hj := h.jj (by decide)
    have e : (tou 2 d s j c n).clash = crossed ⟨s, 1, c⟩ ⟨d, j, c⟩ := by simp [tou, To.clash, To.hit]
    rw [e, crossed_iff _ _ (Nat.le_refl _) hj (Or.inl rfl)]
    have := ap_single (c := c) (fun i => s + i) (fun k => d + k * j)
    simp only [rds, ↓reduceIte, Nat.reduceEqDiff, List.mem_singleton, forall_eq, wri_sc hj]
    rw [this]
    simp only [Rw.at, Nat.mul_one]
  · have e : tou o d s j c n = ⟨[], [⟨d, 1, c⟩], false⟩ := by unfold tou; rcases ho with rfl | rfl <;> rfl
    have e2 : ∀ i, rds o d s j n i = [] := fun i => by unfold rds; rcases ho with rfl | rfl <;> rfl
    rw [e]
    simp [To.clash, e2]
  · obtain ⟨h1, h2, h3⟩ := h.n5 rfl
    have e : (tou 5 d s j c n).clash = false := by
      have e0 : tou 5 d s j c n = ⟨flr d j c n, flr d j c n, false⟩ := rfl
      rw [e0]
      unfold To.clash
      rw [any_false]
      intro w hw
      rw [any_false]
      intro r hr
      obtain ⟨p, hp, rfl⟩ := mem_flr.1 hw
      obtain ⟨q, hq, rfl⟩ := mem_flr.1 hr
      simp only [To.hit, cond_false]
      rw [← Bool.not_eq_true, crossed_iff _ _ (Nat.le_refl _) (Nat.le_refl _) (Or.inl rfl)]
      rintro ⟨i, k, h5, h6, h7, h8⟩
      simp only [Rw.at, Nat.mul_one] at h5 h6 h8
      rcases Nat.lt_trichotomy p q with g | rfl | g
      · have := Nat.mul_le_mul_right j g
        rw [Nat.succ_mul] at this
        omega
      · omega
      · have := Nat.mul_le_mul_right j g
        rw [Nat.succ_mul] at this
        omega
    rw [e]
    simp only [Bool.false_eq_true, not_false_eq_true, iff_true]
    intro i hi x hx b hb
    have hx2 : x ∈ (List.range n).map fun q => d + i + q * j := hx
    simp only [List.mem_map, List.mem_range] at hx2
    obtain ⟨q, hq, rfl⟩ := hx2
    unfold wri at hb
    have e1 : d + i + q * j - d = i + j * q := by rw [Nat.mul_comm q j]; omega
    have hp : 0 < j := by omega
    rw [if_neg (by omega), if_neg (by decide), if_pos rfl, e1, Nat.add_mul_div_left _ _ hp, Nat.add_mul_mod_self_left, Nat.mod_eq_of_lt (by omega), Nat.div_eq_of_lt (by omega)] at hb
    split at hb
    · cases hb
    · exact (Option.some.inj hb).symm
  · obtain ⟨h1, h2, h3⟩ := h.n6 rfl
    have hj := h.jj (by decide)
    have e : (tou 6 d s j c n).clash = (decide (1 < c) && meets ⟨s, j, n⟩ ⟨d, 1, c⟩) := by simp [tou, To.clash, To.hit]
    rw [e, Bool.and_eq_true, decide_eq_true_eq, meets_iff _ _ hj rfl hc]
    have er : ∀ i, rds 6 d s j n i = (List.range n).map fun q => s + q * j := fun i => rfl
    simp only [er, List.mem_map, List.mem_range, wri_own (o := 6) (by decide) (by decide)]
    constructor
    · rintro hh ⟨h4, q, k, h5, h6, h7⟩
      have a0 := hh 0 (by omega) _ ⟨q, h5, rfl⟩ k ⟨h6, h7⟩
      have a1 := hh 1 (by omega) _ ⟨q, h5, rfl⟩ k ⟨h6, h7⟩
      omega
    · rintro hh i hi x ⟨q, hq, rfl⟩ b ⟨h4, h5⟩
      by_cases h1c : 1 < c
      · exact absurd ⟨h1c, q, b, hq, h4, h5⟩ hh
      · omega
  · have e : (tou 9 d s j c n).clash = (crossed ⟨d, 1, c⟩ ⟨d, 1, c⟩ || crossed ⟨s, 1, c⟩ ⟨d, 1, c⟩) := by simp [tou, To.clash, To.hit]
    have e1 : crossed ⟨d, 1, c⟩ ⟨d, 1, c⟩ = false := by
      rw [← Bool.not_eq_true, crossed_iff _ _ (Nat.le_refl _) (Nat.le_refl _) (Or.inl rfl)]
      rintro ⟨i, k, _, _, h7, h8⟩
      simp only [Rw.at, Nat.mul_one] at h8
      omega
    rw [e, e1, Bool.false_or, crossed_iff _ _ (Nat.le_refl _) (Nat.le_refl _) (Or.inl rfl)]
    have er : ∀ i, rds 9 d s j n i = [d + i, s + i] := fun i => rfl
    have := ap_single (c := c) (fun i => s + i) (fun k => d + k)
    simp only [er, List.mem_cons, List.not_mem_nil, or_false, forall_eq_or_imp, forall_eq, wri_own (o := 9) (by decide) (by decide), Rw.at, Nat.mul_one]
    rw [← this]
    constructor
    · intro hh i hi; exact (hh i hi).2
    · intro hh i hi; exact ⟨fun b hb => by omega, hh i hi⟩
  · have e : tou o d s j c n = ⟨[⟨d, 1, c⟩], [⟨d, 1, c⟩], false⟩ := by unfold tou; rcases ho with rfl | rfl | rfl | rfl <;> rfl
    have e2 : ∀ i, rds o d s j n i = [d + i] := fun i => by unfold rds; rcases ho with rfl | rfl | rfl | rfl <;> rfl
    have e1 : crossed ⟨d, 1, c⟩ ⟨d, 1, c⟩ = false := by
      rw [← Bool.not_eq_true, crossed_iff _ _ (Nat.le_refl _) (Nat.le_refl _) (Or.inl rfl)]
      rintro ⟨i, k, _, _, h7, h8⟩
      simp only [Rw.at, Nat.mul_one] at h8
      omega
    rw [e]
    simp only [e2, List.mem_singleton, forall_eq, wri_own (o := o) (by omega) (by omega), To.clash, To.hit, List.any_cons, List.any_nil, Bool.or_false, cond_false, e1]
    simp
    intro i hi b hb1 hb2
    omega
end Go.Proofs.YtedfjedmapimnaaDoor.Kc
