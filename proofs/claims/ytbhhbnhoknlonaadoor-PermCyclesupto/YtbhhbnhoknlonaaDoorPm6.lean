/-
  Plain: permutations of places, their cycles by least places.
-/
import Derived.Test.YtbhhbnhoknlonaaDoorPq2
namespace Go.Proofs.YtbhhbnhoknlonaaDoor
open Flo Go.RowKit
namespace Pm

/-- where place i leads -/
def sg (p : List Int) (i : Nat) : Nat := (p.getD i 0).toNat
/-- k steps from i -/
def it (p : List Int) (i : Nat) : Nat → Nat
  | 0 => i
  | k + 1 => sg p (it p i k)
def Ok (p : List Int) : Prop := ∀ j, j < p.length → okAt p j
theorem Ok.val {p : List Int} (h : Ok p) {i : Nat} (hi : i < p.length) : p.getD i 0 = ((sg p i : Nat) : Int) := by
  have := (h i hi).1; unfold sg; omega
theorem Ok.lt {p : List Int} (h : Ok p) {i : Nat} (hi : i < p.length) : sg p i < p.length := by
  have h1 := (h i hi).2.1; have h2 := h.val hi; omega
theorem getD_mem_take {p : List Int} {i j : Nat} (hi : i < j) (hj : j ≤ p.length) : p.getD i 0 ∈ p.take j := by
  have h1 : i < (p.take j).length := by rw [List.length_take]; omega
  have e : p.getD i 0 = (p.take j)[i] := by rw [List.getElem_take]; simp [List.getD, show i < p.length by omega]
  rw [e]; exact List.getElem_mem h1
theorem Ok.inj {p : List Int} (h : Ok p) {i j : Nat} (hi : i < p.length) (hj : j < p.length) (e : sg p i = sg p j) : i = j := by
  have e2 : p.getD i 0 = p.getD j 0 := by rw [h.val hi, h.val hj, e]
  rcases Nat.lt_trichotomy i j with c | c | c
  · exact absurd (getD_mem_take c (Nat.le_of_lt hj)) (by rw [e2]; exact (h j hj).2.2)
  · exact c
  · exact absurd (getD_mem_take c (Nat.le_of_lt hi)) (by rw [← e2]; exact (h i hi).2.2)
theorem Ok.it_lt {p : List Int} (h : Ok p) {i : Nat} (hi : i < p.length) : ∀ k, it p i k < p.length
  | 0 => hi
  | k + 1 => h.lt (h.it_lt hi k)
theorem it_add (p : List Int) (i a : Nat) : ∀ b, it p i (a + b) = it p (it p i a) b
  | 0 => rfl
  | b + 1 => by
    show sg p (it p i (a + b)) = sg p (it p (it p i a) b)
    rw [it_add p i a b]
theorem Ok.it_inj {p : List Int} (h : Ok p) {i j : Nat} (hi : i < p.length) (hj : j < p.length) : ∀ k, it p i k = it p j k → i = j
  | 0, e => e
  | k + 1, e => h.it_inj hi hj k (h.inj (h.it_lt hi k) (h.it_lt hj k) e)
theorem pigeon : ∀ (n : Nat) (f : Nat → Nat), (∀ i, i ≤ n → f i < n) → ∃ a b, a < b ∧ b ≤ n ∧ f a = f b
  | 0, f, h => absurd (h 0 (Nat.le_refl _)) (by omega)
  | n + 1, f, h => by
    by_cases hc : ∃ i, i ≤ n ∧ f i = f (n + 1)
    · obtain ⟨i, hi, e⟩ := hc
      exact ⟨i, n + 1, by omega, Nat.le_refl _, e⟩
    · have hne : ∀ i, i ≤ n → f i ≠ f (n + 1) := fun i hi e => hc ⟨i, hi, e⟩
      obtain ⟨a, b, hab, hb, e⟩ := pigeon n (fun i => if f i = n then f (n + 1) else f i) (fun i hi => by
        have h1 := h i (by omega)
        have h2 := h (n + 1) (Nat.le_refl _)
        have h3 := hne i hi
        by_cases c : f i = n
        · simp only [c, if_true]; omega
        · simp only [if_neg c]; omega)
      have ha2 := hne a (by omega)
      have hb2 := hne b hb
      by_cases ca : f a = n
      · by_cases cb : f b = n
        · exact ⟨a, b, hab, by omega, by rw [ca, cb]⟩
        · simp only [ca, if_true, if_neg cb] at e; exact absurd e.symm hb2
      · by_cases cb : f b = n
        · simp only [cb, if_true, if_neg ca] at e; exact absurd e ha2
        · simp only [if_neg ca, if_neg cb] at e; exact ⟨a, b, hab, by omega, e⟩
theorem Ok.back {p : List Int} (h : Ok p) {i : Nat} (hi : i < p.length) : ∃ k, k < p.length ∧ it p i (k + 1) = i := by
  obtain ⟨a, b, hab, hb, e⟩ := pigeon p.length (it p i) (fun k _ => h.it_lt hi k)
  refine ⟨b - a - 1, by omega, ?_⟩
  have e2 : it p i b = it p (it p i (b - a)) a := by rw [← it_add]; congr 1; omega
  rw [show b - a - 1 + 1 = b - a by omega]
  exact (h.it_inj hi (h.it_lt hi _) a (e.trans e2)).symm
/-- how many places a cycle has -/
def per (p : List Int) (i : Nat) : Nat := (List.range p.length).findIdx (fun k => it p i (k + 1) == i) + 1
theorem per_pos (p : List Int) (i : Nat) : 1 ≤ per p i := Nat.le_add_left _ _
theorem Ok.idx_lt {p : List Int} (h : Ok p) {i : Nat} (hi : i < p.length) : (List.range p.length).findIdx (fun k => it p i (k + 1) == i) < (List.range p.length).length := by
  obtain ⟨k, hk, e⟩ := h.back hi
  exact List.findIdx_lt_length_of_exists ⟨k, List.mem_range.2 hk, by rw [e]; exact beq_self_eq_true i⟩
theorem Ok.it_per {p : List Int} (h : Ok p) {i : Nat} (hi : i < p.length) : it p i (per p i) = i := by
  have := List.findIdx_getElem (w := h.idx_lt hi)
  simpa [per] using this
theorem Ok.per_le {p : List Int} (h : Ok p) {i : Nat} (hi : i < p.length) : per p i ≤ p.length := by
  have := h.idx_lt hi; rw [List.length_range] at this; unfold per; omega
theorem per_min (p : List Int) {i k : Nat} (h1 : 1 ≤ k) (h2 : k < per p i) : it p i k ≠ i := by
  have h3 : k - 1 < (List.range p.length).findIdx (fun k => it p i (k + 1) == i) := by unfold per at h2; omega
  have := List.not_of_lt_findIdx h3
  simp only [List.getElem_range] at this
  rw [show k - 1 + 1 = k by omega] at this
  simpa using this
theorem Ok.it_ne {p : List Int} (h : Ok p) {i : Nat} (hi : i < p.length) {a b : Nat} (hab : a < b) (hb : b < per p i) : it p i a ≠ it p i b := fun e => by
  have e2 : it p i b = it p (it p i (b - a)) a := by rw [← it_add]; congr 1; omega
  exact per_min p (show 1 ≤ b - a by omega) (by omega) (h.it_inj hi (h.it_lt hi _) a (e.trans e2)).symm
theorem Ok.it_mul {p : List Int} (h : Ok p) {i : Nat} (hi : i < p.length) : ∀ q, it p i (per p i * q) = i
  | 0 => by rw [Nat.mul_zero]; rfl
  | q + 1 => by rw [Nat.mul_succ, it_add, h.it_mul hi q, h.it_per hi]
theorem Ok.it_mod {p : List Int} (h : Ok p) {i : Nat} (hi : i < p.length) (k : Nat) : it p i (k % per p i) = it p i k := by
  have e : it p i k = it p i (per p i * (k / per p i) + k % per p i) := by rw [Nat.div_add_mod]
  rw [e, it_add, h.it_mul hi]
/-- the cycle of i, from i on -/
def orb (p : List Int) (i : Nat) : List Nat := (List.range (per p i)).map (it p i)
theorem orb_len (p : List Int) (i : Nat) : (orb p i).length = per p i := by simp [orb]
theorem Ok.mem_orb {p : List Int} (h : Ok p) {i : Nat} (hi : i < p.length) {x : Nat} : x ∈ orb p i ↔ ∃ k, it p i k = x := by
  unfold orb
  rw [List.mem_map]
  constructor
  · rintro ⟨k, _, e⟩; exact ⟨k, e⟩
  · rintro ⟨k, e⟩
    exact ⟨k % per p i, List.mem_range.2 (Nat.mod_lt _ (per_pos p i)), by rw [h.it_mod hi, e]⟩
theorem Ok.orb_lt {p : List Int} (h : Ok p) {i x : Nat} (hi : i < p.length) (hx : x ∈ orb p i) : x < p.length := by
  obtain ⟨k, rfl⟩ := (h.mem_orb hi).1 hx; exact h.it_lt hi k
theorem Ok.self_orb {p : List Int} (h : Ok p) {i : Nat} (hi : i < p.length) : i ∈ orb p i := (h.mem_orb hi).2 ⟨0, rfl⟩
theorem Ok.orb_trans {p : List Int} (h : Ok p) {i x y : Nat} (hi : i < p.length) (hx : x ∈ orb p i) (hy : y ∈ orb p x) : y ∈ orb p i := by
  obtain ⟨a, rfl⟩ := (h.mem_orb hi).1 hx
  obtain ⟨b, rfl⟩ := (h.mem_orb (h.it_lt hi a)).1 hy
  exact (h.mem_orb hi).2 ⟨a + b, it_add p i a b⟩
theorem Ok.orb_sym {p : List Int} (h : Ok p) {i x : Nat} (hi : i < p.length) (hx : x ∈ orb p i) : i ∈ orb p x := by
  have hxl := h.orb_lt hi hx
  unfold orb at hx
  obtain ⟨k, hk, rfl⟩ := List.mem_map.1 hx
  have hk2 := List.mem_range.1 hk
  refine (h.mem_orb hxl).2 ⟨per p i - k, ?_⟩
  rw [← it_add, show k + (per p i - k) = per p i by omega, h.it_per hi]
/-- is x in a cycle of a place below k? -/
def sn (p : List Int) (k x : Nat) : Bool := (List.range k).any fun i => (orb p i).contains x
theorem sn_iff {p : List Int} {k x : Nat} : sn p k x = true ↔ ∃ i, i < k ∧ x ∈ orb p i := by
  unfold sn
  rw [List.any_eq_true]
  constructor
  · rintro ⟨i, hi, h⟩; exact ⟨i, List.mem_range.1 hi, List.contains_iff_mem.1 h⟩
  · rintro ⟨i, hi, h⟩; exact ⟨i, List.mem_range.2 hi, List.contains_iff_mem.2 h⟩
theorem sn_zero (p : List Int) (x : Nat) : sn p 0 x = false := rfl
theorem sn_succ (p : List Int) (k x : Nat) : sn p (k + 1) x = (sn p k x || (orb p k).contains x) := by
  unfold sn
  rw [List.range_succ, List.any_append]
  simp
theorem Ok.sn_full {p : List Int} (h : Ok p) {x : Nat} (hx : x < p.length) : sn p p.length x = true := sn_iff.2 ⟨x, hx, h.self_orb hx⟩
theorem Ok.sn_it {p : List Int} (h : Ok p) {k : Nat} (hk : k < p.length) (hs : sn p k k = false) (t : Nat) : sn p k (it p k t) = false := by
  rw [← Bool.not_eq_true]
  intro c
  obtain ⟨i, hi, hm⟩ := sn_iff.1 c
  have hm2 : k ∈ orb p (it p k t) := h.orb_sym hk ((h.mem_orb hk).2 ⟨t, rfl⟩)
  have : sn p k k = true := sn_iff.2 ⟨i, hi, h.orb_trans (by omega) hm hm2⟩
  rw [hs] at this; cases this
theorem Ok.sn_same {p : List Int} (h : Ok p) {k : Nat} (hk : k < p.length) (hs : sn p k k = true) (x : Nat) : sn p (k + 1) x = sn p k x := by
  rw [sn_succ]
  by_cases c : x ∈ orb p k
  · obtain ⟨i, hi, hm⟩ := sn_iff.1 hs
    have : sn p k x = true := sn_iff.2 ⟨i, hi, h.orb_trans (by omega) hm c⟩
    rw [this]; rfl
  · rw [show (orb p k).contains x = false by rw [← Bool.not_eq_true]; exact fun e => c (List.contains_iff_mem.1 e), Bool.or_false]
/-- as sn, and the first t places of the cycle of k -/
def sx (p : List Int) (k t x : Nat) : Bool := sn p k x || ((List.range t).map (it p k)).contains x
theorem sx_zero (p : List Int) (k x : Nat) : sx p k 0 x = sn p k x := by unfold sx; simp
theorem sx_per (p : List Int) (k x : Nat) : sx p k (per p k) x = sn p (k + 1) x := by unfold sx; rw [sn_succ]; rfl
theorem sx_succ (p : List Int) (k t x : Nat) : sx p k (t + 1) x = (sx p k t x || (x == it p k t)) := by
  unfold sx
  rw [List.range_succ, List.map_append, List.contains_append, Bool.or_assoc]
  congr 2
  simp
  rfl
theorem Ok.sx_no {p : List Int} (h : Ok p) {k : Nat} (hk : k < p.length) (hs : sn p k k = false) {t : Nat} (ht : t < per p k) : sx p k t (it p k t) = false := by
  unfold sx
  rw [h.sn_it hk hs, Bool.false_or, ← Bool.not_eq_true]
  intro c
  obtain ⟨a, ha, e⟩ := List.mem_map.1 (List.contains_iff_mem.1 c)
  exact h.it_ne hk (List.mem_range.1 ha) ht e
theorem Ok.sx_yes {p : List Int} (h : Ok p) {k : Nat} (hk : k < p.length) : sx p k (per p k) (it p k (per p k)) = true := by
  rw [sx_per, h.it_per hk]; exact sn_iff.2 ⟨k, by omega, h.self_orb hk⟩
/-- the least places of the cycles, below k -/
def lp (p : List Int) (k : Nat) : List Nat := (List.range k).filter fun i => !sn p i i
theorem lp_yes {p : List Int} {k : Nat} (h : sn p k k = false) : lp p (k + 1) = lp p k ++ [k] := by
  unfold lp; rw [List.range_succ, List.filter_append]; simp [h]
theorem lp_no {p : List Int} {k : Nat} (h : sn p k k = true) : lp p (k + 1) = lp p k := by
  unfold lp; rw [List.range_succ, List.filter_append]; simp [h]
theorem lp_pre (p : List Int) {a : Nat} : ∀ {b : Nat}, a ≤ b → lp p a <+: lp p b
  | 0, h => by rw [show a = 0 by omega]; exact List.prefix_refl _
  | b + 1, h => by
    by_cases e : a = b + 1
    · rw [e]; exact List.prefix_refl _
    · have h1 := lp_pre p (show a ≤ b by omega)
      cases hs : sn p b b
      · rw [lp_yes hs]; exact h1.trans (List.prefix_append _ _)
      · rw [lp_no hs]; exact h1
theorem lp_split {p : List Int} {pre : List Nat} {x : Nat} : ∀ {n : Nat}, pre ++ [x] <+: lp p n → pre = lp p x ∧ x < n ∧ sn p x x = false
  | 0, h => by
    have := h.length_le; simp [lp] at this
  | n + 1, h => by
    cases hs : sn p n n
    · rw [lp_yes hs] at h
      rcases List.prefix_concat_iff.1 h with e | e
      · have h1 : pre = lp p n ∧ [x] = [n] := List.append_inj' e rfl
        obtain ⟨h2, h3⟩ := h1
        cases h3
        exact ⟨h2, by omega, hs⟩
      · obtain ⟨a, b, c⟩ := lp_split e
        exact ⟨a, by omega, c⟩
    · rw [lp_no hs] at h
      obtain ⟨a, b, c⟩ := lp_split h
      exact ⟨a, by omega, c⟩
theorem lp_len_le (p : List Int) (n : Nat) : (lp p n).length ≤ n := by
  have := List.length_filter_le (fun i => !sn p i i) (List.range n)
  rwa [List.length_range] at this
theorem Ok.sn_lp {p : List Int} (h : Ok p) {j : Nat} : ∀ {d : Nat}, j + d ≤ p.length → lp p (j + d) = lp p j → ∀ y, sn p (j + d) y = sn p j y
  | 0, _, _, _ => rfl
  | d + 1, hd, e, y => by
    have l1 : (lp p j).length ≤ (lp p (j + d)).length := (lp_pre p (Nat.le_add_right j d)).length_le
    cases hs : sn p (j + d) (j + d)
    · have := congrArg List.length e
      rw [show j + (d + 1) = j + d + 1 from rfl, lp_yes hs, List.length_append, List.length_singleton] at this
      omega
    · rw [show j + (d + 1) = j + d + 1 from rfl] at e ⊢
      rw [h.sn_same (by omega) hs]
      rw [lp_no hs] at e
      exact h.sn_lp (by omega) e y
/-- all cycles -/
def cyL (p : List Int) : List (List Nat) := (lp p p.length).map (orb p)
theorem cyL_len (p : List Int) : (cyL p).length ≤ p.length := by unfold cyL; rw [List.length_map]; exact lp_len_le p _
end Pm
end Go.Proofs.YtbhhbnhoknlonaaDoor
