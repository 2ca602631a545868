/-
  What the acts of a good step write and read, cell by cell (for CheckApart). Plain.
-/
import Derived.Test.YtedfjedmapimnaaDoorKc8
import Derived.Test.YtedfjedmapimnaaDoorKcr
namespace Go.Proofs.YtedfjedmapimnaaDoor.Kc
theorem flat_iff {rs : List Rw} {x : Nat} : x ∈ flat rs ↔ ∃ r ∈ rs, ∃ i, i < r.c ∧ x = r.at i := by
  unfold flat
  simp only [List.mem_flatMap, List.mem_map, List.mem_range]
  constructor
  · rintro ⟨r, h, i, h2, h3⟩; exact ⟨r, h, i, h2, h3.symm⟩
  · rintro ⟨r, h, i, h2, h3⟩; exact ⟨r, h, i, h2, h3.symm⟩
theorem rd_iff {o d s j c n : Nat} (h : Fo o d s j c n) (x : Nat) : x ∈ flat (tou o d s j c n).rd ↔ ∃ i, i < c ∧ x ∈ rds o d s j n i := by
  have hc := h.c1
  rw [flat_iff]
  rcases ops h.o1 h.o2 with rfl | rfl | ho | rfl | rfl | rfl | ho
  · have e : (tou 1 d s j c n).rd = [⟨s, j, c⟩] := rfl
    have e2 : ∀ i, rds 1 d s j n i = [s + i * j] := fun i => rfl
    simp [e, e2, Rw.at]
  · have e : (tou 2 d s j c n).rd = [⟨s, 1, c⟩] := rfl
    have e2 : ∀ i, rds 2 d s j n i = [s + i] := fun i => rfl
    simp [e, e2, Rw.at]
  · have e : (tou o d s j c n).rd = [] := by unfold tou; rcases ho with rfl | rfl <;> rfl
    have e2 : ∀ i, rds o d s j n i = [] := fun i => by unfold rds; rcases ho with rfl | rfl <;> rfl
    simp [e, e2]
  · have e : (tou 5 d s j c n).rd = flr d j c n := rfl
    have e2 : ∀ i, rds 5 d s j n i = (List.range n).map fun q => d + i + q * j := fun i => rfl
    rw [e]
    simp only [e2, mem_flr, List.mem_map, List.mem_range]
    constructor
    · rintro ⟨r, ⟨q, hq, rfl⟩, i, hi, rfl⟩
      refine ⟨i, hi, q, hq, ?_⟩
      unfold Rw.at
      simp only [Nat.mul_one]; omega
    · rintro ⟨i, hi, q, hq, rfl⟩
      refine ⟨_, ⟨q, hq, rfl⟩, i, hi, ?_⟩
      unfold Rw.at
      simp only [Nat.mul_one]; omega
  · have e : (tou 6 d s j c n).rd = [⟨s, j, n⟩] := rfl
    have e2 : ∀ i, rds 6 d s j n i = (List.range n).map fun q => s + q * j := fun i => rfl
    rw [e]
    simp only [e2, List.mem_map, List.mem_range, List.mem_singleton, exists_eq_left, Rw.at]
    constructor
    · rintro ⟨i, hi, rfl⟩; exact ⟨0, by omega, i, hi, rfl⟩
    · rintro ⟨i, hi, q, hq, rfl⟩; exact ⟨q, hq, rfl⟩
  · have e : (tou 9 d s j c n).rd = [⟨d, 1, c⟩, ⟨s, 1, c⟩] := rfl
    have e2 : ∀ i, rds 9 d s j n i = [d + i, s + i] := fun i => rfl
    have e3 : ∀ f i : Nat, (Rw.mk f 1 c).at i = f + i := fun f i => by unfold Rw.at; rw [Nat.mul_one]
    rw [e]
    simp only [e2, List.mem_cons, List.not_mem_nil, or_false]
    constructor
    · rintro ⟨r, rfl | rfl, i, hi, rfl⟩
      · exact ⟨i, hi, Or.inl (e3 _ _)⟩
      · exact ⟨i, hi, Or.inr (e3 _ _)⟩
    · rintro ⟨i, hi, rfl | rfl⟩
      · exact ⟨_, Or.inl rfl, i, hi, (e3 _ _).symm⟩
      · exact ⟨_, Or.inr rfl, i, hi, (e3 _ _).symm⟩
  · have e : (tou o d s j c n).rd = [⟨d, 1, c⟩] := by unfold tou; rcases ho with rfl | rfl | rfl | rfl <;> rfl
    have e2 : ∀ i, rds o d s j n i = [d + i] := fun i => by unfold rds; rcases ho with rfl | rfl | rfl | rfl <;> rfl
    simp [e, e2, Rw.at]
theorem wr_iff {o d s j c n : Nat} (h : Fo o d s j c n) (x : Nat) : x ∈ flat (tou o d s j c n).wr ↔ ∃ i, i < c ∧ x ∈ wrs o d j n i := by
  rw [flat_iff]
  by_cases h2 : o = 2
  · subst h2
    have e : (tou 2 d s j c n).wr = [⟨d, j, c⟩] := rfl
    have e2 : ∀ i, wrs 2 d j n i = [d + i * j] := fun i => rfl
    simp [e, e2, Rw.at]
  by_cases h5 : o = 5
  · subst h5
    have e : (tou 5 d s j c n).wr = flr d j c n := rfl
    have e2 : ∀ i, wrs 5 d j n i = (List.range n).map fun q => d + i + q * j := fun i => rfl
    rw [e]
    simp only [e2, mem_flr, List.mem_map, List.mem_range]
    constructor
    · rintro ⟨r, ⟨q, hq, rfl⟩, i, hi, rfl⟩
      refine ⟨i, hi, q, hq, ?_⟩
      unfold Rw.at
      simp only [Nat.mul_one]; omega
    · rintro ⟨i, hi, q, hq, rfl⟩
      refine ⟨_, ⟨q, hq, rfl⟩, i, hi, ?_⟩
      unfold Rw.at
      simp only [Nat.mul_one]; omega
  have e : (tou o d s j c n).wr = [⟨d, 1, c⟩] := by
    unfold tou
    rw [if_neg h2, if_neg h5]
    split
    · rfl
    split
    · rfl
    split
    · rfl
    split <;> rfl
  have e2 : ∀ i, wrs o d j n i = [d + i] := fun i => by unfold wrs; rw [if_neg h2, if_neg h5]
  simp [e, e2, Rw.at]
theorem wri_iff {o d s j c n : Nat} (h : Fo o d s j c n) (x b : Nat) : wri o d j c n x = some b ↔ b < c ∧ x ∈ wrs o d j n b := by
  by_cases h2 : o = 2
  · subst h2
    rw [wri_sc (h.jj (by decide))]
    have e2 : wrs 2 d j n b = [d + b * j] := rfl
    rw [e2, List.mem_singleton]
  by_cases h5 : o = 5
  · subst h5
    obtain ⟨h1, h3, h4⟩ := h.n5 rfl
    have hj := h.jj (by decide)
    have e2 : wrs 5 d j n b = (List.range n).map fun q => d + b + q * j := rfl
    rw [e2, List.mem_map]
    simp only [List.mem_range]
    unfold wri
    by_cases hx : x < d
    · rw [if_pos hx]
      constructor
      · intro e; cases e
      · rintro ⟨_, q, _, e⟩; omega
    · rw [if_neg hx, if_neg (by decide), if_pos rfl]
      obtain ⟨y, rfl⟩ : ∃ y, x = d + y := ⟨x - d, by omega⟩
      rw [Nat.add_sub_cancel_left]
      have h6 := Nat.div_add_mod y j
      have h7 := Nat.mod_lt y (show j > 0 by omega)
      constructor
      · intro e
        split at e
        · cases e
        · rename_i hn
          obtain rfl := Option.some.inj e
          refine ⟨by omega, y / j, by omega, ?_⟩
          rw [Nat.mul_comm] at h6
          omega
      · rintro ⟨hb, q, hq, e⟩
        have ey : y = b + j * q := by rw [Nat.mul_comm]; omega
        have e3 : y % j = b := by rw [ey, Nat.add_mul_mod_self_left, Nat.mod_eq_of_lt (by omega)]
        have e4 : y / j = q := by rw [ey, Nat.add_mul_div_left _ _ (by omega), Nat.div_eq_of_lt (by omega)]; omega
        rw [e3, e4, if_neg (by omega)]
  · rw [wri_own h2 h5]
    have e2 : wrs o d j n b = [d + b] := by unfold wrs; rw [if_neg h2, if_neg h5]
    rw [e2, List.mem_singleton]
theorem wrs_nd {o d s j c n : Nat} (h : Fo o d s j c n) (i : Nat) : (wrs o d j n i).Nodup := by
  unfold wrs
  split
  · simp
  split
  · rename_i h2 h5
    have hj := h.jj (by omega)
    rw [List.nodup_iff_pairwise_ne, List.pairwise_map]
    refine (List.pairwise_lt_range (n := n)).imp ?_
    intro a b hab he
    have := Nat.mul_le_mul_right j (show a + 1 ≤ b by omega)
    rw [Nat.succ_mul] at this
    omega
  · simp
theorem at_last {r : Rw} {i : Nat} (hi : i < r.c) : r.at i ≤ r.last := by
  unfold Rw.last Rw.at
  have := Nat.mul_le_mul_right r.j (show i ≤ r.c - 1 by omega)
  omega
/-- a good step's acts stay within the cells, and read no cell that another writes -/
theorem good_rd {o d s j c n : Nat} (h : Fo o d s j c n) {cells : Int} (hb : (tou o d s j c n).below cells = true) {i x : Nat} (hi : i < c) (hx : x ∈ rds o d s j n i) : (x : Int) < cells := by
  obtain ⟨r, hr, k, hk, rfl⟩ := flat_iff.1 ((rd_iff h x).2 ⟨i, hi, hx⟩)
  have h1 := (below_iff.1 hb).1 r hr
  have h2 := at_last hk
  omega
theorem good_wr {o d s j c n : Nat} (h : Fo o d s j c n) {cells : Int} (hb : (tou o d s j c n).below cells = true) {i x : Nat} (hi : i < c) (hx : x ∈ wrs o d j n i) : (x : Int) < cells := by
  obtain ⟨r, hr, k, hk, rfl⟩ := flat_iff.1 ((wr_iff h x).2 ⟨i, hi, hx⟩)
  have h1 := (below_iff.1 hb).2 r hr
  have h2 := at_last hk
  omega
theorem good_ap {o d s j c n : Nat} (h : Fo o d s j c n) (ha : (tou o d s j c n).clash = false) {i x b : Nat} (hi : i < c) (hx : x ∈ rds o d s j n i) (hb : wri o d j c n x = some b) : b = i := by
  have h1 : apa o d s j c n = true := by rw [apa_eq h, ha]; rfl
  exact (apa_iff.1 h1) i hi x hx b hb
theorem mem_tk {l : List Nat} {p y : Nat} (hp : p < l.length) : y ∈ l.take (p + 1) ↔ y ∈ l.take p ∨ y = l.getD p 0 := by
  have e : l.getD p 0 = l[p] := by rw [List.getD_eq_getElem?_getD, List.getElem?_eq_getElem hp]; rfl
  rw [List.take_add_one, List.getElem?_eq_getElem hp, List.mem_append, e]
  show _ ∨ y ∈ [l[p]] ↔ _
  rw [List.mem_singleton]
/-- what is written at a cell when the first acts, and some cells of the next, are done -/
def bvl (o d j c n i : Nat) (l : List Nat) (x : Nat) : Nat :=
  match wri o d j c n x with
  | none => 0
  | some b => if b < i ∨ (b = i ∧ x ∈ l) then b + 1 else 0
theorem bvl_zero (o d j c n x : Nat) : bvl o d j c n 0 [] x = 0 := by
  unfold bvl
  split
  · rfl
  · rw [if_neg (by simp)]
theorem bvl_free {o d s j c n i p x : Nat} (h : Fo o d s j c n) (hi : i < c) (hp : p < (wrs o d j n i).length) (hx : x = (wrs o d j n i).getD p 0) : bvl o d j c n i ((wrs o d j n i).take p) x = 0 ∧ bvl o d j c n i ((wrs o d j n i).take (p + 1)) x = i + 1 := by
  have e : (wrs o d j n i).getD p 0 = (wrs o d j n i)[p] := by rw [List.getD_eq_getElem?_getD, List.getElem?_eq_getElem hp]; rfl
  have hm : x ∈ wrs o d j n i := by rw [hx, e]; exact List.getElem_mem _
  have hw : wri o d j c n x = some i := (wri_iff h x i).2 ⟨hi, hm⟩
  have hnd := wrs_nd (s := s) h i
  unfold bvl
  rw [hw]
  simp only
  refine ⟨?_, ?_⟩
  · rw [if_neg]
    rintro (h1 | ⟨_, h1⟩)
    · omega
    · obtain ⟨k, hk, e2⟩ := List.mem_iff_getElem.1 h1
      rw [List.length_take] at hk
      rw [List.getElem_take] at e2
      have := (List.getElem_inj hnd (h₀ := by omega) (h₁ := hp)).1 (e2.trans (hx.trans e))
      omega
  · exact if_pos (Or.inr ⟨trivial, (mem_tk hp).2 (Or.inr hx)⟩)
theorem bvl_other {o d j c n i p x y : Nat} (hp : p < (wrs o d j n i).length) (hx : x = (wrs o d j n i).getD p 0) (hy : y ≠ x) : bvl o d j c n i ((wrs o d j n i).take (p + 1)) y = bvl o d j c n i ((wrs o d j n i).take p) y := by
  have : y ∈ (wrs o d j n i).take (p + 1) ↔ y ∈ (wrs o d j n i).take p := by
    rw [mem_tk hp, ← hx]
    exact or_iff_left hy
  unfold bvl
  split
  · rfl
  · simp only [this]
theorem bvl_next {o d s j c n i : Nat} (h : Fo o d s j c n) (y : Nat) : bvl o d j c n i (wrs o d j n i) y = bvl o d j c n (i + 1) [] y := by
  unfold bvl
  cases hw : wri o d j c n y with
  | none => rfl
  | some b =>
    have hm := ((wri_iff h y b).1 hw).2
    simp only [List.not_mem_nil, and_false, or_false]
    by_cases hb : b < i + 1
    · rw [if_pos hb, if_pos]
      by_cases hbi : b = i
      · subst hbi; exact Or.inr ⟨rfl, hm⟩
      · exact Or.inl (by omega)
    · rw [if_neg hb, if_neg]
      rintro (h1 | ⟨h1, _⟩) <;> omega
theorem bvl_end {o d s j c n : Nat} (h : Fo o d s j c n) (y : Nat) : bvl o d j c n c [] y = match wri o d j c n y with | none => 0 | some b => b + 1 := by
  unfold bvl
  cases hw : wri o d j c n y with
  | none => rfl
  | some b =>
    have hm := ((wri_iff h y b).1 hw).1
    simp only
    rw [if_pos (Or.inl hm)]
theorem bvl_wr {o d s j c n : Nat} (h : Fo o d s j c n) (y : Nat) : bvl o d j c n c [] y ≠ 0 ↔ y ∈ cl (flat (tou o d s j c n).wr) := by
  rw [bvl_end h, cl_mem, wr_iff h]
  cases hw : wri o d j c n y with
  | none =>
    simp only [ne_eq, not_true, false_iff]
    rintro ⟨i, hi, hm⟩
    rw [(wri_iff h y i).2 ⟨hi, hm⟩] at hw
    cases hw
  | some b =>
    obtain ⟨h1, h2⟩ := (wri_iff h y b).1 hw
    simp only [ne_eq, Nat.succ_ne_zero, not_false_eq_true, true_iff]
    exact ⟨b, h1, h2⟩
/-- the marks of what is read -/
def rvl (o d s j n i : Nat) (l : List Nat) (x : Nat) : Bool := ((List.range i).any fun b => (rds o d s j n b).contains x) || l.contains x
theorem rvl_zero (o d s j n x : Nat) : rvl o d s j n 0 [] x = false := by simp [rvl]
theorem rvl_next (o d s j n i x : Nat) : rvl o d s j n i (rds o d s j n i) x = rvl o d s j n (i + 1) [] x := by
  unfold rvl
  rw [List.range_succ, List.any_append]
  simp
theorem rvl_set {o d s j n i p x : Nat} {l : List Nat} (hp : p < l.length) (hx : x = l.getD p 0) : rvl o d s j n i (l.take (p + 1)) x = true := by
  have hm : x ∈ l.take (p + 1) := (mem_tk hp).2 (Or.inr hx)
  unfold rvl
  simp [hm]
theorem rvl_other {o d s j n i p x y : Nat} {l : List Nat} (hp : p < l.length) (hx : x = l.getD p 0) (hy : y ≠ x) : rvl o d s j n i (l.take (p + 1)) y = rvl o d s j n i (l.take p) y := by
  have h2 : (l.take (p + 1)).contains y = (l.take p).contains y := by
    rw [Bool.eq_iff_iff]
    simp only [List.contains_iff_mem]
    rw [mem_tk hp, ← hx]
    exact or_iff_left hy
  unfold rvl
  rw [h2]
theorem rvl_rd {o d s j c n : Nat} (h : Fo o d s j c n) (y : Nat) : rvl o d s j n c [] y = true ↔ y ∈ cl (flat (tou o d s j c n).rd) := by
  rw [cl_mem, rd_iff h]
  unfold rvl
  simp
end Go.Proofs.YtedfjedmapimnaaDoor.Kc
