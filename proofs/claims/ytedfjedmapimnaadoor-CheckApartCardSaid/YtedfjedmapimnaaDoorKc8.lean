/-
  Rising lists: what is sorted and freed of its doubles; two of one membership are one. Plain.
-/
import Derived.Test.YtedfjedmapimnaaDoorKc0
import Derived.Lib.SlicesCompact
namespace Go.Proofs.YtedfjedmapimnaaDoor.Kc
open Go.Lib
def SS (l : List Nat) : Prop := l.Pairwise (· < ·)
theorem ss_uniq : ∀ {a b : List Nat}, SS a → SS b → (∀ x, x ∈ a ↔ x ∈ b) → a = b
  | [], [], _, _, _ => rfl
  | [], y :: b, _, _, h => by have := (h y).2 (by simp); simp at this
  | x :: a, [], _, _, h => by have := (h x).1 (by simp); simp at this
  | x :: a, y :: b, ha, hb, h => by
    have ha' := List.pairwise_cons.1 ha
    have hb' := List.pairwise_cons.1 hb
    have hxy : x = y := by
      have h1 := (h x).1 (by simp)
      have h2 := (h y).2 (by simp)
      rcases List.mem_cons.1 h1 with e | e
      · exact e
      · rcases List.mem_cons.1 h2 with e2 | e2
        · exact e2.symm
        · have := hb'.1 x e; have := ha'.1 y e2; omega
    subst hxy
    congr 1
    refine ss_uniq ha'.2 hb'.2 fun z => ?_
    constructor
    · intro hz
      rcases List.mem_cons.1 ((h z).1 (List.mem_cons_of_mem _ hz)) with e | e
      · subst e; exact absurd (ha'.1 _ hz) (Nat.lt_irrefl _)
      · exact e
    · intro hz
      rcases List.mem_cons.1 ((h z).2 (List.mem_cons_of_mem _ hz)) with e | e
      · subst e; exact absurd (hb'.1 _ hz) (Nat.lt_irrefl _)
      · exact e
def ci8 (zs : List Nat) : List Int := zs.map fun (z : Nat) => (z : Int)
def cup (zs : List Int) : List Int := compact zs
theorem cup_memU (d : Array Int) (q : Int) : ∀ m, q ∈ compactUpTo d m ↔ ∃ j, j < m ∧ d[j]! = q := by
  intro m
  induction m with
  | zero => simp [compactUpTo]
  | succ m ih =>
    rw [compactUpTo_succ, List.mem_append, ih]
    by_cases hk : keeps d m = true
    · rw [if_pos hk]
      constructor
      · rintro (⟨j, hj, e⟩ | h)
        · exact ⟨j, by omega, e⟩
        · exact ⟨m, by omega, (List.mem_singleton.1 h).symm⟩
      · rintro ⟨j, hj, e⟩
        by_cases c : j = m
        · subst c; exact Or.inr (by simp [e])
        · exact Or.inl ⟨j, by omega, e⟩
    · rw [if_neg hk]
      have hm : ¬ (m = 0 ∨ d[m]! ≠ d[m - 1]!) := fun h => hk (by unfold keeps; exact decide_eq_true h)
      have h0 : m ≠ 0 := fun h => hm (Or.inl h)
      have h1 : d[m]! = d[m - 1]! := Classical.byContradiction fun h => hm (Or.inr h)
      constructor
      · rintro (⟨j, hj, e⟩ | h)
        · exact ⟨j, by omega, e⟩
        · cases h
      · rintro ⟨j, hj, e⟩
        by_cases c : j = m
        · subst c; exact Or.inl ⟨j - 1, by omega, by rw [← h1]; exact e⟩
        · exact Or.inl ⟨j, by omega, e⟩
theorem cup_mem (zs : List Int) (q : Int) : q ∈ compact zs ↔ q ∈ zs := by
  unfold compact
  rw [cup_memU]
  constructor
  · rintro ⟨j, hj, e⟩
    rw [← e]
    have : (zs.toArray)[j]! = zs[j] := by simp [hj]
    rw [this]; exact List.getElem_mem hj
  · intro h
    obtain ⟨j, hj, e⟩ := List.mem_iff_getElem.1 h
    exact ⟨j, hj, by simp [hj, e]⟩
theorem cup_ss (zs : List Int) (h : zs.Pairwise (· ≤ ·)) : (compact zs).Pairwise (· < ·) := by
  unfold compact compactUpTo
  rw [List.pairwise_map]
  have hr : ((List.range zs.length).filter (keeps zs.toArray)).Pairwise (· < ·) := (List.pairwise_lt_range (n := zs.length)).filter _
  refine hr.imp_of_mem ?_
  intro i j hi hj hij
  have hj1 := List.mem_filter.1 hj
  have hjl := List.mem_range.1 hj1.1
  have hk : j = 0 ∨ zs.toArray[j]! ≠ zs.toArray[j - 1]! := of_decide_eq_true hj1.2
  have g : ∀ k (hk : k < zs.length), zs.toArray[k]! = zs[k] := fun k hk => by simp [hk]
  have hle : ∀ a b (ha : a < zs.length) (hb : b < zs.length), a ≤ b → zs[a] ≤ zs[b] := fun a b ha hb hab => by
    rcases Nat.lt_or_eq_of_le hab with h1 | h1
    · exact List.pairwise_iff_getElem.1 h a b ha hb h1
    · subst h1; exact Int.le_refl _
  rw [g j hjl, g i (by omega)]
  rw [g j hjl, g (j - 1) (by omega)] at hk
  have h1 := hle i (j - 1) (by omega) (by omega) (by omega)
  have h2 := hle (j - 1) j (by omega) hjl (by omega)
  have hk2 := hk.resolve_left (by omega)
  omega
/-- all cells of these rows -/
def flat (rs : List Rw) : List Nat := rs.flatMap fun r => (List.range r.c).map r.at
def srt (zs : List Nat) : List Int := (ci8 zs).mergeSort fun x y => decide (x ≤ y)
def cl (zs : List Nat) : List Nat := (compact (srt zs)).map Int.toNat
theorem srt_len (zs : List Nat) : (srt zs).length = zs.length := by unfold srt ci8; rw [List.length_mergeSort, List.length_map]
theorem srt_mem (zs : List Nat) (q : Int) : q ∈ srt zs ↔ ∃ z ∈ zs, (z : Int) = q := by unfold srt ci8; rw [List.mem_mergeSort, List.mem_map]
theorem srt_ss (zs : List Nat) : (srt zs).Pairwise (· ≤ ·) := by
  have := List.pairwise_mergeSort (le := fun (x y : Int) => decide (x ≤ y)) (fun a b c h1 h2 => by simp at *; omega) (fun a b => by simp; omega) (ci8 zs)
  unfold srt
  exact this.imp fun h => by simpa using h
theorem cl_mem (zs : List Nat) (q : Nat) : q ∈ cl zs ↔ q ∈ zs := by
  unfold cl
  rw [List.mem_map]
  constructor
  · rintro ⟨x, hx, rfl⟩
    rw [cup_mem, srt_mem] at hx
    obtain ⟨z, hz, rfl⟩ := hx
    simpa using hz
  · intro h
    exact ⟨(q : Int), by rw [cup_mem, srt_mem]; exact ⟨q, h, rfl⟩, by simp⟩
theorem cl_ss (zs : List Nat) : SS (cl zs) := by
  unfold SS cl
  rw [List.pairwise_map]
  refine (cup_ss _ (srt_ss zs)).imp_of_mem ?_
  intro a b ha hb hab
  rw [cup_mem, srt_mem] at ha hb
  obtain ⟨x, _, rfl⟩ := ha
  obtain ⟨y, _, rfl⟩ := hb
  simp; omega
theorem ci8_cl (zs : List Nat) : ci8 (cl zs) = compact (srt zs) := by
  unfold ci8 cl
  rw [List.map_map]
  conv => rhs; rw [← List.map_id (compact (srt zs))]
  refine List.map_congr_left fun a ha => ?_
  rw [cup_mem, srt_mem] at ha
  obtain ⟨z, _, rfl⟩ := ha
  simp
theorem cl_len (zs : List Nat) : (cl zs).length = (compact (srt zs)).length := by unfold cl; rw [List.length_map]
theorem cl_le (zs : List Nat) : (cl zs).length ≤ zs.length := by rw [cl_len, ← srt_len zs]; unfold compact compactUpTo; rw [List.length_map]; exact Nat.le_trans (List.length_filter_le _ _) (by simp)
theorem flat_snoc (rs : List Rw) (r : Rw) : flat (rs ++ [r]) = flat rs ++ (List.range r.c).map r.at := by simp [flat]
theorem mem_flat {rs : List Rw} {x : Nat} : x ∈ flat rs ↔ ∃ r ∈ rs, ∃ i, i < r.c ∧ r.at i = x := by simp [flat]
end Go.Proofs.YtedfjedmapimnaaDoor.Kc
