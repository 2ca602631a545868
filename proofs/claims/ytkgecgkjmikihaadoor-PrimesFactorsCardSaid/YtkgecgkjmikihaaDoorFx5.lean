/-
  Plain mathematics: how many divisors, counted along the list of factors; divisors in pairs. No condition; nothing of the program.
-/
import Derived.Test.YtkgecgkjmikihaaDoorDvs
namespace Go.Proofs.YtkgecgkjmikihaaDoor.Nt
/-- what is counted: the last factor l came r times; c: how many divisors the product of those ahead of it has -/
def Cnt (pre : List Nat) (c r l : Nat) : Prop := ∃ A : List Nat, pre = A ++ List.replicate r l ∧ l ∉ A ∧ c = (divs (prod A)).length ∧ (∀ x ∈ pre, x ≤ l)
theorem Cnt.start : Cnt [] 1 0 0 := ⟨[], rfl, by simp, by decide, by simp⟩
theorem prod_rep (r l : Nat) : prod (List.replicate r l) = l ^ r := by
  induction r with
  | zero => rfl
  | succ r ih => rw [List.replicate_succ, prod_cons, ih, Nat.pow_succ, Nat.mul_comm]
theorem Cnt.total {pre : List Nat} {c r l : Nat} (h : Cnt pre c r l) (hp : ∀ x ∈ pre, Pr x) : c * (r + 1) = (divs (prod pre)).length := by
  obtain ⟨A, rfl, hA, rfl, _⟩ := h
  by_cases hr : r = 0
  · subst hr; simp
  · have hl : Pr l := hp l (by simp [hr])
    have hd : ¬ l ∣ prod A := by
      intro hd
      obtain ⟨x, hx, hxd⟩ := hl.dvd_prod A hd
      rcases (hp x (by simp [hx])).2 l hxd with e | e
      · have := hl.1; omega
      · subst e; exact hA hx
    have hA0 : 0 < prod A := prod_pos fun x hx => by have := (hp x (by simp [hx])).1; omega
    rw [prod_append, prod_rep, Nat.mul_comm (prod A), divs_pow hl hA0 hd, Nat.mul_comm]
theorem Cnt.same {pre : List Nat} {c r l : Nat} (h : Cnt pre c r l) : Cnt (pre ++ [l]) c (r + 1) l := by
  obtain ⟨A, rfl, hA, hc, hx⟩ := h
  refine ⟨A, ?_, hA, hc, fun x hx' => ?_⟩
  · rw [List.append_assoc, List.replicate_succ']
  · rcases List.mem_append.1 hx' with h1 | h1
    · exact hx x h1
    · have : x = l := by simpa using h1
      omega
theorem Cnt.next {pre : List Nat} {c r l p : Nat} (h : Cnt pre c r l) (hp : ∀ x ∈ pre, Pr x) (hlt : l < p) : Cnt (pre ++ [p]) (c * (r + 1)) 1 p := by
  have ht := h.total hp
  obtain ⟨A, e, hA, hc, hx⟩ := h
  refine ⟨pre, rfl, fun hm => ?_, ht, fun x hx' => ?_⟩
  · have := hx p hm; omega
  · rcases List.mem_append.1 hx' with h1 | h1
    · have := hx x h1; omega
    · have : x = p := by simpa using h1
      omega
theorem prod_take_le {zs : List Nat} {n : Nat} (h : Fac n zs) (i : Nat) : prod (zs.take i) ≤ n ∧ 0 < prod (zs.take i) := by
  have hp : ∀ x ∈ zs, 0 < x := fun x hx => by have := (h.2.1 x hx).1; omega
  have h1 : prod (zs.take i) * prod (zs.drop i) = n := by rw [← prod_append, List.take_append_drop]; exact h.1
  have h2 : 0 < prod (zs.drop i) := prod_pos fun x hx => hp x (List.mem_of_mem_drop hx)
  have h3 : 0 < prod (zs.take i) := prod_pos fun x hx => hp x (List.mem_of_mem_take hx)
  refine ⟨?_, h3⟩
  have := Nat.mul_le_mul_left (prod (zs.take i)) h2
  omega
theorem take_snoc {zs : List Nat} {i : Nat} (h : i < zs.length) : zs.take (i + 1) = zs.take i ++ [zs.getD i 0] := by
  rw [List.take_succ_eq_append_getElem h]
  simp [List.getD, h]
theorem Cnt.fits {zs : List Nat} {n i c r l : Nat} (h : Fac n zs) (hn : n ≤ 4294967296) (hc : Cnt (zs.take i) c r l) : c * (r + 1) ≤ 5000 := by
  obtain ⟨h1, h2⟩ := prod_take_le h i
  rw [hc.total fun x hx => h.2.1 x (List.mem_of_mem_take hx)]
  exact divs_few h2 (by omega)
/-- what l is: below or at what comes -/
theorem fac_le {zs : List Nat} {n i l : Nat} (h : Fac n zs) (hi : i < zs.length) (hl : l = 0 ∨ l ∈ zs.take i) : l ≤ zs.getD i 0 := by
  rcases hl with rfl | hl
  · exact Nat.zero_le _
  · have hs := h.2.2
    rw [← List.take_append_drop i zs, List.pairwise_append] at hs
    refine hs.2.2 l hl _ ?_
    have e : zs.getD i 0 = zs[i] := by simp [List.getD, hi]
    rw [e, List.drop_eq_getElem_cons hi]
    exact List.mem_cons_self
/-- divisors come in pairs -/
theorem divs_rev {n : Nat} (hn : 0 < n) : (divs n).reverse = (divs n).map fun x => n / x := by
  have hs := divs_sorted n
  have e : ((divs n).map fun x => n / x).reverse = divs n := by
    refine sorted_ext ?_ hs fun x => ?_
    · rw [List.pairwise_reverse, List.pairwise_map]
      refine List.Pairwise.imp_of_mem ?_ hs
      intro a b ha hb hab
      obtain ⟨u, hu⟩ := (mem_divs hn).1 ha
      obtain ⟨v, hv⟩ := (mem_divs hn).1 hb
      have a0 : 0 < a := Nat.pos_of_dvd_of_pos ⟨u, hu⟩ hn
      have b0 : 0 < b := Nat.pos_of_dvd_of_pos ⟨v, hv⟩ hn
      have e1 : n / a = u := by rw [hu, Nat.mul_div_cancel_left _ a0]
      have e2 : n / b = v := by rw [hv, Nat.mul_div_cancel_left _ b0]
      rw [e1, e2]
      apply Nat.lt_of_not_le
      intro c
      have h1 : a * u ≤ a * v := Nat.mul_le_mul_left _ c
      have v0 : 0 < v := by
        apply Nat.pos_of_ne_zero
        intro c0; rw [c0] at hv; omega
      have h2 : a * v < b * v := Nat.mul_lt_mul_of_pos_right hab v0
      omega
    · rw [List.mem_reverse, List.mem_map, mem_divs hn]
      constructor
      · rintro ⟨y, hy, rfl⟩
        exact Nat.div_dvd_of_dvd ((mem_divs hn).1 hy)
      · intro hx
        refine ⟨n / x, (mem_divs hn).2 (Nat.div_dvd_of_dvd hx), ?_⟩
        exact Nat.div_div_self hx (by omega)
  rw [← e, List.reverse_reverse, e]
theorem divs_across {n i : Nat} (hn : 0 < n) (hi : i < (divs n).length) : (divs n).getD ((divs n).length - 1 - i) 0 = n / (divs n).getD i 0 := by
  have h := congrArg (fun l => l.getD i 0) (divs_rev hn)
  simp only [List.getD_eq_getElem?_getD] at h ⊢
  rw [List.getElem?_reverse hi, List.getElem?_map, List.getElem?_eq_getElem hi] at h
  rw [List.getElem?_eq_getElem hi]
  simpa using h
theorem divs_rise {n i : Nat} (hi : i + 1 < (divs n).length) : (divs n).getD i 0 < (divs n).getD (i + 1) 0 := by
  have := List.pairwise_iff_getElem.1 (divs_sorted n) i (i + 1) (by omega) hi (by omega)
  simpa [List.getD, hi, show i < (divs n).length by omega] using this
theorem divs_at {n i : Nat} (hn : 0 < n) (hi : i < (divs n).length) : 1 ≤ (divs n).getD i 0 ∧ (divs n).getD i 0 ≤ n ∧ n % (divs n).getD i 0 = 0 := by
  have hm : (divs n).getD i 0 ∈ divs n := by simp [List.getD, hi]
  have hd := (mem_divs hn).1 hm
  exact ⟨Nat.pos_of_dvd_of_pos hd hn, Nat.le_of_dvd hn hd, Nat.mod_eq_zero_of_dvd hd⟩
end Go.Proofs.YtkgecgkjmikihaaDoor.Nt
