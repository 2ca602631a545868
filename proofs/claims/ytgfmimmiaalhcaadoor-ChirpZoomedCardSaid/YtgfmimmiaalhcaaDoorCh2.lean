/-
  Contracts of package chirp: Other, Size, where nothing is refused; the other list and the power of two as plain things.
-/
import Derived.Test.YtgfmimmiaalhcaaDoorCh1
namespace Go.Proofs.YtgfmimmiaalhcaaDoor
open Flo Go.RowKit

/-- the other list, as far as chirp j is laid -/
def oul (M m j : Nat) : List (Nat × Nat) := (List.range m).map (otu M m j)
theorem oul_len (M m j : Nat) : (oul M m j).length = m := by simp [oul]
theorem oul_at {M m j i : Nat} (h : i < m) : (oul M m j).getD i (0, 0) = otu M m j i := getD_map_range _ _ _ _ h
theorem oul_zero (M m : Nat) : oul M m 0 = List.replicate m (0, 0) := by
  apply List.ext_getElem
  · simp [oul]
  · intro k h1 h2; simp [oul, otu]
theorem oul_first (M m : Nat) : (oul M m 0).set 0 (cjp (chp M 0)) = oul M m 1 := by
  apply List.ext_getElem
  · simp [oul]
  · intro k h1 h2
    have hk : k < m := by simpa [oul] using h2
    rw [List.getElem_set]
    simp only [oul, List.getElem_map, List.getElem_range, otu]
    by_cases c : 0 = k
    · subst c; simp
    · rw [if_neg c, if_neg (by omega), if_neg (by omega), if_neg (by omega), if_neg (by omega)]
theorem oul_step {M m n j : Nat} (h0 : 0 < j) (hj : j < n) (hm : 2 * n - 1 ≤ m) : ((oul M m j).set j (cjp (chp M (j : Int)))).set (m - j) (cjp (chp M (j : Int))) = oul M m (j + 1) := by
  apply List.ext_getElem
  · simp [oul]
  · intro k h1 h2
    have hk : k < m := by simpa [oul] using h2
    rw [List.getElem_set, List.getElem_set]
    simp only [oul, List.getElem_map, List.getElem_range, otu]
    by_cases c : m - j = k
    · rw [if_pos c, if_neg (by omega), if_pos (by omega)]
      have e : m - k = j := by omega
      rw [e]
    · rw [if_neg c]
      by_cases c2 : j = k
      · subst c2; simp
      · rw [if_neg c2]
        by_cases c3 : k < j
        · rw [if_pos c3, if_pos (by omega)]
        · rw [if_neg c3, if_neg (by omega : ¬ k < j + 1)]
          by_cases c4 : 0 < k ∧ m - k < j
          · rw [if_pos c4, if_pos (by omega)]
          · rw [if_neg c4, if_neg (by omega)]
theorem otu_lim {M : Nat} (h : 0 < M) (hM : M ≤ 4194304) (m j i : Nat) : (otu M m j i).1 < 18446744073709551616 ∧ (otu M m j i).2 < 18446744073709551616 := by
  have key : ∀ k : Int, (cjp (chp M k)).1 < 18446744073709551616 ∧ (cjp (chp M k)).2 < 18446744073709551616 := fun k => by
    have := chp_fin h hM k
    exact ⟨this.1.1, Ari.ng_lt this.2.1⟩
  unfold otu
  split
  · exact key _
  · split
    · exact key _
    · exact ⟨by decide, by decide⟩
theorem oul_lim {M : Nat} (h : 0 < M) (hM : M ≤ 4194304) (m j : Nat) : Lim (oul M m j) := by
  intro i hi
  rw [oul_len] at hi
  rw [oul_at hi]
  exact otu_lim h hM m j i
/-- a list of pairs in a row of its own, none but these -/
structure Rw (w : World) (g n : Nat) (us : List (Nat × Nat)) : Prop where
  own : w.ownsRow g 23 1 (.slice (some ⟨g, 0, none⟩) n n) n (cz us)
  len : us.length = n
theorem Rw.cell {w : World} {g n : Nat} {us : List (Nat × Nat)} (h : Rw w g n us) {k : Nat} (hk : k < n) : w.cell? ⟨g, k, none⟩ = some (.complex .f64 (us.getD k (0, 0)).1 (us.getD k (0, 0)).2) := by
  have := h.own.cellAt k (by omega)
  rw [cz_get us k (by rw [h.len]; exact hk)] at this
  simpa using this
theorem Rw.put {w : World} {g n : Nat} {us : List (Nat × Nat)} (h : Rw w g n us) (i a b : Nat) : Rw (w.setCell ⟨g, i, none⟩ (.complex .f64 a b)) g n (us.set i (a, b)) := by
  have h1 := (h.own.stored i (.complex .f64 a b)).1
  rw [cz_set us i (a, b)] at h1
  exact ⟨h1, by rw [List.length_set, h.len]⟩
theorem Rw.keep {w w' : World} {g n : Nat} {us : List (Nat × Nat)} (h : Rw w g n us) (hb : Below w.heap.size w w') : Rw w' g n us := ⟨own_blw h.own hb, h.len⟩
theorem Rw.frozen {w : World} {g n : Nat} {us : List (Nat × Nat)} (h : Rw w g n us) (k : Nat) : w.frozen? ⟨g, k, none⟩ = false := by
  have := h.own.frozenAt k
  simpa using this
theorem Rw.rd {w : World} {g n : Nat} {us : List (Nat × Nat)} (h : Rw w g n us) : RdC w (.slice (some ⟨g, 0, none⟩) n n) us := by
  have := h.len
  subst this
  exact RdC.of_own h.own
theorem Rw.lt {w : World} {g n : Nat} {us : List (Nat × Nat)} (h : Rw w g n us) : g < w.heap.size := (h.own.lt g rfl).2
theorem Rw.made {w w' : World} {n M : Nat} (h : w'.ownsRow w.heap.size 23 1 (.slice (some ⟨w.heap.size, 0, none⟩) n n) n (List.replicate n (.complex .f64 0 0))) : Rw w' w.heap.size n (oul M n 0) := by
  refine ⟨?_, oul_len ..⟩
  rw [oul_zero, ← cz_rep]
  exact h
set_option maxHeartbeats 2000000 in
theorem otherOk_c (n m M : Nat) (w : World) (h : 0 < n) (hn : n ≤ 16384) (hm : m ≤ 16384) (hnm : 2 * n - 1 ≤ m) (hM : Hid (M = 2 * n)) :
    Calls Tryd.prog 20 #[.int .i64 n, .int .i64 m] w fun e w' => ∃ g, e = .returned (.tuple #[.slice (some ⟨g, 0, none⟩) m m, .nilIface]) ∧ w.heap.size ≤ g ∧ Rw w' g m (oul M m n) ∧ Below w.heap.size w w' := by
  have hM0 : Hid (0 < M ∧ M ≤ 4194304) := by show _ ∧ _; rw [hM.out]; omega
  obtain ⟨w1, hmk, hrow, hb1⟩ := makeCx w m (by omega)
  have R0 : Hid (Rw w1 w.heap.size m (oul M m 0)) := Rw.made hrow.out
  have B1 : Hid (Below w.heap.size w w1) := hb1
  have hg3 : (0 : Int) ≤ (m : Int) := by omega
  have hc := leastOk_c n w h hn
  obtain ⟨K, hK⟩ : ∃ K, 2 * n - 1 = K := ⟨_, rfl⟩
  have hKH : Hid (2 * n - 1 = K) := hK
  rw [hK] at hc hnm
  have q1 : ((K : Int) == 0) = false := beq_eq_false_iff_ne.2 (by omega)
  have q2 : decide ((m : Int) < (K : Int)) = false := decide_eq_false (by omega)
  have q3 : decide ((m : Int) > 16384) = false := decide_eq_false (by omega)
  have hm0 : 0 < m := by omega
  have hconj := fun j W => cConj_c (chp M j).1 (chp M j).2 W (chp_fin hM0.out.1 hM0.out.2 j).2.1
  have hconjH : Hid (∀ (j : Int) W, Calls Tryd.prog 32 #[.complex .f64 (chp M j).1 (chp M j).2] W _) := hconj
  clear hrow hK hconj hb1
  go_enter Tryd.func20, Tryd.ntmps20
  go_wp2_with fail
  refine hc.mono ?_
  rintro e w0 ⟨rfl, rfl⟩
  clear hc
  go_wp2_with fail
  clear hmk q1 q2 q3
  refine (chirp_c n M 0 w1 h hn hM).mono ?_
  rintro e w2 ⟨rfl, B2⟩
  have R2 : Hid (Rw w2 w0.heap.size m (oul M m 0)) := R0.out.keep B2
  have B2' : Hid (Below w0.heap.size w0 w2) := below_tr B1.out B2
  clear B2 R0 B1
  go_wp2_with fail
  refine (hconjH.out 0 w2).mono ?_
  rintro e w3 ⟨rfl, rfl⟩
  have c3 := R2.out.cell hm0
  have f2 := R2.out.frozen 0
  have R3 : Hid (Rw (w2.setCell ⟨w0.heap.size, 0, none⟩ (.complex .f64 (chp M 0).1 (Ari.ng (chp M 0).2))) w0.heap.size m (oul M m 1)) := by
    have := R2.out.put 0 (chp M 0).1 (Ari.ng (chp M 0).2)
    rw [show ((chp M 0).1, Ari.ng (chp M 0).2) = cjp (chp M 0) from rfl, oul_first] at this
    exact this
  have B3 : Hid (Below w0.heap.size w0 (w2.setCell ⟨w0.heap.size, 0, none⟩ (.complex .f64 (chp M 0).1 (Ari.ng (chp M 0).2)))) := B2'.out.setCell (p := ⟨w0.heap.size, 0, none⟩) (Nat.le_refl _) _
  have hsc := store_cx
  clear R2 B2'
  generalize chp M 0 = z0 at *
  obtain ⟨x0, y0⟩ := z0
  go_wp2_with fail
  clear c3 f2
  go_loopw [8, 9] (fun sj _ wx => ∃ j : Nat, 1 ≤ j ∧ j ≤ n ∧ sj = .int .i64 (j : Int) ∧ Hid (Rw wx w0.heap.size m (oul M m j)) ∧ Hid (Below w0.heap.size w0 wx)) (fun sj _ _ => n - (intOf sj).toNat)
  case atStart => exact ⟨1, Nat.le_refl _, h, rfl, R3, B3⟩
  case round =>
    clear R3 B3
    obtain ⟨j, hj1, hjn, rfl, R, hb⟩ := hrel
    by_cases hlt : j < n
    · have hlt' : (j : Int) < (n : Int) := by omega
      have hjm : j < m := by have := hKH.out; omega
      obtain ⟨t, ht, ht1⟩ : ∃ t : Nat, Hid (t = m - j) ∧ (m : Int) - (j : Int) = (t : Int) := ⟨m - j, (rfl : _ = _), by omega⟩
      have htm : t < m := by have := ht.out; omega
      go_wp2_with fail
      refine (chirp_c n M (j : Int) wr h hn hM).mono ?_
      rintro e w4 ⟨rfl, B4⟩
      have R4 : Hid (Rw w4 w0.heap.size m (oul M m j)) := R.out.keep B4
      have B4' : Hid (Below w0.heap.size w0 w4) := below_tr hb.out B4
      clear R hb B4
      go_wp2_with fail
      refine (hconjH.out (j : Int) w4).mono ?_
      rintro e w5 ⟨rfl, rfl⟩
      have c4 := R4.out.cell hjm
      have f4 := R4.out.frozen j
      have RA := R4.out.put j (chp M (j : Int)).1 (Ari.ng (chp M (j : Int)).2)
      have c5 := RA.cell htm
      have f5 := RA.frozen t
      have RB := RA.put t (chp M (j : Int)).1 (Ari.ng (chp M (j : Int)).2)
      rw [show ((chp M (j : Int)).1, Ari.ng (chp M (j : Int)).2) = cjp (chp M (j : Int)) from rfl, ht.out, oul_step hj1 hlt (by rw [hKH.out]; exact hnm), ← ht.out] at RB
      have RBH : Hid (Rw ((w4.setCell ⟨w0.heap.size, j, none⟩ (.complex .f64 (chp M (j : Int)).1 (Ari.ng (chp M (j : Int)).2))).setCell ⟨w0.heap.size, t, none⟩ (.complex .f64 (chp M (j : Int)).1 (Ari.ng (chp M (j : Int)).2))) w0.heap.size m (oul M m (j + 1))) := RB
      have B5 : Hid (Below w0.heap.size w0 ((w4.setCell ⟨w0.heap.size, j, none⟩ (.complex .f64 (chp M (j : Int)).1 (Ari.ng (chp M (j : Int)).2))).setCell ⟨w0.heap.size, t, none⟩ (.complex .f64 (chp M (j : Int)).1 (Ari.ng (chp M (j : Int)).2)))) := (B4'.out.setCell (p := ⟨w0.heap.size, j, none⟩) (Nat.le_refl _) _).setCell (p := ⟨w0.heap.size, t, none⟩) (Nat.le_refl _) _
      clear RA RB R4 B4'
      generalize chp M (j : Int) = z at *
      obtain ⟨x, y⟩ := z
      go_wp2_with fail
      go_roundw
      case rel => exact ⟨j + 1, by omega, by omega, by go_num, RBH, B5⟩
      case measure => simp [intOf]; omega
    · have hlt' : decide ((j : Int) < (n : Int)) = false := decide_eq_false (by omega)
      have ej : j = n := by omega
      subst ej
      go_wp2_with fail
      go_ret2
      exact ⟨_, rfl, Nat.le_refl _, R.out, hb.out⟩
/-- the least power of two that is at least K -/
def Sz (K s : Nat) : Prop := ∃ t, s = 2 ^ t ∧ K ≤ s ∧ (t = 0 ∨ s < 2 * K)
theorem Sz.uniq {K s s' : Nat} (h : Sz K s) (h' : Sz K s') : s = s' := by
  obtain ⟨t, rfl, h1, h2⟩ := h
  obtain ⟨t', rfl, h3, h4⟩ := h'
  have key : ∀ a b : Nat, K ≤ 2 ^ a → (b = 0 ∨ 2 ^ b < 2 * K) → ¬ a < b := fun a b ha hb hab => by
    rcases hb with rfl | hb
    · omega
    · have : 2 ^ (a + 1) ≤ 2 ^ b := Nat.pow_le_pow_right (by decide) hab
      rw [Nat.pow_succ] at this
      omega
  have k1 := key t t' h1 h4
  have k2 := key t' t h3 h2
  rw [show t = t' by omega]
theorem sz_small {K t : Nat} (h : t = 0 ∨ 2 ^ t < 2 * K) (hK : K ≤ 16383) : 2 ^ t ≤ 16384 := by
  rcases h with rfl | h
  · decide
  · have h1 : ¬ 15 ≤ t := fun h15 => by
      have : 2 ^ 15 ≤ 2 ^ t := Nat.pow_le_pow_right (by decide) h15
      omega
    have : 2 ^ t ≤ 2 ^ 14 := Nat.pow_le_pow_right (by decide) (by omega)
    exact this
set_option maxHeartbeats 1000000 in
theorem sizeOk_c (n : Nat) (w : World) (h : 0 < n) (hn : n ≤ 8192) :
    Calls Tryd.prog 15 #[.int .i64 n] w fun e w' => ∃ s : Nat, e = .returned (.tuple #[.int .i64 (s : Int), .nilIface]) ∧ Sz (2 * n - 1) s ∧ s ≤ 16384 ∧ w' = w := by
  have hc := leastOk_c n w h (by omega)
  obtain ⟨K, hK⟩ : ∃ K, 2 * n - 1 = K := ⟨_, rfl⟩
  rw [hK] at hc ⊢
  have hK1 : K ≤ 16383 := by omega
  have q1 : ((K : Int) == 0) = false := beq_eq_false_iff_ne.2 (by omega)
  clear hK
  go_enter Tryd.func15, Tryd.ntmps15
  go_wp2_with fail
  refine hc.mono ?_
  rintro e w0 ⟨rfl, rfl⟩
  clear hc
  go_wp2_with fail
  go_loopw [5] (fun ss wx => ∃ s : Nat, ss = .int .i64 (s : Int) ∧ s ≤ 32766 ∧ 0 < s ∧ Hid (∃ t, s = 2 ^ t ∧ (t = 0 ∨ 2 ^ t < 2 * K)) ∧ wx = w0) (fun ss _ => K - (intOf ss).toNat)
  case atStart => exact ⟨1, rfl, by decide, by decide, ⟨0, rfl, .inl rfl⟩, rfl⟩
  case round =>
    obtain ⟨s, rfl, hs1, hs0, hs, rfl⟩ := hrel
    by_cases hlt : s < K
    · have hlt' : (s : Int) < (K : Int) := by omega
      obtain ⟨s2, hs2, hs3⟩ : ∃ s2 : Nat, Hid (s2 = 2 * s) ∧ (s : Int) * 2 = (s2 : Int) := ⟨2 * s, (rfl : _ = _), by omega⟩
      have hs4 : s2 ≤ 32766 := by have := hs2.out; omega
      have hs5 : 0 < s2 := by have := hs2.out; omega
      have hH : Hid (∃ t, s2 = 2 ^ t ∧ (t = 0 ∨ 2 ^ t < 2 * K)) := by
        obtain ⟨t, e, _⟩ := hs.out
        exact ⟨t + 1, by rw [hs2.out, e, Nat.pow_succ]; omega, .inr (by rw [Nat.pow_succ]; omega)⟩
      clear hs
      go_wp2_with fail
      go_roundw
      case rel => exact ⟨s2, rfl, hs4, hs5, hH, by trivial⟩
      case measure => simp [intOf]; have := hs2.out; omega
    · have hlt' : decide ((s : Int) < (K : Int)) = false := decide_eq_false (by omega)
      have hE : Hid (Sz K s ∧ s ≤ 16384) := by
        obtain ⟨t, e, h2⟩ := hs.out
        exact ⟨⟨t, e, by omega, by rw [e]; exact h2⟩, by rw [e]; exact sz_small h2 hK1⟩
      have q2 : decide ((s : Int) > 16384) = false := decide_eq_false (by have := hE.out.2; omega)
      clear hs
      go_wp2_with fail
      go_ret2
      exact ⟨s, rfl, hE.out.1, hE.out.2, rfl⟩
end Go.Proofs.YtgfmimmiaalhcaaDoor
