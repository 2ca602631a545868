/-
  Plain mathematics: sums of whole numbers that stay below 2^53 are the whole number, from the left, by halves, kept, exact.
-/
import Derived.Test.YtmfnjmgdindlaaaKp9
import Derived.Test.YtmfnjmgdindlaaaEx9
namespace Go.Proofs.Ytmfnjmgdindlaaa.Wn
open Ieee Go.Proofs.Ytmfnjmgdindlaaa.Ari
open Go.Proofs.Ytmfnjmgdindlaaa (co bt lf pf kz kstep kp ls lf_snoc bt_fin)
/-- a whole number as a float -/
def cv (p : Int) : Nat := double.write (.number (decide (p < 0)) p.natAbs 0)
theorem cv_W {p : Int} (h : p.natAbs ≤ 9007199254740992) : W (cv p) p := W_int h
def ns (ps : List Int) : Nat := (ps.map Int.natAbs).sum
theorem ns_snoc (ps : List Int) (p : Int) : ns (ps ++ [p]) = ns ps + p.natAbs := by simp [ns]
theorem ns_le {ps : List Int} {p : Int} (h : p ∈ ps) : p.natAbs ≤ ns ps := by
  induction ps with
  | nil => cases h
  | cons a t ih =>
    rcases List.mem_cons.1 h with rfl | h
    · simp [ns]
    · have := ih h; simp [ns] at *; omega
theorem sum_le (ps : List Int) : ps.sum.natAbs ≤ ns ps := by
  induction ps with
  | nil => simp [ns]
  | cons a t ih => simp [ns] at *; omega
theorem sum_append (a b : List Int) : (a ++ b).sum = a.sum + b.sum := by
  induction a with
  | nil => simp
  | cons x t ih => simp [ih]; omega
theorem ns_append (a b : List Int) : ns (a ++ b) = ns a + ns b := by simp [ns]
theorem co_W {x y : Nat} {a b : Int} (hx : W x a) (hy : W y b) (h : (a + b).natAbs ≤ 9007199254740992) : W (co .add x y) (a + b) := by
  obtain ⟨r, e, hr⟩ := W_add hx hy h
  unfold co
  rw [show floatBits .add .f64 x y = double.add x y from rfl, e]
  exact hr
theorem co_Ws {x y : Nat} {a b : Int} (hx : W x a) (hy : W y b) (h : (a - b).natAbs ≤ 9007199254740992) : W (co .sub x y) (a - b) := by
  obtain ⟨r, e, hr⟩ := W_sub hx hy h
  unfold co
  rw [show floatBits .sub .f64 x y = double.sub x y from rfl, e]
  exact hr
theorem W_zero : W 0 0 := ⟨⟨by decide, by decide⟩, by rw [Int.zero_mul]; decide⟩
theorem W_bt {x : Nat} {a : Int} (h : W x a) : bt x = x := bt_fin (nan_fin h.1)
theorem fold_W : ∀ (t : List Int) (s : Nat) (A : Int), W s A → A.natAbs + ns t ≤ 9007199254740992 → W ((t.map cv).foldl (co .add) s) (A + t.sum)
  | [], s, A, h, _ => by simpa using h
  | p :: t, s, A, h, hb => by
    have hb' : A.natAbs + (p.natAbs + ns t) ≤ 9007199254740992 := by simpa [ns] using hb
    have h1 := co_W h (cv_W (p := p) (by omega)) (by omega)
    have h2 := fold_W t _ _ h1 (by omega)
    rw [List.map_cons, List.foldl_cons, List.sum_cons, ← Int.add_assoc]
    exact h2
theorem lf_W (ps : List Int) (h : ns ps ≤ 9007199254740992) : W (lf (ps.map cv)) ps.sum := by
  cases ps with
  | nil => exact W_zero
  | cons p t =>
    have h' : p.natAbs + ns t ≤ 9007199254740992 := by simpa [ns] using h
    have h1 := cv_W (p := p) (by omega)
    rw [List.map_cons, List.sum_cons]
    show W ((t.map cv).foldl (co .add) (bt (cv p))) _
    rw [W_bt h1]
    exact fold_W t _ _ h1 h'
theorem pf_W : ∀ (f : Nat) (ps : List Int), ns ps ≤ 9007199254740992 → W (pf f (ps.map cv)) ps.sum
  | 0, ps, h => lf_W ps h
  | f + 1, ps, h => by
    unfold pf
    split
    · exact lf_W ps h
    · rw [← List.map_take, ← List.map_drop]
      generalize (ps.map cv).length - (ps.map cv).length / 2 = k
      have e := List.take_append_drop k ps
      have e1 : (ps.take k).sum + (ps.drop k).sum = ps.sum := by rw [← sum_append, e]
      have e2 : ns (ps.take k) + ns (ps.drop k) = ns ps := by rw [← ns_append, e]
      have a1 := sum_le (ps.take k)
      have a2 := sum_le (ps.drop k)
      rw [← e1]
      exact co_W (pf_W f _ (by omega)) (pf_W f _ (by omega)) (by omega)
theorem ls_W {s x t : Nat} {A a : Int} (hs : W s A) (hx : W x a) (ht : W t (A + a)) (h : A.natAbs + a.natAbs ≤ 9007199254740992) : W (ls s x t) 0 := by
  unfold ls
  split
  · have := co_W (co_Ws hs ht (by omega)) hx (by omega)
    rwa [show A - (A + a) + a = 0 by omega] at this
  · have := co_W (co_Ws hx ht (by omega)) hs (by omega)
    rwa [show a - (A + a) + A = 0 by omega] at this
theorem foldk_W : ∀ (t : List Int) (s : Nat × Nat) (A : Int), W s.1 A → W s.2 0 → A.natAbs + ns t ≤ 9007199254740992 → W ((t.map cv).foldl kstep s).1 (A + t.sum) ∧ W ((t.map cv).foldl kstep s).2 0
  | [], s, A, h, h0, _ => by simpa using ⟨h, h0⟩
  | p :: t, s, A, h, h0, hb => by
    have hb' : A.natAbs + (p.natAbs + ns t) ≤ 9007199254740992 := by simpa [ns] using hb
    have hp := cv_W (p := p) (by omega)
    have h1 := co_W h hp (by omega)
    have h2 := ls_W h hp h1 (by omega)
    have h3 := co_W h0 h2 (by decide)
    have h4 := foldk_W t (kstep s (cv p)) (A + p) h1 h3 (by omega)
    rw [List.map_cons, List.foldl_cons, List.sum_cons, ← Int.add_assoc]
    exact h4
theorem kp_W (ps : List Int) (h : ns ps ≤ 9007199254740992) : W (kp (ps.map cv)) ps.sum := by
  unfold kp
  split
  · exact lf_W ps h
  · cases ps with
    | nil => rename_i c; simp at c
    | cons p t =>
      have h' : p.natAbs + ns t ≤ 9007199254740992 := by simpa [ns] using h
      have h1 := cv_W (p := p) (by omega)
      have h2 := foldk_W t (bt (cv p), 0) p (by rw [W_bt h1]; exact h1) W_zero h'
      have h3 := co_W h2.1 h2.2 (by have := sum_le t; omega)
      rw [Int.add_zero] at h3
      rw [List.sum_cons]
      exact h3
theorem W_ud {x : Nat} {a : Int} (h : W x a) : (Sm.uq x : Int) - (Sm.dq x : Int) = a * ((2 ^ ul : Nat) : Int) := by
  rw [← h.2]
  unfold Sm.uq Sm.dq fz vl sg
  by_cases c : x < 9223372036854775808
  · rw [if_pos c, if_pos c, if_neg (by simp; omega), Nat.mod_eq_of_lt c]; omega
  · rw [if_neg c, if_neg c, if_pos (by simp; omega)]; omega
theorem ud_W : ∀ (ps : List Int), ns ps ≤ 9007199254740992 → (Sm.up (ps.map cv) : Int) - (Sm.dn (ps.map cv) : Int) = ps.sum * ((2 ^ ul : Nat) : Int)
  | [], _ => by simp [Sm.up, Sm.dn]
  | p :: t, h => by
    have h' : p.natAbs + ns t ≤ 9007199254740992 := by simpa [ns] using h
    have h1 := W_ud (cv_W (p := p) (by omega))
    have h2 := ud_W t (by omega)
    rw [List.sum_cons, Int.add_mul, ← h1, ← h2]
    simp only [Sm.up, Sm.dn, List.map_cons, List.sum_cons]
    omega
theorem fin_W (ps : List Int) (h : ns ps ≤ 9007199254740992) : ∀ x ∈ ps.map cv, fin x := fun x hx => by
  obtain ⟨p, hp, rfl⟩ := List.mem_map.1 hx
  exact (cv_W (Nat.le_trans (ns_le hp) h)).1
theorem word_rd (s : Bool) (n : Nat) : (if s then 9223372036854775808 + Sm.rd n else Sm.rd n) = double.nearest s n (-1074) := by
  rw [nearest_eq, word_eq]; rfl
theorem exF_W {u d : Nat} {a : Int} (h : (u : Int) - (d : Int) = a * ((2 ^ ul : Nat) : Int)) (ha : a.natAbs ≤ 9007199254740992) : W (Sm.exF u d) a := by
  have hp := pow_pos_int
  have hn : ((u : Int) - (d : Int)).natAbs = a.natAbs * 2 ^ ul := by rw [h, Int.natAbs_mul, Int.natAbs_natCast]
  unfold Sm.exF
  by_cases c : u < d
  · rw [if_pos c]
    have e : d - u = a.natAbs * 2 ^ ul := by rw [← hn]; omega
    have hneg : a < 0 := by
      apply Int.lt_of_not_ge
      intro h0
      have := Int.mul_nonneg h0 (Int.le_of_lt hp)
      omega
    have := W_of true a ha (fun _ => by simp [hneg])
    have e2 := word_rd true (a.natAbs * 2 ^ ul)
    rw [if_pos rfl] at e2
    rw [e, e2]; exact this
  · rw [if_neg c]
    have e : u - d = a.natAbs * 2 ^ ul := by rw [← hn]; omega
    have hpos : ¬ a < 0 := fun h0 => by
      have := Int.mul_neg_of_neg_of_pos h0 hp
      omega
    have := W_of false a ha (fun _ => by simp [hpos])
    have e2 := word_rd false (a.natAbs * 2 ^ ul)
    rw [if_neg Bool.false_ne_true] at e2
    rw [e, e2]; exact this
theorem no_flags {xs : List Nat} (h : ∀ x ∈ xs, fin x) : Sm.anyN xs = false ∧ Sm.anyI xs = false ∧ Sm.anyJ xs = false := by
  refine ⟨?_, ?_, ?_⟩ <;> refine List.any_eq_false.2 fun x hx => ?_ <;> have hf := h x hx
  · rw [nan_fin hf]; simp
  · have := hf.2; simp; omega
  · have := hf.2; simp; omega
theorem exB_fin {xs : List Nat} (h : ∀ x ∈ xs, fin x) : Sm.exB xs = if Sm.allZ xs then 9223372036854775808 else Sm.exF (Sm.up xs) (Sm.dn xs) := by
  obtain ⟨a, b, c⟩ := no_flags h
  unfold Sm.exB
  rw [a, b, c]; rfl
theorem allZ_ud {xs : List Nat} (h : Sm.allZ xs = true) : Sm.up xs = 0 ∧ Sm.dn xs = 0 := by
  unfold Sm.allZ at h
  simp only [Bool.and_eq_true, List.all_eq_true, beq_iff_eq] at h
  have h2 := h.2
  clear h
  induction xs with
  | nil => exact ⟨rfl, rfl⟩
  | cons a t ih =>
    have ha := h2 a (by simp)
    have ht := ih (fun x hx => h2 x (by simp [hx]))
    simp only [Sm.up, Sm.dn, List.map_cons, List.sum_cons] at *
    rw [ht.1, ht.2, ha]
    exact ⟨by decide, by decide⟩
theorem ex_W (ps : List Int) (h : ns ps ≤ 9007199254740992) : W (Sm.exB (ps.map cv)) ps.sum := by
  have hud := ud_W ps h
  have hs := sum_le ps
  rw [exB_fin (fin_W ps h)]
  split
  · rename_i c
    obtain ⟨a, b⟩ := allZ_ud c
    rw [a, b] at hud
    have hp := pow_pos_int
    have h0 : ps.sum = 0 := by
      rcases Int.mul_eq_zero.1 (show ps.sum * ((2 ^ ul : Nat) : Int) = 0 by omega) with h | h
      · exact h
      · omega
    rw [h0]
    exact ⟨⟨by decide, by decide⟩, by rw [Int.zero_mul]; decide⟩
  · exact exF_W hud (by omega)
end Go.Proofs.Ytmfnjmgdindlaaa.Wn
