/-
  Layer 14, plain: costs; the orders of a length by a policy; the cheapest of them.
-/
import Derived.WalkKit
import Ieee.Arith
import Derived.WalkLawsBesides
import Derived.Test.YtoaccmblaifnmaaDoorBa1
import Derived.Test.YtoaccmblaifnmaaDoorBa2
namespace Go.Proofs.YtoaccmblaifnmaaDoor
open Tr
namespace Pl
/-- what a butterfly costs -/
def wk (n : Int) : Nat := if n = 2 then 4 else if n = 3 then 16 else if n = 4 then 16 else 48
/-- kind, length and cost, out of those of the Kids -/
def mc (k n : Int) (l : List (Int × Nat × Nat)) : Int × Nat × Nat :=
  if k = 1 then (k, n.toNat, 8 * n.toNat * n.toNat)
  else if k = 2 then (k, n.toNat, wk n)
  else if k = 3 then match l with
    | [a, b] => (k, a.2.1 * b.2.1, a.2.1 * b.2.2 + b.2.1 * a.2.2 + 6 * (a.2.1 - 1) * (b.2.1 - 1) + (if a.1 = 2 then 0 else a.2.1 * b.2.1))
    | _ => (k, 0, 0)
  else match l with
    | m :: _ => (k, n.toNat, 3 * m.2.2 + (12 * n.toNat + 10 * m.2.1))
    | _ => (k, 0, 0)
def ms : Tr → Int × Nat × Nat
  | ⟨k, n, ks⟩ => mc k n (ks.map ms)
theorem ms_eq (k n : Int) (ks : List Tr) : ms ⟨k, n, ks⟩ = mc k n (ks.map ms) := by rw [ms]
/-- the cost -/
def cs (t : Tr) : Nat := (ms t).2.2
/-- the cost as far as it is told -/
def tm (x : Nat) : Nat := min x 4611686018427387905
def tcs (t : Tr) : Nat := tm (cs t)
theorem ms_k (t : Tr) : (ms t).1 = t.k := by
  obtain ⟨k, n, ks⟩ := t
  rw [ms_eq]
  unfold mc
  split
  · rfl
  · split
    · rfl
    · split
      · split <;> rfl
      · split <;> rfl
theorem ms_ln (t : Tr) : 0 < ln t → (ms t).2.1 = ln t := by
  refine Tr.ind (P := fun t => 0 < ln t → (ms t).2.1 = ln t) (fun k n ks ih h => ?_) t
  rw [ln_eq] at h ⊢
  rw [ms_eq]
  unfold lnc at h ⊢
  unfold mc
  by_cases h1 : k = 1
  · rw [if_pos h1] at h ⊢
    rw [if_pos h1]
    by_cases h2 : 1 ≤ n ∧ n ≤ 64 ∧ ks.map ln = []
    · rw [if_pos h2]
    · rw [if_neg h2] at h; omega
  · rw [if_neg h1] at h ⊢
    rw [if_neg h1]
    by_cases h2 : k = 2
    · rw [if_pos h2] at h ⊢
      rw [if_pos h2]
      by_cases h3 : 2 ≤ n ∧ n ≤ 5 ∧ ks.map ln = []
      · rw [if_pos h3]
      · rw [if_neg h3] at h; omega
    · rw [if_neg h2] at h ⊢
      rw [if_neg h2]
      by_cases h3 : k = 3
      · rw [if_pos h3] at h ⊢
        rw [if_pos h3]
        by_cases h4 : n = 0
        · rw [if_pos h4] at h ⊢
          match ks, ih, h with
          | [], _, h => simp [tms] at h
          | [_], _, h => simp [tms] at h
          | _ :: _ :: _ :: _, _, h => simp [tms] at h
          | [x, y], ih, h =>
            simp only [List.map_cons, List.map_nil] at h ⊢
            unfold tms at h ⊢
            dsimp only at h ⊢
            by_cases h5 : 2 ≤ ln x ∧ 2 ≤ ln y ∧ ln x ≤ 16384 / ln y
            · rw [if_pos h5]
              show (ms x).2.1 * (ms y).2.1 = _
              rw [ih x (by simp) (by omega), ih y (by simp) (by omega)]
            · rw [if_neg h5] at h; omega
        · rw [if_neg h4] at h; omega
      · rw [if_neg h3] at h ⊢
        rw [if_neg h3]
        by_cases h4 : k = 4
        · rw [if_pos h4] at h ⊢
          by_cases h5 : 2 ≤ n ∧ n ≤ 8192
          · rw [if_pos h5] at h ⊢
            match ks, h with
            | [], h => simp [Tr.blu] at h
            | _ :: _ :: _, h => simp [Tr.blu] at h
            | [x], h =>
              simp only [List.map_cons, List.map_nil] at h ⊢
              unfold Tr.blu at h ⊢
              dsimp only at h ⊢
              by_cases h6 : 2 * n - 1 ≤ (ln x : Int)
              · rw [if_pos h6]
              · rw [if_neg h6] at h; omega
          · rw [if_neg h5] at h; omega
        · rw [if_neg h4] at h; omega
/-- the orders of n that are not taken apart -/
def lvs (D : Int) (F : List Int) (n : Nat) : List Tr := (if (n : Int) ≤ D then [⟨1, n, []⟩] else []) ++ (if F.contains (n : Int) then [⟨2, n, []⟩] else [])
/-- is there a prime factor above p? -/
def big (p : Int) (n : Nat) : Bool := (Nt.divs n).any fun q => decide (p < (q : Int)) && decide (2 ≤ q) && (Nt.divs q).all fun d => d == 1 || d == q
def szf (K : Nat) : Nat := if K ≤ 1 then 1 else if K ≤ 2 then 2 else if K ≤ 4 then 4 else if K ≤ 8 then 8 else if K ≤ 16 then 16 else if K ≤ 32 then 32 else if K ≤ 64 then 64 else if K ≤ 128 then 128 else if K ≤ 256 then 256 else if K ≤ 512 then 512 else if K ≤ 1024 then 1024 else if K ≤ 2048 then 2048 else if K ≤ 4096 then 4096 else if K ≤ 8192 then 8192 else 16384
def inn (p : Int) (n : Nat) : Nat := if big p n = true ∧ n ≤ 8192 then szf (2 * n - 1) else 0
def stp (D : Int) (F : List Int) (sec : Nat → List Tr) (n a : Nat) : List Tr := if 1 < a ∧ a < n then (lvs D F a).flatMap fun l => (sec (n / a)).map fun b => ⟨3, 0, [l, b]⟩ else []
def cnd (D : Int) (F : List Int) (sec : Nat → List Tr) (bl : List Tr) (n : Nat) : List Tr := lvs D F n ++ (Nt.divs n).flatMap (stp D F sec n) ++ bl
def blu (p : Int) (c : Nat → Tr) (n : Nat) : List Tr := if inn p n = 0 then [] else [⟨4, n, [c (inn p n)]⟩]
def pk (x : Tr × Nat) (t : Tr) : Tr × Nat := if tcs t < x.2 then (t, tcs t) else x
def pks (l : List Tr) : Tr × Nat := l.foldl pk (⟨0, 0, []⟩, 9223372036854775807)
def chF (D : Int) (F : List Int) (p : Int) : Nat → Nat → Tr
  | 0, _ => ⟨0, 0, []⟩
  | f + 1, n => (pks (cnd D F (fun m => [chF D F p f m]) (blu p (chF D F p f) n) n)).1
def mu (p : Int) (n : Nat) : Nat := if big p n then n + 16384 else n
/-- the cheapest order of n -/
def ch (D : Int) (F : List Int) (p : Int) (n : Nat) : Tr := chF D F p (mu p n) n
/-- lengths that are met -/
def Dm (p : Int) (n : Nat) : Prop := 1 ≤ n ∧ n ≤ 16384 ∧ (big p n = true → n ≤ 8192)
/-- a good policy, as far as it is wanted -/
structure GP (D : Int) (F : List Int) (p : Int) : Prop where
  p2 : 2 ≤ p
  pD : p ≤ D
  D64 : D ≤ 64
  fl : ∀ f ∈ F, 2 ≤ f ∧ f ≤ 5
theorem big_iff {p : Int} {n : Nat} (hn : 0 < n) : big p n = true ↔ ∃ q, Nt.Pr q ∧ q ∣ n ∧ p < (q : Int) := by
  unfold big
  rw [List.any_eq_true]
  constructor
  · rintro ⟨q, hq, h⟩
    simp only [Bool.and_eq_true, decide_eq_true_eq, List.all_eq_true, Bool.or_eq_true, beq_iff_eq] at h
    refine ⟨q, ⟨h.1.2, fun d hd => h.2 d ((Nt.mem_divs (by omega)).2 hd)⟩, (Nt.mem_divs hn).1 hq, h.1.1⟩
  · rintro ⟨q, hq, hd, hp⟩
    refine ⟨q, (Nt.mem_divs hn).2 hd, ?_⟩
    have := hq.1
    simp only [Bool.and_eq_true, decide_eq_true_eq, List.all_eq_true, Bool.or_eq_true, beq_iff_eq]
    exact ⟨⟨hp, hq.1⟩, fun d h => hq.2 d ((Nt.mem_divs (by omega)).1 h)⟩
theorem big_quo {p : Int} {n a : Nat} (hn : 0 < n) (ha : a ∣ n) (h : big p (n / a) = true) : big p n = true := by
  have hq : 0 < n / a := Nat.div_pos (Nat.le_of_dvd hn ha) (Nat.pos_of_dvd_of_pos ha hn)
  obtain ⟨q, h1, h2, h3⟩ := (big_iff hq).1 h
  exact (big_iff hn).2 ⟨q, h1, Nat.dvd_trans h2 (Nat.div_dvd_of_dvd ha), h3⟩
theorem szf_le (K : Nat) (h : K ≤ 16384) : K ≤ szf K ∧ (szf K = 1 ∨ szf K < 2 * K) := by
  unfold szf
  grind (splits := 20)
theorem szf_pow (K : Nat) : ∃ t, t ≤ 14 ∧ szf K = 2 ^ t := by
  have h : szf K = 1 ∨ szf K = 2 ∨ szf K = 4 ∨ szf K = 8 ∨ szf K = 16 ∨ szf K = 32 ∨ szf K = 64 ∨ szf K = 128 ∨ szf K = 256 ∨ szf K = 512 ∨ szf K = 1024 ∨ szf K = 2048 ∨ szf K = 4096 ∨ szf K = 8192 ∨ szf K = 16384 := by
    unfold szf
    grind (splits := 20)
  rcases h with h | h | h | h | h | h | h | h | h | h | h | h | h | h | h
  · exact ⟨0, by decide, h⟩
  · exact ⟨1, by decide, h⟩
  · exact ⟨2, by decide, h⟩
  · exact ⟨3, by decide, h⟩
  · exact ⟨4, by decide, h⟩
  · exact ⟨5, by decide, h⟩
  · exact ⟨6, by decide, h⟩
  · exact ⟨7, by decide, h⟩
  · exact ⟨8, by decide, h⟩
  · exact ⟨9, by decide, h⟩
  · exact ⟨10, by decide, h⟩
  · exact ⟨11, by decide, h⟩
  · exact ⟨12, by decide, h⟩
  · exact ⟨13, by decide, h⟩
  · exact ⟨14, by decide, h⟩
theorem inn_pos {p : Int} {n : Nat} (h : inn p n ≠ 0) : big p n = true ∧ n ≤ 8192 ∧ inn p n = szf (2 * n - 1) := by
  unfold inn at h ⊢
  by_cases hc : big p n = true ∧ n ≤ 8192
  · exact ⟨hc.1, hc.2, by rw [if_pos hc]⟩
  · rw [if_neg hc] at h; exact absurd rfl h
theorem pow_small {p : Int} (h2 : 2 ≤ p) (t : Nat) : big p (2 ^ t) = false := by
  cases hb : big p (2 ^ t) with
  | false => rfl
  | true =>
    obtain ⟨q, h1, h3, h4⟩ := (big_iff (Nat.two_pow_pos t)).1 hb
    have := Nat.le_of_dvd (by decide) (h1.dvd_pow h3)
    omega
theorem inn_dm {p : Int} {n : Nat} (h2 : 2 ≤ p) (hn : 1 ≤ n) (h : inn p n ≠ 0) : Dm p (inn p n) ∧ mu p (inn p n) < mu p n ∧ 2 ≤ n ∧ n ≤ 8192 ∧ 2 * n - 1 ≤ inn p n ∧ big p (inn p n) = false ∧ inn p n ≤ 16384 := by
  obtain ⟨h3, h4, h5⟩ := inn_pos h
  obtain ⟨t, ht, e⟩ := szf_pow (2 * n - 1)
  have hb := pow_small h2 t
  have hl : 2 ^ t ≤ 2 ^ 14 := Nat.pow_le_pow_right (by decide) ht
  have hz := (szf_le (2 * n - 1) (by omega)).1
  have hn2 : 2 ≤ n := by
    obtain ⟨q, q1, q2, _⟩ := (big_iff hn).1 h3
    have := Nat.le_of_dvd hn q2
    have := q1.1
    omega
  rw [h5, e]
  rw [e] at hz
  have hp := Nat.two_pow_pos t
  refine ⟨⟨hp, hl, fun hc => by rw [hb] at hc; cases hc⟩, ?_, hn2, h4, hz, hb, hl⟩
  unfold mu
  rw [hb, h3]
  simp only [Bool.false_eq_true, if_false, if_true]
  have : 2 ^ 14 = 16384 := rfl
  omega
theorem quo_dm {p : Int} {n a : Nat} (h : Dm p n) (ha : a ∣ n) (h1 : 1 < a) (h2 : a < n) : Dm p (n / a) ∧ mu p (n / a) < mu p n ∧ 2 ≤ n / a ∧ a * (n / a) = n ∧ n / a ≤ n / 2 := by
  have hm := Nat.mul_div_cancel' ha
  have hq : 2 ≤ n / a := by
    obtain ⟨c, hc⟩ := ha
    have e : n / a = c := by rw [hc, Nat.mul_div_cancel_left c (by omega)]
    rw [e]
    apply Nat.le_of_not_lt
    intro hlt
    have : c = 0 ∨ c = 1 := by omega
    rcases this with rfl | rfl <;> simp at hc <;> omega
  have hh : n / a ≤ n / 2 := Nat.div_le_div_left (by omega) (by decide)
  have hlt : n / a < n := by omega
  have hb := big_quo (p := p) h.1 ha
  refine ⟨⟨by omega, by have := h.2.1; omega, fun hc => by have := h.2.2 (hb hc); omega⟩, ?_, hq, hm, hh⟩
  unfold mu
  cases hc : big p (n / a) with
  | true => rw [hb hc]; simp only [if_true]; omega
  | false => simp only [Bool.false_eq_true, if_false]; split <;> omega
theorem mem_divs' {n a : Nat} (hn : 1 ≤ n) (h : a ∈ Nt.divs n) : a ∣ n := (Nt.mem_divs hn).1 h
theorem fm_congr {α β : Type} {l : List α} {f g : α → List β} (h : ∀ a ∈ l, f a = g a) : l.flatMap f = l.flatMap g := by
  induction l with
  | nil => rfl
  | cons a r ih => rw [List.flatMap_cons, List.flatMap_cons, h a (by simp), ih fun b hb => h b (by simp [hb])]
theorem cnd_congr {D : Int} {F : List Int} {p : Int} {n : Nat} {s s' : Nat → List Tr} {bl : List Tr} (h : Dm p n) (hs : ∀ m, Dm p m → mu p m < mu p n → s m = s' m) : cnd D F s bl n = cnd D F s' bl n := by
  unfold cnd
  congr 2
  refine fm_congr fun a ha => ?_
  unfold stp
  by_cases hc : 1 < a ∧ a < n
  · obtain ⟨q1, q2, _⟩ := quo_dm h (mem_divs' h.1 ha) hc.1 hc.2
    rw [if_pos hc, if_pos hc, hs _ q1 q2]
  · rw [if_neg hc, if_neg hc]
theorem blu_congr {p : Int} {n : Nat} {c c' : Nat → Tr} (h2 : 2 ≤ p) (h : Dm p n) (hs : ∀ m, Dm p m → mu p m < mu p n → c m = c' m) : blu p c n = blu p c' n := by
  unfold blu
  by_cases hc : inn p n = 0
  · rw [if_pos hc, if_pos hc]
  · obtain ⟨q1, q2, _⟩ := inn_dm h2 h.1 hc
    rw [if_neg hc, if_neg hc, hs _ q1 q2]
theorem chF_any {D : Int} {F : List Int} {p : Int} (h2 : 2 ≤ p) : ∀ (k n f g : Nat), Dm p n → mu p n ≤ k → mu p n ≤ f → mu p n ≤ g → chF D F p f n = chF D F p g n := by
  intro k
  induction k with
  | zero =>
    intro n f g h hk
    have := h.1
    unfold mu at hk
    split at hk <;> omega
  | succ k ih =>
    intro n f g h hk hf hg
    have h1 : 1 ≤ mu p n := by have := h.1; unfold mu; split <;> omega
    obtain ⟨f, rfl⟩ : ∃ f', f = f' + 1 := ⟨f - 1, by omega⟩
    obtain ⟨g, rfl⟩ : ∃ g', g = g' + 1 := ⟨g - 1, by omega⟩
    have hs : ∀ m, Dm p m → mu p m < mu p n → chF D F p f m = chF D F p g m := fun m hm hlt => ih m f g hm (by omega) (by omega) (by omega)
    unfold chF
    rw [cnd_congr h (s' := fun m => [chF D F p g m]) (fun m q1 q2 => by rw [hs m q1 q2]), blu_congr h2 h hs]
theorem ch_eq {D : Int} {F : List Int} {p : Int} {n : Nat} (h2 : 2 ≤ p) (h : Dm p n) : ch D F p n = (pks (cnd D F (fun m => [ch D F p m]) (blu p (ch D F p) n) n)).1 := by
  have h1 : 1 ≤ mu p n := by have := h.1; unfold mu; split <;> omega
  obtain ⟨f, hf⟩ : ∃ f, mu p n = f + 1 := ⟨mu p n - 1, by omega⟩
  have hs : ∀ m, Dm p m → mu p m < mu p n → chF D F p f m = ch D F p m := fun m hm hlt => chF_any h2 f m f (mu p m) hm (by omega) (by omega) (Nat.le_refl _)
  conv => lhs; unfold ch
  rw [hf]
  unfold chF
  rw [cnd_congr h (s' := fun m => [ch D F p m]) (fun m q1 q2 => by rw [hs m q1 q2]), blu_congr h2 h hs]
theorem tcs_lt (t : Tr) : tcs t < 9223372036854775807 := by unfold tcs tm; omega
theorem pks_snoc (l : List Tr) (t : Tr) : pks (l ++ [t]) = pk (pks l) t := by unfold pks; rw [List.foldl_append]; rfl
/-- what is picked is among them -/
theorem pks_mem (l : List Tr) : (l = [] ∧ pks l = (⟨0, 0, []⟩, 9223372036854775807)) ∨ ((pks l).1 ∈ l ∧ (pks l).2 = tcs (pks l).1) := by
  have key : ∀ (l r : List Tr), (r = [] ∧ pks r = (⟨0, 0, []⟩, 9223372036854775807)) ∨ ((pks r).1 ∈ r ∧ (pks r).2 = tcs (pks r).1) → (r ++ l = [] ∧ pks (r ++ l) = (⟨0, 0, []⟩, 9223372036854775807)) ∨ ((pks (r ++ l)).1 ∈ r ++ l ∧ (pks (r ++ l)).2 = tcs (pks (r ++ l)).1) := by
    intro l
    induction l with
    | nil => intro r h; rw [List.append_nil]; exact h
    | cons t l ih =>
      intro r h
      have e : r ++ t :: l = (r ++ [t]) ++ l := by simp
      rw [e]
      refine ih (r ++ [t]) (.inr ?_)
      rw [pks_snoc]
      unfold pk
      rcases h with ⟨h1, h2⟩ | ⟨h1, h2⟩
      · rw [h2, if_pos (tcs_lt t)]
        exact ⟨by simp, rfl⟩
      · split
        · exact ⟨by simp, rfl⟩
        · exact ⟨List.mem_append_left _ h1, h2⟩
  exact key l [] (.inl ⟨rfl, rfl⟩)
/-- how many parts at most -/
def pb (p : Int) (n : Nat) : Nat := (if big p n then 32769 else 0) + 2 * n
structure Gd (p : Int) (n : Nat) (t : Tr) : Prop where
  len : ln t = n
  few : pt t ≤ pb p n
theorem lvs_mem {D : Int} {F : List Int} {n : Nat} {t : Tr} (h : t ∈ lvs D F n) : (t = ⟨1, n, []⟩ ∧ (n : Int) ≤ D) ∨ (t = ⟨2, n, []⟩ ∧ (n : Int) ∈ F) := by
  unfold lvs at h
  rcases List.mem_append.1 h with h | h
  · split at h
    · rename_i hc; exact .inl ⟨by simpa using h, hc⟩
    · cases h
  · split at h
    · rename_i hc; exact .inr ⟨by simpa using h, by simpa using hc⟩
    · cases h
theorem lvs_ln {D : Int} {F : List Int} {p : Int} (g : GP D F p) {n : Nat} (hn : 1 ≤ n) {t : Tr} (h : t ∈ lvs D F n) : ln t = n ∧ t.ks = [] := by
  rcases lvs_mem h with ⟨rfl, h1⟩ | ⟨rfl, h1⟩
  · have := g.D64
    refine ⟨?_, rfl⟩
    rw [ln_eq]
    unfold lnc
    rw [if_pos rfl, if_pos ⟨by omega, by omega, rfl⟩]
    simp
  · have := g.fl _ h1
    refine ⟨?_, rfl⟩
    rw [ln_eq]
    unfold lnc
    rw [if_neg (by decide), if_pos rfl, if_pos ⟨by omega, by omega, rfl⟩]
    simp
theorem pt_leaf (k n : Int) : pt ⟨k, n, []⟩ = 1 := by rw [pt_eq]; rfl
theorem cnd_gd {D : Int} {F : List Int} {p : Int} (g : GP D F p) {n : Nat} {s : Nat → List Tr} {c : Nat → Tr} (h : Dm p n) (hs : ∀ m, Dm p m → mu p m < mu p n → ∀ t ∈ s m, Gd p m t) (hc : ∀ m, Dm p m → mu p m < mu p n → Gd p m (c m)) : ∀ t ∈ cnd D F s (blu p c n) n, Gd p n t := by
  intro t ht
  have h1 := h.1
  unfold cnd at ht
  rcases List.mem_append.1 ht with ht | ht
  · rcases List.mem_append.1 ht with ht | ht
    · obtain ⟨q1, q2⟩ := lvs_ln g h1 ht
      refine ⟨q1, ?_⟩
      obtain ⟨k, n', ks⟩ := t
      simp only at q2
      subst q2
      rw [pt_leaf]
      unfold pb; omega
    · obtain ⟨a, ha, hb⟩ := List.mem_flatMap.1 ht
      unfold stp at hb
      by_cases hca : 1 < a ∧ a < n
      · rw [if_pos hca] at hb
        obtain ⟨q1, q2, q3, q4, q5⟩ := quo_dm h (mem_divs' h.1 ha) hca.1 hca.2
        obtain ⟨l, hl, hb⟩ := List.mem_flatMap.1 hb
        obtain ⟨b, hb2, rfl⟩ := List.mem_map.1 hb
        obtain ⟨r1, r2⟩ := lvs_ln g (by omega) hl
        have r3 := hs _ q1 q2 b hb2
        have h3 := h.2.1
        refine ⟨?_, ?_⟩
        · rw [ln_eq]
          unfold lnc
          rw [if_neg (by decide), if_neg (by decide), if_pos rfl, if_pos rfl]
          simp only [List.map_cons, List.map_nil]
          unfold tms
          dsimp only
          rw [r1, r3.len, if_pos ⟨by omega, q3, (Nat.le_div_iff_mul_le (by omega)).2 (by rw [q4]; exact h3)⟩, q4]
        · obtain ⟨k, n', ks⟩ := l
          simp only at r2
          subst r2
          rw [pt_eq]
          simp only [List.map_cons, List.map_nil, List.sum_cons, List.sum_nil]
          rw [pt_leaf]
          have r4 := r3.few
          have r5 := big_quo (p := p) h1 (mem_divs' h.1 ha)
          unfold pb at r4 ⊢
          cases hbq : big p (n / a) with
          | true => rw [hbq] at r4; rw [r5 hbq]; simp only [if_true] at r4 ⊢; omega
          | false => rw [hbq] at r4; simp only [Bool.false_eq_true, if_false] at r4; omega
      · rw [if_neg hca] at hb; cases hb
  · unfold blu at ht
    by_cases hi : inn p n = 0
    · rw [if_pos hi] at ht; cases ht
    · rw [if_neg hi] at ht
      rw [List.mem_singleton] at ht
      subst ht
      obtain ⟨q1, q2, q3, q4, q5, q6, q7⟩ := inn_dm g.p2 h1 hi
      have r := hc _ q1 q2
      refine ⟨?_, ?_⟩
      · rw [ln_eq]
        unfold lnc
        rw [if_neg (by decide), if_neg (by decide), if_neg (by decide), if_pos rfl, if_pos ⟨by omega, by omega⟩]
        simp only [List.map_cons, List.map_nil]
        unfold Tr.blu
        dsimp only
        rw [r.len, if_pos (by omega)]
        simp
      · rw [pt_eq]
        simp only [List.map_cons, List.map_nil, List.sum_cons, List.sum_nil]
        have r4 := r.few
        unfold pb at r4 ⊢
        rw [q6] at r4
        rw [(inn_pos hi).1]
        simp only [Bool.false_eq_true, if_false, if_true] at r4 ⊢
        omega
theorem least_pr : ∀ n : Nat, 2 ≤ n → ∃ q, Nt.Pr q ∧ q ∣ n := by
  intro n h
  have key : ∀ k d, 2 ≤ d → d + k = n → (∀ e, 2 ≤ e → e < d → ¬ e ∣ n) → ∃ q, Nt.Pr q ∧ q ∣ n := by
    intro k
    induction k with
    | zero =>
      intro d h1 h2 h3
      exact ⟨n, Nt.Pr.of_least h (Nat.dvd_refl _) (fun e h4 h5 => h3 e h4 (by omega)), Nat.dvd_refl _⟩
    | succ k ih =>
      intro d h1 h2 h3
      by_cases hd : d ∣ n
      · exact ⟨d, Nt.Pr.of_least h1 hd h3, hd⟩
      · exact ih (d + 1) (by omega) (by omega) (fun e h4 h5 h6 => by
          by_cases he : e = d
          · subst he; exact hd h6
          · exact h3 e h4 (by omega) h6)
  exact key (n - 2) 2 (Nat.le_refl _) (by omega) (fun e h1 h2 => by omega)
/-- there is always one -/
theorem cnd_ne {D : Int} {F : List Int} {p : Int} (g : GP D F p) {n : Nat} {s : Nat → List Tr} {c : Nat → Tr} (h : Dm p n) (hs : ∀ m, s m ≠ []) : cnd D F s (blu p c n) n ≠ [] := by
  have h1 := h.1
  unfold cnd
  intro he
  rw [List.append_eq_nil_iff, List.append_eq_nil_iff] at he
  obtain ⟨⟨e1, e2⟩, e3⟩ := he
  have hnD : ¬ (n : Int) ≤ D := fun hc => by
    unfold lvs at e1
    rw [if_pos hc] at e1
    simp at e1
  have hnb : big p n = false := by
    cases hb : big p n with
    | false => rfl
    | true =>
      have hi : inn p n ≠ 0 := by
        unfold inn
        rw [if_pos ⟨hb, h.2.2 hb⟩]
        obtain ⟨t, _, e⟩ := szf_pow (2 * n - 1)
        rw [e]
        have := Nat.two_pow_pos t
        omega
      unfold blu at e3
      rw [if_neg hi] at e3
      cases e3
  have := g.p2
  have := g.pD
  obtain ⟨q, q1, q2⟩ := least_pr n (by omega)
  have q3 : (q : Int) ≤ p := by
    apply Int.not_lt.1
    intro hc
    have := (big_iff h1).2 ⟨q, q1, q2, hc⟩
    rw [hnb] at this
    cases this
  have q4 := q1.1
  have e4 : stp D F s n q = [] := by
    have := List.flatMap_eq_nil_iff.1 e2 q ((Nt.mem_divs h1).2 q2)
    exact this
  unfold stp at e4
  rw [if_pos ⟨by omega, by omega⟩] at e4
  have e5 := List.flatMap_eq_nil_iff.1 e4 ⟨1, q, []⟩ (by unfold lvs; rw [if_pos (by omega)]; simp)
  exact hs _ (List.map_eq_nil_iff.1 e5)
/-- the cheapest order of n is a good order of n, with few parts -/
theorem ch_gd {D : Int} {F : List Int} {p : Int} (g : GP D F p) : ∀ (k n : Nat), Dm p n → mu p n ≤ k → Gd p n (ch D F p n) := by
  intro k
  induction k with
  | zero =>
    intro n h hk
    have := h.1
    unfold mu at hk
    split at hk <;> omega
  | succ k ih =>
    intro n h hk
    rw [ch_eq g.p2 h]
    have hall := cnd_gd (c := ch D F p) (s := fun m => [ch D F p m]) g h (fun m q1 q2 t ht => by rw [List.mem_singleton] at ht; subst ht; exact ih m q1 (by omega)) (fun m q1 q2 => ih m q1 (by omega))
    rcases pks_mem (cnd D F (fun m => [ch D F p m]) (blu p (ch D F p) n) n) with ⟨e, _⟩ | ⟨e, _⟩
    · exact absurd e (cnd_ne g h (fun m => by simp))
    · exact hall _ e
theorem pb_le {p : Int} {n : Nat} (h : Dm p n) : pb p n ≤ 65000 := by
  have := h.2.1
  unfold pb
  split
  · rename_i hb
    have := h.2.2 hb
    omega
  · omega
end Pl
end Go.Proofs.YtoaccmblaifnmaaDoor
