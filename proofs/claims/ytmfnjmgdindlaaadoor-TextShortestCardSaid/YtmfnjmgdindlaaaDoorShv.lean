/-
  Unlike floats have unlike plain texts. Plain.
-/
import Derived.Test.YtmfnjmgdindlaaaDoorShu
namespace Go.Proofs.YtmfnjmgdindlaaaDoor
open Flo
open Rd (num den Near)
theorem isD_ne {b : UInt8} (h : Dg.isD b = true) : b ≠ 101 ∧ b ≠ 46 ∧ b ≠ 45 := by
  have := of_decide_eq_true h
  refine ⟨?_, ?_, ?_⟩ <;> (intro e; rw [e] at this; revert this; decide)
/-- two lists, each parted by a letter e of which the first part has none -/
theorem e_split {a b c d : List UInt8} (ha : ∀ x ∈ a, x ≠ 101) (hc : ∀ x ∈ c, x ≠ 101) (h : a ++ [101] ++ b = c ++ [101] ++ d) : a = c ∧ b = d := by
  induction a generalizing c with
  | nil =>
    cases c with
    | nil => simp at h; exact ⟨rfl, h⟩
    | cons y c => simp at h; exact absurd h.1.symm (hc y (by simp))
  | cons x a ih =>
    cases c with
    | nil => simp at h; exact absurd h.1 (ha x (by simp))
    | cons y c =>
      simp only [List.cons_append, List.cons.injEq] at h
      obtain ⟨r1, r2⟩ := ih (fun z hz => ha z (by simp [hz])) (fun z hz => hc z (by simp [hz])) h.2
      exact ⟨by rw [h.1, r1], r2⟩
theorem itoa_inj {x y : Int} (h : Lib.itoa x = Lib.itoa y) : x = y := by
  unfold Lib.itoa at h
  have hd : ∀ n, (45 : UInt8) ∉ Lib.decDigits n := fun n hn => (isD_ne (Dg.dd_all n _ hn)).2.2 rfl
  by_cases hx : x < 0
  · by_cases hy : y < 0
    · rw [if_pos hx, if_pos hy] at h
      have h2 := congrArg Dg.dv (List.cons.inj h).2
      rw [Dg.dd_dv, Dg.dd_dv] at h2
      omega
    · rw [if_pos hx, if_neg hy] at h
      exact absurd (h ▸ List.mem_cons_self : (45 : UInt8) ∈ Lib.decDigits y.toNat) (hd _)
  · by_cases hy : y < 0
    · rw [if_neg hx, if_pos hy] at h
      exact absurd (h.symm ▸ List.mem_cons_self : (45 : UInt8) ∈ Lib.decDigits x.toNat) (hd _)
    · rw [if_neg hx, if_neg hy] at h
      have h2 := congrArg Dg.dv h
      rw [Dg.dd_dv, Dg.dd_dv] at h2
      omega
/-- digits with a point behind the first -/
def dotted (r : List UInt8) : List UInt8 := if r.length = 1 then r else r.take 1 ++ [46] ++ r.drop 1
theorem dotted_ne {r : List UInt8} (hd : ∀ b ∈ r, Dg.isD b = true) : ∀ x ∈ dotted r, x ≠ 101 := by
  intro x hx
  unfold dotted at hx
  split at hx
  · exact (isD_ne (hd x hx)).1
  · simp only [List.mem_append, List.mem_singleton] at hx
    rcases hx with (hx | hx) | hx
    · exact (isD_ne (hd x (List.mem_of_mem_take hx))).1
    · rw [hx]; decide
    · exact (isD_ne (hd x (List.mem_of_mem_drop hx))).1
theorem dotted_inj {r q : List UInt8} (hr : r ≠ []) (hq : q ≠ []) (h : dotted r = dotted q) : r = q := by
  have lr : 1 ≤ r.length := List.length_pos_iff.2 hr
  have lq : 1 ≤ q.length := List.length_pos_iff.2 hq
  have key : ∀ l : List UInt8, 1 ≤ l.length → l.length ≠ 1 → (dotted l).length = l.length + 1 ∧ (dotted l).take 1 ++ (dotted l).drop 2 = l := by
    intro l h1 h2
    unfold dotted
    rw [if_neg h2]
    cases l with
    | nil => simp at h1
    | cons x l => simp
  have len1 : ∀ l : List UInt8, l.length = 1 → dotted l = l := fun l hl => by unfold dotted; rw [if_pos hl]
  by_cases c1 : r.length = 1
  · by_cases c2 : q.length = 1
    · rw [len1 r c1, len1 q c2] at h; exact h
    · have := congrArg List.length h
      rw [len1 r c1, (key q lq c2).1] at this
      omega
  · by_cases c2 : q.length = 1
    · have := congrArg List.length h
      rw [len1 q c2, (key r lr c1).1] at this
      omega
    · rw [← (key r lr c1).2, ← (key q lq c2).2, h]
theorem ptx_dot (l : List UInt8) (x : Int) : ptx l x = dotted (rz l) ++ [101] ++ Lib.itoa x := rfl
theorem rz_mem {l : List UInt8} {b : UInt8} (h : b ∈ rz l) : b ∈ l := by
  have h2 : b ∈ (Dg.tz l.reverse).reverse := h
  rw [List.mem_reverse] at h2
  have := Dg.tz_mem h2
  rwa [List.mem_reverse] at this
/-- what was struck were noughts -/
theorem rz_back (l : List UInt8) : ∃ a, l = rz l ++ List.replicate a 48 := by
  have key : ∀ m : List UInt8, ∃ a, m = List.replicate a 48 ++ Dg.tz m := by
    intro m
    induction m with
    | nil => exact ⟨0, rfl⟩
    | cons x m ih =>
      by_cases hx : x.toNat = 48
      · obtain ⟨a, ha⟩ := ih
        refine ⟨a + 1, ?_⟩
        have e : Dg.tz (x :: m) = Dg.tz m := by
          show (if x.toNat = 48 then Dg.tz m else x :: m) = _
          rw [if_pos hx]
        have ex : x = 48 := UInt8.toNat_inj.1 hx
        rw [e, List.replicate_succ, List.cons_append, ← ha, ex]
      · refine ⟨0, ?_⟩
        show x :: m = [] ++ (if x.toNat = 48 then Dg.tz m else x :: m)
        rw [if_neg hx]; rfl
  obtain ⟨a, ha⟩ := key l.reverse
  refine ⟨a, ?_⟩
  have h2 := congrArg List.reverse ha
  rw [List.reverse_reverse, List.reverse_append, List.reverse_replicate] at h2
  exact h2
/-- a chosen text's digits and power are read as the float -/
theorem ptx_near {E m : Nat} {t : Int} {W L H n : Nat} {X : Bool} (h0 : 0 < m) (h1 : m < 9007199254740992) (h2 : E = 0 ∨ 4503599627370496 ≤ m) (v : View E m t W X L H) (hs : Rd.Srt W X L H n) :
    Near (num (Dg.dv (rz (Lib.decDigits n))) (t + (Lib.decDigits n).length - (rz (Lib.decDigits n)).length)) (den (t + (Lib.decDigits n).length - (rz (Lib.decDigits n)).length)) (E * 4503599627370496 + m) := by
  have hn : L ≤ n ∧ n ≤ H := by
    obtain ⟨k, _, _, hk, _⟩ := hs
    have b1 : W / 10 ^ (18 - k) * 10 ^ (18 - k) ≤ H := v.low_hi (Nat.div_mul_le_self _ _)
    have b2 : L ≤ W / 10 ^ (18 - k) * 10 ^ (18 - k) + 10 ^ (18 - k) := v.high_lo h0 (by
      have hp : 0 < 10 ^ (18 - k) := Nat.pow_pos (by decide)
      have := (Nat.div_lt_iff_lt_mul hp).1 (Nat.lt_succ_self (W / 10 ^ (18 - k)))
      rw [Nat.succ_mul] at this
      exact this)
    unfold Rd.nst at hk
    split at hk
    · rename_i c1
      split at hk
      · rename_i c2
        split at hk
        · cases hk; exact ⟨b2, c2⟩
        · cases hk; exact ⟨c1, b1⟩
      · cases hk; exact ⟨c1, b1⟩
    · split at hk
      · rename_i c2; cases hk; exact ⟨b2, c2⟩
      · cases hk
  have hN := (v.near h0 h1 h2 n).2 hn
  obtain ⟨a, ha⟩ := rz_back (Lib.decDigits n)
  have hl := congrArg List.length ha
  rw [List.length_append, List.length_replicate] at hl
  have hv := congrArg Dg.dv ha
  have hz : Dg.dv (List.replicate a 48) = 0 := by
    clear hl hv ha
    induction a with
    | zero => rfl
    | succ a ih => rw [List.replicate_succ', Dg.dv_snoc, ih]; rfl
  rw [Dg.dd_dv, Dg.dv_append, List.length_replicate, hz, Nat.add_zero] at hv
  generalize rz (Lib.decDigits n) = r at *
  generalize (Lib.decDigits n).length = K at *
  subst hv
  refine (near_shift (j := a) ?_).1 hN
  omega
theorem ptx_same {E m E' m' : Nat} {t t' : Int} {W L H n W' L' H' n' : Nat} {X X' : Bool} (h0 : 0 < m) (h1 : m < 9007199254740992) (h2 : E = 0 ∨ 4503599627370496 ≤ m) (v : View E m t W X L H) (hs : Rd.Srt W X L H n)
    (h0' : 0 < m') (h1' : m' < 9007199254740992) (h2' : E' = 0 ∨ 4503599627370496 ≤ m') (v' : View E' m' t' W' X' L' H') (hs' : Rd.Srt W' X' L' H' n')
    (h : ptx (Lib.decDigits n) (t + (Lib.decDigits n).length - 1) = ptx (Lib.decDigits n') (t' + (Lib.decDigits n').length - 1)) : E * 4503599627370496 + m = E' * 4503599627370496 + m' := by
  have b1 := srt_bounds hs v.lo v.hi
  have b2 := srt_bounds hs' v'.lo v'.hi
  rw [ptx_dot, ptx_dot] at h
  obtain ⟨g1, g2⟩ := e_split (dotted_ne (fun b hb => Dg.dd_all n b (rz_mem hb))) (dotted_ne (fun b hb => Dg.dd_all n' b (rz_mem hb))) h
  have g3 := itoa_inj g2
  have g4 : rz (Lib.decDigits n) = rz (Lib.decDigits n') := dotted_inj (Dg.rz_ne (u := n) (by omega)) (Dg.rz_ne (u := n') (by omega)) g1
  have p1 := ptx_near h0 h1 h2 v hs
  have p2 := ptx_near h0' h1' h2' v' hs'
  rw [← g4] at p2
  rw [show t' + ((Lib.decDigits n').length : Int) = t + ((Lib.decDigits n).length : Int) by omega] at p2
  exact p1.uniq p2 (Rd.den_pos _)
theorem dd_first' {D : Nat} (h0 : 0 < D) {b : UInt8} (hb : (Lib.decDigits D)[0]? = some b) : b.toNat ≠ 48 := by
  have ht := Dg.dd_tz h0
  generalize Lib.decDigits D = l at *
  cases l with
  | nil => simp at hb
  | cons x l =>
    simp at hb
    subst hb
    intro hx
    have h2 : (if x.toNat = 48 then Dg.tz l else x :: l) = x :: l := ht
    rw [if_pos hx] at h2
    have := Dg.tz_len l
    rw [h2] at this
    simp at this
    omega
/-- a chosen text begins with a digit that is no nought, and has a letter e -/
theorem ptx_head {n : Nat} (h : 0 < n) (x : Int) : ∃ (c : UInt8) (u : List UInt8), ptx (Lib.decDigits n) x = c :: u ∧ Dg.isD c = true ∧ c.toNat ≠ 48 ∧ (101 : UInt8) ∈ u := by
  rw [ptx_dot]
  obtain ⟨a, ha⟩ := rz_back (Lib.decDigits n)
  have hne : rz (Lib.decDigits n) ≠ [] := Dg.rz_ne h
  have hd : ∀ b ∈ rz (Lib.decDigits n), Dg.isD b = true := fun b hb => Dg.dd_all n b (rz_mem hb)
  cases hr : rz (Lib.decDigits n) with
  | nil => exact absurd hr hne
  | cons c r =>
    rw [hr] at ha hd
    have h0 : (Lib.decDigits n)[0]? = some c := by rw [ha]; rfl
    have hc := dd_first' h h0
    have hcd := hd c (by simp)
    unfold dotted
    by_cases c1 : (c :: r).length = 1
    · rw [if_pos c1]
      exact ⟨c, _, rfl, hcd, hc, by simp⟩
    · rw [if_neg c1]
      exact ⟨c, _, rfl, hcd, hc, by simp⟩
theorem PT_inj {b b' : Nat} {txt : List UInt8} (hb : b < 18446744073709551616) (hb' : b' < 18446744073709551616) (h : PT b txt) (h' : PT b' txt) : b = b' := by
  have key : ∀ {b : Nat}, PT b txt → (b = 9221120237041090560 ∧ txt = [110, 97, 110]) ∨ (b = 9218868437227405312 ∧ txt = [105, 110, 102]) ∨ (b = 18442240474082181120 ∧ txt = [45, 105, 110, 102]) ∨ (b = 0 ∧ txt = [48, 101, 48]) ∨ (b = 9223372036854775808 ∧ txt = [45, 48, 101, 48]) ∨
      ∃ (E m : Nat) (t : Int) (W L H n : Nat) (X : Bool), b % 9223372036854775808 = E * 4503599627370496 + m ∧ 0 < m ∧ m < 9007199254740992 ∧ (E = 0 ∨ 4503599627370496 ≤ m) ∧ View E m t W X L H ∧ Rd.Srt W X L H n ∧ txt = (if 9223372036854775808 ≤ b then [45] else []) ++ ptx (Lib.decDigits n) (t + (Lib.decDigits n).length - 1) := by
    intro b h
    unfold PT at h
    by_cases c1 : b = 9221120237041090560
    · rw [if_pos c1] at h; exact .inl ⟨c1, h⟩
    rw [if_neg c1] at h
    by_cases c2 : b = 9218868437227405312
    · rw [if_pos c2] at h; exact .inr (.inl ⟨c2, h⟩)
    rw [if_neg c2] at h
    by_cases c3 : b = 18442240474082181120
    · rw [if_pos c3] at h; exact .inr (.inr (.inl ⟨c3, h⟩))
    rw [if_neg c3] at h
    by_cases c4 : b = 0
    · rw [if_pos c4] at h; exact .inr (.inr (.inr (.inl ⟨c4, h⟩)))
    rw [if_neg c4] at h
    by_cases c5 : b = 9223372036854775808
    · rw [if_pos c5] at h; exact .inr (.inr (.inr (.inr (.inl ⟨c5, h⟩))))
    rw [if_neg c5] at h
    exact .inr (.inr (.inr (.inr (.inr h))))
  -- a chosen text is none of the five
  have five : ∀ {b : Nat} {E m : Nat} {t : Int} {W L H n : Nat} {X : Bool}, View E m t W X L H → Rd.Srt W X L H n → txt = (if 9223372036854775808 ≤ b then [45] else []) ++ ptx (Lib.decDigits n) (t + (Lib.decDigits n).length - 1) →
      txt ≠ [110, 97, 110] ∧ txt ≠ [105, 110, 102] ∧ txt ≠ [45, 105, 110, 102] ∧ txt ≠ [48, 101, 48] ∧ txt ≠ [45, 48, 101, 48] := by
    intro b E m t W L H n X v s e
    have bd := srt_bounds s v.lo v.hi
    obtain ⟨c, u, e2, hc, hc48, hu⟩ := ptx_head (n := n) (by omega) (t + (Lib.decDigits n).length - 1)
    have c45 := (isD_ne hc).2.2
    rw [e2] at e
    have hmem : (101 : UInt8) ∈ txt := by rw [e]; simp [hu]
    refine ⟨?_, ?_, ?_, ?_, ?_⟩
    · intro e3; rw [e3] at hmem; revert hmem; decide
    · intro e3; rw [e3] at hmem; revert hmem; decide
    · intro e3; rw [e3] at hmem; revert hmem; decide
    · intro e3
      rw [e3] at e
      split at e
      · simp at e
      · simp at e; rw [← e.1] at hc48; exact hc48 rfl
    · intro e3
      rw [e3] at e
      split at e
      · simp at e; rw [← e.1] at hc48; exact hc48 rfl
      · simp at e; exact c45 e.1.symm
  rcases key h with ⟨p, q⟩ | ⟨p, q⟩ | ⟨p, q⟩ | ⟨p, q⟩ | ⟨p, q⟩ | ⟨E, m, t, W, L, H, n, X, e1, h0, h1, h2, v, s, e2⟩ <;>
  rcases key h' with ⟨p', q'⟩ | ⟨p', q'⟩ | ⟨p', q'⟩ | ⟨p', q'⟩ | ⟨p', q'⟩ | ⟨E', m', t', W', L', H', n', X', e1', h0', h1', h2', v', s', e2'⟩
  all_goals first
    | (rw [p, p']; done)
    | (exfalso; rw [q] at q'; revert q'; decide)
    | (exfalso; have f := five v' s' e2'; rw [q] at f; revert f; decide)
    | (exfalso; have f := five v s e2; rw [q'] at f; revert f; decide)
    | skip
  have bd := srt_bounds s v.lo v.hi
  have bd' := srt_bounds s' v'.lo v'.hi
  obtain ⟨c, u, f, hc, _, _⟩ := ptx_head (n := n) (by omega) (t + (Lib.decDigits n).length - 1)
  obtain ⟨c', u', f', hc', _, _⟩ := ptx_head (n := n') (by omega) (t' + (Lib.decDigits n').length - 1)
  have c45 := (isD_ne hc).2.2
  have c45' := (isD_ne hc').2.2
  by_cases g : 9223372036854775808 ≤ b
  · by_cases g' : 9223372036854775808 ≤ b'
    · rw [if_pos g] at e2; rw [if_pos g', e2] at e2'
      have := ptx_same h0 h1 h2 v s h0' h1' h2' v' s' (List.append_cancel_left e2')
      omega
    · exfalso
      rw [if_pos g] at e2; rw [if_neg g', e2, f'] at e2'
      simp at e2'
      exact c45' e2'.1.symm
  · by_cases g' : 9223372036854775808 ≤ b'
    · exfalso
      rw [if_neg g, f] at e2; rw [if_pos g', e2] at e2'
      simp at e2'
      exact c45 e2'.1
    · rw [if_neg g] at e2; rw [if_neg g', e2] at e2'
      have := ptx_same h0 h1 h2 v s h0' h1' h2' v' s' (List.append_cancel_left e2')
      omega
end Go.Proofs.YtmfnjmgdindlaaaDoor
