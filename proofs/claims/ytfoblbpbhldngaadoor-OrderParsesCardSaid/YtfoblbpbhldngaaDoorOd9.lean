/-
  Layer 12, plain: a text of an order's form is read back, and what is read is the text.
-/
import Derived.Test.YtfoblbpbhldngaaDoorOd8
namespace Go.Proofs.YtfoblbpbhldngaaDoor
open Tr
open Lib (decDigits)
namespace Ps
open Dg (rl dv isD tz)
/-- trees whose texts are of an order's form -/
def fmc (k n : Int) (ps : List Prop) : Prop :=
  ((k = 1 ∨ k = 2) ∧ (1 ≤ n ∧ n ≤ 999999) ∧ ps.length = 0) ∨ (k = 3 ∧ n = 0 ∧ ps.length = 2 ∧ ∀ p ∈ ps, p) ∨ (k = 4 ∧ (1 ≤ n ∧ n ≤ 999999) ∧ ps.length = 1 ∧ ∀ p ∈ ps, p)
def fm : Tr → Prop
  | ⟨k, n, ks⟩ => fmc k n (ks.map fm)
theorem fm_eq (k n : Int) (ks : List Tr) : fm ⟨k, n, ks⟩ = fmc k n (ks.map fm) := by rw [fm]
theorem fm_inv {k n : Int} {ks : List Tr} (h : fm ⟨k, n, ks⟩) :
    ((k = 1 ∨ k = 2) ∧ (1 ≤ n ∧ n ≤ 999999) ∧ ks = []) ∨ (k = 3 ∧ n = 0 ∧ ∃ x y, ks = [x, y] ∧ fm x ∧ fm y) ∨ (k = 4 ∧ (1 ≤ n ∧ n ≤ 999999) ∧ ∃ x, ks = [x] ∧ fm x) := by
  rw [fm_eq] at h
  rcases h with ⟨h1, h2, h3⟩ | ⟨h1, h2, h3, h4⟩ | ⟨h1, h2, h3, h4⟩
  · rw [List.length_map] at h3
    exact .inl ⟨h1, h2, List.length_eq_zero_iff.1 h3⟩
  · rw [List.length_map] at h3
    obtain ⟨x, y, rfl⟩ := len2 h3
    exact .inr (.inl ⟨h1, h2, x, y, rfl, h4 _ (by simp), h4 _ (by simp)⟩)
  · rw [List.length_map] at h3
    obtain ⟨x, rfl⟩ := len1 h3
    exact .inr (.inr ⟨h1, h2, x, rfl, h4 _ (by simp)⟩)
theorem fm_leaf {k n : Int} (hk : k = 1 ∨ k = 2) (h1 : 1 ≤ n) (h2 : n ≤ 999999) : fm ⟨k, n, []⟩ := by
  rw [fm_eq]; exact .inl ⟨hk, ⟨h1, h2⟩, rfl⟩
theorem fm_times {x y : Tr} (hx : fm x) (hy : fm y) : fm ⟨3, 0, [x, y]⟩ := by
  rw [fm_eq]
  refine .inr (.inl ⟨rfl, rfl, rfl, fun p hp => ?_⟩)
  rcases List.mem_map.1 hp with ⟨t, ht, rfl⟩
  simp only [List.mem_cons, List.not_mem_nil, or_false] at ht
  rcases ht with rfl | rfl <;> assumption
theorem fm_blue {n : Int} {x : Tr} (h1 : 1 ≤ n) (h2 : n ≤ 999999) (hx : fm x) : fm ⟨4, n, [x]⟩ := by
  rw [fm_eq]
  refine .inr (.inr ⟨rfl, ⟨h1, h2⟩, rfl, fun p hp => ?_⟩)
  rcases List.mem_map.1 hp with ⟨t, ht, rfl⟩
  simp only [List.mem_cons, List.not_mem_nil, or_false] at ht
  subst ht; assumption
/-- a good order is one of them -/
theorem fm_good (t : Tr) : 0 < ln t → fm t := by
  refine ind (P := fun t => 0 < ln t → fm t) (fun k n ks ih h => ?_) t
  rcases ln_inv h with ⟨rfl, h2, rfl⟩ | ⟨rfl, h2, rfl⟩ | ⟨rfl, rfl, x, y, rfl, h2, h3, _⟩ | ⟨rfl, h2, x, rfl, h3⟩
  · exact fm_leaf (.inl rfl) h2.1 (by omega)
  · exact fm_leaf (.inr rfl) (by omega) (by omega)
  · exact fm_times (ih x (by simp) (by omega)) (ih y (by simp) (by omega))
  · exact fm_blue (by omega) (by omega) (ih x (by simp) (by omega))
theorem dd_six {n : Nat} (h0 : 0 < n) (h1 : n ≤ 999999) : (decDigits n).length ≤ 6 := by
  have h := (Dg.dd_len h0).1
  by_cases hh : (decDigits n).length ≤ 6
  · exact hh
  · have h2 : 10 ^ 6 ≤ 10 ^ ((decDigits n).length - 1) := Nat.pow_le_pow_right (by decide) (by omega)
    have h3 : (999999 : Nat) < 10 ^ 6 := by decide
    omega
theorem dd_head {n : Nat} (h0 : 0 < n) : (decDigits n).head? ≠ some 48 := by
  intro h
  have h1 := Dg.dd_tz h0
  cases hd : decDigits n with
  | nil => exact Dg.dd_ne n hd
  | cons x l =>
    rw [hd] at h h1
    have hx : x = 48 := by simpa using h
    subst hx
    have h2 : (if (48 : UInt8).toNat = 48 then tz l else 48 :: l) = 48 :: l := h1
    rw [if_pos (show (48 : UInt8).toNat = 48 from rfl)] at h2
    have := Dg.tz_len l
    rw [h2] at this
    simp at this
    omega
theorem dc_dd {n : Nat} (h0 : 0 < n) (h1 : n ≤ 999999) (r : List UInt8) (hr : ∀ b, r.head? = some b → isD b = false) : dc (decDigits n ++ r) = (decDigits n).length := by
  have e : rl (decDigits n ++ r) = (decDigits n).length := by
    refine Dg.rl_eq _ _ (fun j hj => ?_) (fun b hb => ?_)
    · exact ⟨(decDigits n)[j], by rw [List.getElem?_append_left hj, List.getElem?_eq_getElem hj], Dg.dd_all n _ (List.getElem_mem hj)⟩
    · rw [List.getElem?_append_right (Nat.le_refl _), Nat.sub_self] at hb
      exact hr b (by rw [List.head?_eq_getElem?]; exact hb)
  have h2 : (decDigits n ++ r).head? ≠ some 48 := by
    have h3 := dd_head h0
    cases hd : decDigits n with
    | nil => exact absurd hd (Dg.dd_ne n)
    | cons x l => rw [hd] at h3; simpa using h3
  unfold dc
  rw [if_neg h2, e]
  have := dd_six h0 h1
  omega
theorem nv_dd {n : Nat} (h0 : 0 < n) (h1 : n ≤ 999999) (r : List UInt8) (hr : ∀ b, r.head? = some b → isD b = false) : nv (decDigits n ++ r) = n := by
  unfold nv
  rw [dc_dd h0 h1 r hr, List.take_left, Dg.dd_dv]
theorem dd_pos (n : Nat) : (decDigits n).length ≠ 0 := fun h => Dg.dd_ne n (List.length_eq_zero_iff.1 h)
theorem mt_pre : ∀ (t r : List UInt8), mt t (t ++ r) = t.length
  | [], r => by cases r <;> rfl
  | a :: t, r => by
    show (if a = a then mt t (t ++ r) + 1 else 0) = _
    rw [if_pos rfl, mt_pre t r]; rfl
theorem nd {c : UInt8} (h : isD c = false) (r : List UInt8) : ∀ b, (c :: r).head? = some b → isD b = false := fun b hb => by
  have e : c = b := by simpa using hb
  rw [← e]; exact h
/-- a text of that form, with something behind it that is no digit, is read -/
theorem po_tx (t : Tr) : fm t → ∀ (m : Nat) (r : List UInt8), (tx t ++ r).length < m → (∀ b, r.head? = some b → isD b = false) → po m (tx t ++ r) = (some t, (tx t).length) := by
  refine ind (P := fun t => fm t → ∀ (m : Nat) (r : List UInt8), (tx t ++ r).length < m → (∀ b, r.head? = some b → isD b = false) → po m (tx t ++ r) = (some t, (tx t).length)) (fun k n ks ih h m r hm hr => ?_) t
  have hv := tx_eq k n ks
  unfold txc at hv
  obtain ⟨m, rfl⟩ : ∃ m', m = m' + 1 := ⟨m - 1, by omega⟩
  rcases fm_inv h with ⟨hk, h2, rfl⟩ | ⟨rfl, rfl, x, y, rfl, hx, hy⟩ | ⟨rfl, h2, x, rfl, hx⟩
  · obtain ⟨N, rfl⟩ := Int.eq_ofNat_of_zero_le (show 0 ≤ n by omega)
    rw [Int.toNat_natCast] at hv
    have hd := dc_dd (n := N) (by omega) (by omega) r hr
    have hn := nv_dd (n := N) (by omega) (by omega) r hr
    rcases hk with rfl | rfl
    · rw [if_pos rfl] at hv
      rw [hv, List.cons_append, po, if_pos (.inl rfl), hd, if_neg (dd_pos N), hn, if_pos rfl, List.length_cons, Nat.add_comm]
    · rw [if_neg (by decide), if_pos rfl] at hv
      rw [hv, List.cons_append, po, if_pos (.inr rfl), hd, if_neg (dd_pos N), hn, if_neg (by decide), List.length_cons, Nat.add_comm]
  · rw [if_neg (by decide), if_neg (by decide), if_pos rfl] at hv
    have hv' : tx ⟨3, 0, [x, y]⟩ = 40 :: (tx x ++ (sx ++ (tx y ++ [41]))) := hv
    rw [hv'] at hm ⊢
    simp only [List.length_append, List.length_cons, List.length_nil, List.cons_append] at hm
    have e1 : tx x ++ (sx ++ (tx y ++ [41])) ++ r = tx x ++ (sx ++ (tx y ++ (41 :: r))) := by simp
    rw [List.cons_append, po, if_neg (by decide), if_pos rfl, e1, ih x (by simp) hx m (sx ++ (tx y ++ (41 :: r))) (by simp only [List.length_append, List.length_cons]; omega) (nd (c := 32) rfl _)]
    have e2 : (tx x ++ (sx ++ (tx y ++ (41 :: r)))).drop ((tx x).length + 3) = tx y ++ (41 :: r) := by
      rw [← List.append_assoc]
      exact List.drop_left' (by simp [sx])
    have e3 : (tx x ++ (sx ++ (tx y ++ (41 :: r)))).drop ((tx x).length + 3 + (tx y).length) = [41] ++ r := by
      rw [← List.drop_drop, e2, List.drop_left]; rfl
    simp only [List.drop_left, mt_pre, e2]
    rw [if_neg (by decide), ih y (by simp) hy m (41 :: r) (by simp only [List.length_append, List.length_cons]; omega) (nd (c := 41) rfl _)]
    simp only [e3, mt_pre]
    rw [if_neg (by decide)]
    congr 1
    simp [sx]; omega
  · obtain ⟨N, rfl⟩ := Int.eq_ofNat_of_zero_le (show 0 ≤ n by omega)
    rw [if_neg (by decide), if_neg (by decide), if_neg (by decide), Int.toNat_natCast] at hv
    have hv' : tx ⟨4, N, [x]⟩ = 98 :: (decDigits N ++ (40 :: (tx x ++ [41]))) := hv
    rw [hv'] at hm ⊢
    simp only [List.length_append, List.length_cons, List.length_nil, List.cons_append] at hm
    have e1 : decDigits N ++ (40 :: (tx x ++ [41])) ++ r = decDigits N ++ (40 :: (tx x ++ (41 :: r))) := by simp
    have hr2 : ∀ b, (40 :: (tx x ++ (41 :: r))).head? = some b → isD b = false := nd (c := 40) rfl _
    have hd := dc_dd (n := N) (by omega) (by omega) _ hr2
    have hn := nv_dd (n := N) (by omega) (by omega) _ hr2
    have e2 : (decDigits N ++ (40 :: (tx x ++ (41 :: r)))).drop ((decDigits N).length + 1) = tx x ++ (41 :: r) := by
      rw [← List.drop_drop, List.drop_left]; rfl
    have e3 : (decDigits N ++ (40 :: (tx x ++ (41 :: r)))).drop ((decDigits N).length + 1 + (tx x).length) = [41] ++ r := by
      rw [← List.drop_drop, e2, List.drop_left]; rfl
    rw [List.cons_append, po, if_neg (by decide), if_neg (by decide), if_pos rfl, e1, hd, if_neg (dd_pos N), List.drop_left, hn, e2]
    rw [if_neg (by rw [show (40 :: (tx x ++ (41 :: r))) = [40] ++ (tx x ++ (41 :: r)) from rfl, mt_pre]; decide), ih x (by simp) hx m (41 :: r) (by simp only [List.length_append, List.length_cons]; omega) (nd (c := 41) rfl _)]
    simp only [e3, mt_pre]
    rw [if_neg (by decide)]
    congr 1
    simp; omega
theorem mt_take {t l : List UInt8} (h : ¬ mt t l < t.length) : l.take t.length = t := by
  induction t generalizing l with
  | nil => rfl
  | cons a t ih =>
    cases l with
    | nil => exfalso; apply h; show 0 < _; simp
    | cons b l =>
      by_cases e : a = b
      · subst e
        have h2 : ¬ mt t l < t.length := fun hh => h (by
          show (if a = a then mt t l + 1 else 0) < _
          rw [if_pos rfl, List.length_cons]; omega)
        rw [List.length_cons, List.take_succ_cons, ih h2]
      · exfalso; apply h
        show (if a = b then mt t l + 1 else 0) < _
        rw [if_neg e, List.length_cons]; omega
theorem dc_take {l : List UInt8} (h : dc l ≠ 0) : l.take (dc l) = decDigits (nv l) ∧ 1 ≤ nv l ∧ nv l ≤ 999999 := by
  have hd : dc l = min 6 (rl l) ∧ l.head? ≠ some 48 := by
    unfold dc at h ⊢
    by_cases e : l.head? = some 48
    · rw [if_pos e] at h; exact absurd rfl h
    · rw [if_neg e]; exact ⟨rfl, e⟩
  have hall : ∀ b ∈ l.take (dc l), isD b = true := fun b hb => by
    refine Dg.rl_all l b ?_
    rw [hd.1, ← List.take_take] at hb
    exact List.mem_of_mem_take hb
  have hlen : (l.take (dc l)).length = dc l := by rw [List.length_take]; have := dc_le l; omega
  have hne : l.take (dc l) ≠ [] := fun e => h (by rw [← hlen, e]; rfl)
  have htz : tz (l.take (dc l)) = l.take (dc l) := by
    obtain ⟨c, hc⟩ : ∃ c, dc l = c + 1 := ⟨dc l - 1, by omega⟩
    cases l with
    | nil => exact absurd (by simp) hne
    | cons x l =>
      rw [hc, List.take_succ_cons]
      show (if x.toNat = 48 then tz (l.take c) else x :: l.take c) = _
      rw [if_neg fun e => hd.2 (by
        have : x = 48 := UInt8.toNat_inj.1 e
        rw [this]; rfl)]
  refine ⟨Dg.dd_uniq _ _ rfl hall htz hne, ?_, ?_⟩
  · rcases Nat.eq_zero_or_pos (nv l) with e | e
    · exact absurd ((Dg.tz_zero _ hall).2 e) (by rw [htz]; exact hne)
    · exact e
  · have h1 := Dg.dv_lt _ hall
    rw [hlen] at h1
    have h2 : 10 ^ dc l ≤ 10 ^ 6 := Nat.pow_le_pow_right (by decide) (by rw [hd.1]; omega)
    have h3 : nv l < 10 ^ 6 := Nat.lt_of_lt_of_le h1 h2
    have h4 : (10 : Nat) ^ 6 = 1000000 := by decide
    omega
theorem take_join {l : List UInt8} {a b : Nat} {x y : List UInt8} (hx : l.take a = x) (hy : (l.drop a).take b = y) : l.take (a + b) = x ++ y := by
  rw [List.take_add, hx, hy]
/-- what is read is the text of what it is read as -/
theorem po_back : ∀ (m : Nat) (l : List UInt8) (t : Tr) (c : Nat), po m l = (some t, c) → fm t ∧ l.take c = tx t
  | 0, l, t, c, h => by cases h
  | m + 1, [], t, c, h => by cases h
  | m + 1, b :: r, t, c, h => by
    have ihm := po_back m
    rw [po] at h
    by_cases h1 : b = 100 ∨ b = 102
    · rw [if_pos h1] at h
      by_cases h2 : dc r = 0
      · rw [if_pos h2] at h; cases h
      · rw [if_neg h2] at h
        obtain ⟨hd, hn1, hn2⟩ := dc_take h2
        cases h
        rw [Nat.add_comm, List.take_succ_cons, hd]
        rcases h1 with rfl | rfl
        · rw [if_pos rfl]
          refine ⟨fm_leaf (.inl rfl) (by omega) (by omega), ?_⟩
          rw [tx_eq]; rfl
        · rw [if_neg (by decide)]
          refine ⟨fm_leaf (.inr rfl) (by omega) (by omega), ?_⟩
          rw [tx_eq]; rfl
    · rw [if_neg h1] at h
      by_cases h2 : b = 40
      · subst h2
        rw [if_pos rfl] at h
        cases hp : po m r with
        | mk o c1 =>
          rw [hp] at h
          cases o with
          | none => cases h
          | some x =>
            obtain ⟨fx, ex⟩ := ihm r x c1 hp
            simp only at h
            by_cases h3 : mt sx (r.drop c1) < 3
            · rw [if_pos h3] at h; cases h
            · rw [if_neg h3] at h
              have e3 : (r.drop c1).take 3 = sx := mt_take (t := sx) h3
              cases hq : po m (r.drop (c1 + 3)) with
              | mk o2 d =>
                rw [hq] at h
                cases o2 with
                | none => cases h
                | some y =>
                  obtain ⟨fy, ey⟩ := ihm _ y d hq
                  simp only at h
                  by_cases h4 : mt [41] (r.drop (c1 + 3 + d)) < 1
                  · rw [if_pos h4] at h; cases h
                  · rw [if_neg h4] at h
                    have e4 : (r.drop (c1 + 3 + d)).take 1 = [41] := mt_take (t := [41]) h4
                    cases h
                    refine ⟨fm_times fx fy, ?_⟩
                    rw [Nat.add_comm, List.take_succ_cons, take_join (take_join (take_join ex e3) ey) e4, tx_eq]
                    show _ = 40 :: (tx x ++ (sx ++ (tx y ++ [41])))
                    simp
      · rw [if_neg h2] at h
        by_cases h3 : b = 98
        · subst h3
          rw [if_pos rfl] at h
          by_cases h4 : dc r = 0
          · rw [if_pos h4] at h; cases h
          · rw [if_neg h4] at h
            obtain ⟨hd, hn1, hn2⟩ := dc_take h4
            by_cases h5 : mt [40] (r.drop (dc r)) < 1
            · rw [if_pos h5] at h; cases h
            · rw [if_neg h5] at h
              have e5 : (r.drop (dc r)).take 1 = [40] := mt_take (t := [40]) h5
              cases hp : po m (r.drop (dc r + 1)) with
              | mk o c1 =>
                rw [hp] at h
                cases o with
                | none => cases h
                | some x =>
                  obtain ⟨fx, ex⟩ := ihm _ x c1 hp
                  simp only at h
                  by_cases h6 : mt [41] (r.drop (dc r + 1 + c1)) < 1
                  · rw [if_pos h6] at h; cases h
                  · rw [if_neg h6] at h
                    have e6 : (r.drop (dc r + 1 + c1)).take 1 = [41] := mt_take (t := [41]) h6
                    cases h
                    refine ⟨fm_blue (by omega) (by omega) fx, ?_⟩
                    rw [Nat.add_comm, List.take_succ_cons, take_join (take_join (take_join hd e5) ex) e6, tx_eq]
                    show _ = 98 :: (decDigits (nv r) ++ (40 :: (tx x ++ [41])))
                    simp
        · rw [if_neg h3] at h; cases h
/-- the text of such a tree is read as it -/
theorem rd_tx {t : Tr} (h : fm t) : rd (tx t) = (some t, (tx t).length) := by
  unfold rd kont pa
  have e := po_tx t h ((tx t).length + 1) [] (by simp) (by simp)
  rw [List.append_nil] at e
  rw [List.drop_zero, e, Nat.zero_add]
/-- a text that is read to its end is the text of what it is read as -/
theorem rd_back {l : List UInt8} {t : Tr} (h : rd l = (some t, l.length)) : fm t ∧ l = tx t := by
  unfold rd kont pa at h
  rw [List.drop_zero, Nat.zero_add] at h
  obtain ⟨h1, h2⟩ := po_back _ _ t l.length h
  exact ⟨h1, by rw [← h2, List.take_length]⟩
/-- one text, one tree -/
theorem tx_inj {s t : Tr} (hs : fm s) (ht : fm t) (h : tx s = tx t) : s = t := by
  have h1 := rd_tx hs
  rw [h, rd_tx ht] at h1
  cases h1; rfl
end Ps
end Go.Proofs.YtfoblbpbhldngaaDoor
