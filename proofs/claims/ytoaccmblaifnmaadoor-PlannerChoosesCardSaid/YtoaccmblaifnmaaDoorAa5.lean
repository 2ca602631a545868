/-
  Layer 12, plain: a text of an order's form is read back, and what is read is the text.
-/
import Derived.Test.YtoaccmblaifnmaaDoorAa4
import Derived.Deep.RegionHeld3
import Derived.Lib.SmallJoins
import Derived.Lib.HexFns
namespace Go.Proofs.YtoaccmblaifnmaaDoor
open Tr
open Lib (decDigits)
namespace Ps
open Dg (rl dv isD tz)
/-- trees whose texts are of an order's form -/
def fmc (k n : Int) (ps : List Prop) : Prop :=
  ((k = 1 ∨ k = 2) ∧ (1 ≤ n ∧ n ≤ 999999) ∧ ps.length = 0) ∨ (k = 3 ∧ n = 0 ∧ ps.length = 2 ∧ ∀ p ∈ ps, p) ∨ (k = 4 ∧ (1 ≤ n ∧ n ≤ 999999) ∧ ps.length = 1 ∧ ∀ p ∈ ps, p)
def fm : Tr → Prop
  | ⟨k, n, ks⟩ => fmc k n (ks.map fm)
theorem fm_eq (k n : Int) (ks : List Tr) : fm ⟨k, n, ks⟩ = fmc k n (ks.map fm) := by rw [fm]
theorem fm_inv {k n : Int} {ks : List Tr} (h : fm ⟨k, n, ks⟩) :
    ((k = 1 ∨ k = 2) ∧ (1 ≤ n ∧ n ≤ 999999) ∧ ks = []) ∨ (k = 3 ∧ n = 0 ∧ ∃ x y, ks = [x, y] ∧ fm x ∧ fm y) ∨ (k = 4 ∧ (1 ≤ n ∧ n ≤ 999999) ∧ ∃ x, ks = [x] ∧ fm x) := by
  rw [fm_eq] at h
  rcases h with ⟨h1, h2, h3⟩ | ⟨h1, h2, h3, h4⟩ | ⟨h1, h2, h3, h4⟩
  · rw [List.length_map] at h3
    exact .inl ⟨h1, h2, List.length_eq_zero_iff.1 h3⟩
  · rw [List.length_map] at h3
    obtain ⟨x, y, rfl⟩ := len2 h3
    exact .inr (.inl ⟨h1, h2, x, y, rfl, h4 _ (by simp), h4 _ (by simp)⟩)
  · rw [List.length_map] at h3
    obtain ⟨x, rfl⟩ := len1 h3
    exact .inr (.inr ⟨h1, h2, x, rfl, h4 _ (by simp)⟩)
theorem fm_leaf {k n : Int} (hk : k = 1 ∨ k = 2) (h1 : 1 ≤ n) (h2 : n ≤ 999999) : fm ⟨k, n, []⟩ := by
  rw [fm_eq]; exact .inl ⟨hk, ⟨h1, h2⟩, rfl⟩
theorem fm_times {x y : Tr} (hx : fm x) (hy : fm y) : fm ⟨3, 0, [x, y]⟩ := by
  rw [fm_eq]
  refine .inr (.inl ⟨rfl, rfl, rfl, fun p hp => ?_⟩)
  rcases List.mem_map.1 hp with ⟨t, ht, rfl⟩
  simp only [List.mem_cons, List.not_mem_nil, or_false] at ht
  rcases ht with rfl | rfl <;> assumption
theorem fm_blue {n : Int} {x : Tr} (h1 : 1 ≤ n) (h2 : n ≤ 999999) (hx : fm x) : fm ⟨4, n, [x]⟩ := by
  rw [fm_eq]
  refine .inr (.inr ⟨rfl, ⟨h1, h2⟩, rfl, fun p hp => ?_⟩)
  rcases List.mem_map.1 hp with ⟨t, ht, rfl⟩
  simp only [List.mem_cons, List.not_mem_nil, or_false] at ht
  subst ht; assumption
/-- a good order is one of them -/
theorem fm_good (t : Tr) : 0 < ln t → fm t := by
  refine ind (P := fun t => 0 < ln t → fm t) (fun k n ks ih h => ?_) t
  rcases ln_inv h with ⟨rfl, h2, rfl⟩ | ⟨rfl, h2, rfl⟩ | ⟨rfl, rfl, x, y, rfl, h2, h3, _⟩ | ⟨rfl, h2, x, rfl, h3⟩
  · exact fm_leaf (.inl rfl) h2.1 (by omega)
  · exact fm_leaf (.inr rfl) (by omega) (by omega)
  · exact fm_times (ih x (by simp) (by omega)) (ih y (by simp) (by omega))
  · exact fm_blue (by omega) (by omega) (ih x (by simp) (by omega))
theorem dd_six {n : Nat} (h0 : 0 < n) (h1 : n ≤ 999999) : (decDigits n).length ≤ 6 := by
  have h := (Dg.dd_len h0).1
  by_cases hh : (decDigits n).length ≤ 6
  · exact hh
  · have h2 : 10 ^ 6 ≤ 10 ^ ((decDigits n).length - 1) := Nat.pow_le_pow_right (by decide) (by omega)
    have h3 : (999999 : Nat) < 10 ^ 6 := by decide
    omega
theorem dd_head {n : Nat} (h0 : 0 < n) : (decDigits n).head? ≠ some 48 := by
  intro h
  have h1 := Dg.dd_tz h0
  cases hd : decDigits n with
  | nil => exact Dg.dd_ne n hd
  | cons x l =>
    rw [hd] at h h1
    have hx : x = 48 := by simpa using h
    subst hx
    have h2 : (if (48 : UInt8).toNat = 48 then tz l else 48 :: l) = 48 :: l := h1
    rw [if_pos (show (48 : UInt8).toNat = 48 from rfl)] at h2
    have := Dg.tz_len l
    rw [h2] at this
    simp at this
    omega
theorem dc_dd {n : Nat} (h0 : 0 < n) (h1 : n ≤ 999999) (r : List UInt8) (hr : ∀ b, r.head? = some b → isD b = false) : dc (decDigits n ++ r) = (decDigits n).length := by
  have e : rl (decDigits n ++ r) = (decDigits n).length := by
    refine Dg.rl_eq _ _ (fun j hj => ?_) (fun b hb => ?_)
    · exact ⟨(decDigits n)[j], by rw [List.getElem?_append_left hj, List.getElem?_eq_getElem hj], Dg.dd_all n _ (List.getElem_mem hj)⟩
    · rw [List.getElem?_append_right (Nat.le_refl _), Nat.sub_self] at hb
      exact hr b (by rw [List.head?_eq_getElem?]; exact hb)
  have h2 : (decDigits n ++ r).head? ≠ some 48 := by
    have h3 := dd_head h0
    cases hd : decDigits n with
    | nil => exact absurd hd (Dg.dd_ne n)
    | cons x l => rw [hd] at h3; simpa using h3
  unfold dc
  rw [if_neg h2, e]
  have := dd_six h0 h1
  omega
theorem nv_dd {n : Nat} (h0 : 0 < n) (h1 : n ≤ 999999) (r : List UInt8) (hr : ∀ b, r.head? = some b → isD b = false) : nv (decDigits n ++ r) = n := by
  unfold nv
  rw [dc_dd h0 h1 r hr, List.take_left, Dg.dd_dv]
theorem dd_pos (n : Nat) : (decDigits n).length ≠ 0 := fun h => Dg.dd_ne n (List.length_eq_zero_iff.1 h)
theorem mt_pre : ∀ (t r : List UInt8), mt t (t ++ r) = t.length
  | [], r => by cases r <;> rfl
  | a :: t, r => by
    show (if a = a then mt t (t ++ r) + 1 else 0) = _
    rw [if_pos rfl, mt_pre t r]; rfl
theorem nd {c : UInt8} (h : isD c = false) (r : List UInt8) : ∀ b, (c :: r).head? = some b → isD b = false := fun b hb => by
  have e : c = b := by simpa using hb
  rw [← e]; exact h
/-- a text of that form, with something behind it that is no digit, is read -/
theorem po_tx (t : Tr) : fm t → ∀ (m : Nat) (r : List UInt8), (tx t ++ r).length < m → (∀ b, r.head? = some b → isD b = false) → po m (tx t ++ r) = (some t, (tx t).length) := by
  refine ind (P := fun t => fm t → ∀ (m : Nat) (r : List UInt8), (tx t ++ r).length < m → (∀ b, r.head? = some b → isD b = false) → po m (tx t ++ r) = (some t, (tx t).length)) (fun k n ks ih h m r hm hr => ?_) t
  have hv := tx_eq k n ks
  unfold txc at hv
  obtain ⟨m, rfl⟩ : ∃ m', m = m' + 1 := ⟨m - 1, by omega⟩
  rcases fm_inv h with ⟨hk, h2, rfl⟩ | ⟨rfl, rfl, x, y, rfl, hx, hy⟩ | ⟨rfl, h2, x, rfl, hx⟩
  · obtain ⟨N, rfl⟩ := Int.eq_ofNat_of_zero_le (show 0 ≤ n by omega)
    rw [Int.toNat_natCast] at hv
    have hd := dc_dd (n := N) (by omega) (by omega) r hr
    have hn := nv_dd (n := N) (by omega) (by omega) r hr
    rcases hk with rfl | rfl
    · rw [if_pos rfl] at hv
      rw [hv, List.cons_append, po, if_pos (.inl rfl), hd, if_neg (dd_pos N), hn, if_pos rfl, List.length_cons, Nat.add_comm]
    · rw [if_neg (by decide), if_pos rfl] at hv
      rw [hv, List.cons_append, po, if_pos (.inr rfl), hd, if_neg (dd_pos N), hn, if_neg (by decide), List.length_cons, Nat.add_comm]
  · rw [if_neg (by decide), if_neg (by decide), if_pos rfl] at hv
    have hv' : tx ⟨3, 0, [x, y]⟩ = 40 :: (tx x ++ (sx ++ (tx y ++ [41]))) := hv
    rw [hv'] at hm ⊢
    simp only [List.length_append, List.length_cons, List.length_nil, List.cons_append] at hm
    have e1 : tx x ++ (sx ++ (tx y ++ [41])) ++ r = tx x ++ (sx ++ (tx y ++ (41 :: r))) := by simp
    rw [List.cons_append, po, if_neg (by decide), if_pos rfl, e1, ih x (by simp) hx m (sx ++ (tx y ++ (41 :: r))) (by simp only [List.length_append, List.length_cons]; omega) (nd (c := 32) rfl _)]
    have e2 : (tx x ++ (sx ++ (tx y ++ (41 :: r)))).drop ((tx x).length + 3) = tx y ++ (41 :: r) := by
      rw [← List.append_assoc]
      exact List.drop_left' (by simp [sx])
    have e3 : (tx x ++ (sx ++ (tx y ++ (41 :: r)))).drop ((tx x).length + 3 + (tx y).length) = [41] ++ r := by
      rw [← List.drop_drop, e2, List.drop_left]; rfl
    simp only [List.drop_left, mt_pre, e2]
    rw [if_neg (by decide), ih y (by simp) hy m (41 :: r) (by simp only [List.length_append, List.length_cons]; omega) (nd (c := 41) rfl _)]
    simp only [e3, mt_pre]
    rw [if_neg (by decide)]
    congr 1
    simp [sx]; omega
  · obtain ⟨N, rfl⟩ := Int.eq_ofNat_of_zero_le (show 0 ≤ n by omega)
    rw [if_neg (by decide), if_neg (by decide), if_neg (by decide), Int.toNat_natCast] at hv
    have hv' : tx ⟨4, N, [x]⟩ = 98 :: (decDigits N ++ (40 :: (tx x ++ [41]))) := hv
    rw [hv'] at hm ⊢
    simp only [List.length_append, List.length_cons, List.length_nil, List.cons_append] at hm
    have e1 : decDigits N ++ (40 :: (tx x ++ [41])) ++ r = decDigits N ++ (40 :: (tx x ++ (41 :: r))) := by simp
    have hr2 : ∀ b, (40 :: (tx x ++ (41 :: r))).head? = some b → isD b = false := nd (c := 40) rfl _
    have hd := dc_dd (n := N) (by omega) (by omega) _ hr2
    have hn := nv_dd (n := N) (by omega) (by omega) _ hr2
    have e2 : (decDigits N ++ (40 :: (tx x ++ (41 :: r)))).drop ((decDigits N).length + 1) = tx x ++ (41 :: r) := by
      rw [← List.drop_drop, List.drop_left]; rfl
    have e3 : (decDigits N ++ (40 :: (tx x ++ (41 :: r)))).drop ((decDigits N).length + 1 + (tx x).length) = [41] ++ r := by
      rw [← List.drop_drop, e2, List.drop_left]; rfl
    rw [List.cons_append, po, if_neg (by decide), if_neg (by decide), if_pos rfl, e1, hd, if_neg (dd_pos N), List.drop_left, hn, e2]
    rw [if_neg (by rw [show (40 :: (tx x ++ (41 :: r))) = [40] ++ (tx x ++ (41 :: r)) from rfl, mt_pre]; decide), ih x (by simp) hx m (41 :: r) (by simp only [List.length_append, List.length_cons]; omega) (nd (c := 41) rfl _)]
    simp only [e3, mt_pre]
    rw [if_neg (by decide)]
    congr 1
    simp; omega
theorem mt_take {t l : List UInt8} (h : ¬ mt t l < t.length) : l.take t.length = t := by
  induction t generalizing l with
  | nil => rfl
  | cons a t ih =>
    cases l with
    | nil => exfalso; apply h; show 0 < _; simp
    | cons b l =>
      by_cases e : a = b
      · subst e
        have h2 : ¬ mt t l < t.length := fun hh => h (by
          show (if a = a then mt t l + 1 else 0) < _
          rw [if_pos rfl, List.length_cons]; omega)
        rw [List.length_cons, List.take_succ_cons, ih h2]
      · exfalso; apply h
        show (if a = b then mt t l + 1 else 0) < _
        rw [if_neg e, List.length_cons]; omega
theorem dc_take {l : List UInt8} (h : dc l ≠ 0) : l.take (dc l) = decDigits (nv l) ∧ 1 ≤ nv l ∧ nv l ≤ 999999 := by
  have hd : dc l = min 6 (rl l) ∧ l.head? ≠ some 48 := by
    unfold dc at h ⊢
    by_cases e : l.head? = some 48
    · rw [if_pos e] at h; exact absurd rfl h
    · rw [if_neg e]; exact ⟨rfl, e⟩
  have hall : ∀ b ∈ l.take (dc l), isD b = true := fun b hb => by
    refine Dg.rl_all l b ?_
    rw [hd.1, ← List.take_take] at hb
    exact List.mem_of_mem_take hb
  have hlen : (l.take (dc l)).length = dc l := by rw [List.length_take]; have := dc_le l; omega
  have hne : l.take (dc l) ≠ [] := fun e => h (by rw [← hlen, e]; rfl)
  have htz : tz (l.take (dc l)) = l.take (dc l) := by
    obtain ⟨c, hc⟩ : ∃ c, dc l = c + 1 := ⟨dc l - 1, by omega⟩
    cases l with
    | nil => exact absurd (by simp) hne
    | cons x l =>
      rw [hc, List.take_succ_cons]
      show (if x.toNat = 48 then tz (l.take c) else x :: l.take c) = _
      rw [if_neg fun e => hd.2 (by
        have : x = 48 := UInt8.toNat_inj.1 e
        rw [this]; rfl)]
  refine ⟨Dg.dd_uniq _ _ rfl hall htz hne, ?_, ?_⟩
  · rcases Nat.eq_zero_or_pos (nv l) with e | e
    · exact absurd ((Dg.tz_zero _ hall).2 e) (by rw [htz]; exact hne)
    · exact e
  · have h1 := Dg.dv_lt _ hall
    rw [hlen] at h1
    have h2 : 10 ^ dc l ≤ 10 ^ 6 := Nat.pow_le_pow_right (by decide) (by rw [hd.1]; omega)
    have h3 : nv l < 10 ^ 6 := Nat.lt_of_lt_of_le h1 h2
    have h4 : (10 : Nat) ^ 6 = 1000000 := by decide
    omega
theorem take_join {l : List UInt8} {a b : Nat} {x y : List UInt8} (hx : l.take a = x) (hy : (l.drop a).take b = y) : l.take (a + b) = x ++ y := by
  rw [List.take_add, hx, hy]
/-- what is read is the text of what it is read as -/
theorem po_back : ∀ (m : Nat) (l : List UInt8) (t : Tr) (c : Nat), po m l = (some t, c) → fm t ∧ l.take c = tx t
  | 0, l, t, c, h => by cases h
  | m + 1, [], t, c, h => by cases h
  | m + 1, b :: r, t, c, h => by
    have ihm := po_back m
    rw [po] at h
    by_cases h1 : b = 100 ∨ b = 102
    · rw [if_pos h1] at h
      by_cases h2 : dc r = 0
      · rw [if_pos h2] at h; cases h
      · rw [if_neg h2] at h
        obtain ⟨hd, hn1, hn2⟩ := dc_take h2
        cases h
        rw [Nat.add_comm, List.take_succ_cons, hd]
        rcases h1 with rfl | rfl
        · rw [if_pos rfl]
          refine ⟨fm_leaf (.inl rfl) (by omega) (by omega), ?_⟩
          rw [tx_eq]; rfl
        · rw [if_neg (by decide)]
          refine ⟨fm_leaf (.inr rfl) (by omega) (by omega), ?_⟩
          rw [tx_eq]; rfl
    · rw [if_neg h1] at h
      by_cases h2 : b = 40
      · subst h2
        rw [if_pos rfl] at h
        cases hp : po m r with
        | mk o c1 =>
          rw [hp] at h
          cases o with
          | none => cases h
          | some x =>
            obtain ⟨fx, ex⟩ := ihm r x c1 hp
            simp only at h
            by_cases h3 : mt sx (r.drop c1) < 3
            · rw [if_pos h3] at h; cases h
            · rw [if_neg h3] at h
              have e3 : (r.drop c1).take 3 = sx := mt_take (t := sx) h3
              cases hq : po m (r.drop (c1 + 3)) with
              | mk o2 d =>
                rw [hq] at h
                cases o2 with
                | none => cases h
                | some y =>
                  obtain ⟨fy, ey⟩ := ihm _ y d hq
                  simp only at h
                  by_cases h4 : mt [41] (r.drop (c1 + 3 + d)) < 1
                  · rw [if_pos h4] at h; cases h
                  · rw [if_neg h4] at h
                    have e4 : (r.drop (c1 + 3 + d)).take 1 = [41] := mt_take (t := [41]) h4
                    cases h
                    refine ⟨fm_times fx fy, ?_⟩
                    rw [Nat.add_comm, List.take_succ_cons, take_join (take_join (take_join ex e3) ey) e4, tx_eq]
                    show _ = 40 :: (tx x ++ (sx ++ (tx y ++ [41])))
                    simp
      · rw [if_neg h2] at h
        by_cases h3 : b = 98
        · subst h3
          rw [if_pos rfl] at h
          by_cases h4 : dc r = 0
          · rw [if_pos h4] at h; cases h
          · rw [if_neg h4] at h
            obtain ⟨hd, hn1, hn2⟩ := dc_take h4
            by_cases h5 : mt [40] (r.drop (dc r)) < 1
            · rw [if_pos h5] at h; cases h
            · rw [if_neg h5] at h
              have e5 : (r.drop (dc r)).take 1 = [40] := mt_take (t := [40]) h5
              cases hp : po m (r.drop (dc r + 1)) with
              | mk o c1 =>
                rw [hp] at h
                cases o with
                | none => cases h
                | some x =>
                  obtain ⟨fx, ex⟩ := ihm _ x c1 hp
                  simp only at h
                  by_cases h6 : mt [41] (r.drop (dc r + 1 + c1)) < 1
                  · rw [if_pos h6] at h; cases h
                  · rw [if_neg h6] at h
                    have e6 : (r.drop (dc r + 1 + c1)).take 1 = [41] := mt_take (t := [41]) h6
                    cases h
                    refine ⟨fm_blue (by omega) (by omega) fx, ?_⟩
                    rw [Nat.add_comm, List.take_succ_cons, take_join (take_join (take_join hd e5) ex) e6, tx_eq]
                    show _ = 98 :: (decDigits (nv r) ++ (40 :: (tx x ++ [41])))
                    simp
        · rw [if_neg h3] at h; cases h
/-- the text of such a tree is read as it -/
theorem rd_tx {t : Tr} (h : fm t) : rd (tx t) = (some t, (tx t).length) := by
  unfold rd kont pa
  have e := po_tx t h ((tx t).length + 1) [] (by simp) (by simp)
  rw [List.append_nil] at e
  rw [List.drop_zero, e, Nat.zero_add]
/-- a text that is read to its end is the text of what it is read as -/
theorem rd_back {l : List UInt8} {t : Tr} (h : rd l = (some t, l.length)) : fm t ∧ l = tx t := by
  unfold rd kont pa at h
  rw [List.drop_zero, Nat.zero_add] at h
  obtain ⟨h1, h2⟩ := po_back _ _ t l.length h
  exact ⟨h1, by rw [← h2, List.take_length]⟩
/-- one text, one tree -/
theorem tx_inj {s t : Tr} (hs : fm s) (ht : fm t) (h : tx s = tx t) : s = t := by
  have h1 := rd_tx hs
  rw [h, rd_tx ht] at h1
  cases h1; rfl
end Ps
end Go.Proofs.YtoaccmblaifnmaaDoor
/-
  Layer 12, plain: a text's beginnings: where they don't fit.
-/
namespace Go.Proofs.YtoaccmblaifnmaaDoor
open Tr
open Lib (decDigits)
namespace Ps
open Dg (rl dv isD tz)
theorem rl_take : ∀ (l : List UInt8) (i : Nat), rl (l.take i) = min i (rl l)
  | [], i => by simp [rl]
  | _ :: _, 0 => by simp [rl]
  | b :: l, i + 1 => by
    rw [List.take_succ_cons]
    have ih := rl_take l i
    unfold rl at ih ⊢
    by_cases h : isD b = true
    · rw [List.takeWhile_cons, List.takeWhile_cons, if_pos h, if_pos h, List.length_cons, List.length_cons, ih]; omega
    · rw [List.takeWhile_cons, List.takeWhile_cons, if_neg h, if_neg h]; simp
theorem dc_cut (l : List UInt8) (i : Nat) : dc (l.take i) = min i (dc l) := by
  cases i with
  | zero => simp [dc, rl]
  | succ i =>
    have e : (l.take (i + 1)).head? = l.head? := by cases l <;> simp
    unfold dc
    rw [e, rl_take]
    by_cases h : l.head? = some 48
    · rw [if_pos h, if_pos h]; omega
    · rw [if_neg h, if_neg h]; omega
theorem nv_cut {l : List UInt8} {i : Nat} (h : dc l ≤ i) : nv (l.take i) = nv l := by
  unfold nv
  rw [dc_cut, Nat.min_eq_right h, List.take_take, Nat.min_eq_left h]
theorem mt_cut : ∀ (t l : List UInt8) (i : Nat), mt t (l.take i) = min i (mt t l)
  | [], l, i => by simp [mt]
  | _ :: _, [], i => by simp [mt]
  | _ :: _, _ :: _, 0 => by simp [mt]
  | a :: t, b :: l, i + 1 => by
    rw [List.take_succ_cons]
    show (if a = b then mt t (l.take i) + 1 else 0) = min (i + 1) (if a = b then mt t l + 1 else 0)
    by_cases h : a = b
    · rw [if_pos h, if_pos h, mt_cut t l i]; omega
    · rw [if_neg h, if_neg h]; omega
theorem mt_cutd (t l : List UInt8) (i c : Nat) : mt t ((l.take i).drop c) = min (i - c) (mt t (l.drop c)) := by
  rw [List.drop_take, mt_cut]
/-- how a reading of a beginning ends -/
def Cut (i : Nat) (full res : Option Tr × Nat) : Prop := (full.2 ≤ i → res = full) ∧ (i < full.2 → res.2 = i)
theorem cut_of {i : Nat} {o o' : Option Tr} {c c' : Nat} (h1 : c ≤ i → o' = o ∧ c' = c) (h2 : i < c → c' = i) : Cut i (o, c) (o', c') :=
  ⟨fun h => by rw [(h1 h).1, (h1 h).2], h2⟩
theorem po_cut : ∀ (m : Nat) (l : List UInt8) (i : Nat), Cut i (po m l) (po m (l.take i))
  | 0, l, i => ⟨fun _ => rfl, fun h => absurd h (Nat.not_lt_zero _)⟩
  | m + 1, [], i => by
    rw [List.take_nil]
    exact ⟨fun _ => rfl, fun h => absurd h (Nat.not_lt_zero _)⟩
  | m + 1, b :: r, 0 => by
    rw [List.take_zero]
    refine ⟨fun h => ?_, fun _ => rfl⟩
    have h0 : (po (m + 1) (b :: r)).2 = 0 := Nat.le_zero.1 h
    rw [po] at h0 ⊢
    by_cases h1 : b = 100 ∨ b = 102
    · rw [if_pos h1] at h0
      split at h0 <;> simp at h0
    · rw [if_neg h1] at h0 ⊢
      by_cases h2 : b = 40
      · rw [if_pos h2] at h0
        split at h0
        · simp at h0
        · split at h0
          · simp at h0
          · split at h0
            · simp at h0
            · split at h0 <;> simp at h0
      · rw [if_neg h2] at h0 ⊢
        by_cases h3 : b = 98
        · rw [if_pos h3] at h0
          split at h0
          · simp at h0
          · split at h0
            · simp at h0
            · split at h0
              · simp at h0
              · split at h0 <;> simp at h0
        · rw [if_neg h3]; rfl
  | m + 1, b :: r, i + 1 => by
    have ihm := po_cut m
    rw [List.take_succ_cons, po, po]
    by_cases h1 : b = 100 ∨ b = 102
    · rw [if_pos h1, if_pos h1, dc_cut]
      by_cases h2 : dc r = 0
      · rw [if_pos h2, if_pos (by omega)]
        exact cut_of (fun _ => ⟨rfl, rfl⟩) (fun h => by omega)
      · rw [if_neg h2]
        by_cases h3 : dc r ≤ i
        · rw [nv_cut h3, Nat.min_eq_right h3, if_neg h2]
          exact cut_of (fun _ => ⟨rfl, rfl⟩) (fun h => by omega)
        · by_cases h4 : min i (dc r) = 0
          · rw [if_pos h4]
            exact cut_of (fun h => by omega) (fun h => by omega)
          · rw [if_neg h4]
            exact cut_of (fun h => by omega) (fun h => by omega)
    · rw [if_neg h1, if_neg h1]
      by_cases h2 : b = 40
      · rw [if_pos h2, if_pos h2]
        have c1 := ihm r i
        cases hp : po m r with
        | mk o c =>
          cases hp' : po m (r.take i) with
          | mk o' c' =>
            rw [hp, hp'] at c1
            by_cases hc : c ≤ i
            · have e := c1.1 hc
              cases e
              cases o with
              | none => exact cut_of (fun _ => ⟨rfl, rfl⟩) (fun h => by omega)
              | some x =>
                simp only [mt_cutd]
                have hs := mt_le1 sx (r.drop c)
                have hs' : mt sx (r.drop c) ≤ 3 := hs
                by_cases h3 : mt sx (r.drop c) < 3
                · rw [if_pos h3, if_pos (by omega)]
                  exact cut_of (fun h => ⟨rfl, by omega⟩) (fun h => by omega)
                · rw [if_neg h3]
                  by_cases h4 : i < c + 3
                  · rw [if_pos (by omega)]
                    have hlt : ∀ F : Option Tr × Nat, c + 3 < F.2 → Cut (i + 1) F (none, 1 + (c + min (i - c) (mt sx (r.drop c)))) := fun F hF => ⟨fun h => by omega, fun h => by show 1 + (c + min (i - c) (mt sx (r.drop c))) = i + 1; omega⟩
                    refine hlt _ ?_
                    cases po m (r.drop (c + 3)) with
                    | mk o2 d =>
                      cases o2 with
                      | none => show c + 3 < 1 + (c + 3 + d); omega
                      | some y =>
                        simp only
                        split <;> simp only <;> omega
                  · rw [if_neg (by omega), List.drop_take]
                    have c2 := ihm (r.drop (c + 3)) (i - (c + 3))
                    cases hq : po m (r.drop (c + 3)) with
                    | mk o2 d =>
                      cases hq' : po m ((r.drop (c + 3)).take (i - (c + 3))) with
                      | mk o2' d' =>
                        rw [hq, hq'] at c2
                        by_cases hd : d ≤ i - (c + 3)
                        · have e := c2.1 hd
                          cases e
                          cases o2 with
                          | none => exact cut_of (fun _ => ⟨rfl, rfl⟩) (fun h => by omega)
                          | some y =>
                            simp only
                            have hs2 := mt_le1 [41] (r.drop (c + 3 + d))
                            have hs2' : mt [41] (r.drop (c + 3 + d)) ≤ 1 := hs2
                            by_cases h5 : mt [41] (r.drop (c + 3 + d)) < 1
                            · rw [if_pos h5, if_pos (by omega)]
                              exact cut_of (fun _ => ⟨rfl, rfl⟩) (fun h => by omega)
                            · rw [if_neg h5]
                              by_cases h6 : min (i - (c + 3 + d)) (mt [41] (r.drop (c + 3 + d))) < 1
                              · rw [if_pos h6]
                                exact cut_of (fun h => by omega) (fun h => by omega)
                              · rw [if_neg h6]
                                exact cut_of (fun _ => ⟨rfl, rfl⟩) (fun h => by omega)
                        · have e : d' = i - (c + 3) := c2.2 (by show _ < d; omega)
                          have hlt : ∀ F G : Option Tr × Nat, c + 3 + d < F.2 → G.2 = i + 1 → Cut (i + 1) F G := fun F G hF hG => ⟨fun h => by omega, fun _ => hG⟩
                          refine hlt _ _ ?_ ?_
                          · cases o2 with
                            | none => show c + 3 + d < 1 + (c + 3 + d); omega
                            | some y =>
                              simp only
                              split <;> simp only <;> omega
                          · cases o2' with
                            | none => show 1 + (c + 3 + d') = i + 1; omega
                            | some y =>
                              simp only
                              rw [if_pos (by omega)]
                              show 1 + (c + 3 + d') = i + 1; omega
            · have e : c' = i := c1.2 (by show _ < c; omega)
              have hlt : ∀ F G : Option Tr × Nat, c < F.2 → G.2 = i + 1 → Cut (i + 1) F G := fun F G hF hG => ⟨fun h => by omega, fun _ => hG⟩
              refine hlt _ _ ?_ ?_
              · cases o with
                | none => show c < 1 + c; omega
                | some x =>
                  simp only
                  by_cases h3 : mt sx (r.drop c) < 3
                  · rw [if_pos h3]; simp only; omega
                  · rw [if_neg h3]
                    cases po m (r.drop (c + 3)) with
                    | mk o2 d =>
                      cases o2 with
                      | none => show c < 1 + (c + 3 + d); omega
                      | some y =>
                        simp only
                        split <;> simp only <;> omega
              · cases o' with
                | none => show 1 + c' = i + 1; omega
                | some x =>
                  simp only [mt_cutd]
                  rw [if_pos (by omega)]
                  show 1 + (c' + min (i - c') (mt sx (r.drop c'))) = i + 1; omega
      · rw [if_neg h2, if_neg h2]
        by_cases h3 : b = 98
        · rw [if_pos h3, if_pos h3, dc_cut]
          by_cases h4 : dc r = 0
          · rw [if_pos h4, if_pos (by omega)]
            exact cut_of (fun _ => ⟨rfl, rfl⟩) (fun h => by omega)
          · rw [if_neg h4]
            have hlt : ∀ F G : Option Tr × Nat, i + 1 < F.2 → G.2 = i + 1 → Cut (i + 1) F G := fun F G hF hG => ⟨fun h => by omega, fun _ => hG⟩
            by_cases h5 : dc r ≤ i
            · rw [nv_cut h5, Nat.min_eq_right h5, if_neg h4, mt_cutd]
              have hs := mt_le1 [40] (r.drop (dc r))
              have hs' : mt [40] (r.drop (dc r)) ≤ 1 := hs
              by_cases h6 : mt [40] (r.drop (dc r)) < 1
              · rw [if_pos h6, if_pos (by omega)]
                exact cut_of (fun _ => ⟨rfl, rfl⟩) (fun h => by omega)
              · rw [if_neg h6]
                by_cases h7 : i < dc r + 1
                · rw [if_pos (by omega)]
                  refine hlt _ _ ?_ (by show 1 + dc r = i + 1; omega)
                  cases po m (r.drop (dc r + 1)) with
                  | mk o c =>
                    cases o with
                    | none => show i + 1 < 1 + (dc r + 1 + c); omega
                    | some x =>
                      simp only
                      split <;> simp only <;> omega
                · rw [if_neg (by omega), List.drop_take]
                  have c2 := ihm (r.drop (dc r + 1)) (i - (dc r + 1))
                  cases hq : po m (r.drop (dc r + 1)) with
                  | mk o2 d =>
                    cases hq' : po m ((r.drop (dc r + 1)).take (i - (dc r + 1))) with
                    | mk o2' d' =>
                      rw [hq, hq'] at c2
                      by_cases hd : d ≤ i - (dc r + 1)
                      · have e := c2.1 hd
                        cases e
                        cases o2 with
                        | none => exact cut_of (fun _ => ⟨rfl, rfl⟩) (fun h => by omega)
                        | some y =>
                          simp only [mt_cutd]
                          have hs2 := mt_le1 [41] (r.drop (dc r + 1 + d))
                          have hs2' : mt [41] (r.drop (dc r + 1 + d)) ≤ 1 := hs2
                          by_cases h8 : mt [41] (r.drop (dc r + 1 + d)) < 1
                          · rw [if_pos h8, if_pos (by omega)]
                            exact cut_of (fun _ => ⟨rfl, rfl⟩) (fun h => by omega)
                          · rw [if_neg h8]
                            by_cases h9 : min (i - (dc r + 1 + d)) (mt [41] (r.drop (dc r + 1 + d))) < 1
                            · rw [if_pos h9]
                              exact cut_of (fun h => by omega) (fun h => by omega)
                            · rw [if_neg h9]
                              exact cut_of (fun _ => ⟨rfl, rfl⟩) (fun h => by omega)
                      · have e : d' = i - (dc r + 1) := c2.2 (by show _ < d; omega)
                        refine hlt _ _ ?_ ?_
                        · cases o2 with
                          | none => show i + 1 < 1 + (dc r + 1 + d); omega
                          | some y =>
                            simp only
                            split <;> simp only <;> omega
                        · cases o2' with
                          | none => show 1 + (dc r + 1 + d') = i + 1; omega
                          | some y =>
                            simp only [mt_cutd]
                            rw [if_pos (by omega)]
                            show 1 + (dc r + 1 + d') = i + 1; omega
            · rw [Nat.min_eq_left (by omega)]
              refine hlt _ _ ?_ ?_
              · by_cases h6 : mt [40] (r.drop (dc r)) < 1
                · rw [if_pos h6]; simp only; omega
                · rw [if_neg h6]
                  cases po m (r.drop (dc r + 1)) with
                  | mk o c =>
                    cases o with
                    | none => show i + 1 < 1 + (dc r + 1 + c); omega
                    | some x =>
                      simp only
                      split <;> simp only <;> omega
              · by_cases h6 : i = 0
                · rw [if_pos h6]; simp only; omega
                · rw [if_neg h6, mt_cutd, if_pos (by omega)]
                  simp only; omega
        · rw [if_neg h3, if_neg h3]
          exact cut_of (fun _ => ⟨rfl, rfl⟩) (fun h => by omega)
/-- the place that a beginning's reading tells -/
theorem rd_cut (l : List UInt8) (i : Nat) : (rd (l.take i)).2 = min i (rd l).2 := by
  have h := po_cut (l.length + 1) l i
  have e : po ((l.take i).length + 1) (l.take i) = po (l.length + 1) (l.take i) := po_fuel _ _ _ (Nat.lt_succ_self _) (by rw [List.length_take]; omega)
  unfold rd kont pa
  simp only [List.drop_zero, Nat.zero_add, e]
  by_cases hc : (po (l.length + 1) l).2 ≤ i
  · rw [h.1 hc]; omega
  · rw [h.2 (by omega)]; omega
end Ps
end Go.Proofs.YtoaccmblaifnmaaDoor
/-
  The document's is, number: a reading's place in memory.
-/
namespace Go.Proofs.YtoaccmblaifnmaaDoor
open Flo Go.RowKit Tr
open Lib (decDigits)
theorem gb_drew {w w' : World} {g : Option Nat} (h : w.grownBy w' g) (k : Nat) : w.grownBy (w'.drewN k) g := ⟨h.os, h.tape, h.output, h.size, h.block⟩
theorem mt_step {a : UInt8} {t l : List UInt8} {i p : Nat} (ht : t[i]? = some a) (hl : l[p + i]? = some a) (h : i ≤ Ps.mt t (l.drop p)) : i + 1 ≤ Ps.mt t (l.drop p) := by
  induction t generalizing i p with
  | nil => simp at ht
  | cons x t ih =>
    cases hd : l.drop p with
    | nil =>
      have h1 : (l.drop p)[i]? = some a := by rw [List.getElem?_drop]; exact hl
      rw [hd] at h1; simp at h1
    | cons y m =>
      rw [hd] at h
      have hm : m = l.drop (p + 1) := by rw [← List.drop_drop, hd]; rfl
      cases i with
      | zero =>
        have e1 : x = a := by simpa using ht
        have e2 : y = a := by
          have h1 : (l.drop p)[0]? = some a := by rw [List.getElem?_drop]; exact hl
          rw [hd] at h1; simpa using h1
        show 1 ≤ (if x = y then Ps.mt t m + 1 else 0)
        rw [if_pos (by rw [e1, e2])]; omega
      | succ i =>
        have h2 : i + 1 ≤ (if x = y then Ps.mt t m + 1 else 0) := h
        show i + 1 + 1 ≤ (if x = y then Ps.mt t m + 1 else 0)
        by_cases e : x = y
        · rw [if_pos e] at h2 ⊢
          have := ih (i := i) (p := p + 1) (by simpa using ht) (by rw [show p + 1 + i = p + (i + 1) by omega]; exact hl) (by rw [← hm]; omega)
          rw [← hm] at this; omega
        · rw [if_neg e] at h2; omega
theorem mt_stop {t l : List UInt8} {i p : Nat} (hn : ∀ a, t[i]? = some a → l[p + i]? ≠ some a) (h : i ≤ Ps.mt t (l.drop p)) : Ps.mt t (l.drop p) = i := by
  induction t generalizing i p with
  | nil => simp [Ps.mt] at h ⊢; omega
  | cons x t ih =>
    cases hd : l.drop p with
    | nil => rw [hd] at h; simp [Ps.mt] at h ⊢; omega
    | cons y m =>
      rw [hd] at h
      have hm : m = l.drop (p + 1) := by rw [← List.drop_drop, hd]; rfl
      cases i with
      | zero =>
        show (if x = y then Ps.mt t m + 1 else 0) = 0
        rw [if_neg]
        intro e
        refine hn x rfl ?_
        have h1 : (l.drop p)[0]? = some y := by rw [hd]; rfl
        rw [List.getElem?_drop] at h1
        rw [e]; exact h1
      | succ i =>
        have h2 : i + 1 ≤ (if x = y then Ps.mt t m + 1 else 0) := h
        show (if x = y then Ps.mt t m + 1 else 0) = i + 1
        by_cases e : x = y
        · rw [if_pos e] at h2 ⊢
          have := ih (i := i) (p := p + 1) (fun a ha => by rw [show p + 1 + i = p + (i + 1) by omega]; exact hn a (by simpa using ha)) (by rw [← hm]; omega)
          rw [← hm] at this; omega
        · rw [if_neg e] at h2; omega
theorem bt_get (l : List UInt8) (i : Nat) (h : i < (Bt l).size) : l[i]? = some ((Bt l)[i]) := by
  have h2 : i < (Bt l).data.toList.length := h
  have e : (Bt l).data.toList[i]? = some ((Bt l)[i]) := by rw [List.getElem?_eq_getElem h2]; rfl
  rw [Bt_data] at e; exact e
end Go.Proofs.YtoaccmblaifnmaaDoor
/-
  The document's number.
-/
namespace Go.Proofs.YtoaccmblaifnmaaDoor
open Flo Go.RowKit Tr
open Lib (decDigits)
namespace Ps
open Dg (rl dv isD tz)
theorem rl_more : ∀ (l : List UInt8) (k : Nat) (b : UInt8), k ≤ rl l → l[k]? = some b → isD b = true → k + 1 ≤ rl l
  | [], k, b, _, h, _ => by simp at h
  | x :: l, 0, b, _, h, hb => by
    have e : x = b := by simpa using h
    unfold rl
    rw [List.takeWhile_cons, if_pos (by rw [e]; exact hb), List.length_cons]; omega
  | x :: l, k + 1, b, h, h2, hb => by
    unfold rl at h ⊢
    rw [List.takeWhile_cons] at h ⊢
    by_cases hx : isD x = true
    · rw [if_pos hx, List.length_cons] at h ⊢
      have := rl_more l k b (by unfold rl; omega) (by simpa using h2) hb
      unfold rl at this; omega
    · rw [if_neg hx] at h; simp at h
theorem dc_le6 (l : List UInt8) : dc l ≤ 6 := by
  unfold dc
  split <;> omega
theorem dc_rl (l : List UInt8) : dc l ≤ rl l := by
  unfold dc
  split <;> omega
theorem dc_stop {l : List UInt8} {k : Nat} (h : k ≤ dc l) (hs : k = 6 ∨ ∀ b, l[k]? = some b → isD b = false) : dc l = k := by
  rcases hs with rfl | hs
  · have := dc_le6 l; omega
  · by_cases hk : k < dc l
    · exfalso
      have h1 := dc_rl l
      have h2 := Dg.rl_le l
      have h3 : l[k]? = some (l[k]'(by omega)) := List.getElem?_eq_getElem _
      have h4 := Dg.rl_all l (l[k]'(by omega)) (by
        refine List.mem_of_getElem? (i := k) ?_
        rw [List.getElem?_take, if_pos (by omega)]; exact h3)
      rw [hs _ h3] at h4
      exact absurd h4 (by decide)
    · omega
theorem dc_more {l : List UInt8} {k : Nat} {b : UInt8} (h : k ≤ dc l) (hk : k < 6) (hb : l[k]? = some b) (hd : isD b = true) (h0 : k ≠ 0 ∨ b ≠ 48) : k + 1 ≤ dc l := by
  have h1 := rl_more l k b (Nat.le_trans h (dc_rl l)) hb hd
  have hh : l.head? ≠ some 48 := by
    rcases h0 with h0 | h0
    · intro e
      unfold dc at h
      rw [if_pos e] at h; omega
    · by_cases hk0 : k = 0
      · subst hk0
        intro e
        rw [List.head?_eq_getElem?, hb] at e
        exact h0 (Option.some.inj e)
      · intro e
        unfold dc at h
        rw [if_pos e] at h; omega
  unfold dc
  rw [if_neg hh]; omega
theorem dc_nought {l : List UInt8} (h : l[0]? = some 48) : dc l = 0 := by
  unfold dc
  rw [List.head?_eq_getElem?, if_pos h]
end Ps
end Go.Proofs.YtoaccmblaifnmaaDoor
