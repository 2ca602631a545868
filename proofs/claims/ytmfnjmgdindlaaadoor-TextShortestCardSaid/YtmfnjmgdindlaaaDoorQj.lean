/-
  What a number's digits with an exponent are read as. Plain.
-/
import Derived.Test.YtmfnjmgdindlaaaDoorQh
import Derived.Test.YtmfnjmgdindlaaaDoorQi
import Derived.Test.YtmfnjmgdindlaaaDoorQg
namespace Go.Proofs.YtmfnjmgdindlaaaDoor
open Flo Go.RowKit
theorem rl_stop {ds r : List UInt8} {c : UInt8} (h : ∀ b ∈ ds, Dg.isD b = true) (hc : Dg.isD c = false) : Dg.rl (ds ++ c :: r) = ds.length := by
  unfold Dg.rl
  induction ds with
  | nil => simp [hc]
  | cons a l ih =>
    have h1 := h a List.mem_cons_self
    rw [List.cons_append, List.takeWhile_cons, if_pos h1, List.length_cons, List.length_cons, ih (fun b hb => h b (List.mem_cons_of_mem _ hb))]
theorem rl_full {ds : List UInt8} (h : ∀ b ∈ ds, Dg.isD b = true) : Dg.rl ds = ds.length := by
  unfold Dg.rl
  induction ds with
  | nil => rfl
  | cons a l ih =>
    have h1 := h a List.mem_cons_self
    rw [List.takeWhile_cons, if_pos h1, List.length_cons, List.length_cons, ih (fun b hb => h b (List.mem_cons_of_mem _ hb))]
theorem cut1_dig {ds r : List UInt8} (h : ∀ b ∈ ds, Dg.isD b = true) (hne : ds ≠ []) : cut1 45 (ds ++ r) = (ds ++ r, false) := by
  cases ds with
  | nil => exact absurd rfl hne
  | cons a l =>
    have h1 := h a List.mem_cons_self
    have hc : a ≠ 45 := by
      intro hc
      rw [hc] at h1
      exact absurd h1 (by decide)
    show (if a = 45 then (l ++ r, true) else (a :: (l ++ r), false)) = _
    rw [if_neg hc]
    rfl
/-- the exponent that is taken -/
def cl (x : Int) : Int := max (-9999) (min x 9999)
theorem cl_mono {x y : Int} (h : x ≤ y) : cl x ≤ cl y := by unfold cl; omega
theorem cx_text {x : Int} {el : List UInt8} (h : Ds x.natAbs el) : cx ((if x < 0 then [45] else []) ++ el) = (cl x, [], true) := by
  have hp : 0 < el.length := List.length_pos_iff.2 h.ne
  unfold cx cl
  by_cases hx : x < 0
  · rw [if_pos hx]
    have e : cut1 45 ([45] ++ el) = (el, true) := rfl
    rw [e]
    simp only
    rw [rl_full h.dig, List.take_length, List.drop_length, exf_min, h.val, if_pos trivial, decide_eq_true hp]
    congr 1
    omega
  · rw [if_neg hx, List.nil_append]
    have e := cut1_dig (r := []) h.dig h.ne
    rw [List.append_nil] at e
    rw [e]
    simp only
    rw [rl_full h.dig, List.take_length, List.drop_length, exf_min, h.val, decide_eq_true hp]
    congr 1
    rw [if_neg (by simp)]
    omega
/-- the whole text -/
def wtx (mi : Bool) (ds : List UInt8) (x : Int) (el : List UInt8) : List UInt8 := (if mi then [45] else []) ++ (ds ++ exl x el)
theorem prs_text (mi : Bool) {n : Nat} {ds el : List UInt8} {x : Int} (hd : Ds n ds) (he : Ds x.natAbs el) : prs (wtx mi ds x el) = some (mi, ds, cl x) := by
  have l1 := hd.len
  have l2 := he.len
  have hp : 0 < ds.length := List.length_pos_iff.2 hd.ne
  have hlen : (wtx mi ds x el).length ≤ 400 := by
    unfold wtx exl
    rw [List.length_append, List.length_append, List.length_cons, List.length_append]
    have a1 : (if mi then [(45 : UInt8)] else []).length ≤ 1 := by split <;> simp
    have a2 : (if x < 0 then [(45 : UInt8)] else []).length ≤ 1 := by split <;> simp
    omega
  have hc : cut1 45 (wtx mi ds x el) = (ds ++ exl x el, mi) := by
    cases mi with
    | true => rfl
    | false =>
      show cut1 45 ([] ++ (ds ++ exl x el)) = _
      rw [List.nil_append]
      exact cut1_dig hd.dig hd.ne
  have hr : Dg.rl (ds ++ exl x el) = ds.length := rl_stop hd.dig (by decide)
  have hf : fra (exl x el) = ([], exl x el, true) := by
    have e : cut1 46 (exl x el) = (exl x el, false) := rfl
    unfold fra
    rw [e, if_neg (by simp)]
  have hx : xpo (exl x el) = (cl x, [], true) := by
    have e : cut1 101 (exl x el) = ((if x < 0 then [45] else []) ++ el, true) := rfl
    unfold xpo
    rw [e, if_pos rfl]
    exact cx_text he
  unfold prs
  rw [if_neg (by omega), hc]
  simp only
  rw [hr, if_neg (by omega), List.drop_left, hf]
  simp only
  rw [hx]
  simp
theorem pp_text {mi : Bool} {n : Nat} {ds el : List UInt8} {x : Int} {et er v : Value} (hd : Ds n ds) (he : Ds x.natAbs el) (h : PP (wtx mi ds x el) et er v) :
    ∃ r, Rd.Sp n (cl x) r ∧ ((Rd.inf ≤ r ∧ v = tup 0 er) ∨ (r < Rd.inf ∧ v = tup (r + sg mi) .nilIface)) := by
  have hp := prs_text mi hd he
  rcases h with ⟨e, _⟩ | ⟨e, _⟩ | ⟨e, _⟩ | ⟨_, h⟩
  · rw [e, show prs [110, 97, 110] = none from rfl] at hp; cases hp
  · rw [e, show prs [105, 110, 102] = none from rfl] at hp; cases hp
  · rw [e, show prs [45, 105, 110, 102] = none from rfl] at hp; cases hp
  · rcases h with ⟨e, _⟩ | ⟨mi', ds', p, r, e, h1, h2⟩
    · rw [e] at hp; cases hp
    · rw [hp] at e
      simp only [Option.some.injEq, Prod.mk.injEq] at e
      obtain ⟨rfl, rfl, rfl⟩ := e
      rw [hd.val] at h1
      exact ⟨r, h1, h2⟩
theorem val_mono {D D' : Nat} {p p' : Int} (h : D ≤ D') (hp : p ≤ p') : Rd.num D p * Rd.den p' ≤ Rd.num D' p' * Rd.den p := by
  unfold Rd.num Rd.den
  rw [Nat.mul_assoc, Nat.mul_assoc, ← Nat.pow_add, ← Nat.pow_add]
  exact Nat.mul_le_mul h (Nat.pow_le_pow_right (by decide) (by omega))
end Go.Proofs.YtmfnjmgdindlaaaDoor
/-
  What digits with a point behind the first and an exponent are read as. Plain.
-/
namespace Go.Proofs.YtmfnjmgdindlaaaDoor
open Flo Go.RowKit
/-- digits with a point behind the first, if there are more -/
def dtd (r : List UInt8) : List UInt8 := if r.length ≤ 1 then r else r.take 1 ++ [46] ++ r.drop 1
theorem prs_dot (mi : Bool) {r el : List UInt8} {x : Int} (hd : ∀ b ∈ r, Dg.isD b = true) (hne : r ≠ []) (hl : r.length ≤ 300) (he : Ds x.natAbs el) :
    prs ((if mi then [45] else []) ++ dtd r ++ exl x el) = some (mi, r, cl x - (r.length - 1 : Nat)) := by
  have l2 := he.len
  have hp : 0 < r.length := List.length_pos_iff.2 hne
  have hx : xpo (exl x el) = (cl x, [], true) := by
    have e : cut1 101 (exl x el) = ((if x < 0 then [45] else []) ++ el, true) := rfl
    unfold xpo
    rw [e, if_pos rfl]
    exact cx_text he
  have hel : (exl x el).length ≤ 30 := by
    unfold exl
    rw [List.length_cons, List.length_append]
    have a2 : (if x < 0 then [(45 : UInt8)] else []).length ≤ 1 := by split <;> simp
    omega
  have a1 : (if mi then [(45 : UInt8)] else []).length ≤ 1 := by split <;> simp
  -- the first digit, what is behind
  obtain ⟨c, q, rfl⟩ : ∃ c q, r = c :: q := by cases r with | nil => exact absurd rfl hne | cons c q => exact ⟨c, q, rfl⟩
  have hcd : ∀ b ∈ [c], Dg.isD b = true := fun b hb => hd b (by simp at hb; simp [hb])
  have hqd : ∀ b ∈ q, Dg.isD b = true := fun b hb => hd b (by simp [hb])
  rw [List.length_cons] at hl
  have hcut : ∀ t : List UInt8, cut1 45 ((if mi then [45] else []) ++ (c :: t)) = (c :: t, mi) := by
    intro t
    cases mi with
    | true => rfl
    | false =>
      have := cut1_dig (ds := [c]) (r := t) hcd (by simp)
      exact this
  by_cases hq : q = []
  · subst hq
    have e1 : dtd [c] = [c] := rfl
    rw [e1, List.append_assoc]
    have hc2 := hcut (exl x el)
    have hr : Dg.rl (c :: exl x el) = 1 := rl_stop (ds := [c]) hcd (by decide)
    have hf : fra (exl x el) = ([], exl x el, true) := by
      have e : cut1 46 (exl x el) = (exl x el, false) := rfl
      unfold fra
      rw [e, if_neg (by simp)]
    unfold prs
    rw [if_neg (by simp only [List.length_append, List.length_cons, List.length_nil]; omega), show (if mi = true then [45] else []) ++ ([c] ++ exl x el) = (if mi then [45] else []) ++ (c :: exl x el) from rfl, hc2]
    simp only
    rw [hr, if_neg (by decide), show (c :: exl x el).drop 1 = exl x el from rfl, hf]
    simp only
    rw [hx]
    simp
  · have hq1 : 0 < q.length := List.length_pos_iff.2 hq
    have e1 : dtd (c :: q) = c :: 46 :: q := by
      unfold dtd
      rw [if_neg (by rw [List.length_cons]; omega)]; rfl
    rw [e1, List.append_assoc]
    have hc2 := hcut (46 :: (q ++ exl x el))
    have hr : Dg.rl (c :: 46 :: (q ++ exl x el)) = 1 := rl_stop (ds := [c]) hcd (by decide)
    have hrq : Dg.rl (q ++ exl x el) = q.length := rl_stop hqd (by decide)
    have hf : fra (46 :: (q ++ exl x el)) = (q, exl x el, true) := by
      have e : cut1 46 (46 :: (q ++ exl x el)) = (q ++ exl x el, true) := rfl
      unfold fra
      rw [e, if_pos rfl]
      simp only
      rw [hrq, List.take_left, List.drop_left, decide_eq_true hq1]
    unfold prs
    rw [if_neg (by simp only [List.length_append, List.length_cons]; omega), show (if mi = true then [45] else []) ++ (c :: 46 :: q ++ exl x el) = (if mi then [45] else []) ++ (c :: 46 :: (q ++ exl x el)) from rfl, hc2]
    simp only
    rw [hr, if_neg (by decide), show (c :: 46 :: (q ++ exl x el)).drop 1 = 46 :: (q ++ exl x el) from rfl, hf]
    simp only
    rw [hx]
    simp
theorem pp_dot {mi : Bool} {r el : List UInt8} {x : Int} {et er v : Value} (hd : ∀ b ∈ r, Dg.isD b = true) (hne : r ≠ []) (hl : r.length ≤ 300) (he : Ds x.natAbs el) (h : PP ((if mi then [45] else []) ++ dtd r ++ exl x el) et er v) :
    ∃ s, Rd.Sp (Dg.dv r) (cl x - (r.length - 1 : Nat)) s ∧ ((Rd.inf ≤ s ∧ v = tup 0 er) ∨ (s < Rd.inf ∧ v = tup (s + sg mi) .nilIface)) := by
  have hp := prs_dot mi hd hne hl he
  rcases h with ⟨e, _⟩ | ⟨e, _⟩ | ⟨e, _⟩ | ⟨_, h⟩
  · rw [e, show prs [110, 97, 110] = none from rfl] at hp; cases hp
  · rw [e, show prs [105, 110, 102] = none from rfl] at hp; cases hp
  · rw [e, show prs [45, 105, 110, 102] = none from rfl] at hp; cases hp
  · rcases h with ⟨e, _⟩ | ⟨mi', ds', p, s, e, h1, h2⟩
    · rw [e] at hp; cases hp
    · rw [hp] at e
      simp only [Option.some.injEq, Prod.mk.injEq] at e
      obtain ⟨rfl, rfl, rfl⟩ := e
      exact ⟨s, h1, h2⟩
end Go.Proofs.YtmfnjmgdindlaaaDoor
/-
  TextShortest's own: digits.
-/
namespace Go.Proofs.YtmfnjmgdindlaaaDoor
open Flo Go.RowKit
/-- how many digits stand ahead of the first letter e -/
def dcount : List UInt8 → Nat
  | [] => 0
  | b :: l => if b.toNat = 101 then 0 else (if Dg.isD b then 1 else 0) + dcount l
theorem dcount_e (l : List UInt8) (h : ∀ b ∈ l, b.toNat ≠ 101) (m : List UInt8) : dcount (l ++ 101 :: m) = (l.filter Dg.isD).length := by
  induction l with
  | nil => rfl
  | cons x l ih =>
    show (if x.toNat = 101 then 0 else (if Dg.isD x then 1 else 0) + dcount (l ++ 101 :: m)) = _
    rw [if_neg (h x (by simp)), ih (fun b hb => h b (by simp [hb]))]
    by_cases hx : Dg.isD x = true
    · rw [List.filter_cons_of_pos hx, if_pos hx, List.length_cons]; omega
    · rw [List.filter_cons_of_neg hx, if_neg hx]; omega
theorem dcount_le (l : List UInt8) : dcount l ≤ l.length := by
  induction l with
  | nil => exact Nat.le_refl _
  | cons x l ih =>
    show (if x.toNat = 101 then 0 else (if Dg.isD x then 1 else 0) + dcount l) ≤ l.length + 1
    split
    · omega
    · split <;> omega
theorem drop_get {l : List UInt8} {i : Nat} {b : UInt8} (h : l[i]? = some b) : l.drop i = b :: l.drop (i + 1) := by
  obtain ⟨hi, he⟩ := List.getElem?_eq_some_iff.1 h
  rw [List.drop_eq_getElem_cons hi, he]
set_option maxRecDepth 100000 in
set_option maxHeartbeats 1000000 in
theorem digits_c (l : List UInt8) (w : World) (hl : l.length ≤ 100000) :
    Calls Tryd.prog 8 #[.string (B l)] w fun e w' => e = .returned (.int .i64 (dcount l : Nat)) ∧ w = w' := by
  have hsz : (B l).size = l.length := B_size l
  obtain ⟨R, hR⟩ : ∃ R, B l = R := ⟨_, rfl⟩
  have hget : Hid (∀ i (h : i < R.size), l[i]? = some R[i]) := fun i h => by subst hR; exact ba_get (B l) i h
  obtain ⟨K, hK⟩ : ∃ K, Hid (dcount l = K) := ⟨_, rfl⟩
  have hKl : K ≤ 100000 := by rw [← hK.out]; exact Nat.le_trans (dcount_le l) hl
  rw [hR] at hsz ⊢
  rw [hK.out]
  clear hR
  go_enter Tryd.func8, Tryd.ntmps8
  go_wp2
  go_loop [3, 4] (fun sn si => ∃ i n : Nat, i ≤ l.length ∧ si = .int .i64 i ∧ sn = .int .i64 n ∧ n ≤ i ∧ Hid (K = n + dcount (l.drop i))) (fun _ si => l.length - (intOf si).toNat)
  case atStart => exact ⟨0, 0, Nat.zero_le _, rfl, rfl, Nat.le_refl _, (by rw [List.drop_zero, Nat.zero_add]; exact hK.out.symm : K = 0 + dcount (l.drop 0))⟩
  case round =>
    obtain ⟨i, n, hi, rfl, rfl, hni, hk⟩ := hrel
    by_cases hlt : i < R.size
    · have hlt' : (i : Int) < (R.size : Int) := by omega
      have hg := hget.out i hlt
      have hd := drop_get hg
      have hk2 : Hid (K = n + (if R[i].toNat = 101 then 0 else (if Dg.isD R[i] then 1 else 0) + dcount (l.drop (i + 1)))) := by
        have := hk.out
        rw [hd] at this
        exact this
      clear hk hd hg
      by_cases c1 : R[i].toNat = 101
      · have c1' : ((R[i].toNat : Int) != 101) = false := by simp; omega
        have hKn : K = n := by have := hk2.out; rw [if_pos c1] at this; omega
        subst hKn
        clear hk2
        go_wp2
        go_ret
        exact ⟨rfl, rfl⟩
      · have c1' : ((R[i].toNat : Int) != 101) = true := by simp; omega
        by_cases c2 : 48 ≤ R[i].toNat
        · by_cases c3 : R[i].toNat ≤ 57
          · have hn : Hid (K = (n + 1) + dcount (l.drop (i + 1))) := by
              have := hk2.out
              rw [if_neg c1, if_pos (show Dg.isD R[i] = true from decide_eq_true ⟨c2, c3⟩)] at this
              show _ = _
              omega
            have c2' : (48 : Int) ≤ (R[i].toNat : Int) := by omega
            have c3' : (R[i].toNat : Int) ≤ 57 := by omega
            clear hk2
            go_wp2
            go_round
            case rel => exact ⟨i + 1, n + 1, by omega, by go_num, by go_num, by omega, hn⟩
            case measure => simp [intOf]; omega
          · have hn : Hid (K = n + dcount (l.drop (i + 1))) := by
              have := hk2.out
              rw [if_neg c1, if_neg (show ¬ Dg.isD R[i] = true from fun h => c3 (of_decide_eq_true h).2)] at this
              show _ = _
              omega
            have c2' : (48 : Int) ≤ (R[i].toNat : Int) := by omega
            have c3' : decide ((R[i].toNat : Int) ≤ 57) = false := decide_eq_false (by omega)
            clear hk2
            go_wp2
            go_round
            case rel => exact ⟨i + 1, n, by omega, by go_num, rfl, by omega, hn⟩
            case measure => simp [intOf]; omega
        · have hn : Hid (K = n + dcount (l.drop (i + 1))) := by
            have := hk2.out
            rw [if_neg c1, if_neg (show ¬ Dg.isD R[i] = true from fun h => c2 (of_decide_eq_true h).1)] at this
            show _ = _
            omega
          have c2' : decide ((48 : Int) ≤ (R[i].toNat : Int)) = false := decide_eq_false (by omega)
          clear hk2
          go_wp2
          go_round
          case rel => exact ⟨i + 1, n, by omega, by go_num, rfl, by omega, hn⟩
          case measure => simp [intOf]; omega
    · have hlt' : ¬ ((i : Int) < (R.size : Int)) := by omega
      have hKn : K = n := by
        have := hk.out
        rw [List.drop_eq_nil_of_le (by omega)] at this
        exact this
      subst hKn
      go_wp2
      go_ret
      exact ⟨rfl, rfl⟩
end Go.Proofs.YtmfnjmgdindlaaaDoor
