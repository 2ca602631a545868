/-
  Digits to the base of sixteen, read. Plain.
-/
import Derived.Test.YtmdnmhbfdceliaaGreatDoorQj
import Derived.Handy
import Derived.Test.YtmdnmhbfdceliaaGreatDoorSiz
import Derived.Test.YtmdnmhbfdceliaaGreatDoorQb
namespace Go.Proofs.YtmdnmhbfdceliaaGreatDoor.Hx
def hexv (c : Nat) : Option Nat := if 48 ≤ c ∧ c ≤ 57 then some (c - 48) else if 97 ≤ c ∧ c ≤ 102 then some (c - 87) else none
theorem hexv_lt {c d : Nat} (h : hexv c = some d) : d < 16 := by
  unfold hexv at h
  split at h
  · cases h; omega
  · split at h
    · cases h; omega
    · cases h
/-- one digit more -/
def st (o : Option Nat) (c : UInt8) : Option Nat := o.bind fun b => (hexv c.toNat).map fun d => 16 * b + d
/-- the number that digits are, if they are -/
def hxs (l : List UInt8) : Option Nat := l.foldl st (some 0)
theorem hxs_snoc (l : List UInt8) (c : UInt8) : hxs (l ++ [c]) = st (hxs l) c := by simp [hxs]
theorem st_none (l : List UInt8) : l.foldl st none = none := by
  induction l with
  | nil => rfl
  | cons x l ih => exact ih
theorem take_snoc {l : List UInt8} {i : Nat} {b : UInt8} (h : l[i]? = some b) : l.take (i + 1) = l.take i ++ [b] := by
  rw [List.take_add_one, h]; rfl
theorem hxs_fail {l : List UInt8} {i : Nat} {c : UInt8} (h : l[i]? = some c) (h2 : hexv c.toNat = none) : hxs l = none := by
  have e : l = l.take (i + 1) ++ l.drop (i + 1) := (List.take_append_drop _ _).symm
  rw [e]
  unfold hxs
  rw [List.foldl_append]
  have h3 : (l.take (i + 1)).foldl st (some 0) = none := by
    rw [take_snoc h, List.foldl_append]
    show st _ c = none
    generalize (l.take i).foldl st (some 0) = o
    unfold st
    rw [h2]
    cases o <;> rfl
  rw [h3]
  exact st_none _
theorem fold_lt : ∀ (l : List UInt8) (a b : Nat), l.foldl st (some a) = some b → b < (a + 1) * 16 ^ l.length
  | [], a, b, h => by cases h; simp
  | x :: l, a, b, h => by
    cases h2 : hexv x.toNat with
    | none =>
      have e : st (some a) x = none := by unfold st; rw [h2]; rfl
      rw [List.foldl_cons, e, st_none] at h
      cases h
    | some d =>
      have e : st (some a) x = some (16 * a + d) := by unfold st; rw [h2]; rfl
      rw [List.foldl_cons, e] at h
      have h3 := fold_lt l _ _ h
      have h4 := hexv_lt h2
      rw [List.length_cons, Nat.pow_succ, Nat.mul_comm (16 ^ l.length), ← Nat.mul_assoc]
      exact Nat.lt_of_lt_of_le h3 (Nat.mul_le_mul_right _ (by omega))
theorem hxs_lt (l : List UInt8) (b : Nat) (h : hxs l = some b) : b < 16 ^ l.length := by
  have := fold_lt l 0 b h
  rwa [Nat.zero_add, Nat.one_mul] at this
theorem hxs_step {l : List UInt8} {i b d : Nat} {c : UInt8} (h : l[i]? = some c) (hb : hxs (l.take i) = some b) (hd : hexv c.toNat = some d) : hxs (l.take (i + 1)) = some (16 * b + d) := by
  rw [take_snoc h, hxs_snoc, hb]
  unfold st
  rw [hd]
  rfl
end Go.Proofs.YtmdnmhbfdceliaaGreatDoor.Hx
/-
  decimalOf: a decimal text taken apart.
-/
namespace Go.Proofs.YtmdnmhbfdceliaaGreatDoor
open Flo Go.RowKit
/-- the fraction: its digits, what is behind, whether it is right -/
def fra (l : List UInt8) : List UInt8 × List UInt8 × Bool :=
  if (cut1 46 l).2 then ((cut1 46 l).1.take (Dg.rl (cut1 46 l).1), (cut1 46 l).1.drop (Dg.rl (cut1 46 l).1), decide (0 < Dg.rl (cut1 46 l).1)) else ([], l, true)
/-- the exponent: its number, what is behind, whether it is right -/
def xpo (l : List UInt8) : Int × List UInt8 × Bool := if (cut1 101 l).2 then cx (cut1 101 l).1 else (0, l, true)
/-- a decimal text: its sign, its digits, its power of ten -/
def prs (l : List UInt8) : Option (Bool × List UInt8 × Int) :=
  if 400 < l.length then none else
  let t := (cut1 45 l).1
  if Dg.rl t = 0 then none else
  let f := fra (t.drop (Dg.rl t))
  if f.2.2 = false then none else
  let x := xpo f.2.1
  if x.2.2 = false then none else
  if x.2.1 ≠ [] then none else some ((cut1 45 l).2, t.take (Dg.rl t) ++ f.1, x.1 - (f.1.length : Int))
def dres : Option (Bool × List UInt8 × Int) → Value
  | none => .tuple #[.agg #[.bool false, .string ⟨#[]⟩, .int .i64 0], .bool false]
  | some (m, ds, p) => .tuple #[.agg #[.bool m, .string (B (Dg.tz ds)), .int .i64 p], .bool true]
set_option maxRecDepth 100000 in
set_option maxHeartbeats 400000 in
theorem decimalOf_long (l : List UInt8) (w : World) (hl : 400 < l.length) :
    Calls Tryz.prog 18 #[.string (B l)] w fun e w' => e = .returned (dres (prs l)) ∧ Below w.heap.size w w' := by
  have hsz : (B l).size = l.length := B_size l
  have h400' : (400 : Int) < (l.length : Int) := by omega
  have hp : Hid (prs l = none) := by show _ = _; unfold prs; rw [if_pos hl]
  go_enter Tryz.func18, Tryz.ntmps18
  go_wp2
  go_returns
  rw [hp.out]
  exact ⟨rfl, (Below.refl _ _).alloc (Nat.le_refl _) _⟩
theorem cut1_not {c : UInt8} {l : List UInt8} (h : (cut1 c l).2 = false) : (cut1 c l).1 = l := by
  cases l with
  | nil => rfl
  | cons x l =>
    simp only [cut1] at h ⊢
    split at h
    · cases h
    · rename_i hx; rw [if_neg hx]
theorem bl3 {w X : World} (hb : Below w.heap.size w X) (a b c : Value) : Below w.heap.size w (((X.setCell ⟨w.heap.size, 0, none⟩ a).setCell ⟨w.heap.size, 1, none⟩ b).setCell ⟨w.heap.size, 2, none⟩ c) :=
  ((hb.setCell (Nat.le_refl _) _).setCell (Nat.le_refl _) _).setCell (Nat.le_refl _) _
theorem cx_le (l : List UInt8) : -9999 ≤ (cx l).1 ∧ (cx l).1 ≤ 9999 := by
  have h := exf_le ((cut1 45 l).1.take (Dg.rl (cut1 45 l).1))
  unfold cx
  simp only
  split <;> omega
set_option maxRecDepth 100000 in
set_option maxHeartbeats 400000 in
theorem decimalOf_short (l : List UInt8) (w : World) (hl : l.length ≤ 400) :
    Calls Tryz.prog 18 #[.string (B l)] w fun e w' => e = .returned (dres (prs l)) ∧ Below w.heap.size w w' := by
  have hsz : (B l).size = l.length := B_size l
  have h400' : ¬ ((400 : Int) < (l.length : Int)) := by omega
  have hlt := cut1_len 45 l
  obtain ⟨t, ht⟩ : ∃ t, Hid (t = (cut1 45 l).1) := ⟨_, rfl⟩
  obtain ⟨mi, hmi⟩ : ∃ mi, Hid (mi = (cut1 45 l).2) := ⟨_, rfl⟩
  obtain ⟨k, hk⟩ : ∃ k, Hid (k = Dg.rl t) := ⟨_, rfl⟩
  have htl : t.length ≤ 400 := by rw [ht.out]; omega
  have hp0 : Hid (prs l = if k = 0 then none else if (fra (t.drop k)).2.2 = false then none else if (xpo (fra (t.drop k)).2.1).2.2 = false then none else if (xpo (fra (t.drop k)).2.1).2.1 ≠ [] then none else some (mi, t.take k ++ (fra (t.drop k)).1, (xpo (fra (t.drop k)).2.1).1 - ((fra (t.drop k)).1.length : Int))) := by
    show _ = _
    unfold prs
    rw [if_neg (by omega), hk.out, ht.out, hmi.out]
  have hc1 : Hid (∀ w, Calls Tryz.prog 35 #[.string (B l), .string ⟨#[45]⟩] w fun e w' => e = .returned (.tuple #[.string (B t), .bool mi]) ∧ w = w') := fun w => by rw [ht.out, hmi.out]; exact cutPrefix_c 45 l w
  have hc2 : Hid (∀ w, Calls Tryz.prog 36 #[.string (B t)] w fun e w' => e = .returned (.tuple #[.string (B (t.take k)), .string (B (t.drop k)), .bool (decide (0 < k))]) ∧ ∃ q, w' = w.drewN q) := fun w => by rw [hk.out]; exact cutDigits_l t w (by omega)
  go_enter Tryz.func18, Tryz.ntmps18
  go_wp2_with fail
  refine (hc1.out _).mono ?_
  rintro e w' ⟨rfl, rfl⟩
  go_wp2_with fail
  refine (hc2.out _).mono ?_
  rintro e w' ⟨rfl, q1, rfl⟩
  by_cases hk0 : k = 0
  · have hd0 : decide (0 < k) = false := decide_eq_false (by omega)
    have hp : Hid (prs l = none) := by show _ = _; rw [hp0.out, if_pos hk0]
    rw [hd0]
    clear hd0 hk0
    go_wp2
    go_returns
    rw [hp.out]
    exact ⟨by first | rfl | simp [dres], bl3 (by repeat (first | exact (Below.refl _ _).alloc (Nat.le_refl _) _ | apply below_drewN)) _ _ _⟩
  · have hd0 : decide (0 < k) = true := decide_eq_true (by omega)
    have hp1 : Hid (prs l = _) := hp0.out.trans (if_neg hk0)
    rw [hd0]
    clear hd0 hk0 hp0
    have hcw : (B (t.take k)).size ≤ 400 := by rw [B_size]; simp; omega
    obtain ⟨t1, ht1⟩ : ∃ t1, t1 = t.drop k := ⟨_, rfl⟩
    have ht1l : t1.length ≤ 400 := by rw [ht1]; simp; omega
    rw [← ht1] at hp1 ⊢
    clear ht1
    obtain ⟨r, hr⟩ : ∃ r, Hid (r = (cut1 46 t1).1) := ⟨_, rfl⟩
    obtain ⟨dot, hdot⟩ : ∃ dot, Hid (dot = (cut1 46 t1).2) := ⟨_, rfl⟩
    have hc3 : Hid (∀ w, Calls Tryz.prog 35 #[.string (B t1), .string ⟨#[46]⟩] w fun e w' => e = .returned (.tuple #[.string (B r), .bool dot]) ∧ w = w') := fun w => by rw [hr.out, hdot.out]; exact cutPrefix_c 46 t1 w
    have hrl : Hid (r.length ≤ 400) := by have h := cut1_len 46 t1; show _ ≤ _; rw [hr.out]; omega
    go_wp2_with fail
    refine (hc3.out _).mono ?_
    rintro e w' ⟨rfl, rfl⟩
    clear hc3
    cases dot with
    | true =>
      obtain ⟨k2, hk2⟩ : ∃ k2, Hid (k2 = Dg.rl r) := ⟨_, rfl⟩
      have hf : Hid (fra t1 = (r.take k2, r.drop k2, decide (0 < k2))) := by show _ = _; unfold fra; rw [← hdot.out, if_pos rfl, ← hr.out, hk2.out]
      have hc4 : Hid (∀ w, Calls Tryz.prog 36 #[.string (B r)] w fun e w' => e = .returned (.tuple #[.string (B (r.take k2)), .string (B (r.drop k2)), .bool (decide (0 < k2))]) ∧ ∃ q, w' = w.drewN q) := fun w => by rw [hk2.out]; exact cutDigits_l r w (by have := hrl.out; omega)
      go_wp2_with fail
      refine (hc4.out _).mono ?_
      rintro e w' ⟨rfl, q2, rfl⟩
      clear hc4
      by_cases hk20 : k2 = 0
      · have hd0 : decide (0 < k2) = false := decide_eq_false (by omega)
        have hp : Hid (prs l = none) := by show _ = _; rw [hp1.out, hf.out, hd0]; rfl
        rw [hd0]
        clear hd0 hk20
        go_wp2
        go_returns
        rw [hp.out]
        exact ⟨by first | rfl | simp [dres], bl3 (by repeat (first | exact (Below.refl _ _).alloc (Nat.le_refl _) _ | apply below_drewN)) _ _ _⟩
      · have hd0 : decide (0 < k2) = true := decide_eq_true (by omega)
        rw [hd0] at hf ⊢
        obtain ⟨fr, hfr⟩ : ∃ fr, fr = r.take k2 := ⟨_, rfl⟩
        obtain ⟨t2, ht2⟩ : ∃ t2, t2 = r.drop k2 := ⟨_, rfl⟩
        have hfrl : Hid (fr.length ≤ 400) := by show _ ≤ _; rw [hfr]; simp; have := hrl.out; omega
        have ht2l : Hid (t2.length ≤ 400) := by show _ ≤ _; rw [ht2]; simp; have := hrl.out; omega
        rw [← hfr, ← ht2] at hf ⊢
        clear hd0 hk20 hfr ht2
        have hfsz : (B fr).size = fr.length := B_size fr
        have hfl : fr.length ≤ 400 := hfrl.out
        have hpf : Hid (prs l = if (xpo t2).2.2 = false then none else if (xpo t2).2.1 ≠ [] then none else some (mi, t.take k ++ fr, (xpo t2).1 - (fr.length : Int))) := by show _ = _; rw [hp1.out, hf.out]; rfl
        clear hp1
        have hcat : Hid (B (t.take k) ++ B fr = B (t.take k ++ fr)) := by show _ = _; exact B_append _ _
        have hcl : Hid ((t.take k ++ fr).length ≤ 1000) := by show _ ≤ _; simp; have := hfrl.out; omega
        obtain ⟨r2, hr2⟩ : ∃ r2, Hid (r2 = (cut1 101 t2).1) := ⟨_, rfl⟩
        obtain ⟨ee, hee⟩ : ∃ ee, Hid (ee = (cut1 101 t2).2) := ⟨_, rfl⟩
        have hc5 : Hid (∀ w, Calls Tryz.prog 35 #[.string (B t2), .string ⟨#[101]⟩] w fun e w' => e = .returned (.tuple #[.string (B r2), .bool ee]) ∧ w = w') := fun w => by rw [hr2.out, hee.out]; exact cutPrefix_c 101 t2 w
        have hr2l : Hid (r2.length ≤ 1000) := by have h := cut1_len 101 t2; show _ ≤ _; rw [hr2.out]; have := ht2l.out; omega
        go_wp2_with fail
        refine (hc5.out _).mono ?_
        rintro e w' ⟨rfl, rfl⟩
        clear hc5
        cases ee with
        | true =>
          have hx : Hid (xpo t2 = cx r2) := by show _ = _; unfold xpo; rw [← hee.out, if_pos rfl, hr2.out]
          have hcx := cx_le r2
          have hc6 : Hid (∀ w, Calls Tryz.prog 37 #[.string (B r2)] w fun e w' => e = .returned (.tuple #[.int .i64 (cx r2).1, .string (B (cx r2).2.1), .bool (cx r2).2.2]) ∧ ∃ q, w' = w.drewN q) := fun w => cutExponent_c r2 w hr2l.out
          generalize hcx3 : cx r2 = y3 at hx hcx hc6
          clear hcx3
          obtain ⟨x, t3, ok3⟩ := y3
          have hx1 : -9999 ≤ x := hcx.1
          have hx2 : x ≤ 9999 := hcx.2
          clear hcx
          go_wp2_with fail
          refine (hc6.out _).mono ?_
          rintro e w' ⟨rfl, q3, rfl⟩
          clear hc6
          cases ok3 with
          | false =>
            have hp : Hid (prs l = none) := by show _ = _; rw [hpf.out, hx.out]; rfl
            go_wp2
            go_returns
            rw [hp.out]
            exact ⟨by first | rfl | simp [dres], bl3 (by repeat (first | exact (Below.refl _ _).alloc (Nat.le_refl _) _ | apply below_drewN)) _ _ _⟩
          | true =>
            have hok : t3 = [] → Hid (prs l = some (mi, t.take k ++ fr, x - (fr.length : Int))) := fun h => by show _ = _; rw [hpf.out, hx.out]; simp [h]
            have hbad : t3 ≠ [] → Hid (prs l = none) := fun h => by show _ = _; rw [hpf.out, hx.out]; simp [h]
            by_cases h3 : t3 = []
            · have hE : (B t3).toList.isEmpty = true := by rw [B_toList, h3]; rfl
              have hp : Hid (prs l = some (mi, t.take k ++ fr, x - (fr.length : Int))) := hok h3
              clear hok h3
              go_wp2_with fail
              rw [hcat.out]
              refine (trimLeft_c (t.take k ++ fr) _ hcl.out).mono ?_
              rintro e w' ⟨rfl, rfl⟩
              go_wp2
              go_returns
              rw [hp.out]
              exact ⟨by first | rfl | simp [dres], bl3 (by repeat (first | exact (Below.refl _ _).alloc (Nat.le_refl _) _ | apply below_drewN)) _ _ _⟩
            · have hE : (B t3).toList.isEmpty = false := by rw [B_toList]; cases h : t3 with | nil => exact absurd h h3 | cons a b => rfl
              have hp : Hid (prs l = none) := hbad h3
              clear hok hbad h3
              go_wp2
              go_returns
              rw [hp.out]
              exact ⟨by first | rfl | simp [dres], bl3 (by repeat (first | exact (Below.refl _ _).alloc (Nat.le_refl _) _ | apply below_drewN)) _ _ _⟩
        | false =>
          have hx : Hid (xpo t2 = (0, t2, true)) := by show _ = _; unfold xpo; rw [← hee.out]; rfl
          have hr2e : Hid (r2 = t2) := by show _ = _; rw [hr2.out]; exact cut1_not hee.out.symm
          have hok : t2 = [] → Hid (prs l = some (mi, t.take k ++ fr, 0 - (fr.length : Int))) := fun h => by show _ = _; rw [hpf.out, hx.out]; simp [h]
          have hbad : t2 ≠ [] → Hid (prs l = none) := fun h => by show _ = _; rw [hpf.out, hx.out]; simp [h]
          by_cases h3 : t2 = []
          · have hE : (B t2).toList.isEmpty = true := by rw [B_toList, h3]; rfl
            have hp : Hid (prs l = some (mi, t.take k ++ fr, 0 - (fr.length : Int))) := hok h3
            clear hok h3
            go_wp2_with fail
            rw [hcat.out]
            refine (trimLeft_c (t.take k ++ fr) _ hcl.out).mono ?_
            rintro e w' ⟨rfl, rfl⟩
            go_wp2
            go_returns
            rw [hp.out]
            exact ⟨by first | rfl | simp [dres], bl3 (by repeat (first | exact (Below.refl _ _).alloc (Nat.le_refl _) _ | apply below_drewN)) _ _ _⟩
          · have hE : (B t2).toList.isEmpty = false := by rw [B_toList]; cases h : t2 with | nil => exact absurd h h3 | cons a b => rfl
            have hp : Hid (prs l = none) := hbad h3
            clear hok hbad h3
            go_wp2
            go_returns
            rw [hp.out]
            exact ⟨by first | rfl | simp [dres], bl3 (by repeat (first | exact (Below.refl _ _).alloc (Nat.le_refl _) _ | apply below_drewN)) _ _ _⟩
    | false =>
      have hf : Hid (fra t1 = ([], t1, true)) := by show _ = _; unfold fra; rw [← hdot.out]; rfl
      have ht2l : Hid (t1.length ≤ 400) := ht1l
      have hpf : Hid (prs l = if (xpo t1).2.2 = false then none else if (xpo t1).2.1 ≠ [] then none else some (mi, t.take k ++ [], (xpo t1).1 - (([] : List UInt8).length : Int))) := by show _ = _; rw [hp1.out, hf.out]; rfl
      clear hp1
      have hcat : Hid (B (t.take k) ++ (⟨#[]⟩ : ByteArray) = B (t.take k ++ [])) := by show _ = _; exact B_append (t.take k) []
      have hcl : Hid ((t.take k ++ []).length ≤ 1000) := by show _ ≤ _; simp; omega
      obtain ⟨r2, hr2⟩ : ∃ r2, Hid (r2 = (cut1 101 t1).1) := ⟨_, rfl⟩
      obtain ⟨ee, hee⟩ : ∃ ee, Hid (ee = (cut1 101 t1).2) := ⟨_, rfl⟩
      have hc5 : Hid (∀ w, Calls Tryz.prog 35 #[.string (B t1), .string ⟨#[101]⟩] w fun e w' => e = .returned (.tuple #[.string (B r2), .bool ee]) ∧ w = w') := fun w => by rw [hr2.out, hee.out]; exact cutPrefix_c 101 t1 w
      have hr2l : Hid (r2.length ≤ 1000) := by have h := cut1_len 101 t1; show _ ≤ _; rw [hr2.out]; have := ht2l.out; omega
      go_wp2_with fail
      refine (hc5.out _).mono ?_
      rintro e w' ⟨rfl, rfl⟩
      clear hc5
      cases ee with
      | true =>
        have hx : Hid (xpo t1 = cx r2) := by show _ = _; unfold xpo; rw [← hee.out, if_pos rfl, hr2.out]
        have hcx := cx_le r2
        have hc6 : Hid (∀ w, Calls Tryz.prog 37 #[.string (B r2)] w fun e w' => e = .returned (.tuple #[.int .i64 (cx r2).1, .string (B (cx r2).2.1), .bool (cx r2).2.2]) ∧ ∃ q, w' = w.drewN q) := fun w => cutExponent_c r2 w hr2l.out
        generalize hcx3 : cx r2 = y3 at hx hcx hc6
        clear hcx3
        obtain ⟨x, t3, ok3⟩ := y3
        have hx1 : -9999 ≤ x := hcx.1
        have hx2 : x ≤ 9999 := hcx.2
        clear hcx
        go_wp2_with fail
        refine (hc6.out _).mono ?_
        rintro e w' ⟨rfl, q3, rfl⟩
        clear hc6
        cases ok3 with
        | false =>
          have hp : Hid (prs l = none) := by show _ = _; rw [hpf.out, hx.out]; rfl
          go_wp2
          go_returns
          rw [hp.out]
          exact ⟨by first | rfl | simp [dres], bl3 (by repeat (first | exact (Below.refl _ _).alloc (Nat.le_refl _) _ | apply below_drewN)) _ _ _⟩
        | true =>
          have hok : t3 = [] → Hid (prs l = some (mi, t.take k ++ [], x - (([] : List UInt8).length : Int))) := fun h => by show _ = _; rw [hpf.out, hx.out]; simp [h]
          have hbad : t3 ≠ [] → Hid (prs l = none) := fun h => by show _ = _; rw [hpf.out, hx.out]; simp [h]
          by_cases h3 : t3 = []
          · have hE : (B t3).toList.isEmpty = true := by rw [B_toList, h3]; rfl
            have hp : Hid (prs l = some (mi, t.take k ++ [], x - (([] : List UInt8).length : Int))) := hok h3
            clear hok h3
            go_wp2_with fail
            rw [hcat.out]
            refine (trimLeft_c (t.take k ++ []) _ hcl.out).mono ?_
            rintro e w' ⟨rfl, rfl⟩
            go_wp2
            go_returns
            rw [hp.out]
            exact ⟨by first | rfl | simp [dres], bl3 (by repeat (first | exact (Below.refl _ _).alloc (Nat.le_refl _) _ | apply below_drewN)) _ _ _⟩
          · have hE : (B t3).toList.isEmpty = false := by rw [B_toList]; cases h : t3 with | nil => exact absurd h h3 | cons a b => rfl
            have hp : Hid (prs l = none) := hbad h3
            clear hok hbad h3
            go_wp2
            go_returns
            rw [hp.out]
            exact ⟨by first | rfl | simp [dres], bl3 (by repeat (first | exact (Below.refl _ _).alloc (Nat.le_refl _) _ | apply below_drewN)) _ _ _⟩
      | false =>
        have hx : Hid (xpo t1 = (0, t1, true)) := by show _ = _; unfold xpo; rw [← hee.out]; rfl
        have hr2e : Hid (r2 = t1) := by show _ = _; rw [hr2.out]; exact cut1_not hee.out.symm
        have hok : t1 = [] → Hid (prs l = some (mi, t.take k ++ [], 0 - (([] : List UInt8).length : Int))) := fun h => by show _ = _; rw [hpf.out, hx.out]; simp [h]
        have hbad : t1 ≠ [] → Hid (prs l = none) := fun h => by show _ = _; rw [hpf.out, hx.out]; simp [h]
        by_cases h3 : t1 = []
        · have hE : (B t1).toList.isEmpty = true := by rw [B_toList, h3]; rfl
          have hp : Hid (prs l = some (mi, t.take k ++ [], 0 - (([] : List UInt8).length : Int))) := hok h3
          clear hok h3
          go_wp2_with fail
          rw [hcat.out]
          refine (trimLeft_c (t.take k ++ []) _ hcl.out).mono ?_
          rintro e w' ⟨rfl, rfl⟩
          go_wp2
          go_returns
          rw [hp.out]
          exact ⟨by first | rfl | simp [dres], bl3 (by repeat (first | exact (Below.refl _ _).alloc (Nat.le_refl _) _ | apply below_drewN)) _ _ _⟩
        · have hE : (B t1).toList.isEmpty = false := by rw [B_toList]; cases h : t1 with | nil => exact absurd h h3 | cons a b => rfl
          have hp : Hid (prs l = none) := hbad h3
          clear hok hbad h3
          go_wp2
          go_returns
          rw [hp.out]
          exact ⟨by first | rfl | simp [dres], bl3 (by repeat (first | exact (Below.refl _ _).alloc (Nat.le_refl _) _ | apply below_drewN)) _ _ _⟩
theorem decimalOf_c (l : List UInt8) (w : World) :
    Calls Tryz.prog 18 #[.string (B l)] w fun e w' => e = .returned (dres (prs l)) ∧ Below w.heap.size w w' := by
  by_cases h : 400 < l.length
  · exact decimalOf_long l w h
  · exact decimalOf_short l w (by omega)
end Go.Proofs.YtmdnmhbfdceliaaGreatDoor
/-
  ParsePlain.
-/
namespace Go.Proofs.YtmdnmhbfdceliaaGreatDoor
open Flo Go.RowKit
theorem fra_ok {l : List UInt8} : (∀ b ∈ (fra l).1, Dg.isD b = true) ∧ (fra l).1.length ≤ l.length ∧ (fra l).2.1.length ≤ l.length := by
  have hc := cut1_len 46 l
  have hr := Dg.rl_le (cut1 46 l).1
  unfold fra
  split
  · refine ⟨Dg.rl_all _, by simp; omega, by simp; omega⟩
  · exact ⟨by simp, by simp, Nat.le_refl _⟩
theorem xpo_ok {l : List UInt8} : -9999 ≤ (xpo l).1 ∧ (xpo l).1 ≤ 9999 := by
  unfold xpo
  split
  · exact cx_le _
  · exact ⟨by show (-9999 : Int) ≤ 0; omega, by show (0 : Int) ≤ 9999; omega⟩
theorem prs_ok {l : List UInt8} {mi : Bool} {ds : List UInt8} {p : Int} (h : prs l = some (mi, ds, p)) : (∀ b ∈ ds, Dg.isD b = true) ∧ ds.length ≤ 800 ∧ -20000 ≤ p ∧ p ≤ 20000 := by
  unfold prs at h
  by_cases h1 : 400 < l.length
  · rw [if_pos h1] at h; cases h
  · rw [if_neg h1] at h
    simp only at h
    split at h
    · cases h
    · split at h
      · cases h
      · split at h
        · cases h
        · split at h
          · cases h
          · have hc := cut1_len 45 l
            have hr := Dg.rl_le (cut1 45 l).1
            have hf := fra_ok (l := (cut1 45 l).1.drop (Dg.rl (cut1 45 l).1))
            have hx := xpo_ok (l := (fra ((cut1 45 l).1.drop (Dg.rl (cut1 45 l).1))).2.1)
            simp only [Option.some.injEq, Prod.mk.injEq] at h
            obtain ⟨rfl, rfl, rfl⟩ := h
            have h2 := hf.2.1
            rw [List.length_drop] at h2
            refine ⟨?_, ?_, by omega, by omega⟩
            · intro b hb
              rcases List.mem_append.1 hb with h3 | h3
              · exact Dg.rl_all _ b h3
              · exact hf.1 b h3
            · rw [List.length_append, List.length_take]; omega
/-- the sign's bit -/
def sg (m : Bool) : Nat := if m then 9223372036854775808 else 0
def tup (b : Nat) (e : Value) : Value := .tuple #[.float .f64 b, e]
/-- what ParsePlain answers -/
def PP (l : List UInt8) (et er v : Value) : Prop :=
  (l = [110, 97, 110] ∧ v = tup 9221120237041090560 .nilIface) ∨ (l = [105, 110, 102] ∧ v = tup 9218868437227405312 .nilIface) ∨ (l = [45, 105, 110, 102] ∧ v = tup 18442240474082181120 .nilIface) ∨
  ((l ≠ [110, 97, 110] ∧ l ≠ [105, 110, 102] ∧ l ≠ [45, 105, 110, 102]) ∧
    ((prs l = none ∧ v = tup 0 et) ∨
     ∃ mi ds p r, prs l = some (mi, ds, p) ∧ Rd.Sp (Dg.dv ds) p r ∧ ((Rd.inf ≤ r ∧ v = tup 0 er) ∨ (r < Rd.inf ∧ v = tup (r + sg mi) .nilIface))))
set_option maxRecDepth 100000 in
set_option maxHeartbeats 400000 in
theorem pp_nan (w : World) (et er : Value) :
    Calls Tryz.prog 8 #[.string (B [110, 97, 110])] w fun e w' => ∃ v, e = .returned v ∧ PP [110, 97, 110] et er v ∧ Below w.heap.size w w' := by
  have hB : (B [110, 97, 110]).toList = [110, 97, 110] := B_toList _
  go_enter Tryz.func8, Tryz.ntmps8
  go_wp2_with (go_at_call 17; refine (of_c _ _).mono ?_; rintro e w' ⟨rfl, rfl⟩)
  go_ret2
  exact ⟨_, rfl, .inl ⟨rfl, rfl⟩, Below.refl _ _⟩
set_option maxRecDepth 100000 in
set_option maxHeartbeats 400000 in
theorem pp_inf (w : World) (et er : Value) :
    Calls Tryz.prog 8 #[.string (B [105, 110, 102])] w fun e w' => ∃ v, e = .returned v ∧ PP [105, 110, 102] et er v ∧ Below w.heap.size w w' := by
  have hB : (B [105, 110, 102]).toList = [105, 110, 102] := B_toList _
  go_enter Tryz.func8, Tryz.ntmps8
  go_wp2_with (go_at_call 17; refine (of_c _ _).mono ?_; rintro e w' ⟨rfl, rfl⟩)
  go_ret2
  exact ⟨_, rfl, .inr (.inl ⟨rfl, rfl⟩), Below.refl _ _⟩
set_option maxRecDepth 100000 in
set_option maxHeartbeats 400000 in
theorem pp_minf (w : World) (et er : Value) :
    Calls Tryz.prog 8 #[.string (B [45, 105, 110, 102])] w fun e w' => ∃ v, e = .returned v ∧ PP [45, 105, 110, 102] et er v ∧ Below w.heap.size w w' := by
  have hB : (B [45, 105, 110, 102]).toList = [45, 105, 110, 102] := B_toList _
  go_enter Tryz.func8, Tryz.ntmps8
  go_wp2_with (go_at_call 17; refine (of_c _ _).mono ?_; rintro e w' ⟨rfl, rfl⟩)
  go_ret2
  exact ⟨_, rfl, .inr (.inr (.inl ⟨rfl, rfl⟩)), Below.refl _ _⟩
set_option maxRecDepth 100000 in
set_option maxHeartbeats 400000 in
theorem pp_none (l : List UInt8) (w : World) (et : Value) (h1 : (l == [110, 97, 110]) = false) (h2 : (l == [105, 110, 102]) = false) (h3 : (l == [45, 105, 110, 102]) = false)
    (ht : w.cell? ⟨0, 0, none⟩ = some et) (hg : 0 < w.heap.size) (hp : Hid (prs l = none)) :
    Calls Tryz.prog 8 #[.string (B l)] w fun e w' => e = .returned (tup 0 et) ∧ Below w.heap.size w w' := by
  have hB : (B l).toList = l := B_toList _
  go_enter Tryz.func8, Tryz.ntmps8
  go_wp2_with fail
  refine (decimalOf_c l w).mono ?_
  rintro e w1 ⟨rfl, hb1⟩
  rw [hp.out]
  have hd : dres none = .tuple #[.agg #[.bool false, .string ⟨#[]⟩, .int .i64 0], .bool false] := rfl
  rw [hd]
  have ht1 : w1.cell? ⟨0, 0, none⟩ = some et := (hb1.cell (p := ⟨0, 0, none⟩) hg).trans ht
  have hbH : Hid (Below w.heap.size w w1) := hb1
  clear hd hb1 ht
  go_wp2
  generalize hW : w1.alloc (.cells #[.bool false, .string ⟨#[]⟩, .int .i64 0] 40) = W
  have htW : W.cell? ⟨0, 0, none⟩ = some et := by rw [← hW]; exact (((Below.refl w1.heap.size w1).alloc (Nat.le_refl _) _).cell (p := ⟨0, 0, none⟩) (Nat.lt_of_lt_of_le hg hbH.out.size)).trans ht1
  have hbW : Hid (Below w.heap.size w W) := by rw [← hW]; exact hbH.out.alloc hbH.out.size _
  clear hW ht1
  go_quiet (fail)
  go_wp2
  go_ret2
  exact ⟨rfl, below_drewN hbW.out _⟩
set_option maxRecDepth 100000 in
set_option maxHeartbeats 400000 in
theorem pp_some (l : List UInt8) (w : World) (er : Value) (h1 : (l == [110, 97, 110]) = false) (h2 : (l == [105, 110, 102]) = false) (h3 : (l == [45, 105, 110, 102]) = false)
    (ht : w.cell? ⟨1, 0, none⟩ = some er) (hg : 1 < w.heap.size) (mi : Bool) (ds : List UInt8) (p : Int) (hp : Hid (prs l = some (mi, ds, p))) :
    Calls Tryz.prog 8 #[.string (B l)] w fun e w' => ∃ v, e = .returned v ∧ (∃ r, Rd.Sp (Dg.dv ds) p r ∧ ((Rd.inf ≤ r ∧ v = tup 0 er) ∨ (r < Rd.inf ∧ v = tup (r + sg mi) .nilIface))) ∧ Below w.heap.size w w' := by
  have hB : (B l).toList = l := B_toList _
  obtain ⟨o1, o2, o3, o4⟩ := prs_ok hp.out
  go_enter Tryz.func8, Tryz.ntmps8
  go_wp2_with fail
  refine (decimalOf_c l w).mono ?_
  rintro e w1 ⟨rfl, hb1⟩
  rw [hp.out]
  have hd : dres (some (mi, ds, p)) = .tuple #[.agg #[.bool mi, .string (B (Dg.tz ds)), .int .i64 p], .bool true] := rfl
  rw [hd]
  have ht1 : Hid (∀ w2, Below w1.heap.size w1 w2 → w2.cell? ⟨1, 0, none⟩ = some er) := fun w2 hb2 => ((hb2.cell (p := ⟨1, 0, none⟩) (Nat.lt_of_lt_of_le hg hb1.size)).trans (hb1.cell (p := ⟨1, 0, none⟩) hg)).trans ht
  have hbH : Hid (Below w.heap.size w w1) := hb1
  clear hd hb1 ht
  go_wp2_with fail
  generalize hW : w1.alloc (.cells #[.bool mi, .string (B (Dg.tz ds)), .int .i64 p] 40) = W
  have hbW : Hid (Below w1.heap.size w1 W) := by rw [← hW]; exact (Below.refl _ _).alloc (Nat.le_refl _) _
  have hc0 : Hid (W.cell? ⟨w1.heap.size, 0, none⟩ = some (.bool mi)) := by show _ = _; rw [← hW]; simp
  have hWs : Hid (w1.heap.size + 1 = W.heap.size) := by show _ = _; rw [← hW]; simp
  clear hW
  refine (size_c mi (B (Dg.tz ds)) p W (by rw [B_size]; exact Nat.le_trans (Dg.tz_len ds) (by omega)) o3 o4 (by rw [B_data]; exact fun b hb => o1 b (Dg.tz_mem hb)) (by
    rw [B_size, B_data, Dg.tz_dv]
    by_cases h : Dg.tz ds = []
    · left; rw [h]; rfl
    · right; exact Dg.tz_ge ds o1 h)).mono ?_
  rintro e w2 ⟨r, rfl, hr, hb2⟩
  have hrH : Hid (Rd.Sp (Dg.dv ds) p r) := by rw [B_data, Dg.tz_dv] at hr; exact hr
  have hb12 : Hid (Below w1.heap.size w1 w2) := hbW.out.trans (hb2.mono hbW.out.size)
  have hbw : Hid (Below w.heap.size w w2) := hbH.out.trans (hb12.out.mono hbH.out.size)
  have ht2 := ht1.out w2 hb12.out
  have hc2 : w2.cell? ⟨w1.heap.size, 0, none⟩ = some (.bool mi) := (hb2.cell (p := ⟨w1.heap.size, 0, none⟩) (by have := hWs.out; show w1.heap.size < _; omega)).trans hc0.out
  clear hr hb2 hb12 ht1 hc0 hWs hbW hbH o1 o2 o3 o4
  by_cases hi : 9218868437227405312 ≤ r
  · have hi' : (9218868437227405312 : Int) ≤ (r : Int) := by omega
    have hiH : Hid (Rd.inf ≤ r) := hi
    clear hi
    go_wp2
    go_quiet (fail)
    go_wp2
    go_ret2
    exact ⟨_, rfl, ⟨r, hrH.out, .inl ⟨hiH.out, rfl⟩⟩, below_drewN hbw.out _⟩
  · have hi' : decide ((9218868437227405312 : Int) ≤ (r : Int)) = false := decide_eq_false (by omega)
    have hiH : Hid (r < Rd.inf) := Nat.lt_of_not_le hi
    have hrl : Hid (r < 9218868437227405312) := Nat.lt_of_not_le hi
    clear hi
    cases mi with
    | false =>
      go_wp2_with (go_at_call 17; refine (of_c _ _).mono ?_; rintro e w' ⟨rfl, rfl⟩)
      go_ret2
      exact ⟨_, rfl, ⟨r, hrH.out, .inr ⟨hiH.out, rfl⟩⟩, hbw.out⟩
    | true =>
      have hor : bits .or .u64 (r : Int) 9223372036854775808 = ((r + sg true : Nat) : Int) := by
        have hrl' := hrl.out
        show _ = ((r + 9223372036854775808 : Nat) : Int)
        rw [show (9223372036854775808 : Int) = ((9223372036854775808 : Nat) : Int) from rfl, bits_or_u64_nat _ _ (by omega) (by omega)]
        congr 1
        have := Nat.two_pow_add_eq_or_of_lt (i := 63) (b := r) (by omega) 1
        rw [Nat.mul_one] at this
        rw [Nat.or_comm, show (9223372036854775808 : Nat) = 2 ^ 63 from rfl, ← this, Nat.add_comm]
      go_wp2_with (go_at_call 17; refine (of_c _ _).mono ?_; rintro e w' ⟨rfl, rfl⟩)
      go_ret2
      exact ⟨_, rfl, ⟨r, hrH.out, .inr ⟨hiH.out, rfl⟩⟩, hbw.out⟩
theorem parsePlain_c (l : List UInt8) (w : World) (et er : Value) (ht : w.cell? ⟨0, 0, none⟩ = some et) (hr : w.cell? ⟨1, 0, none⟩ = some er) :
    Calls Tryz.prog 8 #[.string (B l)] w fun e w' => ∃ v, e = .returned v ∧ PP l et er v ∧ Below w.heap.size w w' := by
  have g1 : 0 < w.heap.size := World.block_lt_of_cell? w _ ht
  have g2 : 1 < w.heap.size := World.block_lt_of_cell? w _ hr
  by_cases h1 : l = [110, 97, 110]
  · subst h1; exact pp_nan w et er
  · by_cases h2 : l = [105, 110, 102]
    · subst h2; exact pp_inf w et er
    · by_cases h3 : l = [45, 105, 110, 102]
      · subst h3; exact pp_minf w et er
      · have e1 : (l == [110, 97, 110]) = false := beq_eq_false_iff_ne.2 h1
        have e2 : (l == [105, 110, 102]) = false := beq_eq_false_iff_ne.2 h2
        have e3 : (l == [45, 105, 110, 102]) = false := beq_eq_false_iff_ne.2 h3
        cases hp : prs l with
        | none =>
          refine (pp_none l w et e1 e2 e3 ht g1 hp).mono ?_
          rintro e w' ⟨rfl, hb⟩
          exact ⟨_, rfl, .inr (.inr (.inr ⟨⟨h1, h2, h3⟩, .inl ⟨hp, rfl⟩⟩)), hb⟩
        | some y =>
          obtain ⟨mi, ds, p⟩ := y
          refine (pp_some l w er e1 e2 e3 hr g2 mi ds p hp).mono ?_
          rintro e w' ⟨v, rfl, ⟨r, q1, q2⟩, hb⟩
          exact ⟨v, rfl, .inr (.inr (.inr ⟨⟨h1, h2, h3⟩, .inr ⟨mi, ds, p, r, hp, q1, q2⟩⟩)), hb⟩
end Go.Proofs.YtmdnmhbfdceliaaGreatDoor
