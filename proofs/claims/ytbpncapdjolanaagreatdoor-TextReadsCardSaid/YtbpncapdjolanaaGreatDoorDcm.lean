/-
  decimalOf: a decimal text taken apart.
-/
import Derived.Test.YtbpncapdjolanaaGreatDoorStr
import Derived.Handy
namespace Go.Proofs.YtbpncapdjolanaaGreatDoor
open Flo Go.RowKit
/-- the fraction: its digits, what is behind, whether it is right -/
def fra (l : List UInt8) : List UInt8 × List UInt8 × Bool :=
  if (cut1 46 l).2 then ((cut1 46 l).1.take (Dg.rl (cut1 46 l).1), (cut1 46 l).1.drop (Dg.rl (cut1 46 l).1), decide (0 < Dg.rl (cut1 46 l).1)) else ([], l, true)
/-- the exponent: its number, what is behind, whether it is right -/
def xpo (l : List UInt8) : Int × List UInt8 × Bool := if (cut1 101 l).2 then cx (cut1 101 l).1 else (0, l, true)
/-- a decimal text: its sign, its digits, its power of ten -/
def prs (l : List UInt8) : Option (Bool × List UInt8 × Int) :=
  if 400 < l.length then none else
  let t := (cut1 45 l).1
  if Dg.rl t = 0 then none else
  let f := fra (t.drop (Dg.rl t))
  if f.2.2 = false then none else
  let x := xpo f.2.1
  if x.2.2 = false then none else
  if x.2.1 ≠ [] then none else some ((cut1 45 l).2, t.take (Dg.rl t) ++ f.1, x.1 - (f.1.length : Int))
def dres : Option (Bool × List UInt8 × Int) → Value
  | none => .tuple #[.agg #[.bool false, .string ⟨#[]⟩, .int .i64 0], .bool false]
  | some (m, ds, p) => .tuple #[.agg #[.bool m, .string (B (Dg.tz ds)), .int .i64 p], .bool true]
set_option maxRecDepth 100000 in
set_option maxHeartbeats 400000 in
theorem decimalOf_long (l : List UInt8) (w : World) (hl : 400 < l.length) :
    Calls Tryz.prog 22 #[.string (B l)] w fun e w' => e = .returned (dres (prs l)) ∧ Below w.heap.size w w' := by
  have hsz : (B l).size = l.length := B_size l
  have h400' : (400 : Int) < (l.length : Int) := by omega
  have hp : Hid (prs l = none) := by show _ = _; unfold prs; rw [if_pos hl]
  go_enter Tryz.func22, Tryz.ntmps22
  go_wp2
  go_returns
  rw [hp.out]
  exact ⟨rfl, (Below.refl _ _).alloc (Nat.le_refl _) _⟩
theorem cut1_not {c : UInt8} {l : List UInt8} (h : (cut1 c l).2 = false) : (cut1 c l).1 = l := by
  cases l with
  | nil => rfl
  | cons x l =>
    simp only [cut1] at h ⊢
    split at h
    · cases h
    · rename_i hx; rw [if_neg hx]
theorem bl3 {w X : World} (hb : Below w.heap.size w X) (a b c : Value) : Below w.heap.size w (((X.setCell ⟨w.heap.size, 0, none⟩ a).setCell ⟨w.heap.size, 1, none⟩ b).setCell ⟨w.heap.size, 2, none⟩ c) :=
  ((hb.setCell (Nat.le_refl _) _).setCell (Nat.le_refl _) _).setCell (Nat.le_refl _) _
theorem cx_le (l : List UInt8) : -9999 ≤ (cx l).1 ∧ (cx l).1 ≤ 9999 := by
  have h := exf_le ((cut1 45 l).1.take (Dg.rl (cut1 45 l).1))
  unfold cx
  simp only
  split <;> omega
set_option maxRecDepth 100000 in
set_option maxHeartbeats 400000 in
theorem decimalOf_short (l : List UInt8) (w : World) (hl : l.length ≤ 400) :
    Calls Tryz.prog 22 #[.string (B l)] w fun e w' => e = .returned (dres (prs l)) ∧ Below w.heap.size w w' := by
  have hsz : (B l).size = l.length := B_size l
  have h400' : ¬ ((400 : Int) < (l.length : Int)) := by omega
  have hlt := cut1_len 45 l
  obtain ⟨t, ht⟩ : ∃ t, Hid (t = (cut1 45 l).1) := ⟨_, rfl⟩
  obtain ⟨mi, hmi⟩ : ∃ mi, Hid (mi = (cut1 45 l).2) := ⟨_, rfl⟩
  obtain ⟨k, hk⟩ : ∃ k, Hid (k = Dg.rl t) := ⟨_, rfl⟩
  have htl : t.length ≤ 400 := by rw [ht.out]; omega
  have hp0 : Hid (prs l = if k = 0 then none else if (fra (t.drop k)).2.2 = false then none else if (xpo (fra (t.drop k)).2.1).2.2 = false then none else if (xpo (fra (t.drop k)).2.1).2.1 ≠ [] then none else some (mi, t.take k ++ (fra (t.drop k)).1, (xpo (fra (t.drop k)).2.1).1 - ((fra (t.drop k)).1.length : Int))) := by
    show _ = _
    unfold prs
    rw [if_neg (by omega), hk.out, ht.out, hmi.out]
  have hc1 : Hid (∀ w, Calls Tryz.prog 42 #[.string (B l), .string ⟨#[45]⟩] w fun e w' => e = .returned (.tuple #[.string (B t), .bool mi]) ∧ w = w') := fun w => by rw [ht.out, hmi.out]; exact cutPrefix_c 45 l w
  have hc2 : Hid (∀ w, Calls Tryz.prog 43 #[.string (B t)] w fun e w' => e = .returned (.tuple #[.string (B (t.take k)), .string (B (t.drop k)), .bool (decide (0 < k))]) ∧ ∃ q, w' = w.drewN q) := fun w => by rw [hk.out]; exact cutDigits_l t w (by omega)
  go_enter Tryz.func22, Tryz.ntmps22
  go_wp2_with fail
  refine (hc1.out _).mono ?_
  rintro e w' ⟨rfl, rfl⟩
  go_wp2_with fail
  refine (hc2.out _).mono ?_
  rintro e w' ⟨rfl, q1, rfl⟩
  by_cases hk0 : k = 0
  · have hd0 : decide (0 < k) = false := decide_eq_false (by omega)
    have hp : Hid (prs l = none) := by show _ = _; rw [hp0.out, if_pos hk0]
    rw [hd0]
    clear hd0 hk0
    go_wp2
    go_returns
    rw [hp.out]
    exact ⟨by first | rfl | simp [dres], bl3 (by repeat (first | exact (Below.refl _ _).alloc (Nat.le_refl _) _ | apply below_drewN)) _ _ _⟩
  · have hd0 : decide (0 < k) = true := decide_eq_true (by omega)
    have hp1 : Hid (prs l = _) := hp0.out.trans (if_neg hk0)
    rw [hd0]
    clear hd0 hk0 hp0
    have hcw : (B (t.take k)).size ≤ 400 := by rw [B_size]; simp; omega
    obtain ⟨t1, ht1⟩ : ∃ t1, t1 = t.drop k := ⟨_, rfl⟩
    have ht1l : t1.length ≤ 400 := by rw [ht1]; simp; omega
    rw [← ht1] at hp1 ⊢
    clear ht1
    obtain ⟨r, hr⟩ : ∃ r, Hid (r = (cut1 46 t1).1) := ⟨_, rfl⟩
    obtain ⟨dot, hdot⟩ : ∃ dot, Hid (dot = (cut1 46 t1).2) := ⟨_, rfl⟩
    have hc3 : Hid (∀ w, Calls Tryz.prog 42 #[.string (B t1), .string ⟨#[46]⟩] w fun e w' => e = .returned (.tuple #[.string (B r), .bool dot]) ∧ w = w') := fun w => by rw [hr.out, hdot.out]; exact cutPrefix_c 46 t1 w
    have hrl : Hid (r.length ≤ 400) := by have h := cut1_len 46 t1; show _ ≤ _; rw [hr.out]; omega
    go_wp2_with fail
    refine (hc3.out _).mono ?_
    rintro e w' ⟨rfl, rfl⟩
    clear hc3
    cases dot with
    | true =>
      obtain ⟨k2, hk2⟩ : ∃ k2, Hid (k2 = Dg.rl r) := ⟨_, rfl⟩
      have hf : Hid (fra t1 = (r.take k2, r.drop k2, decide (0 < k2))) := by show _ = _; unfold fra; rw [← hdot.out, if_pos rfl, ← hr.out, hk2.out]
      have hc4 : Hid (∀ w, Calls Tryz.prog 43 #[.string (B r)] w fun e w' => e = .returned (.tuple #[.string (B (r.take k2)), .string (B (r.drop k2)), .bool (decide (0 < k2))]) ∧ ∃ q, w' = w.drewN q) := fun w => by rw [hk2.out]; exact cutDigits_l r w (by have := hrl.out; omega)
      go_wp2_with fail
      refine (hc4.out _).mono ?_
      rintro e w' ⟨rfl, q2, rfl⟩
      clear hc4
      by_cases hk20 : k2 = 0
      · have hd0 : decide (0 < k2) = false := decide_eq_false (by omega)
        have hp : Hid (prs l = none) := by show _ = _; rw [hp1.out, hf.out, hd0]; rfl
        rw [hd0]
        clear hd0 hk20
        go_wp2
        go_returns
        rw [hp.out]
        exact ⟨by first | rfl | simp [dres], bl3 (by repeat (first | exact (Below.refl _ _).alloc (Nat.le_refl _) _ | apply below_drewN)) _ _ _⟩
      · have hd0 : decide (0 < k2) = true := decide_eq_true (by omega)
        rw [hd0] at hf ⊢
        obtain ⟨fr, hfr⟩ : ∃ fr, fr = r.take k2 := ⟨_, rfl⟩
        obtain ⟨t2, ht2⟩ : ∃ t2, t2 = r.drop k2 := ⟨_, rfl⟩
        have hfrl : Hid (fr.length ≤ 400) := by show _ ≤ _; rw [hfr]; simp; have := hrl.out; omega
        have ht2l : Hid (t2.length ≤ 400) := by show _ ≤ _; rw [ht2]; simp; have := hrl.out; omega
        rw [← hfr, ← ht2] at hf ⊢
        clear hd0 hk20 hfr ht2
        have hfsz : (B fr).size = fr.length := B_size fr
        have hfl : fr.length ≤ 400 := hfrl.out
        have hpf : Hid (prs l = if (xpo t2).2.2 = false then none else if (xpo t2).2.1 ≠ [] then none else some (mi, t.take k ++ fr, (xpo t2).1 - (fr.length : Int))) := by show _ = _; rw [hp1.out, hf.out]; rfl
        clear hp1
        have hcat : Hid (B (t.take k) ++ B fr = B (t.take k ++ fr)) := by show _ = _; exact B_append _ _
        have hcl : Hid ((t.take k ++ fr).length ≤ 1000) := by show _ ≤ _; simp; have := hfrl.out; omega
        obtain ⟨r2, hr2⟩ : ∃ r2, Hid (r2 = (cut1 101 t2).1) := ⟨_, rfl⟩
        obtain ⟨ee, hee⟩ : ∃ ee, Hid (ee = (cut1 101 t2).2) := ⟨_, rfl⟩
        have hc5 : Hid (∀ w, Calls Tryz.prog 42 #[.string (B t2), .string ⟨#[101]⟩] w fun e w' => e = .returned (.tuple #[.string (B r2), .bool ee]) ∧ w = w') := fun w => by rw [hr2.out, hee.out]; exact cutPrefix_c 101 t2 w
        have hr2l : Hid (r2.length ≤ 1000) := by have h := cut1_len 101 t2; show _ ≤ _; rw [hr2.out]; have := ht2l.out; omega
        go_wp2_with fail
        refine (hc5.out _).mono ?_
        rintro e w' ⟨rfl, rfl⟩
        clear hc5
        cases ee with
        | true =>
          have hx : Hid (xpo t2 = cx r2) := by show _ = _; unfold xpo; rw [← hee.out, if_pos rfl, hr2.out]
          have hcx := cx_le r2
          have hc6 : Hid (∀ w, Calls Tryz.prog 44 #[.string (B r2)] w fun e w' => e = .returned (.tuple #[.int .i64 (cx r2).1, .string (B (cx r2).2.1), .bool (cx r2).2.2]) ∧ ∃ q, w' = w.drewN q) := fun w => cutExponent_c r2 w hr2l.out
          generalize hcx3 : cx r2 = y3 at hx hcx hc6
          clear hcx3
          obtain ⟨x, t3, ok3⟩ := y3
          have hx1 : -9999 ≤ x := hcx.1
          have hx2 : x ≤ 9999 := hcx.2
          clear hcx
          go_wp2_with fail
          refine (hc6.out _).mono ?_
          rintro e w' ⟨rfl, q3, rfl⟩
          clear hc6
          cases ok3 with
          | false =>
            have hp : Hid (prs l = none) := by show _ = _; rw [hpf.out, hx.out]; rfl
            go_wp2
            go_returns
            rw [hp.out]
            exact ⟨by first | rfl | simp [dres], bl3 (by repeat (first | exact (Below.refl _ _).alloc (Nat.le_refl _) _ | apply below_drewN)) _ _ _⟩
          | true =>
            have hok : t3 = [] → Hid (prs l = some (mi, t.take k ++ fr, x - (fr.length : Int))) := fun h => by show _ = _; rw [hpf.out, hx.out]; simp [h]
            have hbad : t3 ≠ [] → Hid (prs l = none) := fun h => by show _ = _; rw [hpf.out, hx.out]; simp [h]
            by_cases h3 : t3 = []
            · have hE : (B t3).toList.isEmpty = true := by rw [B_toList, h3]; rfl
              have hp : Hid (prs l = some (mi, t.take k ++ fr, x - (fr.length : Int))) := hok h3
              clear hok h3
              go_wp2_with fail
              rw [hcat.out]
              refine (trimLeft_c (t.take k ++ fr) _ hcl.out).mono ?_
              rintro e w' ⟨rfl, rfl⟩
              go_wp2
              go_returns
              rw [hp.out]
              exact ⟨by first | rfl | simp [dres], bl3 (by repeat (first | exact (Below.refl _ _).alloc (Nat.le_refl _) _ | apply below_drewN)) _ _ _⟩
            · have hE : (B t3).toList.isEmpty = false := by rw [B_toList]; cases h : t3 with | nil => exact absurd h h3 | cons a b => rfl
              have hp : Hid (prs l = none) := hbad h3
              clear hok hbad h3
              go_wp2
              go_returns
              rw [hp.out]
              exact ⟨by first | rfl | simp [dres], bl3 (by repeat (first | exact (Below.refl _ _).alloc (Nat.le_refl _) _ | apply below_drewN)) _ _ _⟩
        | false =>
          have hx : Hid (xpo t2 = (0, t2, true)) := by show _ = _; unfold xpo; rw [← hee.out]; rfl
          have hr2e : Hid (r2 = t2) := by show _ = _; rw [hr2.out]; exact cut1_not hee.out.symm
          have hok : t2 = [] → Hid (prs l = some (mi, t.take k ++ fr, 0 - (fr.length : Int))) := fun h => by show _ = _; rw [hpf.out, hx.out]; simp [h]
          have hbad : t2 ≠ [] → Hid (prs l = none) := fun h => by show _ = _; rw [hpf.out, hx.out]; simp [h]
          by_cases h3 : t2 = []
          · have hE : (B t2).toList.isEmpty = true := by rw [B_toList, h3]; rfl
            have hp : Hid (prs l = some (mi, t.take k ++ fr, 0 - (fr.length : Int))) := hok h3
            clear hok h3
            go_wp2_with fail
            rw [hcat.out]
            refine (trimLeft_c (t.take k ++ fr) _ hcl.out).mono ?_
            rintro e w' ⟨rfl, rfl⟩
            go_wp2
            go_returns
            rw [hp.out]
            exact ⟨by first | rfl | simp [dres], bl3 (by repeat (first | exact (Below.refl _ _).alloc (Nat.le_refl _) _ | apply below_drewN)) _ _ _⟩
          · have hE : (B t2).toList.isEmpty = false := by rw [B_toList]; cases h : t2 with | nil => exact absurd h h3 | cons a b => rfl
            have hp : Hid (prs l = none) := hbad h3
            clear hok hbad h3
            go_wp2
            go_returns
            rw [hp.out]
            exact ⟨by first | rfl | simp [dres], bl3 (by repeat (first | exact (Below.refl _ _).alloc (Nat.le_refl _) _ | apply below_drewN)) _ _ _⟩
    | false =>
      have hf : Hid (fra t1 = ([], t1, true)) := by show _ = _; unfold fra; rw [← hdot.out]; rfl
      have ht2l : Hid (t1.length ≤ 400) := ht1l
      have hpf : Hid (prs l = if (xpo t1).2.2 = false then none else if (xpo t1).2.1 ≠ [] then none else some (mi, t.take k ++ [], (xpo t1).1 - (([] : List UInt8).length : Int))) := by show _ = _; rw [hp1.out, hf.out]; rfl
      clear hp1
      have hcat : Hid (B (t.take k) ++ (⟨#[]⟩ : ByteArray) = B (t.take k ++ [])) := by show _ = _; exact B_append (t.take k) []
      have hcl : Hid ((t.take k ++ []).length ≤ 1000) := by show _ ≤ _; simp; omega
      obtain ⟨r2, hr2⟩ : ∃ r2, Hid (r2 = (cut1 101 t1).1) := ⟨_, rfl⟩
      obtain ⟨ee, hee⟩ : ∃ ee, Hid (ee = (cut1 101 t1).2) := ⟨_, rfl⟩
      have hc5 : Hid (∀ w, Calls Tryz.prog 42 #[.string (B t1), .string ⟨#[101]⟩] w fun e w' => e = .returned (.tuple #[.string (B r2), .bool ee]) ∧ w = w') := fun w => by rw [hr2.out, hee.out]; exact cutPrefix_c 101 t1 w
      have hr2l : Hid (r2.length ≤ 1000) := by have h := cut1_len 101 t1; show _ ≤ _; rw [hr2.out]; have := ht2l.out; omega
      go_wp2_with fail
      refine (hc5.out _).mono ?_
      rintro e w' ⟨rfl, rfl⟩
      clear hc5
      cases ee with
      | true =>
        have hx : Hid (xpo t1 = cx r2) := by show _ = _; unfold xpo; rw [← hee.out, if_pos rfl, hr2.out]
        have hcx := cx_le r2
        have hc6 : Hid (∀ w, Calls Tryz.prog 44 #[.string (B r2)] w fun e w' => e = .returned (.tuple #[.int .i64 (cx r2).1, .string (B (cx r2).2.1), .bool (cx r2).2.2]) ∧ ∃ q, w' = w.drewN q) := fun w => cutExponent_c r2 w hr2l.out
        generalize hcx3 : cx r2 = y3 at hx hcx hc6
        clear hcx3
        obtain ⟨x, t3, ok3⟩ := y3
        have hx1 : -9999 ≤ x := hcx.1
        have hx2 : x ≤ 9999 := hcx.2
        clear hcx
        go_wp2_with fail
        refine (hc6.out _).mono ?_
        rintro e w' ⟨rfl, q3, rfl⟩
        clear hc6
        cases ok3 with
        | false =>
          have hp : Hid (prs l = none) := by show _ = _; rw [hpf.out, hx.out]; rfl
          go_wp2
          go_returns
          rw [hp.out]
          exact ⟨by first | rfl | simp [dres], bl3 (by repeat (first | exact (Below.refl _ _).alloc (Nat.le_refl _) _ | apply below_drewN)) _ _ _⟩
        | true =>
          have hok : t3 = [] → Hid (prs l = some (mi, t.take k ++ [], x - (([] : List UInt8).length : Int))) := fun h => by show _ = _; rw [hpf.out, hx.out]; simp [h]
          have hbad : t3 ≠ [] → Hid (prs l = none) := fun h => by show _ = _; rw [hpf.out, hx.out]; simp [h]
          by_cases h3 : t3 = []
          · have hE : (B t3).toList.isEmpty = true := by rw [B_toList, h3]; rfl
            have hp : Hid (prs l = some (mi, t.take k ++ [], x - (([] : List UInt8).length : Int))) := hok h3
            clear hok h3
            go_wp2_with fail
            rw [hcat.out]
            refine (trimLeft_c (t.take k ++ []) _ hcl.out).mono ?_
            rintro e w' ⟨rfl, rfl⟩
            go_wp2
            go_returns
            rw [hp.out]
            exact ⟨by first | rfl | simp [dres], bl3 (by repeat (first | exact (Below.refl _ _).alloc (Nat.le_refl _) _ | apply below_drewN)) _ _ _⟩
          · have hE : (B t3).toList.isEmpty = false := by rw [B_toList]; cases h : t3 with | nil => exact absurd h h3 | cons a b => rfl
            have hp : Hid (prs l = none) := hbad h3
            clear hok hbad h3
            go_wp2
            go_returns
            rw [hp.out]
            exact ⟨by first | rfl | simp [dres], bl3 (by repeat (first | exact (Below.refl _ _).alloc (Nat.le_refl _) _ | apply below_drewN)) _ _ _⟩
      | false =>
        have hx : Hid (xpo t1 = (0, t1, true)) := by show _ = _; unfold xpo; rw [← hee.out]; rfl
        have hr2e : Hid (r2 = t1) := by show _ = _; rw [hr2.out]; exact cut1_not hee.out.symm
        have hok : t1 = [] → Hid (prs l = some (mi, t.take k ++ [], 0 - (([] : List UInt8).length : Int))) := fun h => by show _ = _; rw [hpf.out, hx.out]; simp [h]
        have hbad : t1 ≠ [] → Hid (prs l = none) := fun h => by show _ = _; rw [hpf.out, hx.out]; simp [h]
        by_cases h3 : t1 = []
        · have hE : (B t1).toList.isEmpty = true := by rw [B_toList, h3]; rfl
          have hp : Hid (prs l = some (mi, t.take k ++ [], 0 - (([] : List UInt8).length : Int))) := hok h3
          clear hok h3
          go_wp2_with fail
          rw [hcat.out]
          refine (trimLeft_c (t.take k ++ []) _ hcl.out).mono ?_
          rintro e w' ⟨rfl, rfl⟩
          go_wp2
          go_returns
          rw [hp.out]
          exact ⟨by first | rfl | simp [dres], bl3 (by repeat (first | exact (Below.refl _ _).alloc (Nat.le_refl _) _ | apply below_drewN)) _ _ _⟩
        · have hE : (B t1).toList.isEmpty = false := by rw [B_toList]; cases h : t1 with | nil => exact absurd h h3 | cons a b => rfl
          have hp : Hid (prs l = none) := hbad h3
          clear hok hbad h3
          go_wp2
          go_returns
          rw [hp.out]
          exact ⟨by first | rfl | simp [dres], bl3 (by repeat (first | exact (Below.refl _ _).alloc (Nat.le_refl _) _ | apply below_drewN)) _ _ _⟩
theorem decimalOf_c (l : List UInt8) (w : World) :
    Calls Tryz.prog 22 #[.string (B l)] w fun e w' => e = .returned (dres (prs l)) ∧ Below w.heap.size w w' := by
  by_cases h : 400 < l.length
  · exact decimalOf_long l w h
  · exact decimalOf_short l w (by omega)
end Go.Proofs.YtbpncapdjolanaaGreatDoor
