/-
  ParsePlain.
-/
import Derived.Test.YtbpncapdjolanaaGreatDoorDcm
import Derived.Test.YtbpncapdjolanaaGreatDoorSiz
import Derived.Test.YtbpncapdjolanaaGreatDoorLow
namespace Go.Proofs.YtbpncapdjolanaaGreatDoor
open Flo Go.RowKit
theorem fra_ok {l : List UInt8} : (∀ b ∈ (fra l).1, Dg.isD b = true) ∧ (fra l).1.length ≤ l.length ∧ (fra l).2.1.length ≤ l.length := by
  have hc := cut1_len 46 l
  have hr := Dg.rl_le (cut1 46 l).1
  unfold fra
  split
  · refine ⟨Dg.rl_all _, by simp; omega, by simp; omega⟩
  · exact ⟨by simp, by simp, Nat.le_refl _⟩
theorem xpo_ok {l : List UInt8} : -9999 ≤ (xpo l).1 ∧ (xpo l).1 ≤ 9999 := by
  unfold xpo
  split
  · exact cx_le _
  · exact ⟨by show (-9999 : Int) ≤ 0; omega, by show (0 : Int) ≤ 9999; omega⟩
theorem prs_ok {l : List UInt8} {mi : Bool} {ds : List UInt8} {p : Int} (h : prs l = some (mi, ds, p)) : (∀ b ∈ ds, Dg.isD b = true) ∧ ds.length ≤ 800 ∧ -20000 ≤ p ∧ p ≤ 20000 := by
  unfold prs at h
  by_cases h1 : 400 < l.length
  · rw [if_pos h1] at h; cases h
  · rw [if_neg h1] at h
    simp only at h
    split at h
    · cases h
    · split at h
      · cases h
      · split at h
        · cases h
        · split at h
          · cases h
          · have hc := cut1_len 45 l
            have hr := Dg.rl_le (cut1 45 l).1
            have hf := fra_ok (l := (cut1 45 l).1.drop (Dg.rl (cut1 45 l).1))
            have hx := xpo_ok (l := (fra ((cut1 45 l).1.drop (Dg.rl (cut1 45 l).1))).2.1)
            simp only [Option.some.injEq, Prod.mk.injEq] at h
            obtain ⟨rfl, rfl, rfl⟩ := h
            have h2 := hf.2.1
            rw [List.length_drop] at h2
            refine ⟨?_, ?_, by omega, by omega⟩
            · intro b hb
              rcases List.mem_append.1 hb with h3 | h3
              · exact Dg.rl_all _ b h3
              · exact hf.1 b h3
            · rw [List.length_append, List.length_take]; omega
/-- the sign's bit -/
def sg (m : Bool) : Nat := if m then 9223372036854775808 else 0
def tup (b : Nat) (e : Value) : Value := .tuple #[.float .f64 b, e]
/-- what ParsePlain answers -/
def PP (l : List UInt8) (et er v : Value) : Prop :=
  (l = [110, 97, 110] ∧ v = tup 9221120237041090560 .nilIface) ∨ (l = [105, 110, 102] ∧ v = tup 9218868437227405312 .nilIface) ∨ (l = [45, 105, 110, 102] ∧ v = tup 18442240474082181120 .nilIface) ∨
  ((l ≠ [110, 97, 110] ∧ l ≠ [105, 110, 102] ∧ l ≠ [45, 105, 110, 102]) ∧
    ((prs l = none ∧ v = tup 0 et) ∨
     ∃ mi ds p r, prs l = some (mi, ds, p) ∧ Rd.Sp (Dg.dv ds) p r ∧ ((Rd.inf ≤ r ∧ v = tup 0 er) ∨ (r < Rd.inf ∧ v = tup (r + sg mi) .nilIface))))
set_option maxRecDepth 100000 in
set_option maxHeartbeats 400000 in
theorem pp_nan (w : World) (et er : Value) :
    Calls Tryz.prog 9 #[.string (B [110, 97, 110])] w fun e w' => ∃ v, e = .returned v ∧ PP [110, 97, 110] et er v ∧ Below w.heap.size w w' := by
  have hB : (B [110, 97, 110]).toList = [110, 97, 110] := B_toList _
  go_enter Tryz.func9, Tryz.ntmps9
  go_wp2_with (go_at_call 21; refine (of_c _ _).mono ?_; rintro e w' ⟨rfl, rfl⟩)
  go_ret2
  exact ⟨_, rfl, .inl ⟨rfl, rfl⟩, Below.refl _ _⟩
set_option maxRecDepth 100000 in
set_option maxHeartbeats 400000 in
theorem pp_inf (w : World) (et er : Value) :
    Calls Tryz.prog 9 #[.string (B [105, 110, 102])] w fun e w' => ∃ v, e = .returned v ∧ PP [105, 110, 102] et er v ∧ Below w.heap.size w w' := by
  have hB : (B [105, 110, 102]).toList = [105, 110, 102] := B_toList _
  go_enter Tryz.func9, Tryz.ntmps9
  go_wp2_with (go_at_call 21; refine (of_c _ _).mono ?_; rintro e w' ⟨rfl, rfl⟩)
  go_ret2
  exact ⟨_, rfl, .inr (.inl ⟨rfl, rfl⟩), Below.refl _ _⟩
set_option maxRecDepth 100000 in
set_option maxHeartbeats 400000 in
theorem pp_minf (w : World) (et er : Value) :
    Calls Tryz.prog 9 #[.string (B [45, 105, 110, 102])] w fun e w' => ∃ v, e = .returned v ∧ PP [45, 105, 110, 102] et er v ∧ Below w.heap.size w w' := by
  have hB : (B [45, 105, 110, 102]).toList = [45, 105, 110, 102] := B_toList _
  go_enter Tryz.func9, Tryz.ntmps9
  go_wp2_with (go_at_call 21; refine (of_c _ _).mono ?_; rintro e w' ⟨rfl, rfl⟩)
  go_ret2
  exact ⟨_, rfl, .inr (.inr (.inl ⟨rfl, rfl⟩)), Below.refl _ _⟩
set_option maxRecDepth 100000 in
set_option maxHeartbeats 400000 in
theorem pp_none (l : List UInt8) (w : World) (et : Value) (h1 : (l == [110, 97, 110]) = false) (h2 : (l == [105, 110, 102]) = false) (h3 : (l == [45, 105, 110, 102]) = false)
    (ht : w.cell? ⟨0, 0, none⟩ = some et) (hg : 0 < w.heap.size) (hp : Hid (prs l = none)) :
    Calls Tryz.prog 9 #[.string (B l)] w fun e w' => e = .returned (tup 0 et) ∧ Below w.heap.size w w' := by
  have hB : (B l).toList = l := B_toList _
  go_enter Tryz.func9, Tryz.ntmps9
  go_wp2_with fail
  refine (decimalOf_c l w).mono ?_
  rintro e w1 ⟨rfl, hb1⟩
  rw [hp.out]
  have hd : dres none = .tuple #[.agg #[.bool false, .string ⟨#[]⟩, .int .i64 0], .bool false] := rfl
  rw [hd]
  have ht1 : w1.cell? ⟨0, 0, none⟩ = some et := (hb1.cell (p := ⟨0, 0, none⟩) hg).trans ht
  have hbH : Hid (Below w.heap.size w w1) := hb1
  clear hd hb1 ht
  go_wp2
  generalize hW : w1.alloc (.cells #[.bool false, .string ⟨#[]⟩, .int .i64 0] 45) = W
  have htW : W.cell? ⟨0, 0, none⟩ = some et := by rw [← hW]; exact (((Below.refl w1.heap.size w1).alloc (Nat.le_refl _) _).cell (p := ⟨0, 0, none⟩) (Nat.lt_of_lt_of_le hg hbH.out.size)).trans ht1
  have hbW : Hid (Below w.heap.size w W) := by rw [← hW]; exact hbH.out.alloc hbH.out.size _
  clear hW ht1
  go_quiet (fail)
  go_wp2
  go_ret2
  exact ⟨rfl, below_drewN hbW.out _⟩
set_option maxRecDepth 100000 in
set_option maxHeartbeats 400000 in
theorem pp_some (l : List UInt8) (w : World) (er : Value) (h1 : (l == [110, 97, 110]) = false) (h2 : (l == [105, 110, 102]) = false) (h3 : (l == [45, 105, 110, 102]) = false)
    (ht : w.cell? ⟨1, 0, none⟩ = some er) (hg : 1 < w.heap.size) (mi : Bool) (ds : List UInt8) (p : Int) (hp : Hid (prs l = some (mi, ds, p))) :
    Calls Tryz.prog 9 #[.string (B l)] w fun e w' => ∃ v, e = .returned v ∧ (∃ r, Rd.Sp (Dg.dv ds) p r ∧ ((Rd.inf ≤ r ∧ v = tup 0 er) ∨ (r < Rd.inf ∧ v = tup (r + sg mi) .nilIface))) ∧ Below w.heap.size w w' := by
  have hB : (B l).toList = l := B_toList _
  obtain ⟨o1, o2, o3, o4⟩ := prs_ok hp.out
  go_enter Tryz.func9, Tryz.ntmps9
  go_wp2_with fail
  refine (decimalOf_c l w).mono ?_
  rintro e w1 ⟨rfl, hb1⟩
  rw [hp.out]
  have hd : dres (some (mi, ds, p)) = .tuple #[.agg #[.bool mi, .string (B (Dg.tz ds)), .int .i64 p], .bool true] := rfl
  rw [hd]
  have ht1 : Hid (∀ w2, Below w1.heap.size w1 w2 → w2.cell? ⟨1, 0, none⟩ = some er) := fun w2 hb2 => ((hb2.cell (p := ⟨1, 0, none⟩) (Nat.lt_of_lt_of_le hg hb1.size)).trans (hb1.cell (p := ⟨1, 0, none⟩) hg)).trans ht
  have hbH : Hid (Below w.heap.size w w1) := hb1
  clear hd hb1 ht
  go_wp2_with fail
  generalize hW : w1.alloc (.cells #[.bool mi, .string (B (Dg.tz ds)), .int .i64 p] 45) = W
  have hbW : Hid (Below w1.heap.size w1 W) := by rw [← hW]; exact (Below.refl _ _).alloc (Nat.le_refl _) _
  have hc0 : Hid (W.cell? ⟨w1.heap.size, 0, none⟩ = some (.bool mi)) := by show _ = _; rw [← hW]; simp
  have hWs : Hid (w1.heap.size + 1 = W.heap.size) := by show _ = _; rw [← hW]; simp
  clear hW
  refine (size_c mi (B (Dg.tz ds)) p W (by rw [B_size]; exact Nat.le_trans (Dg.tz_len ds) (by omega)) o3 o4 (by rw [B_data]; exact fun b hb => o1 b (Dg.tz_mem hb)) (by
    rw [B_size, B_data, Dg.tz_dv]
    by_cases h : Dg.tz ds = []
    · left; rw [h]; rfl
    · right; exact Dg.tz_ge ds o1 h)).mono ?_
  rintro e w2 ⟨r, rfl, hr, hb2⟩
  have hrH : Hid (Rd.Sp (Dg.dv ds) p r) := by rw [B_data, Dg.tz_dv] at hr; exact hr
  have hb12 : Hid (Below w1.heap.size w1 w2) := hbW.out.trans (hb2.mono hbW.out.size)
  have hbw : Hid (Below w.heap.size w w2) := hbH.out.trans (hb12.out.mono hbH.out.size)
  have ht2 := ht1.out w2 hb12.out
  have hc2 : w2.cell? ⟨w1.heap.size, 0, none⟩ = some (.bool mi) := (hb2.cell (p := ⟨w1.heap.size, 0, none⟩) (by have := hWs.out; show w1.heap.size < _; omega)).trans hc0.out
  clear hr hb2 hb12 ht1 hc0 hWs hbW hbH o1 o2 o3 o4
  by_cases hi : 9218868437227405312 ≤ r
  · have hi' : (9218868437227405312 : Int) ≤ (r : Int) := by omega
    have hiH : Hid (Rd.inf ≤ r) := hi
    clear hi
    go_wp2
    go_quiet (fail)
    go_wp2
    go_ret2
    exact ⟨_, rfl, ⟨r, hrH.out, .inl ⟨hiH.out, rfl⟩⟩, below_drewN hbw.out _⟩
  · have hi' : decide ((9218868437227405312 : Int) ≤ (r : Int)) = false := decide_eq_false (by omega)
    have hiH : Hid (r < Rd.inf) := Nat.lt_of_not_le hi
    have hrl : Hid (r < 9218868437227405312) := Nat.lt_of_not_le hi
    clear hi
    cases mi with
    | false =>
      go_wp2_with (go_at_call 21; refine (of_c _ _).mono ?_; rintro e w' ⟨rfl, rfl⟩)
      go_ret2
      exact ⟨_, rfl, ⟨r, hrH.out, .inr ⟨hiH.out, rfl⟩⟩, hbw.out⟩
    | true =>
      have hor : bits .or .u64 (r : Int) 9223372036854775808 = ((r + sg true : Nat) : Int) := by
        have hrl' := hrl.out
        show _ = ((r + 9223372036854775808 : Nat) : Int)
        rw [show (9223372036854775808 : Int) = ((9223372036854775808 : Nat) : Int) from rfl, bits_or_u64_nat _ _ (by omega) (by omega)]
        congr 1
        have := Nat.two_pow_add_eq_or_of_lt (i := 63) (b := r) (by omega) 1
        rw [Nat.mul_one] at this
        rw [Nat.or_comm, show (9223372036854775808 : Nat) = 2 ^ 63 from rfl, ← this, Nat.add_comm]
      go_wp2_with (go_at_call 21; refine (of_c _ _).mono ?_; rintro e w' ⟨rfl, rfl⟩)
      go_ret2
      exact ⟨_, rfl, ⟨r, hrH.out, .inr ⟨hiH.out, rfl⟩⟩, hbw.out⟩
theorem parsePlain_c (l : List UInt8) (w : World) (et er : Value) (ht : w.cell? ⟨0, 0, none⟩ = some et) (hr : w.cell? ⟨1, 0, none⟩ = some er) :
    Calls Tryz.prog 9 #[.string (B l)] w fun e w' => ∃ v, e = .returned v ∧ PP l et er v ∧ Below w.heap.size w w' := by
  have g1 : 0 < w.heap.size := World.block_lt_of_cell? w _ ht
  have g2 : 1 < w.heap.size := World.block_lt_of_cell? w _ hr
  by_cases h1 : l = [110, 97, 110]
  · subst h1; exact pp_nan w et er
  · by_cases h2 : l = [105, 110, 102]
    · subst h2; exact pp_inf w et er
    · by_cases h3 : l = [45, 105, 110, 102]
      · subst h3; exact pp_minf w et er
      · have e1 : (l == [110, 97, 110]) = false := beq_eq_false_iff_ne.2 h1
        have e2 : (l == [105, 110, 102]) = false := beq_eq_false_iff_ne.2 h2
        have e3 : (l == [45, 105, 110, 102]) = false := beq_eq_false_iff_ne.2 h3
        cases hp : prs l with
        | none =>
          refine (pp_none l w et e1 e2 e3 ht g1 hp).mono ?_
          rintro e w' ⟨rfl, hb⟩
          exact ⟨_, rfl, .inr (.inr (.inr ⟨⟨h1, h2, h3⟩, .inl ⟨hp, rfl⟩⟩)), hb⟩
        | some y =>
          obtain ⟨mi, ds, p⟩ := y
          refine (pp_some l w er e1 e2 e3 hr g2 mi ds p hp).mono ?_
          rintro e w' ⟨v, rfl, ⟨r, q1, q2⟩, hb⟩
          exact ⟨v, rfl, .inr (.inr (.inr ⟨⟨h1, h2, h3⟩, .inr ⟨mi, ds, p, r, hp, q1, q2⟩⟩)), hb⟩
end Go.Proofs.YtbpncapdjolanaaGreatDoor
