/-
  The document's ParsePlain at every text; both readings agree.
-/
import Derived.Test.YtbpncapdjolanaaGreatDoorRr4
import Derived.Test.YtbpncapdjolanaaGreatDoorNum
namespace Go.Proofs.YtbpncapdjolanaaGreatDoor
open Flo Go.RowKit
set_option maxRecDepth 100000 in
set_option maxHeartbeats 1000000 in
theorem r3_nan (w : World) : Calls Tryz.prog 10 #[.string (B [110, 97, 110])] w fun e w' => e = .returned (tup3 9221120237041090560 0) ∧ w = w' := by
  have hB : (B [110, 97, 110]).toList = [110, 97, 110] := B_toList _
  have hbt : Hid (bt 9221120237041090560 = 9221120237041090560) := (by decide : bt 9221120237041090560 = 9221120237041090560)
  go_enter Tryz.func10, Tryz.ntmps10
  go_wp2_with fail
  refine Calls.mono (natFloat_c 9221120237041090560 w (by decide)) ?_
  rintro e w' ⟨rfl, rfl⟩
  rw [hbt.out]
  go_wp2
  go_ret2
  exact ⟨rfl, rfl⟩
set_option maxRecDepth 100000 in
set_option maxHeartbeats 1000000 in
theorem r3_inf (w : World) : Calls Tryz.prog 10 #[.string (B [105, 110, 102])] w fun e w' => e = .returned (tup3 9218868437227405312 0) ∧ w = w' := by
  have hB : (B [105, 110, 102]).toList = [105, 110, 102] := B_toList _
  have hbt : Hid (bt 9218868437227405312 = 9218868437227405312) := (by decide : bt 9218868437227405312 = 9218868437227405312)
  go_enter Tryz.func10, Tryz.ntmps10
  go_wp2_with fail
  refine Calls.mono (natFloat_c 9218868437227405312 w (by decide)) ?_
  rintro e w' ⟨rfl, rfl⟩
  rw [hbt.out]
  go_wp2
  go_ret2
  exact ⟨rfl, rfl⟩
set_option maxRecDepth 100000 in
set_option maxHeartbeats 1000000 in
theorem r3_minf (w : World) : Calls Tryz.prog 10 #[.string (B [45, 105, 110, 102])] w fun e w' => e = .returned (tup3 18442240474082181120 0) ∧ w = w' := by
  have hB : (B [45, 105, 110, 102]).toList = [45, 105, 110, 102] := B_toList _
  have hbt : Hid (bt 18442240474082181120 = 18442240474082181120) := (by decide : bt 18442240474082181120 = 18442240474082181120)
  go_enter Tryz.func10, Tryz.ntmps10
  go_wp2_with fail
  refine Calls.mono (natFloat_c 18442240474082181120 w (by decide)) ?_
  rintro e w' ⟨rfl, rfl⟩
  rw [hbt.out]
  go_wp2
  go_ret2
  exact ⟨rfl, rfl⟩
set_option maxRecDepth 100000 in
set_option maxHeartbeats 1000000 in
theorem r3_long (s : ByteArray) (w : World) (h1 : (s.toList == [110, 97, 110]) = false) (h2 : (s.toList == [105, 110, 102]) = false) (h3 : (s.toList == [45, 105, 110, 102]) = false) (hsz : (400 : Int) < (s.size : Int)) :
    Calls Tryz.prog 10 #[.string s] w fun e w' => e = .returned (tup3 0 6) ∧ w = w' := by
  go_enter Tryz.func10, Tryz.ntmps10
  go_wp2
  go_ret2
  exact ⟨rfl, rfl⟩
set_option maxRecDepth 100000 in
set_option maxHeartbeats 1000000 in
theorem r3_nil (s : ByteArray) (w : World) (h1 : (s.toList == [110, 97, 110]) = false) (h2 : (s.toList == [105, 110, 102]) = false) (h3 : (s.toList == [45, 105, 110, 102]) = false) (hsz : s.size = 0) :
    Calls Tryz.prog 10 #[.string s] w fun e w' => e = .returned (tup3 0 6) ∧ w = w' := by
  have hn : Hid (Dg.rl (s.data.toList.drop 0) = 0) := by
    have h : s.data.toList = [] := List.eq_nil_of_length_eq_zero hsz
    show _ = _
    rw [h]; rfl
  go_enter Tryz.func10, Tryz.ntmps10
  go_wp2_with fail
  refine (rrun_c s 0 w (by omega) (by omega)).mono ?_
  rintro e w' ⟨rfl, rfl⟩
  rw [hn.out]
  go_wp2
  go_ret2
  exact ⟨rfl, rfl⟩
/-- what the document's ParsePlain answers -/
def RR (l : List UInt8) (v : Value) : Prop :=
  (l = [110, 97, 110] ∧ v = tup3 9221120237041090560 0) ∨ (l = [105, 110, 102] ∧ v = tup3 9218868437227405312 0) ∨ (l = [45, 105, 110, 102] ∧ v = tup3 18442240474082181120 0) ∨
  ((l ≠ [110, 97, 110] ∧ l ≠ [105, 110, 102] ∧ l ≠ [45, 105, 110, 102]) ∧ R3 l v)
theorem r3Plain_c (l : List UInt8) (w : World) :
    Calls Tryz.prog 10 #[.string (B l)] w fun e w' => ∃ v, e = .returned v ∧ RR l v ∧ Below w.heap.size w w' := by
  by_cases h1 : l = [110, 97, 110]
  · subst h1
    refine Calls.mono (r3_nan w) ?_
    rintro e w' ⟨rfl, rfl⟩
    exact ⟨_, rfl, .inl ⟨rfl, rfl⟩, Below.refl _ _⟩
  · by_cases h2 : l = [105, 110, 102]
    · subst h2
      refine Calls.mono (r3_inf w) ?_
      rintro e w' ⟨rfl, rfl⟩
      exact ⟨_, rfl, .inr (.inl ⟨rfl, rfl⟩), Below.refl _ _⟩
    · by_cases h3 : l = [45, 105, 110, 102]
      · subst h3
        refine Calls.mono (r3_minf w) ?_
        rintro e w' ⟨rfl, rfl⟩
        exact ⟨_, rfl, .inr (.inr (.inl ⟨rfl, rfl⟩)), Below.refl _ _⟩
      · have hB : (B l).toList = l := B_toList l
        have e1 : ((B l).toList == [110, 97, 110]) = false := by rw [hB]; exact beq_eq_false_iff_ne.2 h1
        have e2 : ((B l).toList == [105, 110, 102]) = false := by rw [hB]; exact beq_eq_false_iff_ne.2 h2
        have e3 : ((B l).toList == [45, 105, 110, 102]) = false := by rw [hB]; exact beq_eq_false_iff_ne.2 h3
        have hsz := B_size l
        have hdl : (B l).data.toList = l := B_data l
        have key : Calls Tryz.prog 10 #[.string (B l)] w fun e w' => ∃ v, e = .returned v ∧ R3 l v ∧ Below w.heap.size w w' := by
          by_cases hL : 400 < l.length
          · refine Calls.mono (r3_long (B l) w e1 e2 e3 (by omega)) ?_
            rintro e w' ⟨rfl, rfl⟩
            refine ⟨_, rfl, .inl ⟨?_, rfl⟩, Below.refl _ _⟩
            unfold pr3; rw [if_pos hL]
          · by_cases h0 : l.length = 0
            · refine Calls.mono (r3_nil (B l) w e1 e2 e3 (by omega)) ?_
              rintro e w' ⟨rfl, rfl⟩
              refine ⟨_, rfl, .inl ⟨?_, rfl⟩, Below.refl _ _⟩
              have : l = [] := List.eq_nil_of_length_eq_zero h0
              subst this
              rfl
            · have hp : 0 < (B l).size := by omega
              have hat := at_list hdl 0 hp
              by_cases hc : (B l)[0] = 45
              · refine r3_m (B l) l w hdl e1 e2 e3 (by omega) hp (by rw [u8_eqb _ 45 45 rfl]; exact decide_eq_true hc) ?_
                have h := cut1_at (x := 45) hat
                rw [List.drop_zero, if_pos hc] at h
                exact h
              · refine r3_p (B l) l w hdl e1 e2 e3 (by omega) hp (by rw [u8_eqb _ 45 45 rfl]; exact decide_eq_false hc) ?_
                have h := cut1_at (x := 45) hat
                rw [if_neg hc] at h
                rw [List.drop_zero] at h ⊢
                exact h
        refine Calls.mono key ?_
        rintro e w' ⟨v, rfl, hv, hb⟩
        exact ⟨v, rfl, .inr (.inr (.inr ⟨⟨h1, h2, h3⟩, hv⟩)), hb⟩
/-- both readings: the same float, the number of the error -/
theorem reads_agree {l : List UInt8} {al : List Addr} {v v' : Value} (h : PP l (ek al 5) (ek al 4) v) (h' : RR l v') :
    ∃ (g : Nat) (o : Value) (n : Int), v = .tuple #[.float .f64 g, o] ∧ v' = .tuple #[.float .f64 g, .int .i64 n] ∧ g < 18446744073709551616 ∧ ((o = .nilIface ∧ n = 0) ∨ (o = ek al 5 ∧ n = 6) ∨ (o = ek al 4 ∧ n = 5)) := by
  rcases h with ⟨rfl, rfl⟩ | ⟨rfl, rfl⟩ | ⟨rfl, rfl⟩ | ⟨⟨n1, n2, n3⟩, h⟩
  · rcases h' with ⟨_, rfl⟩ | ⟨e, _⟩ | ⟨e, _⟩ | ⟨⟨e, _⟩, _⟩
    · exact ⟨_, _, _, rfl, rfl, by decide, .inl ⟨rfl, rfl⟩⟩
    · exact absurd e (by decide)
    · exact absurd e (by decide)
    · exact absurd rfl e
  · rcases h' with ⟨e, _⟩ | ⟨_, rfl⟩ | ⟨e, _⟩ | ⟨⟨_, e, _⟩, _⟩
    · exact absurd e (by decide)
    · exact ⟨_, _, _, rfl, rfl, by decide, .inl ⟨rfl, rfl⟩⟩
    · exact absurd e (by decide)
    · exact absurd rfl e
  · rcases h' with ⟨e, _⟩ | ⟨e, _⟩ | ⟨_, rfl⟩ | ⟨⟨_, _, e⟩, _⟩
    · exact absurd e (by decide)
    · exact absurd e (by decide)
    · exact ⟨_, _, _, rfl, rfl, by decide, .inl ⟨rfl, rfl⟩⟩
    · exact absurd rfl e
  · have h2 : R3 l v' := by
      rcases h' with ⟨e, _⟩ | ⟨e, _⟩ | ⟨e, _⟩ | ⟨_, h'⟩
      · exact absurd e n1
      · exact absurd e n2
      · exact absurd e n3
      · exact h'
    rcases pr3_prs l with ⟨q1, q2⟩ | ⟨mi, ds, p, p', q1, q2, q3⟩
    · rcases h with ⟨_, rfl⟩ | ⟨_, _, _, _, e, _⟩
      · rcases h2 with ⟨_, rfl⟩ | ⟨_, _, _, _, e, _⟩
        · exact ⟨_, _, _, rfl, rfl, by decide, .inr (.inl ⟨rfl, rfl⟩)⟩
        · rw [q2] at e; cases e
      · rw [q1] at e; cases e
    · rcases h with ⟨e, _⟩ | ⟨mi1, ds1, p1, r, e, s1, a1⟩
      · rw [q1] at e; cases e
      · rcases h2 with ⟨e2, _⟩ | ⟨mi2, ds2, p2, r2, e2, s2, a2⟩
        · rw [q2] at e2; cases e2
        · have hok := prs_ok q1
          rw [q1] at e
          rw [q2] at e2
          simp only [Option.some.injEq, Prod.mk.injEq] at e e2
          obtain ⟨rfl, rfl, rfl⟩ := e
          obtain ⟨rfl, rfl, rfl⟩ := e2
          have hag := sp_rel (L := ds.length) (Dg.dv_lt ds hok.1) (by have := hok.2.1; omega) s1 s2 q3
          rcases hag with ⟨b1, b2⟩ | ⟨b1, b2⟩
          · subst b2
            rcases a1 with ⟨c1, _⟩ | ⟨_, rfl⟩
            · omega
            · rcases a2 with ⟨c1, _⟩ | ⟨_, rfl⟩
              · omega
              · refine ⟨_, _, _, rfl, rfl, ?_, .inl ⟨rfl, rfl⟩⟩
                unfold Rd.inf at b1
                unfold sg
                split <;> omega
          · rcases a1 with ⟨_, rfl⟩ | ⟨c1, _⟩
            · rcases a2 with ⟨_, rfl⟩ | ⟨c1, _⟩
              · exact ⟨_, _, _, rfl, rfl, by decide, .inr (.inr ⟨rfl, rfl⟩)⟩
              · omega
            · omega
end Go.Proofs.YtbpncapdjolanaaGreatDoor
