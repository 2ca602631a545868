/-
  Errors held against each other; begins.
-/
import Derived.Test.YtjmjnljjdjhgpaaDoorOz1
import Derived.Test.YtjmjnljjdjhgpaaDoorOd10
namespace Go.Proofs.YtjmjnljjdjhgpaaDoor
open Flo Go.RowKit Tr
theorem evnil (a : Addr) (w : World) : (binOp .eql 28 (ev a) .nilIface).run Tryd.prog w = .ok (.bool false) w := by unfold ev; kernel_rfl
theorem evnnil (a : Addr) (w : World) : (binOp .neq 28 (ev a) .nilIface).run Tryd.prog w = .ok (.bool true) w := by unfold ev; kernel_rfl
theorem evguard (a : Addr) (op : BinOp) (t : TypeId) (x y : Operand) (b : Value) (w : World) : (eqGuard op t x y (ev a) b).run Tryd.prog w = .ok () w := by
  unfold ev
  cases op <;> cases b <;> rfl
theorem evguard2 (a : Addr) (op : BinOp) (t : TypeId) (x y : Operand) (w : World) : (eqGuard op t x y .nilIface (ev a)).run Tryd.prog w = .ok () w := by
  unfold ev
  cases op <;> rfl
theorem nilev (a : Addr) (w : World) : (binOp .eql 28 .nilIface (ev a)).run Tryd.prog w = .ok (.bool false) w := by unfold ev; kernel_rfl
theorem ev_ne {w : World} {aL aT aO : Addr} (h : Eo w aL aT aO) {a b : Addr} (ha : a = aL ∨ a = aT ∨ a = aO) (hb : b = aL ∨ b = aT ∨ b = aO) (hne : a ≠ b) : (binOp .eql 28 (ev a) (ev b)).run Tryd.prog w = .ok (.bool false) w := by
  obtain ⟨i, d, hi, ci, hd, sd⟩ := err_info
  obtain ⟨c1, t1, r1⟩ := h.row a ha
  obtain ⟨c2, t2, r2⟩ := h.row b hb
  unfold ev
  exact run_eql_iface_ptr_other w Tryd.underlying28 Tryd.underlying122 hi ci hd sd hne r1 r2
theorem neqv_self (a : Addr) (w : World) : (binOp .neq 28 (ev a) (ev a)).run Tryd.prog w = .ok (.bool false) w := by
  have h := eqv_self a w
  unfold ev at h ⊢
  simp only [binOp] at h ⊢
  rw [Sem.run_bind] at h ⊢
  generalize (Op.equal 28 (Value.iface 122 (Value.pointer (some a))) (Value.iface 122 (Value.pointer (some a)))).run Tryd.prog w = r at *
  cases r with
  | ok b w' =>
    have h' : Result.ok (Value.bool b) w' = Result.ok (Value.bool true) w := h
    simp only [Result.ok.injEq, Value.bool.injEq] at h'
    obtain ⟨rfl, rfl⟩ := h'
    rfl
  | halt x w' => cases h
namespace Ps
theorem rd_le (l : List UInt8) : (rd l).2 ≤ l.length := (pa_le l (Nat.zero_le l.length)).2
theorem prs_kind {l : List UInt8} (h : ¬ 65536 < l.length) : ((∃ t, prs l = (some t, 0, 0)) ∧ (rd l).2 = l.length) ∨ (prs l = (none, 0, 8) ∧ (rd l).2 = l.length) ∨ (prs l = (none, (rd l).2, 6)) := by
  by_cases hg : ∃ t, rd l = (some t, l.length)
  · obtain ⟨t, hr⟩ := hg
    rw [prs_good h hr, hr]
    by_cases h0 : len t = 0
    · rw [if_pos h0]; exact .inr (.inl ⟨rfl, rfl⟩)
    · rw [if_neg h0]; exact .inl ⟨⟨t, rfl⟩, rfl⟩
  · exact .inr (.inr (prs_text h (fun t ht => hg ⟨t, ht⟩)))
end Ps
set_option maxHeartbeats 1000000 in
set_option maxRecDepth 100000 in
theorem begins_c (l : List UInt8) (aL aT aO : Addr) (w : World) (hE : Eo w aL aT aO) (hl : l.length ≤ 300) : Calls Tryd.prog 29 #[.string (Bt l)] w fun e w' => e = .returned (.bool (decide ((Ps.rd l).2 = l.length))) ∧ Below w.heap.size w w' := by
  have hEH : Hid (Eo w aL aT aO) := hE
  have hlI : Hid ((Bt l).size = l.length) := Bt_size l
  have hn1 := evnil
  have hn2 := evguard
  clear hE
  obtain ⟨R, hR⟩ : ∃ R : Bool, Hid (decide ((Ps.rd l).2 = l.length) = R) := ⟨_, (rfl : _ = _)⟩
  rw [hR.out]
  go_enter Tryd.func29, Tryd.ntmps29
  go_wp2_with fail
  refine (parse_c l aL aT aO w hEH.out).mono ?_
  rintro e w1 ⟨B1, v, rfl, s1, n1⟩
  have hE1 : Hid (Eo w1 aL aT aO) := hEH.out.below B1
  have hB1 : Hid (Below w.heap.size w w1) := B1
  have hal : Hid (∀ o, Below w1.heap.size w1 (w1.alloc o)) := fun o => (Below.refl _ _).alloc (Nat.le_refl _) _
  rcases Ps.prs_kind (l := l) (by omega) with ⟨⟨t, hp⟩, hq⟩ | ⟨hp, hq⟩ | hp
  · rw [hp] at s1 ⊢
    have ev0 : er aL aT aO 0 = .nilIface := rfl
    obtain ⟨va, vc, rfl⟩ := (s1 t rfl).shape
    have hR1 : Hid (true = R) := by show _ = _; rw [← hR.out, hq]; simp
    clear hp hq s1 n1 B1
    show _
    rw [ev0]
    clear ev0
    generalize t.k = tk at *
    generalize t.n = tn at *
    generalize t.ks.length = tl at *
    go_wp2_with fail
    go_ret
    exact ⟨by rw [← hR1.out]; rfl, btr hB1.out (hal.out _)⟩
  · rw [hp] at n1 ⊢
    rw [n1 rfl]
    have hR1 : Hid (true = R) := by show _ = _; rw [← hR.out, hq]; simp
    have ev0 : er aL aT aO 8 = ev aO := rfl
    show _
    rw [ev0]
    clear hp hq s1 n1 B1 ev0
    unfold zor
    obtain ⟨w2, e2⟩ : ∃ w2, Hid (w1.alloc (.cells #[.int .i64 0, .int .i64 0, .slice none 0 0] 24) = w2) := ⟨_, (rfl : _ = _)⟩
    have B2 : Hid (Below w1.heap.size w1 w2) := by show Below _ _ _; rw [← e2.out]; exact hal.out _
    have hE2 : Hid (Eo w2 aL aT aO) := hE1.out.below B2.out
    have cO := hE2.out.cO
    have hq1 := eqv_self aO w2
    go_upto_region 2 with fail
    rw [e2.out]
    go_wp2_with fail
    go_ret
    exact ⟨by rw [← hR1.out]; rfl, btr hB1.out B2.out⟩
  · rw [hp] at n1 ⊢
    rw [n1 rfl]
    have ev0 : er aL aT aO 6 = ev aT := rfl
    show _
    rw [ev0]
    obtain ⟨q, hq⟩ : ∃ q, Hid ((Ps.rd l).2 = q) := ⟨_, (rfl : _ = _)⟩
    rw [hq.out]
    clear hp s1 n1 B1 ev0
    unfold zor
    obtain ⟨w2, e2⟩ : ∃ w2, Hid (w1.alloc (.cells #[.int .i64 0, .int .i64 0, .slice none 0 0] 24) = w2) := ⟨_, (rfl : _ = _)⟩
    have B2 : Hid (Below w1.heap.size w1 w2) := by show Below _ _ _; rw [← e2.out]; exact hal.out _
    have hE2 : Hid (Eo w2 aL aT aO) := hE1.out.below B2.out
    have cO := hE2.out.cO
    have cT := hE2.out.cT
    have hq1 := eqv_self aT w2
    have hq2 := ev_ne hE2.out (a := aT) (b := aO) (by simp) (by simp) hE2.out.nTO
    by_cases hql : q = l.length
    · have hR1 : Hid (true = R) := by show _ = _; rw [← hR.out, hq.out, hql]; simp
      have hqi : ((q : Int) == ((Bt l).size : Int)) = true := beq_iff_eq.2 (by rw [hlI.out, hql])
      clear hql
      go_upto_region 2 with fail
      rw [e2.out]
      go_wp2_with fail
      go_ret
      exact ⟨by rw [← hR1.out]; rfl, btr hB1.out B2.out⟩
    · have hR1 : Hid (false = R) := by show _ = _; rw [← hR.out, hq.out]; simp [hql]
      have hqi : ((q : Int) == ((Bt l).size : Int)) = false := beq_eq_false_iff_ne.2 (by rw [hlI.out]; omega)
      clear hql
      go_upto_region 2 with fail
      rw [e2.out]
      go_wp2_with fail
      go_ret
      exact ⟨by rw [← hR1.out]; rfl, btr hB1.out B2.out⟩
end Go.Proofs.YtjmjnljjdjhgpaaDoor
