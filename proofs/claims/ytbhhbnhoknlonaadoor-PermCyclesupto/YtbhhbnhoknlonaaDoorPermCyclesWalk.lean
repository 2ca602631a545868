/-
  The walk of PermCycles: true at every list of up to 2^20 ints, wherever it is stopped.
-/
import Derived.Test.YtbhhbnhoknlonaaDoorSl6
import Derived.Test.YtbhhbnhoknlonaaDoorPm7
import Derived.Test.YtbhhbnhoknlonaaDoorOa6
import Derived.Sort.QuietIn
namespace Go.Proofs.YtbhhbnhoknlonaaDoor
open Flo Go.RowKit Go.Shelf
attribute [local go_sem] Oper.semAt_some

theorem own_below' {w w' : World} {B : Nat} {e : TypeId} {s : Nat} {v : Value} {n : Nat} {xs : List Value} (h : w.ownsRow B e s v n xs) (hb : Below w.heap.size w w') : w'.ownsRow B e s v n xs := by
  obtain ⟨h1, h2⟩ := h
  refine ⟨h1, ?_⟩
  rcases h2 with h2 | ⟨g, cap, cur, hv, hg, hgb, r⟩
  · exact .inl h2
  · exact .inr ⟨g, cap, cur, hv, hg, by rw [hb.block g (Array.getElem?_eq_some_iff.1 hgb).1]; exact hgb, r⟩
/-- two boxes with which PermCycles begins -/
structure Two (w : World) (stop : Int) (W : World) : Prop where
  bS : Boxed W w.heap.size 3 (.int .i64 stop)
  bR : Boxed W (w.heap.size + 1) 4 (.bool false)
  below : Below w.heap.size w W
  size : w.heap.size + 2 ≤ W.heap.size
theorem two (w : World) (stop : Int) : Two w stop ((w.alloc (.cells #[.int .i64 stop] 3)).alloc (.cells #[.bool false] 4)) := by
  refine ⟨(Boxed.new w _ _).alloc _, ?_, ((Below.refl _ w).alloc (Nat.le_refl _) _).alloc (by simp) _, by simp⟩
  have h := Boxed.new (w.alloc (.cells #[.int .i64 stop] 3)) 4 (.bool false)
  rw [World.size_alloc] at h
  exact h
theorem Two.under {w : World} {stop : Int} {W W' : World} (h : Two w stop W) (hb : Below W.heap.size W W') : Two w stop W' :=
  ⟨(hb.block _ h.bS.lt).trans h.bS, (hb.block _ h.bR.lt).trans h.bR, h.below.trans (hb.mono h.below.size), Nat.le_trans h.size hb.size⟩
theorem Two.kt {w : World} {stop : Int} {T : Nat → Prop} {W W' : World} (h : Two w stop W) (hk : KT T W W') (hT : ∀ b, b < w.heap.size + 2 → ¬ T b) : Two w stop W' :=
  ⟨hk.boxed h.bS (hT _ (by omega)), hk.boxed h.bR (hT _ (by omega)), ⟨hk.os.trans h.below.os, hk.tape.trans h.below.tape, hk.output.trans h.below.output, Nat.le_trans h.below.size hk.size, fun k hlt => (hk.block k (Nat.lt_of_lt_of_le hlt h.below.size) (hT k (by omega))).trans (h.below.block k hlt)⟩, Nat.le_trans h.size hk.size⟩
/-- what the first 'cycles' has told, and where it is kept -/
structure Ls (p : List Int) (N L : Nat) (vc : Value) (xs : List (Value × Nat)) (W : World) : Prop where
  box : Boxed W L 42 vc
  own : W.ownsRow N 22 1 vc xs.length (xs.map (·.1))
  cy : CyO p N W xs
theorem Ls.under {p : List Int} {N L : Nat} {vc : Value} {xs : List (Value × Nat)} {W W' : World} (h : Ls p N L vc xs W) (hb : Below W.heap.size W W') : Ls p N L vc xs W' :=
  ⟨(hb.block _ h.box.lt).trans h.box, own_below' h.own hb, h.cy.below hb⟩
/-- a block that is none of these is touched -/
theorem Ls.kt {p : List Int} {N L S : Nat} {vc : Value} {xs : List (Value × Nat)} {W W' : World} (h : Ls p N L vc xs W) (hk : KT (fun b => b = S) W W') (hL : L ≠ S) (hv : ∀ k, vc.ownBlock = some k → k ≠ S) (hx : ∀ y ∈ xs, ∀ k, y.1.ownBlock = some k → k ≠ S) : Ls p N L vc xs W' :=
  ⟨hk.boxed h.box hL, hk.own h.own (fun g e => hv g e), ⟨fun y hy => hk.own (h.cy.row y hy) (fun g e => hx y hy g e), h.cy.ap⟩⟩
theorem RdZ.kt {w w' : World} {v : Value} {p : List Int} {S N : Nat} (h : RdZ w v p) (hN : w.heap.size ≤ N) {W : World} (hb : Below w.heap.size w W) (hk : KT (fun b => b = S) W w') (hS : N ≤ S) : RdZ w' v p := by
  obtain ⟨ao, cap, rfl, h2⟩ := h
  refine ⟨ao, cap, rfl, fun hz => ?_⟩
  obtain ⟨b, off, rfl, h3, h4⟩ := h2 hz
  exact ⟨b, off, rfl, by have := hb.size; have := hk.size; omega, fun i hi => (hk.cell (p := ⟨b, off + i, none⟩) (show b < _ by have := hb.size; omega) (by show ¬ b = S; omega)).trans ((hb.cell (p := ⟨b, off + i, none⟩) h3).trans (h4 i hi))⟩
theorem lpC_per9 {p : List Int} (hn : p.length ≤ 1048576) : ∀ x ∈ lpC p, Pm.per p x ≤ 1048576 := by
  intro x hx
  unfold lpC at hx
  split at hx
  · rename_i h
    exact Nat.le_trans ((ckB_Ok h).per_le (Pm.lp_mem_lt hx)) hn
  · cases hx
theorem KT.then_below {T : Nat → Prop} {a b c : World} (h : KT T a b) (hb : Below b.heap.size b c) : KT T a c :=
  ⟨hb.os.trans h.os, hb.tape.trans h.tape, hb.output.trans h.output, Nat.le_trans h.size hb.size, fun k hk hT => (hb.block k (Nat.lt_of_lt_of_le hk h.size)).trans (h.block k hk hT)⟩
/-- an append behind a guard that holds, whose run is known -/
theorem wpListIn_appG {F : Fence} {n : Nat} {P : Program} (w : World) {ops : Array Oper} {rest : List Oper} {o : Oper} {a : Act} {Q : Exit → Act → World → Prop} (hw : Region.wanted o (yielded ops a.tmps) = true) (s x : Operand) (t : TypeId)
    (hop : o.op = .call { callee := .builtin .append, args := #[s, x], argTypes := #[t, t] }) (v u : Value) (hs : a.eval s = v) (hx : a.eval x = u) {v' : Value} {w' : World} (hrun : (Builtin.append_ #[t, t] o.type #[v, u]).run P w = .ok v' w')
    (hK : wpListIn F n P ops Q rest (a.put o.dst v') w') : wpListIn F n P ops Q (o :: rest) a w := by
  refine BigFrame.wpListIn_want hw fun K hK' => ?_
  unfold Oper.wpIn
  refine ⟨by simp [Oper.about, hop, resolve, Target.leads, Sem.run_pure], ?_⟩
  rw [Oper.semAt_plain F _ _ (by rw [hop]; intro c hc'; cases hc')]
  simp [execOp, hop, resolve, invoke, builtin, hs, hx, hrun, Result.andThen]
  exact hK' _ _ hK
/-- all lists in one -/
theorem app_ex {W : World} {N M : Nat} {va vb : Value} {xs zs : List (Value × Nat)} (ha : W.ownsRow N 22 1 va xs.length (xs.map (·.1))) (hb : W.ownsRow M 22 1 vb zs.length (zs.map (·.1))) (h1 : ∀ u ∈ zs.map (·.1), u.oneCell' = true) (hl : xs.length + zs.length ≤ 4194304) (hN : N ≤ W.heap.size) :
    ∃ v' w', (Builtin.append_ #[42, 42] 42 #[va, vb]).run Tryd.prog W = .ok v' w' ∧ w'.ownsRow N 22 1 v' (xs ++ zs).length ((xs ++ zs).map (·.1)) ∧ W.grownBy w' va.ownBlock := by
  obtain ⟨i0, hi0, hz0, hz1, hz2⟩ := info_parts infoLs
  rcases hb.2 with ⟨rfl, h0⟩ | ⟨g, cap, cur, rfl, q1, q2, q3⟩
  · have hz : zs = [] := List.length_eq_zero_iff.1 h0
    subst hz
    refine ⟨va, W, run_append_owned_none (P := Tryd.prog) W N 42 42 22 i0 1 Tryd.underlying42 hi0 va xs.length (xs.map (·.1)) ha, by simpa using ha, World.grownBy.refl _ _⟩
  · obtain ⟨v', w', r1, r2, r3, _⟩ := run_append_own (P := Tryd.prog) W N 42 42 22 i0 (.slice none 0 0) 1 24 Tryd.underlying42 hi0 hz0 hz1 hz2 rfl (by decide) va xs.length (xs.map (·.1)) ha ⟨g, 0, none⟩ zs.length cap (zs.map (·.1)) (by simp) (hb.cells rfl) h1 (by unfold maxLen; omega) (by omega) hN
    exact ⟨v', w', r1, by rw [List.length_append, List.map_append]; exact r2, r3⟩
set_option maxRecDepth 100000 in
set_option maxHeartbeats 16000000 in
theorem permCycles_in (v : Value) (p : List Int) (stop : Int) (w : World) (al : List Addr) (he : E3 w al) (hR : RdZ w v p) (hn : p.length ≤ 1048576) :
    CallsIn Fence.wide 12 Tryd.prog 5 #[v, .int .i64 stop] w fun e W' => e = .returned (.bool true) ∧ Below w.heap.size w W' := by
  have hRH : Hid (RdZ w v p) := hR
  have heH : Hid (E3 w al) := he
  obtain ⟨ao, cap, rfl, hrd⟩ := hR
  have hrdH : Hid (p ≠ [] → ∃ b off, ao = some ⟨b, off, none⟩ ∧ b < w.heap.size ∧ ∀ i, i < p.length → w.cell? ⟨b, off + i, none⟩ = some (.int .i64 (p.getD i 0))) := hrd
  clear he hrd
  refine callsIn_of_wp_marks Tryd.func5 rfl trivial ?_ rfl
  simp only [Tryd.ntmps5, List.size_toArray, List.length_cons, List.length_nil, Nat.reduceAdd, Nat.reduceSub, Array.replicate_succ, Array.replicate_zero, List.push_toArray, List.append_toArray, List.nil_append, List.cons_append]
  gi_wp2_with fail
  have hT0 := two w stop
  generalize (w.alloc (.cells #[.int .i64 stop] 3)).alloc (.cells #[.bool false] 4) = W0 at hT0 ⊢
  refine ⟨trivial, (callsIn_wide.2 (lives6_c W0 al (heH.out.below hT0.below))).mono ?_⟩
  rintro e w1 ⟨rfl, b1⟩
  have T1 : Hid (Two w stop w1) := hT0.under b1
  clear hT0 b1
  gi_wp2_with fail
  refine ⟨trivial, (callsIn_wide.2 (callsIn_wide.1 (cycles_in _ p w1 al (heH.out.below T1.out.below).perm (hRH.out.below T1.out.below) hn))).mono ?_⟩
  rintro e w2 ⟨vc, xs, rfl, hxs, hox, hcx, b2⟩
  obtain ⟨acl, ccl, rfl⟩ := own_slice hox
  have hxsH : Hid (xs.map (·.2) = lpC p) := hxs
  have L2 : Hid (w2.ownsRow w1.heap.size 22 1 (.slice acl xs.length ccl) xs.length (xs.map (·.1)) ∧ CyO p w1.heap.size w2 xs) := ⟨hox, hcx⟩
  have T2 : Hid (Two w stop w2) := T1.out.under b2
  have s2 : Hid (w1.heap.size ≤ w2.heap.size) := b2.size
  have hxl : xs.length ≤ 1048576 := by
    have := congrArg List.length hxs
    rw [List.length_map] at this
    have := lpC_len p
    omega
  clear hxs hox hcx b2
  gi_wp2_with fail
  obtain ⟨LB, hLB⟩ : ∃ LB, w2.heap.size = LB := ⟨_, rfl⟩
  have hl3 : Ls p w1.heap.size LB (.slice acl xs.length ccl) xs (w2.alloc (.cells #[.slice acl xs.length ccl] 42)) := ⟨by rw [← hLB]; exact Boxed.new _ _ _, L2.out.1.alloc _, L2.out.2.alloc _⟩
  have hT3 := T2.out.under ((Below.refl _ w2).alloc (Nat.le_refl _) (.cells #[.slice acl xs.length ccl] 42))
  have hz3 : (w2.alloc (.cells #[.slice acl xs.length ccl] 42)).heap.size = LB + 1 := by rw [World.size_alloc, hLB]
  rw [hLB] at s2 ⊢
  generalize w2.alloc (.cells #[.slice acl xs.length ccl] 42) = w3 at hl3 hT3 hz3 ⊢
  refine ⟨trivial, (callsIn_wide.2 (pCheck_c _ p w3 al (heH.out.below hT3.below).perm (hRH.out.below hT3.below) (by omega))).mono ?_⟩
  rintro e w4 ⟨rfl, b4⟩
  have T4 : Hid (Two w stop w4) := hT3.under b4
  have Ls4 : Hid (Ls p w1.heap.size LB (.slice acl xs.length ccl) xs w4) := hl3.under b4
  have s4 : Hid (LB < w4.heap.size) := (by have := b4.size; omega : LB < w4.heap.size)
  have s1 : Hid (w.heap.size + 2 ≤ w1.heap.size) := T1.out.size
  clear hl3 hT3 hz3 b4 L2 hLB T2 T1
  cases hck : ckB p
  · have hx0 : xs.length = 0 := by
      have := congrArg List.length hxsH.out
      rw [List.length_map, show lpC p = [] by unfold lpC; rw [if_neg (by rw [hck]; decide)]] at this
      exact this
    rw [ckN_false hck, show er al 12 = ek al 11 from rfl]
    have n1 := nnil_c al 11
    have g1 := guard_c al 11
    have cL := Ls4.out.box.cell
    have cR := T4.out.bR.cell
    have fR := T4.out.bR.frozen
    rw [hx0] at cL
    clear hck
    gi_wp2
    refine ⟨.bool true, ?_, rfl, T4.out.below.setCell (p := ⟨w.heap.size + 1, 0, none⟩) (show w.heap.size ≤ w.heap.size + 1 by omega) _⟩
    have hc5 := (T4.out.bR.set (.bool true)).cell
    simp [results, Tryd.f5, go_sem, hc5]
  · rw [ckN_true hck, show er al 0 = Value.nilIface from rfl]
    have hok : Hid (Pm.Ok p) := ckB_Ok hck
    have hlC : Hid (lpC p = Pm.lp p p.length) := (by unfold lpC; rw [if_pos hck] : lpC p = Pm.lp p p.length)
    clear hck
    obtain ⟨m, hmm⟩ : ∃ m, p.length = m := ⟨_, rfl⟩
    have hm : Hid (p.length = m) := hmm
    rw [hmm] at hlC hn ⊢
    obtain ⟨w5, hmk, hrow, hgr, hlt5⟩ := makeB' w4 m (by omega)
    obtain ⟨S, hS⟩ : ∃ S, w4.heap.size = S := ⟨_, rfl⟩
    rw [hS] at hmk hrow hlt5 s4
    have hb5 : Below w4.heap.size w4 w5 := (Below.refl _ _).grown hgr.out (Nat.le_refl _) (fun b e => by cases e)
    have T5 : Hid (Two w stop w5) := T4.out.under hb5
    have Ls5 : Hid (Ls p w1.heap.size LB (.slice acl xs.length ccl) xs w5) := Ls4.out.under hb5
    have hS9 : Hid (∀ k, (Value.slice acl xs.length ccl).ownBlock = some k → k ≠ S) := fun k e => by have := (Ls4.out.own.lt k e).2; omega
    have hS8 : Hid (∀ y ∈ xs, ∀ k, y.1.ownBlock = some k → k ≠ S) := fun y hy k e => by have := ((Ls4.out.cy.row y hy).lt k e).2; omega
    have cL5 := Ls5.out.box.cell
    have hxe : Hid (xs.map (·.2) = Pm.lp p m) := hxsH.out.trans hlC.out
    clear hgr hb5 T4 Ls4 hmm hS hxsH
    gi_wp2
    clear hmk cL5
    gi_loopw [8, 9, 11, 12, 13, 39] (fun sl sc _ _ _ si wx => ∃ (t k : Nat) (L : Int), t ≤ xs.length ∧ k ≤ m ∧ si = .int .i64 (t : Int) ∧ sl = .int .i64 L ∧ sc = .int .i64 ((Pm.cnt (Pm.sx p k 0) m : Nat) : Int) ∧ Hid (Pm.lp p k = (Pm.lp p m).take t) ∧ Hid (L = -1 ∨ ∃ y : Nat, y ∈ Pm.lp p k ∧ L = (y : Int)) ∧ Hid (wx.ownsRow S 4 1 (.slice (some ⟨S, 0, none⟩) m m) m (sxL p m k 0)) ∧ Hid (KT (fun b => b = S) w5 wx)) (fun _ _ _ _ _ si _ => xs.length - (RowKit.intOf si).toNat)
    case atStart => exact ⟨0, 0, -1, Nat.zero_le _, Nat.zero_le _, rfl, rfl, by rw [Pm.cnt_none (fun x _ => by rw [Pm.sx_zero, Pm.sn_zero])]; rfl, rfl, .inl rfl, (by rw [sxL_0]; exact hrow.out), KT.refl _ _⟩
    case round =>
      clear hrow hlt5
      obtain ⟨t, k, L, ht, hk, rfl, rfl, rfl, hlp, hL, hrow, hkt⟩ := hrel
      have s4' := s4.out
      have s1' := s1.out
      have s2' := s2.out
      have LsW : Hid (Ls p w1.heap.size LB (.slice acl xs.length ccl) xs wr) := Ls5.out.kt hkt.out (by omega) hS9.out hS8.out
      have TW : Hid (Two w stop wr) := T5.out.kt hkt.out (fun b hb => by show ¬ b = S; omega)
      have hlen9 : Hid ((Pm.lp p m).length = xs.length) := (by rw [← hxe.out, List.length_map] : (Pm.lp p m).length = xs.length)
      by_cases hlt : t < xs.length
      · have hlt' : (t : Int) < (xs.length : Int) := by omega
        obtain ⟨y, hyv⟩ : ∃ y, xs[t].2 = y := ⟨_, rfl⟩
        have hy9 : (Pm.lp p m)[t]'(by rw [hlen9.out]; exact hlt) = y := by
          rw [← hyv]
          have h := List.getElem_of_eq hxe.out (i := t) (by rw [List.length_map]; exact hlt)
          rw [← h, List.getElem_map]
        obtain ⟨hl1, hl2, hl3⟩ := Pm.lp_at (p := p) (m := m) (t := t) (by rw [hlen9.out]; exact hlt)
        rw [hy9] at hl1 hl2 hl3
        have hyp : Hid (y < p.length) := (by rw [hm.out]; exact hl2 : y < p.length)
        have hyE : Hid (∀ h : t < (Pm.lp p m).length, (Pm.lp p m)[t] = y) := fun _ => hy9
        have hsH : Hid (Pm.sn p y y = false) := hl3
        have hlpy : Hid (Pm.lp p y = (Pm.lp p m).take t) := hl1
        have hsneq : Hid (∀ x, Pm.sn p k x = Pm.sn p y x) := fun x => hok.out.sn_eq (by rw [hm.out]; exact hk) (by rw [hm.out]; omega) (hlp.out.trans hl1.symm) x
        have hLy : L < (y : Int) := by
          rcases hL.out with e | ⟨z, hz, e⟩
          · omega
          · rw [hlp.out, ← hl1] at hz
            have := Pm.lp_mem_lt hz
            omega
        have hLy' : decide ((y : Int) ≤ L) = false := decide_eq_false (by omega)
        have hLy2 : ¬ (y : Int) ≤ L := by omega
        have hrowy : Hid (wr.ownsRow S 4 1 (.slice (some ⟨S, 0, none⟩) m m) m (sxL p m y 0)) := (by
          rw [show sxL p m y 0 = sxL p m k 0 by unfold sxL; apply List.map_congr_left; intro x _; rw [Pm.sx_zero, Pm.sx_zero, hsneq.out]]; exact hrow.out : wr.ownsRow S 4 1 (.slice (some ⟨S, 0, none⟩) m m) m (sxL p m y 0))
        have hcnt : Pm.cnt (Pm.sx p k 0) m = Pm.cnt (Pm.sx p y 0) m := Pm.cnt_congr fun x _ => by rw [Pm.sx_zero, Pm.sx_zero, hsneq.out]
        rw [hcnt]
        obtain ⟨gL, cL, eL, c1⟩ := head_cell LsW.out.own hlt
        have eL' : acl = some ⟨gL, 0, none⟩ := by cases eL; rfl
        have hrowc := LsW.out.cy.row xs[t] (List.getElem_mem hlt)
        rw [hyv] at hrowc
        obtain ⟨gc, cc, ec, hcc⟩ := ownsRow_form hrowc (Pm.per_pos p y)
        rw [ec] at c1 hrowc
        have c0 := hrowc.cellAt 0 (by have := Pm.per_pos p y; omega)
        rw [fl_get _ (Pm.per_pos p y), show Pm.it p y 0 = y from rfl] at c0
        have hgcS : Hid (gc ≠ S) := hS8.out xs[t] (List.getElem_mem hlt) gc (by rw [ec]; rfl)
        have hrowcH : Hid (wr.ownsRow w1.heap.size 3 1 (.slice (some ⟨gc, 0, none⟩) (Pm.per p y) cc) (Pm.per p y) (fl (Pm.it p y) (Pm.per p y))) := hrowc
        have hp0 := Pm.per_pos p y
        have q1 : ((Pm.per p y : Int) == 0) = false := beq_eq_false_iff_ne.2 (by omega)
        have hp1 : (0 : Int) < (Pm.per p y : Int) := by omega
        have hperle : Hid (Pm.per p y ≤ m) := (by have := hok.out.per_le hyp.out; rw [hm.out] at this; exact this : Pm.per p y ≤ m)
        subst eL'
        clear hyv hy9 hl1 hl2 hl3 eL ec hrowc hrow hL hcnt LsW TW
        gi_wp2
        clear c0 c1 q1 hLy' hLy2
        obtain ⟨wo, rfl⟩ : ∃ wo, wo = wr := ⟨_, rfl⟩
        gi_loopw [9, 12, 13, 58] (fun sc _ _ si wx => ∃ s : Nat, s ≤ Pm.per p y ∧ si = .int .i64 (s : Int) ∧ sc = .int .i64 ((Pm.cnt (Pm.sx p y s) m : Nat) : Int) ∧ Hid (wx.ownsRow S 4 1 (.slice (some ⟨S, 0, none⟩) m m) m (sxL p m y s)) ∧ Hid (KT (fun b => b = S) wo wx)) (fun _ _ _ si _ => Pm.per p y - (RowKit.intOf si).toNat)
        case atStart => exact ⟨0, Nat.zero_le _, rfl, rfl, hrowy, KT.refl _ _⟩
        case round =>
          clear hrowy
          obtain ⟨s, hs, rfl, rfl, hrow, hkx⟩ := hrel
          have hrowcw : wr.ownsRow w1.heap.size 3 1 (.slice (some ⟨gc, 0, none⟩) (Pm.per p y) cc) (Pm.per p y) (fl (Pm.it p y) (Pm.per p y)) := hkx.out.own hrowcH.out (fun g e => by cases e; exact hgcS.out)
          by_cases hsp : s < Pm.per p y
          · have hsp' : (s : Int) < (Pm.per p y : Int) := by omega
            have hitp : Pm.it p y s < p.length := hok.out.it_lt hyp.out s
            have hit : Pm.it p y s < m := by rw [← hm.out]; exact hitp
            have hit' : (Pm.it p y s : Int) < (m : Int) := by omega
            have hge := hok.out.it_ge hyp.out hsH.out s
            have d1 : decide ((Pm.it p y s : Int) < (y : Int)) = false := decide_eq_false (by omega)
            have d1' : ¬ Pm.it p y s < y := by omega
            have d2 : decide ((m : Int) ≤ (Pm.it p y s : Int)) = false := decide_eq_false (by omega)
            have d2' : ¬ m ≤ Pm.it p y s := by omega
            have c1 := hrowcw.cellAt s (by omega)
            rw [fl_get _ hsp] at c1
            have c2 := hrow.out.cellAt (Pm.it p y s) (by omega)
            rw [sxL_get p hit, hok.out.sx_no hyp.out hsH.out hsp] at c2
            have f2 := hrow.out.frozenAt (Pm.it p y s)
            have BW : Hid (Below w.heap.size w wr) := (T5.out.kt (hkt.out.trans hkx.out) (fun b hb => by show ¬ b = S; omega)).below
            obtain ⟨b, off, hab, hbw, hcell⟩ := hrdH.out (fun e => by rw [e] at hitp; simp at hitp)
            have c3 : wr.cell? ⟨b, off + Pm.it p y s, none⟩ = some (.int .i64 ((Pm.it p y (s + 1) : Nat) : Int)) := by
              have h9 := hcell _ hitp
              rw [hok.out.val hitp] at h9
              exact (BW.out.cell (p := ⟨b, off + Pm.it p y s, none⟩) hbw).trans h9
            obtain ⟨r, hr⟩ : ∃ r : Nat, r = (s + 1) % Pm.per p y := ⟨_, rfl⟩
            have hrlt : r < Pm.per p y := by rw [hr]; exact Nat.mod_lt _ hp0
            have hrlt' : (r : Int) < (Pm.per p y : Int) := by omega
            have e2 : ((s : Int) + 1) % (Pm.per p y : Int) = (r : Int) := by rw [hr]; rfl
            have c4 := hrowcw.cellAt r (by omega)
            rw [fl_get _ hrlt, show Pm.it p y r = Pm.it p y (s + 1) by rw [hr]; exact hok.out.it_mod hyp.out (s + 1)] at c4
            have q1 : ((Pm.per p y : Int) == 0) = false := beq_eq_false_iff_ne.2 (by omega)
            have hst := hrow.out.stored (Pm.it p y s) (.bool true)
            rw [sxL_step] at hst
            have hcs : Hid (Pm.cnt (Pm.sx p y (s + 1)) m = Pm.cnt (Pm.sx p y s) m + 1) := hok.out.cnt_sx hm.out hyp.out hsH.out hsp
            have hcle : Pm.cnt (Pm.sx p y s) m ≤ 1048576 := Nat.le_trans (Pm.cnt_le _ _) hn
            obtain ⟨ct, hct⟩ : ∃ ct, Pm.cnt (Pm.sx p y s) m = ct := ⟨_, rfl⟩
            have hctH : Hid (Pm.cnt (Pm.sx p y s) m = ct) := hct
            rw [hct] at hcle ⊢
            have hrow9 : Hid (wr.ownsRow S 4 1 (.slice (some ⟨S, 0, none⟩) m m) m (sxL p m y s)) := hrow.out
            have hps := hperle.out
            subst hab
            clear hst hcell hr hrow hrowcw hge hct
            gi_wp2
            gi_quiet (fail)
            have c2' : (wr.drewN nq).cell? ⟨S, Pm.it p y s, none⟩ = some (.bool false) := c2
            have f2' : (wr.drewN nq).frozen? ⟨S, Pm.it p y s, none⟩ = false := f2
            have hrowD : Hid ((wr.drewN nq).ownsRow S 4 1 (.slice (some ⟨S, 0, none⟩) m m) m (sxL p m y s)) := hrow9.out
            have hkD : Hid (KT (fun b => b = S) wo (wr.drewN nq)) := hkx.out.drewN nq
            clear c1 c2 c3 c4 f2 d1 d1' d2 d2' e2 q1 hrow9 hkx BW hrlt hrlt'
            generalize wr.drewN nq = W9 at c2' f2' hrowD hkD ⊢
            have hst := hrowD.out.stored (Pm.it p y s) (.bool true)
            rw [sxL_step] at hst
            have hrowE : Hid ((W9.setCell ⟨S, Pm.it p y s, none⟩ (.bool true)).ownsRow S 4 1 (.slice (some ⟨S, 0, none⟩) m m) m (sxL p m y (s + 1))) := hst.1
            have hkE : Hid (KT (fun b => b = S) wo (W9.setCell ⟨S, Pm.it p y s, none⟩ (.bool true))) := hkD.out.trans (KT.grown hst.2 (fun b e => by cases e; rfl))
            clear hst hrowD hkD
            gi_wp2
            go_roundw
            case rel => exact ⟨s + 1, hsp, by go_num, by rw [hcs.out, hctH.out]; rfl, hrowE, hkE⟩
            case measure => simp [RowKit.intOf]; omega
          · have hsp' : decide ((s : Int) < (Pm.per p y : Int)) = false := decide_eq_false (by omega)
            have es : s = Pm.per p y := by omega
            have hrowE : Hid (wr.ownsRow S 4 1 (.slice (some ⟨S, 0, none⟩) m m) m (sxL p m (y + 1) 0)) := (by rw [← sxL_per, ← es]; exact hrow.out : wr.ownsRow S 4 1 (.slice (some ⟨S, 0, none⟩) m m) m (sxL p m (y + 1) 0))
            have hkE : Hid (KT (fun b => b = S) w5 wr) := hkt.out.trans hkx.out
            have hcE : Hid (Pm.cnt (Pm.sx p y s) m = Pm.cnt (Pm.sx p (y + 1) 0) m) := (by rw [es]; exact Pm.cnt_congr fun x _ => by rw [Pm.sx_per, Pm.sx_zero] : Pm.cnt (Pm.sx p y s) m = Pm.cnt (Pm.sx p (y + 1) 0) m)
            have hlpE : Hid (Pm.lp p (y + 1) = (Pm.lp p m).take (t + 1)) := (by
              have ht9 : t < (Pm.lp p m).length := by rw [hlen9.out]; exact hlt
              have hy9 : (Pm.lp p m)[t] = y := by
                exact hyE.out ht9
              rw [Pm.lp_yes hsH.out, hlpy.out, ← hy9, List.take_append_getElem] : Pm.lp p (y + 1) = (Pm.lp p m).take (t + 1))
            have hLE : Hid ((y : Int) = -1 ∨ ∃ z : Nat, z ∈ Pm.lp p (y + 1) ∧ (y : Int) = (z : Int)) := (.inr ⟨y, by rw [Pm.lp_yes hsH.out]; simp, rfl⟩ : (y : Int) = -1 ∨ ∃ z : Nat, z ∈ Pm.lp p (y + 1) ∧ (y : Int) = (z : Int))
            have hym : y + 1 ≤ m := by have := hyp.out; rw [hm.out] at this; omega
            obtain ⟨ct, hct⟩ : ∃ ct, Pm.cnt (Pm.sx p y s) m = ct := ⟨_, rfl⟩
            rw [hct] at hcE ⊢
            clear es hrow hkx hrowcw hct
            gi_wp2
            go_roundw
            case rel => exact ⟨t + 1, y + 1, (y : Int), hlt, hym, by go_num, rfl, by rw [← hcE.out], hlpE, hLE, hrowE, hkE⟩
            case measure => simp [RowKit.intOf]; omega
      · have hlt' : decide ((t : Int) < (xs.length : Int)) = false := decide_eq_false (by omega)
        have et : t = xs.length := by omega
        have hfull : Pm.cnt (Pm.sx p k 0) m = m := Pm.cnt_all fun x hx => by
          rw [Pm.sx_zero, hok.out.sn_eq (by rw [hm.out]; exact hk) (Nat.le_refl p.length) (by rw [hlp.out, hm.out, et, ← hlen9.out, List.take_length])]
          exact hok.out.sn_full (by rw [hm.out]; exact hx)
        rw [hfull]
        clear hfull et hL hlp hrow
        have hRm : Hid (RdZ w (.slice ao m cap) p) := (by rw [← hm.out]; exact hRH.out : RdZ w (.slice ao m cap) p)
        have hpl : Hid (p.length ≤ 1048576) := (by rw [hm.out]; exact hn : p.length ≤ 1048576)
        have hwr : Hid (w1.heap.size ≤ wr.heap.size ∧ LB < wr.heap.size) := ⟨by have := LsW.out.box.lt; omega, LsW.out.box.lt⟩
        obtain ⟨wa, rfl⟩ : ∃ wa, wa = wr := ⟨_, rfl⟩
        clear hkt T5 Ls5 hS9 hS8
        gi_wp2_with fail
        refine ⟨trivial, (callsIn_wide.2 (callsIn_wide.1 (cycles_in _ p wa al (heH.out.below TW.out.below).perm (hRm.out.below TW.out.below) hpl.out))).mono ?_⟩
        rintro e w6 ⟨vd, zs, rfl, hzs, hoz, hcz, b6⟩
        obtain ⟨adl, cdl, rfl⟩ := own_slice hoz
        have T6 : Hid (Two w stop w6) := TW.out.under b6
        have L6 : Hid (Ls p w1.heap.size LB (.slice acl xs.length ccl) xs w6) := LsW.out.under b6
        have Z6 : Hid (w6.ownsRow wa.heap.size 22 1 (.slice adl zs.length cdl) zs.length (zs.map (·.1)) ∧ CyO p wa.heap.size w6 zs) := ⟨hoz, hcz⟩
        have hxe2 : Hid (xs.map (·.2) = lpC p) := hxe.out.trans hlC.out.symm
        have hze2 : Hid (zs.map (·.2) = lpC p) := hzs
        have hbx6 : Hid (∀ y ∈ xs, ∀ k, y.1.ownBlock = some k → k < wa.heap.size) := fun y hy k e => ((LsW.out.cy.row y hy).lt k e).2
        have hbv6 : Hid (∀ k, (Value.slice acl xs.length ccl).ownBlock = some k → k < wa.heap.size) := fun k e => (LsW.out.own.lt k e).2
        have cL6 := L6.out.box.cell
        have hsz6 : Hid (wa.heap.size ≤ w6.heap.size) := b6.size
        clear hzs hoz hcz b6 TW LsW
        gi_wp2_with fail
        refine ⟨trivial, (callsIn_wide.2 (sameLists_c _ _ p wa.heap.size w1.heap.size zs xs w6 (lpC_per9 hpl.out) Z6.out.1 L6.out.own hze2.out hxe2.out Z6.out.2 L6.out.cy (Nat.le_trans (lpC_len p) hpl.out))).mono ?_⟩
        rintro e w7' ⟨rfl, dq, rfl⟩
        have b7 : Below w6.heap.size w6 (w6.drewN dq) := below_drewN (Below.refl _ _) dq
        have T7 : Hid (Two w stop (w6.drewN dq)) := T6.out.under b7
        have L7 : Hid (Ls p w1.heap.size LB (.slice acl xs.length ccl) xs (w6.drewN dq)) := L6.out.under b7
        have Z7 : Hid ((w6.drewN dq).ownsRow wa.heap.size 22 1 (.slice adl zs.length cdl) zs.length (zs.map (·.1)) ∧ CyO p wa.heap.size (w6.drewN dq) zs) := ⟨own_below' Z6.out.1 b7, Z6.out.2.below b7⟩
        have s7 : Hid (wa.heap.size ≤ (w6.drewN dq).heap.size) := hsz6.out
        generalize w6.drewN dq = w7 at T7 L7 Z7 s7 ⊢
        clear T6 L6 Z6 cL6 b7 hsz6
        gi_wp2_with fail
        obtain ⟨NB, hNB⟩ : ∃ NB, w7.heap.size = NB := ⟨_, rfl⟩
        have bA := (Below.refl _ w7).alloc (Nat.le_refl _) (.cells #[.int .i64 0] 3)
        have T8 := T7.out.under bA
        have L8 := L7.out.under bA
        have Z8o := Z7.out.1.alloc (.cells #[.int .i64 0] 3)
        have Z8c := Z7.out.2.alloc (.cells #[.int .i64 0] 3)
        have bN8 := Boxed.new w7 3 (.int .i64 0)
        have hz8 : (w7.alloc (.cells #[.int .i64 0] 3)).heap.size = NB + 1 := by rw [World.size_alloc, hNB]
        rw [hNB] at bN8 s7 ⊢
        have hbL7 : Hid (∀ k, (Value.slice adl zs.length cdl).ownBlock = some k → k < NB) := fun k e => by rw [← hNB]; exact (Z7.out.1.lt k e).2
        have hbz7 : Hid (∀ y ∈ zs, ∀ k, y.1.ownBlock = some k → k < NB) := fun y hy k e => by rw [← hNB]; exact ((Z7.out.2.row y hy).lt k e).2
        generalize w7.alloc (.cells #[.int .i64 0] 3) = w8 at T8 L8 Z8o Z8c bN8 hz8 ⊢
        refine ⟨trivial, (callsIn_wide.2 (pCycles_c _ p w8 al (heH.out.below T8.below).perm (hRm.out.below T8.below) hpl.out)).mono ?_⟩
        rintro e w9 ⟨fv, rfl, hcy, b9⟩
        have T9 : Hid (Two w stop w9) := T8.under b9
        have L9 : Hid (Ls p w1.heap.size LB (.slice acl xs.length ccl) xs w9) := L8.under b9
        have Z9 : Hid (w9.ownsRow wa.heap.size 22 1 (.slice adl zs.length cdl) zs.length (zs.map (·.1)) ∧ CyO p wa.heap.size w9 zs) := ⟨own_below' Z8o b9, Z8c.below b9⟩
        have bN9 : Hid (Boxed w9 NB 3 (.int .i64 0)) := (b9.block _ bN8.lt).trans bN8
        obtain ⟨gf, lb, rfl, heg, hseq⟩ := cy_any p w8 w9 fv 11 (by decide) hcy hpl.out b9.size (fun b => b = NB) (fun b h1 h2 => by show ¬ b = NB; omega)
        have hegH : Hid (∀ args w, (callFunc gf args).run Tryd.prog w = .ok (.enter gf args) w) := heg
        have hseqH : Hid (SeqX Fence.wide 11 Tryd.prog gf lb (fun x : Value × Nat => #[x.1]) (w9.heap.size + 2) (w9.heap.size + 6) (fun b => b = NB) (CyR p) (CyP p p.length) (fun ys => ys.map (·.2) = lpC p) (fun pre => pre.map (·.2) <+: lpC p) w9) := hseq
        have s9 : Hid (NB < w9.heap.size) := (by have := b9.size; omega : NB < w9.heap.size)
        clear T7 L7 Z7 bA T8 L8 Z8o Z8c bN8 hz8 hNB hcy b9 heg hseq
        have hnil := seqnil gf lb
        gi_wp2_with fail
        clear hnil
        refine' range_own (C := w9.heap.size + 6) rfl (by decide) (gf := gf) (lb := lb) rfl trivial hegH.out hseqH.out (Below.refl _ _) (fun _ => rfl)
          (by omega) (fun b h1 h2 => by show ¬ b = NB; have := s9.out; omega) (fun x W0 W1 l o h hl => CyR.put x W0 W1 l o h hl) (fun x W0 W1 l h hl => CyR.old x W0 W1 l h hl)
          (fun pre W => Boxed W NB 3 (.int .i64 (pre.length : Int)) ∧ KT (fun b => b = NB) w9 W)
          (fun c pre W => c = .exit 4 ∧ (Boxed W NB 3 (.int .i64 (pre.length : Int)) ∧ KT (fun b => b = NB) w9 W) ∧ (pre.length : Int) = stop) ?ab ?abx ⟨bN9.out, KT.refl _ _⟩ _ ?assign ?body ?done ?stop
        case ab => exact AbX.and (abx_boxed (fun pre : List (Value × Nat) => .int .i64 (pre.length : Int)) s9.out) (abx_kt (Nat.le_refl _))
        case abx =>
          rintro c pre X Y row ⟨h1, h2, h3⟩ hg hr
          exact ⟨h1, AbX.and (abx_boxed (fun pre : List (Value × Nat) => .int .i64 (pre.length : Int)) s9.out) (abx_kt (Nat.le_refl _)) pre X Y row h2 hg hr, h3⟩
        case assign =>
          intro l x W K hK
          gi_wp2
          exact hK
        case body =>
          rintro l pre x Wx V ⟨hbN, hk9⟩ hC hRx hp
          have hs9 := s9.out
          have hs7 := s7.out
          obtain ⟨hw1, hw2⟩ := hwr.out
          have kV : KT (fun b => b = NB) w9 V := hk9.then_below hRx.1
          have LsV := L9.out.kt kV (by omega) (fun k e => by have := hbv6.out k e; omega) (fun y hy k e => by have := hbx6.out y hy k e; omega)
          have TV := T9.out.kt kV (fun b hb => by show ¬ b = NB; omega)
          have bNV : Boxed V NB 3 (.int .i64 (pre.length : Int)) := (hRx.1.block _ hbN.lt).trans hbN
          have hlm : (Pm.lp p p.length).length = xs.length := by rw [hm.out, ← hxe.out, List.length_map]
          have hnl : pre.length < xs.length := by
            have h1 : (pre.map (·.2) ++ [x.2]).length ≤ (Pm.lp p p.length).length := List.IsPrefix.length_le hp
            simp at h1
            omega
          have hx2 : xs[pre.length].2 = x.2 := by
            have h := List.getElem_of_eq hxe.out (i := pre.length) (by rw [List.length_map]; exact hnl)
            rw [List.getElem_map] at h
            rw [h]
            have hp' : pre.map (·.2) ++ [x.2] <+: Pm.lp p m := by rw [← hm.out]; exact hp
            obtain ⟨r, hr⟩ := hp'
            have h9 := List.getElem_of_eq hr.symm (i := pre.length) (by rw [← hm.out, hlm]; exact hnl)
            rw [h9]
            simp
          have hxm : x.2 ∈ lpC p := by
            rw [hlC.out, ← hm.out]
            exact List.IsPrefix.subset hp (by simp)
          obtain ⟨gL, cL, eL, c1⟩ := head_cell LsV.own hnl
          have eL' : acl = some ⟨gL, 0, none⟩ := by cases eL; rfl
          have rl : RdZ V xs[pre.length].1 (orbZ p x.2) := by rw [← hx2]; exact LsV.cy.rd (List.getElem_mem hnl)
          have rc : RdZ V x.1 (orbZ p x.2) := by have h := hRx.2; rw [← orbZ_iz, ← orbZ_len] at h; exact RdZ.of_own h
          have hol : (orbZ p x.2).length < 9223372036854775807 := by rw [orbZ_len]; have := lpC_per9 hpl.out _ hxm; omega
          obtain ⟨ax, cx, hxv⟩ := own_slice hRx.2
          have cLb := LsV.box.cell
          have cNb := bNV.cell
          have hd1 : decide ((xs.length : Int) ≤ (pre.length : Int)) = false := decide_eq_false (by omega)
          have hd2 : ¬ xs.length ≤ pre.length := by omega
          have hd3 : (pre.length : Int) < (xs.length : Int) := by omega
          have rlH : Hid (RdZ V xs[pre.length].1 (orbZ p x.2)) := rl
          have rcH : Hid (RdZ V x.1 (orbZ p x.2)) := rc
          have holH : Hid ((orbZ p x.2).length < 9223372036854775807) := hol
          have kVH : Hid (KT (fun b => b = NB) w9 V) := kV
          have TVH : Hid (Two w stop V) := TV
          have bNH : Hid (Boxed V NB 3 (.int .i64 (pre.length : Int))) := bNV
          have hsn : Hid (((pre ++ [x]).length : Int) = (pre.length : Int) + 1) := (by simp : ((pre ++ [x]).length : Int) = (pre.length : Int) + 1)
          generalize xs[pre.length].1 = lv at c1 rlH
          obtain ⟨xv, xn⟩ := x
          simp only at hxv
          subst hxv eL'
          clear hbN hk9 hC hRx hp kV LsV TV bNV hlm hx2 hxm eL rl rc hol
          gi_wp2_with fail
          refine ⟨trivial, (CallsIn.inRound l (callsIn_wide.2 (sameZ_c _ _ _ _ V rcH.out rlH.out holH.out))).mono ?_⟩
          rintro e V2 ⟨rfl, dq, rfl⟩
          rw [show decide (orbZ p xn = orbZ p xn) = true from decide_eq_true rfl]
          have bD : Below V.heap.size V (V.drewN dq) := below_drewN (Below.refl _ _) dq
          have bND : Boxed (V.drewN dq) NB 3 (.int .i64 (pre.length : Int)) := bNH.out
          have TD : Two w stop (V.drewN dq) := TVH.out.under bD
          have kD : Hid (KT (fun b => b = NB) w9 (V.drewN dq)) := kVH.out.drewN dq
          have kVD : Hid (KT (fun b => b = NB) V (V.drewN dq)) := (KT.refl _ _).drewN dq
          generalize V.drewN dq = V3 at bD bND TD kD kVD ⊢
          have cN3 := bND.cell
          have fN3 := bND.frozen
          have b4 := bND.set (.int .i64 ((pre.length : Int) + 1))
          have c4 := b4.cell
          have hg4 := grownBy_setCell' V3 NB (.int .i64 ((pre.length : Int) + 1))
          have T4 := (TD.bS.kept hg4 (fun e => by simp at e; omega)).cell
          have k4 : Hid (KT (fun b => b = NB) w9 (V3.setCell ⟨NB, 0, none⟩ (.int .i64 ((pre.length : Int) + 1)))) := kD.out.trans (KT.grown hg4 (fun b e => by cases e; rfl))
          have kV4 : Hid (KT (fun b => b = NB) V (V3.setCell ⟨NB, 0, none⟩ (.int .i64 ((pre.length : Int) + 1)))) := kVD.out.trans (KT.grown hg4 (fun b e => by cases e; rfl))
          have b4H : Hid (Boxed (V3.setCell ⟨NB, 0, none⟩ (.int .i64 ((pre.length : Int) + 1))) NB 3 (.int .i64 ((pre ++ [((.slice ax (Pm.per p xn) cx : Value), xn)]).length : Int))) := (by rw [hsn.out]; exact b4 : Boxed (V3.setCell ⟨NB, 0, none⟩ (.int .i64 ((pre.length : Int) + 1))) NB 3 (.int .i64 ((pre ++ [((.slice ax (Pm.per p xn) cx : Value), xn)]).length : Int)))
          clear bD bND TD kD kVD b4 hg4 c1 cLb cNb
          by_cases hst : (pre.length : Int) + 1 = stop
          · have hst1 : ((pre.length : Int) + 1 == stop) = true := beq_iff_eq.2 hst
            have hstH : Hid ((pre.length : Int) + 1 = stop) := hst
            clear hst
            gi_wp2
            exact ⟨kV4.out.kb (fun b h1 h2 => by show ¬ b = NB; omega), rfl, ⟨b4H.out, k4.out⟩, by rw [hsn.out]; exact hstH.out⟩
          · have hst1 : ((pre.length : Int) + 1 == stop) = false := beq_eq_false_iff_ne.2 hst
            clear hst
            gi_wp2
            exact ⟨kV4.out, b4H.out, k4.out⟩
        case done =>
          rintro ys V hS ⟨hbN, hk9⟩ hK
          have hyl : ys.length = xs.length := by
            have h1 := congrArg List.length hS
            have h2 := congrArg List.length hxe2.out
            rw [List.length_map] at h1 h2
            omega
          rw [hyl] at hbN
          clear hyl hS
          have hs9 := s9.out
          have hs7 := s7.out
          obtain ⟨hw1, hw2⟩ := hwr.out
          have LsV := L9.out.kt hk9 (by omega) (fun k e => by have := hbv6.out k e; omega) (fun y hy k e => by have := hbx6.out y hy k e; omega)
          have TV := T9.out.kt hk9 (fun b hb => by show ¬ b = NB; omega)
          have ZoV : V.ownsRow wa.heap.size 22 1 (.slice adl zs.length cdl) zs.length (zs.map (·.1)) := hk9.own Z9.out.1 (fun k e => by show ¬ k = NB; have := hbL7.out k e; omega)
          have ZcV : CyO p wa.heap.size V zs := ⟨fun y hy => hk9.own (Z9.out.2.row y hy) (fun k e => by show ¬ k = NB; have := hbz7.out y hy k e; omega), Z9.out.2.ap⟩
          have hzl : zs.length = xs.length := by
            have h1 := congrArg List.length hze2.out
            have h2 := congrArg List.length hxe2.out
            rw [List.length_map] at h1 h2
            omega
          obtain ⟨v', w', hrun, hown', hgrow⟩ := app_ex LsV.own ZoV (fun u hu => by
            obtain ⟨y, hy, rfl⟩ := List.mem_map.1 hu
            obtain ⟨_, _, e⟩ := own_slice (ZcV.row y hy)
            rw [e]; rfl) (by omega) (by have := TV.size; have := LsV.box.lt; omega)
          have cyw : CyO p w1.heap.size w' (xs ++ zs) := CyO.app (LsV.cy.kept_ne LsV.own (by decide) hgrow) (ZcV.kept_ne LsV.own (by decide) hgrow) hw1 (fun y hy k e => hbx6.out y hy k e)
          have hKw : w'.heap[w9.heap.size]? = some (.deferred (some [])) := (hgrow.block _ (Array.getElem?_eq_some_iff.1 hK).1 (fun e => by
            rcases LsV.own.2 with ⟨h, _⟩ | ⟨g, c, cur, h, _, h2, _⟩
            · rw [h] at e; cases e
            · rw [h] at e; rw [← Option.some.inj (show some w9.heap.size = some g from e), hK] at h2; cases h2)).trans hK
          have bRw : Boxed w' (w.heap.size + 1) 4 (.bool false) := TV.bR.kept hgrow (fun e => box_ne LsV.own TV.bR (by decide) e.symm)
          have Bw : Below w.heap.size w w' := TV.below.grown hgrow TV.below.size (fun k e => by have := (LsV.own.lt k e).1; omega)
          have cLb := LsV.box.cell
          have cSb := TV.bS.cell
          have cNb := hbN.cell
          have hownH : Hid (w'.ownsRow w1.heap.size 22 1 v' (xs ++ zs).length ((xs ++ zs).map (·.1))) := hown'
          have cywH : Hid (CyO p w1.heap.size w' (xs ++ zs)) := cyw
          have hKwH : Hid (w'.heap[w9.heap.size]? = some (.deferred (some []))) := hKw
          have bRwH : Hid (Boxed w' (w.heap.size + 1) 4 (.bool false)) := bRw
          have BwH : Hid (Below w.heap.size w w') := Bw
          have hzlH : Hid ((xs ++ zs).length ≤ 1099511627776) := (by rw [List.length_append]; omega : (xs ++ zs).length ≤ 1099511627776)
          clear LsV TV ZoV ZcV hown' hgrow cyw hKw bRw Bw hbN hk9 hzl hK
          gi_wp2_with (gi_at_builtin; refine wpListIn_appG _ (by rfl) _ _ 42 rfl _ _ rfl rfl hrun ?_)
          refine ⟨trivial, (callsIn_wide.2 (ownAll_c v' p w1.heap.size (xs ++ zs) w' hownH.out cywH.out hzlH.out (fun y hy => ?pp))).mono ?_⟩
          case pp =>
            have h9 : y.2 ∈ lpC p := by
              rcases List.mem_append.1 hy with h | h
              · rw [← hxe2.out]; exact List.mem_map_of_mem h
              · rw [← hze2.out]; exact List.mem_map_of_mem h
            have := lpC_per9 hpl.out _ h9
            omega
          rintro e wz ⟨rfl, hkz⟩
          have bRz : Boxed wz (w.heap.size + 1) 4 (.bool false) := hkz.boxed bRwH.out (fun h => by have := h.1; have := s1.out; omega)
          have hKz : wz.heap[w9.heap.size]? = some (.deferred (some [])) := (hkz.block _ (Array.getElem?_eq_some_iff.1 hKwH.out).1 (fun h => by obtain ⟨cur, h2⟩ := h.2; rw [hKwH.out] at h2; cases h2)).trans hKwH.out
          have Bz : Below w.heap.size w wz := ⟨hkz.os.trans BwH.out.os, hkz.tape.trans BwH.out.tape, hkz.output.trans BwH.out.output, Nat.le_trans BwH.out.size hkz.size, fun k hk => (hkz.block k (Nat.lt_of_lt_of_le hk BwH.out.size) (fun h => by have := h.1; have := s1.out; omega)).trans (BwH.out.block k hk)⟩
          have cRz := bRz.cell
          have fRz := bRz.frozen
          have bRzH : Hid (Boxed wz (w.heap.size + 1) 4 (.bool false)) := bRz
          have hKzH : Hid (wz.heap[w9.heap.size]? = some (.deferred (some []))) := hKz
          have BzH : Hid (Below w.heap.size w wz) := Bz
          clear hkz bRz hKz Bz cLb cSb cNb hrun
          gi_wp2
          have hK' := (KeepsOthers.setCell wz ⟨w.heap.size + 1, 0, none⟩ (.bool true)).same _ _ hKzH.out rfl
          refine ⟨by simp, .inl ⟨_, _, rfl, run_takeDeferred hK', ?_⟩⟩
          have hc5 := cell_kept (bRzH.out.set (.bool true)).cell (grownBy_putObj' _ w9.heap.size (.deferred none)) (fun r e => by cases e; exact ⟨_, hK', rfl⟩)
          refine ⟨.bool true, ?_, rfl, (BzH.out.setCell (p := ⟨w.heap.size + 1, 0, none⟩) (show w.heap.size ≤ w.heap.size + 1 by omega) _).trans (belowK_b (w := w) (Nat.le_refl _) _ _ _ _ (by have := T9.out.below.size; omega) hK' rfl rfl)⟩
          simp [results, Tryd.f5, go_sem, hc5]
        case stop =>
          rintro c pre V hSp ⟨rfl, ⟨hbN, hk9⟩, hst⟩ hK
          subst hst
          clear hSp
          by_cases hq : pre.length = xs.length
          · have q1 : ((pre.length : Int) == (xs.length : Int)) = true := by rw [beq_iff_eq]; omega
            have hs9 := s9.out
            have hs7 := s7.out
            obtain ⟨hw1, hw2⟩ := hwr.out
            have LsV := L9.out.kt hk9 (by omega) (fun k e => by have := hbv6.out k e; omega) (fun y hy k e => by have := hbx6.out y hy k e; omega)
            have TV := T9.out.kt hk9 (fun b hb => by show ¬ b = NB; omega)
            have ZoV : V.ownsRow wa.heap.size 22 1 (.slice adl zs.length cdl) zs.length (zs.map (·.1)) := hk9.own Z9.out.1 (fun k e => by show ¬ k = NB; have := hbL7.out k e; omega)
            have ZcV : CyO p wa.heap.size V zs := ⟨fun y hy => hk9.own (Z9.out.2.row y hy) (fun k e => by show ¬ k = NB; have := hbz7.out y hy k e; omega), Z9.out.2.ap⟩
            have hzl : zs.length = xs.length := by
              have h1 := congrArg List.length hze2.out
              have h2 := congrArg List.length hxe2.out
              rw [List.length_map] at h1 h2
              omega
            obtain ⟨v', w', hrun, hown', hgrow⟩ := app_ex LsV.own ZoV (fun u hu => by
              obtain ⟨y, hy, rfl⟩ := List.mem_map.1 hu
              obtain ⟨_, _, e⟩ := own_slice (ZcV.row y hy)
              rw [e]; rfl) (by omega) (by have := TV.size; have := LsV.box.lt; omega)
            have cyw : CyO p w1.heap.size w' (xs ++ zs) := CyO.app (LsV.cy.kept_ne LsV.own (by decide) hgrow) (ZcV.kept_ne LsV.own (by decide) hgrow) hw1 (fun y hy k e => hbx6.out y hy k e)
            have hKw : w'.heap[w9.heap.size]? = some (.deferred (some [])) := (hgrow.block _ (Array.getElem?_eq_some_iff.1 hK).1 (fun e => by
              rcases LsV.own.2 with ⟨h, _⟩ | ⟨g, c, cur, h, _, h2, _⟩
              · rw [h] at e; cases e
              · rw [h] at e; rw [← Option.some.inj (show some w9.heap.size = some g from e), hK] at h2; cases h2)).trans hK
            have bRw : Boxed w' (w.heap.size + 1) 4 (.bool false) := TV.bR.kept hgrow (fun e => box_ne LsV.own TV.bR (by decide) e.symm)
            have Bw : Below w.heap.size w w' := TV.below.grown hgrow TV.below.size (fun k e => by have := (LsV.own.lt k e).1; omega)
            have cLb := LsV.box.cell
            have cSb := TV.bS.cell
            have cNb := hbN.cell
            have hownH : Hid (w'.ownsRow w1.heap.size 22 1 v' (xs ++ zs).length ((xs ++ zs).map (·.1))) := hown'
            have cywH : Hid (CyO p w1.heap.size w' (xs ++ zs)) := cyw
            have hKwH : Hid (w'.heap[w9.heap.size]? = some (.deferred (some []))) := hKw
            have bRwH : Hid (Boxed w' (w.heap.size + 1) 4 (.bool false)) := bRw
            have BwH : Hid (Below w.heap.size w w') := Bw
            have hzlH : Hid ((xs ++ zs).length ≤ 1099511627776) := (by rw [List.length_append]; omega : (xs ++ zs).length ≤ 1099511627776)
            clear LsV TV ZoV ZcV hown' hgrow cyw hKw bRw Bw hbN hk9 hzl hK
            gi_wp2_with (gi_at_builtin; refine wpListIn_appG _ (by rfl) _ _ 42 rfl _ _ rfl rfl hrun ?_)
            refine ⟨trivial, (callsIn_wide.2 (ownAll_c v' p w1.heap.size (xs ++ zs) w' hownH.out cywH.out hzlH.out (fun y hy => ?pp))).mono ?_⟩
            case pp =>
              have h9 : y.2 ∈ lpC p := by
                rcases List.mem_append.1 hy with h | h
                · rw [← hxe2.out]; exact List.mem_map_of_mem h
                · rw [← hze2.out]; exact List.mem_map_of_mem h
              have := lpC_per9 hpl.out _ h9
              omega
            rintro e wz ⟨rfl, hkz⟩
            have bRz : Boxed wz (w.heap.size + 1) 4 (.bool false) := hkz.boxed bRwH.out (fun h => by have := h.1; have := s1.out; omega)
            have hKz : wz.heap[w9.heap.size]? = some (.deferred (some [])) := (hkz.block _ (Array.getElem?_eq_some_iff.1 hKwH.out).1 (fun h => by obtain ⟨cur, h2⟩ := h.2; rw [hKwH.out] at h2; cases h2)).trans hKwH.out
            have Bz : Below w.heap.size w wz := ⟨hkz.os.trans BwH.out.os, hkz.tape.trans BwH.out.tape, hkz.output.trans BwH.out.output, Nat.le_trans BwH.out.size hkz.size, fun k hk => (hkz.block k (Nat.lt_of_lt_of_le hk BwH.out.size) (fun h => by have := h.1; have := s1.out; omega)).trans (BwH.out.block k hk)⟩
            have cRz := bRz.cell
            have fRz := bRz.frozen
            have bRzH : Hid (Boxed wz (w.heap.size + 1) 4 (.bool false)) := bRz
            have hKzH : Hid (wz.heap[w9.heap.size]? = some (.deferred (some []))) := hKz
            have BzH : Hid (Below w.heap.size w wz) := Bz
            clear hkz bRz hKz Bz cLb cSb cNb hrun
            gi_wp2
            have hK' := (KeepsOthers.setCell wz ⟨w.heap.size + 1, 0, none⟩ (.bool true)).same _ _ hKzH.out rfl
            refine ⟨by simp, .inl ⟨_, _, rfl, run_takeDeferred hK', ?_⟩⟩
            have hc5 := cell_kept (bRzH.out.set (.bool true)).cell (grownBy_putObj' _ w9.heap.size (.deferred none)) (fun r e => by cases e; exact ⟨_, hK', rfl⟩)
            refine ⟨.bool true, ?_, rfl, (BzH.out.setCell (p := ⟨w.heap.size + 1, 0, none⟩) (show w.heap.size ≤ w.heap.size + 1 by omega) _).trans (belowK_b (w := w) (Nat.le_refl _) _ _ _ _ (by have := T9.out.below.size; omega) hK' rfl rfl)⟩
            simp [results, Tryd.f5, go_sem, hc5]
          · have q1 : ((pre.length : Int) == (xs.length : Int)) = false := beq_eq_false_iff_ne.2 (by omega)
            have hs9 := s9.out
            have hs7 := s7.out
            obtain ⟨hw1, hw2⟩ := hwr.out
            have LsV := L9.out.kt hk9 (by omega) (fun k e => by have := hbv6.out k e; omega) (fun y hy k e => by have := hbx6.out y hy k e; omega)
            have TV := T9.out.kt hk9 (fun b hb => by show ¬ b = NB; omega)
            have ZoV : V.ownsRow wa.heap.size 22 1 (.slice adl zs.length cdl) zs.length (zs.map (·.1)) := hk9.own Z9.out.1 (fun k e => by show ¬ k = NB; have := hbL7.out k e; omega)
            have ZcV : CyO p wa.heap.size V zs := ⟨fun y hy => hk9.own (Z9.out.2.row y hy) (fun k e => by show ¬ k = NB; have := hbz7.out y hy k e; omega), Z9.out.2.ap⟩
            have hzl : zs.length = xs.length := by
              have h1 := congrArg List.length hze2.out
              have h2 := congrArg List.length hxe2.out
              rw [List.length_map] at h1 h2
              omega
            obtain ⟨v', w', hrun, hown', hgrow⟩ := app_ex LsV.own ZoV (fun u hu => by
              obtain ⟨y, hy, rfl⟩ := List.mem_map.1 hu
              obtain ⟨_, _, e⟩ := own_slice (ZcV.row y hy)
              rw [e]; rfl) (by omega) (by have := TV.size; have := LsV.box.lt; omega)
            have cyw : CyO p w1.heap.size w' (xs ++ zs) := CyO.app (LsV.cy.kept_ne LsV.own (by decide) hgrow) (ZcV.kept_ne LsV.own (by decide) hgrow) hw1 (fun y hy k e => hbx6.out y hy k e)
            have hKw : w'.heap[w9.heap.size]? = some (.deferred (some [])) := (hgrow.block _ (Array.getElem?_eq_some_iff.1 hK).1 (fun e => by
              rcases LsV.own.2 with ⟨h, _⟩ | ⟨g, c, cur, h, _, h2, _⟩
              · rw [h] at e; cases e
              · rw [h] at e; rw [← Option.some.inj (show some w9.heap.size = some g from e), hK] at h2; cases h2)).trans hK
            have bRw : Boxed w' (w.heap.size + 1) 4 (.bool false) := TV.bR.kept hgrow (fun e => box_ne LsV.own TV.bR (by decide) e.symm)
            have Bw : Below w.heap.size w w' := TV.below.grown hgrow TV.below.size (fun k e => by have := (LsV.own.lt k e).1; omega)
            have cLb := LsV.box.cell
            have cSb := TV.bS.cell
            have cNb := hbN.cell
            have hownH : Hid (w'.ownsRow w1.heap.size 22 1 v' (xs ++ zs).length ((xs ++ zs).map (·.1))) := hown'
            have cywH : Hid (CyO p w1.heap.size w' (xs ++ zs)) := cyw
            have hKwH : Hid (w'.heap[w9.heap.size]? = some (.deferred (some []))) := hKw
            have bRwH : Hid (Boxed w' (w.heap.size + 1) 4 (.bool false)) := bRw
            have BwH : Hid (Below w.heap.size w w') := Bw
            have hzlH : Hid ((xs ++ zs).length ≤ 1099511627776) := (by rw [List.length_append]; omega : (xs ++ zs).length ≤ 1099511627776)
            clear LsV TV ZoV ZcV hown' hgrow cyw hKw bRw Bw hbN hk9 hzl hK
            gi_wp2_with (gi_at_builtin; refine wpListIn_appG _ (by rfl) _ _ 42 rfl _ _ rfl rfl hrun ?_)
            refine ⟨trivial, (callsIn_wide.2 (ownAll_c v' p w1.heap.size (xs ++ zs) w' hownH.out cywH.out hzlH.out (fun y hy => ?pp))).mono ?_⟩
            case pp =>
              have h9 : y.2 ∈ lpC p := by
                rcases List.mem_append.1 hy with h | h
                · rw [← hxe2.out]; exact List.mem_map_of_mem h
                · rw [← hze2.out]; exact List.mem_map_of_mem h
              have := lpC_per9 hpl.out _ h9
              omega
            rintro e wz ⟨rfl, hkz⟩
            have bRz : Boxed wz (w.heap.size + 1) 4 (.bool false) := hkz.boxed bRwH.out (fun h => by have := h.1; have := s1.out; omega)
            have hKz : wz.heap[w9.heap.size]? = some (.deferred (some [])) := (hkz.block _ (Array.getElem?_eq_some_iff.1 hKwH.out).1 (fun h => by obtain ⟨cur, h2⟩ := h.2; rw [hKwH.out] at h2; cases h2)).trans hKwH.out
            have Bz : Below w.heap.size w wz := ⟨hkz.os.trans BwH.out.os, hkz.tape.trans BwH.out.tape, hkz.output.trans BwH.out.output, Nat.le_trans BwH.out.size hkz.size, fun k hk => (hkz.block k (Nat.lt_of_lt_of_le hk BwH.out.size) (fun h => by have := h.1; have := s1.out; omega)).trans (BwH.out.block k hk)⟩
            have cRz := bRz.cell
            have fRz := bRz.frozen
            have bRzH : Hid (Boxed wz (w.heap.size + 1) 4 (.bool false)) := bRz
            have hKzH : Hid (wz.heap[w9.heap.size]? = some (.deferred (some []))) := hKz
            have BzH : Hid (Below w.heap.size w wz) := Bz
            clear hkz bRz hKz Bz cLb cSb cNb hrun
            gi_wp2
            have hK' := (KeepsOthers.setCell wz ⟨w.heap.size + 1, 0, none⟩ (.bool true)).same _ _ hKzH.out rfl
            refine ⟨by simp, .inl ⟨_, _, rfl, run_takeDeferred hK', ?_⟩⟩
            have hc5 := cell_kept (bRzH.out.set (.bool true)).cell (grownBy_putObj' _ w9.heap.size (.deferred none)) (fun r e => by cases e; exact ⟨_, hK', rfl⟩)
            refine ⟨.bool true, ?_, rfl, (BzH.out.setCell (p := ⟨w.heap.size + 1, 0, none⟩) (show w.heap.size ≤ w.heap.size + 1 by omega) _).trans (belowK_b (w := w) (Nat.le_refl _) _ _ _ _ (by have := T9.out.below.size; omega) hK' rfl rfl)⟩
            simp [results, Tryd.f5, go_sem, hc5]
end Go.Proofs.YtbhhbnhoknlonaaDoor
