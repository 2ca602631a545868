/-
  The contract of what package perm's leastPlaces hands back: it goes over the least places of the cycles.
-/
import Derived.Test.YtbhhbnhoknlonaaDoorRg6
import Derived.Test.YtbhhbnhoknlonaaDoorPm6
namespace Go.Proofs.YtbhhbnhoknlonaaDoor
open Flo Go.RowKit Go.Shelf
attribute [local go_sem] Oper.semAt_some

theorem KT.own {T : Nat → Prop} {w w' : World} {base : Nat} {e : TypeId} {size : Nat} {v : Value} {n : Nat} {xs : List Value} (h : KT T w w') (ho : w.ownsRow base e size v n xs) (hT : ∀ g, v.ownBlock = some g → ¬ T g) : w'.ownsRow base e size v n xs := by
  refine ⟨ho.1, ?_⟩
  rcases ho.2 with h1 | ⟨g, cap, cur, rfl, h1, h2, h3⟩
  · exact .inl h1
  · exact .inr ⟨g, cap, cur, rfl, h1, (h.block g (Array.getElem?_eq_some_iff.1 h2).1 (hT g rfl)).trans h2, h3⟩
/-- a list that can be read, in a block that a round leaves alone -/
def RdT (T : Nat → Prop) (w : World) (v : Value) (p : List Int) : Prop :=
  ∃ ao cap, v = .slice ao p.length cap ∧ (p ≠ [] → ∃ b off, ao = some ⟨b, off, none⟩ ∧ b < w.heap.size ∧ ¬ T b ∧ ∀ i, i < p.length → w.cell? ⟨b, off + i, none⟩ = some (.int .i64 (p.getD i 0)))
theorem RdT.kt {T : Nat → Prop} {w w' : World} {v : Value} {p : List Int} (h : RdT T w v p) (hk : KT T w w') : RdT T w' v p := by
  obtain ⟨ao, cap, rfl, h2⟩ := h
  refine ⟨ao, cap, rfl, fun hz => ?_⟩
  obtain ⟨b, off, rfl, h3, hT, h4⟩ := h2 hz
  exact ⟨b, off, rfl, Nat.lt_of_lt_of_le h3 hk.size, hT, fun i hi => (hk.cell (p := ⟨b, off + i, none⟩) h3 hT).trans (h4 i hi)⟩
theorem RdT.grown {T : Nat → Prop} {w w' : World} {v : Value} {p : List Int} {row : Option Nat} (h : RdT T w v p) (hg : w.grownBy w' row) (hr : ∀ r, row = some r → w.heap.size ≤ r ∨ T r) : RdT T w' v p := by
  obtain ⟨ao, cap, rfl, h2⟩ := h
  refine ⟨ao, cap, rfl, fun hz => ?_⟩
  obtain ⟨b, off, rfl, h3, hT, h4⟩ := h2 hz
  refine ⟨b, off, rfl, Nat.lt_of_lt_of_le h3 hg.size, hT, fun i hi => ?_⟩
  refine (World.cell?_of_block (w := w) (a := ⟨b, off + i, none⟩) (hg.block b h3 fun e => ?_)).trans (h4 i hi)
  rcases hr b e.symm with c | c
  · omega
  · exact hT c
theorem RdT.below {T : Nat → Prop} {w w' : World} {v : Value} {p : List Int} (h : RdT T w v p) (hb : Below w.heap.size w w') : RdT T w' v p := by
  obtain ⟨ao, cap, rfl, h2⟩ := h
  refine ⟨ao, cap, rfl, fun hz => ?_⟩
  obtain ⟨b, off, rfl, h3, hT, h4⟩ := h2 hz
  exact ⟨b, off, rfl, Nat.lt_of_lt_of_le h3 hb.size, hT, fun i hi => (hb.cell (p := ⟨b, off + i, none⟩) h3).trans (h4 i hi)⟩
/-- the marks of the places that were gone over -/
def sxL (p : List Int) (n k t : Nat) : List Value := (List.range n).map fun x => Value.bool (Pm.sx p k t x)
theorem sxL_get (p : List Int) {n k t x : Nat} (h : x < n) : (sxL p n k t)[x]? = some (.bool (Pm.sx p k t x)) := by simp [sxL, h]
theorem sxL_0 (p : List Int) (n : Nat) : sxL p n 0 0 = List.replicate n (.bool false) := by
  apply List.ext_getElem
  · simp [sxL]
  · intro k h1 h2; simp [sxL, Pm.sx_zero, Pm.sn_zero]
theorem sxL_step (p : List Int) (n k t : Nat) : (sxL p n k t).set (Pm.it p k t) (.bool true) = sxL p n k (t + 1) := by
  apply List.ext_getElem
  · simp [sxL]
  · intro x h1 h2
    rw [List.getElem_set]
    simp only [sxL, List.getElem_map, List.getElem_range, Pm.sx_succ]
    by_cases c : Pm.it p k t = x
    · subst c; simp
    · rw [if_neg c, show (x == Pm.it p k t) = false from beq_eq_false_iff_ne.2 fun e => c e.symm, Bool.or_false]
theorem sxL_per (p : List Int) (n k : Nat) : sxL p n k (Pm.per p k) = sxL p n (k + 1) 0 := by
  unfold sxL; apply List.map_congr_left; intro x _; rw [Pm.sx_per, Pm.sx_zero]
theorem sxL_same {p : List Int} (h : Pm.Ok p) {n k : Nat} (hk : k < p.length) (hs : Pm.sn p k k = true) : sxL p n (k + 1) 0 = sxL p n k 0 := by
  unfold sxL; apply List.map_congr_left; intro x _; rw [Pm.sx_zero, Pm.sx_zero, h.sn_same hk hs]
/-- how many steps of a cycle are to come -/
def lpM (p : List Int) (B k : Nat) (sa : Value) (wx : World) : Nat :=
  match wx.cell? ⟨B, (intOf sa).toNat, none⟩ with
  | some (.bool true) => 0
  | _ => Pm.per p k - (List.range (Pm.per p k)).findIdx (fun t => Pm.it p k t == (intOf sa).toNat)
theorem lpM_no {p : List Int} (h : Pm.Ok p) {B k t : Nat} {wx : World} (hk : k < p.length) (ht : t < Pm.per p k) (hc : wx.cell? ⟨B, Pm.it p k t, none⟩ = some (.bool false)) : lpM p B k (.int .i64 ((Pm.it p k t : Nat) : Int)) wx = Pm.per p k - t := by
  have e : (List.range (Pm.per p k)).findIdx (fun u => Pm.it p k u == Pm.it p k t) = t := by
    rw [List.findIdx_eq (by rw [List.length_range]; exact ht)]
    refine ⟨by simp, fun j hj => ?_⟩
    simp only [List.getElem_range]
    simpa using h.it_ne hk hj ht
  unfold lpM
  simp only [intOf, Int.toNat_natCast, hc, e]
theorem lpM_yes {p : List Int} {B k x : Nat} {wx : World} (hc : wx.cell? ⟨B, x, none⟩ = some (.bool true)) : lpM p B k (.int .i64 ((x : Nat) : Int)) wx = 0 := by
  unfold lpM
  simp only [intOf, Int.toNat_natCast, hc]
theorem makeB' (w : World) (n : Nat) (hn : n ≤ 1099511627776) :
    ∃ w', (Instr.makeSlice 48 (.int .i64 (n : Int)) (.int .i64 (n : Int))).run Tryd.prog w = .ok (.slice (some ⟨w.heap.size, 0, none⟩) n n) w' ∧
      Hid (w'.ownsRow w.heap.size 4 1 (.slice (some ⟨w.heap.size, 0, none⟩) n n) n (List.replicate n (.bool false))) ∧ Hid (w.grownBy w' none) ∧ Hid (w.heap.size < w'.heap.size) := by
  obtain ⟨i0, hi0, hz0, hz1, hz2⟩ := info_parts infoBool
  obtain ⟨w', h1, h2, h3⟩ := run_make_full (P := Tryd.prog) w w.heap.size 48 4 i0 (.bool false) 1 Tryd.underlying48 hi0 hz0 hz1 .i64 .i64 n (by rw [hz2]; omega) (by unfold maxLen; omega) (Nat.le_refl _)
  have e : (Value.bool false).cells = #[.bool false] := rfl
  rw [e, Nat.mul_one, toList_madeCells_one] at h2
  exact ⟨w', h1, h2, h3, (h2.lt w.heap.size rfl).2⟩
set_option maxRecDepth 100000 in
set_option maxHeartbeats 4000000 in
theorem lp_in (F : Fence) (n : Nat) (h6 : F.fn 37) (hro : F.round = none) (hn : 1 ≤ n) (l Bp B m : Nat) (T : Nat → Prop) (p : List Int) (v : Value) (hok : Hid (Pm.Ok p)) (hm : Hid (p.length = m)) (hml : m ≤ 1048576) (hTB : Hid (¬ T B)) (hTp : Hid (¬ T Bp))
    (J Jx : List Nat → World → Prop) (hJ : Hid (AbX B B J))
    (hY : Hid (∀ pre x W0 W1, J pre W0 → B < W0.heap.size → W0 = W1 → pre ++ [x] <+: Pm.lp p m → YieldAt F (n - 1) Tryd.prog l #[.int .i64 ((x : Nat) : Int)] W1 fun e W' =>
      (e = .returned (.bool true) ∧ J (pre ++ [x]) W' ∧ KT T W1 W') ∨ (e = .returned (.bool false) ∧ Jx (pre ++ [x]) W' ∧ KB B B W1 W')))
    (W : World) (hWB : Hid (W.heap.size = B)) (hBl : Hid (Bp < B)) (hBp : W.cell? ⟨Bp, 0, none⟩ = some v) (hR : Hid (RdT T W v p)) (h0 : Hid (J [] W)) :
    CallsIn F n Tryd.prog 37 #[.func (.yield l) #[] #[], .pointer (some ⟨Bp, 0, none⟩)] W fun e W' => (∃ v, e = .returned v) ∧
      ((∃ ys, ys = Pm.lp p m ∧ J ys W') ∨ (∃ pre, pre <+: Pm.lp p m ∧ Jx pre W')) := by
  obtain ⟨ao, cap, hv, _⟩ := hR.out
  rw [hm.out] at hv
  have hBpH : Hid (W.cell? ⟨Bp, 0, none⟩ = some (.slice ao m cap)) := (by rw [hBp, hv] : W.cell? ⟨Bp, 0, none⟩ = some (.slice ao m cap))
  have hR0 : Hid (RdT T W (.slice ao m cap) p) := (by rw [← hv]; exact hR.out : RdT T W (.slice ao m cap) p)
  obtain ⟨w1, hmk, hrow, hgr, hlt1⟩ := makeB' W m (by omega)
  rw [hWB.out] at hmk hrow hlt1
  have hJ1 : Hid (J [] w1) := hJ.out _ _ _ none h0.out hgr.out (fun _ e => by cases e)
  have hR1 : Hid (RdT T w1 (.slice ao m cap) p) := hR0.out.grown hgr.out (fun _ e => by cases e)
  have hc1 : Hid (w1.cell? ⟨Bp, 0, none⟩ = some (.slice ao m cap)) := ((World.cell?_of_block (w := W) (a := ⟨Bp, 0, none⟩) (hgr.out.block Bp (by rw [hWB.out]; exact hBl.out) (by simp))).trans hBpH.out)
  have hcl0 := hBpH.out
  have hcl1 := hc1.out
  clear hR hR0 hBp hv hgr h0 hBpH
  refine callsIn_of_wp Tryd.func37 rfl h6 ?_ hro
  simp only [Tryd.ntmps37, List.size_toArray, List.length_cons, List.length_nil, Nat.reduceAdd, Nat.reduceSub, Array.replicate_succ, Array.replicate_zero, List.push_toArray, List.append_toArray, List.nil_append, List.cons_append]
  gi_wp2
  clear hmk hcl0 hcl1
  gi_loopw [4, 5, 11] (fun _ _ si wx => ∃ k : Nat, k ≤ m ∧ si = .int .i64 (k : Int) ∧ Hid (wx.ownsRow B 4 1 (.slice (some ⟨B, 0, none⟩) m m) m (sxL p m k 0)) ∧ Hid (J (Pm.lp p k) wx) ∧ Hid (wx.cell? ⟨Bp, 0, none⟩ = some (.slice ao m cap)) ∧ Hid (RdT T wx (.slice ao m cap) p) ∧ Hid (B < wx.heap.size)) (fun _ _ si _ => m - (RowKit.intOf si).toNat)
  case atStart => exact ⟨0, Nat.zero_le _, rfl, (by rw [sxL_0]; exact hrow.out), hJ1, hc1, hR1, hlt1⟩
  case round =>
    clear hrow hJ1 hc1 hR1 hlt1
    obtain ⟨k, hk, rfl, hrow, hJk, hcB, hRk, hsz⟩ := hrel
    by_cases hlt : k < m
    · have hlt' : (k : Int) < (m : Int) := by omega
      have hkp : Hid (k < p.length) := (by rw [hm.out]; exact hlt : k < p.length)
      have c2 := hrow.out.cellAt k (by omega)
      rw [sxL_get p hlt, Pm.sx_zero] at c2
      cases hs : Pm.sn p k k
      · rw [hs] at c2
        have hsH : Hid (Pm.sn p k k = false) := hs
        clear hs
        gi_wp2
        clear c2
        gi_loopw [5] (fun sa wx => ∃ t : Nat, t ≤ Pm.per p k ∧ sa = .int .i64 ((Pm.it p k t : Nat) : Int) ∧ Hid (wx.ownsRow B 4 1 (.slice (some ⟨B, 0, none⟩) m m) m (sxL p m k t)) ∧ Hid (J (Pm.lp p k) wx) ∧ Hid (wx.cell? ⟨Bp, 0, none⟩ = some (.slice ao m cap)) ∧ Hid (RdT T wx (.slice ao m cap) p) ∧ Hid (B < wx.heap.size)) (fun sa wx => lpM p B k sa wx)
        case atStart => exact ⟨0, Nat.zero_le _, rfl, hrow, hJk, hcB, hRk, hsz⟩
        case round =>
          clear hrow hJk hcB hRk hsz
          obtain ⟨t, ht, rfl, hrow, hJk, hcB, hRk, hsz⟩ := hrel
          have hit := hok.out.it_lt hkp.out t
          rw [hm.out] at hit
          have c2 := hrow.out.cellAt (Pm.it p k t) (by omega)
          rw [sxL_get p hit] at c2
          by_cases htp : t < Pm.per p k
          · rw [hok.out.sx_no hkp.out hsH.out htp] at c2
            have f2 := hrow.out.frozenAt (Pm.it p k t)
            have hM : Hid (lpM p B k (.int .i64 ((Pm.it p k t : Nat) : Int)) wr = Pm.per p k - t) := lpM_no hok.out hkp.out htp c2
            have hitp : Pm.it p k t < p.length := by rw [hm.out]; exact hit
            obtain ⟨ao', cap', he, hrd⟩ := hRk.out
            have hea : ao' = ao := by cases he; rfl
            rw [hea] at hrd
            clear hea he
            obtain ⟨b, off, rfl, hbw, hTb, hcell⟩ := hrd (fun e => by rw [e] at hitp; simp at hitp)
            have c1 := hcell (Pm.it p k t) hitp
            rw [hok.out.val hitp] at c1
            have hst := hrow.out.stored (Pm.it p k t) (.bool true)
            rw [sxL_step] at hst
            have hrow2 : Hid ((wr.setCell ⟨B, Pm.it p k t, none⟩ (.bool true)).ownsRow B 4 1 (.slice (some ⟨B, 0, none⟩) m m) m (sxL p m k (t + 1))) := hst.1
            have hJ2 : Hid (J (Pm.lp p k) (wr.setCell ⟨B, Pm.it p k t, none⟩ (.bool true))) := hJ.out _ _ _ (some B) hJk.out hst.2 (fun r e => by cases e; exact ⟨Nat.le_refl _, Nat.le_refl _⟩)
            have hbB : b ≠ B := fun e => by
              subst e
              have := hrow.out.cellAt (off + Pm.it p k t)
              have h9 := hrow.out.2
              rcases h9 with ⟨h9, _⟩ | ⟨g, c, cur, h9, _, h10, _, _, h11, h12⟩
              · cases h9
              · cases h9
                have e1 : wr.cell? ⟨b, off + Pm.it p k t, none⟩ = cur[off + Pm.it p k t]? := by unfold World.cell?; rw [h10]; rfl
                rw [e1] at c1
                have hl : off + Pm.it p k t < cur.size := (Array.getElem?_eq_some_iff.1 c1).1
                have h13 : (sxL p m k t)[off + Pm.it p k t]? = some (.int .i64 ((Pm.sg p (Pm.it p k t) : Nat) : Int)) := by
                  rw [← h12, List.getElem?_take, if_pos (by omega)]
                  simpa using c1
                have hl2 : off + Pm.it p k t < m := by omega
                rw [sxL_get p hl2] at h13
                cases h13
            have c3 : (wr.setCell ⟨B, Pm.it p k t, none⟩ (.bool true)).cell? ⟨b, off + Pm.it p k t, none⟩ = some (.int .i64 ((Pm.sg p (Pm.it p k t) : Nat) : Int)) := by
              rw [World.cell?_setCell_other _ _ _ _ (fun e => hbB (congrArg Addr.block e).symm)]; exact c1
            have hBpB : Bp ≠ B := fun e => by have := hBl.out; omega
            have hcB2 : (wr.setCell ⟨B, Pm.it p k t, none⟩ (.bool true)).cell? ⟨Bp, 0, none⟩ = some (.slice (some ⟨b, off, none⟩) m cap) := by
              rw [World.cell?_setCell_other _ _ _ _ (fun e => hBpB (congrArg Addr.block e).symm)]; exact hcB.out
            have hR2 : Hid (RdT T (wr.setCell ⟨B, Pm.it p k t, none⟩ (.bool true)) (.slice (some ⟨b, off, none⟩) m cap) p) := by
              refine ⟨_, cap, by rw [hm.out], fun _ => ⟨b, off, rfl, by simpa using hbw, hTb, fun i hi => ?_⟩⟩
              rw [World.cell?_setCell_other _ _ _ _ (fun e => hbB (congrArg Addr.block e).symm)]; exact hcell i hi
            have hsz2 : Hid (B < (wr.setCell ⟨B, Pm.it p k t, none⟩ (.bool true)).heap.size) := (by simpa using hsz.out : B < (wr.setCell ⟨B, Pm.it p k t, none⟩ (.bool true)).heap.size)
            have hitm : (Pm.it p k t : Int) < (m : Int) := by omega
            have hcB2H : Hid ((wr.setCell ⟨B, Pm.it p k t, none⟩ (.bool true)).cell? ⟨Bp, 0, none⟩ = some (.slice (some ⟨b, off, none⟩) m cap)) := hcB2
            clear hcell hrd hst hbB hBpB hrow hJk hcB hRk hsz hbw hTb
            gi_wp2
            go_roundw
            case rel => exact ⟨t + 1, htp, rfl, hrow2, hJ2, hcB2H, hR2, hsz2⟩
            case measure =>
              rw [hM.out]
              by_cases h9 : t + 1 < Pm.per p k
              · have := hrow2.out.cellAt (Pm.it p k (t + 1)) (by have := hok.out.it_lt hkp.out (t + 1); rw [hm.out] at this; omega)
                rw [sxL_get p (by have := hok.out.it_lt hkp.out (t + 1); rw [hm.out] at this; omega), hok.out.sx_no hkp.out hsH.out h9] at this
                have := lpM_no hok.out hkp.out h9 this
                change lpM p B k (.int .i64 ((Pm.it p k (t + 1) : Nat) : Int)) _ < _
                omega
              · have e9 : t + 1 = Pm.per p k := by omega
                have := hrow2.out.cellAt (Pm.it p k (t + 1)) (by have := hok.out.it_lt hkp.out (t + 1); rw [hm.out] at this; omega)
                rw [sxL_get p (by have := hok.out.it_lt hkp.out (t + 1); rw [hm.out] at this; omega), e9, hok.out.sx_yes hkp.out] at this
                have := lpM_yes (p := p) (k := k) this
                change lpM p B k (.int .i64 ((Pm.it p k (t + 1) : Nat) : Int)) _ < _
                rw [e9]
                omega
          · have etp : t = Pm.per p k := by omega
            have c3 : wr.cell? ⟨B, Pm.it p k t, none⟩ = some (.bool true) := by rw [c2, etp, hok.out.sx_yes hkp.out]
            have hrow2 : Hid (wr.ownsRow B 4 1 (.slice (some ⟨B, 0, none⟩) m m) m (sxL p m (k + 1) 0)) := (by rw [← sxL_per, ← etp]; exact hrow.out : wr.ownsRow B 4 1 (.slice (some ⟨B, 0, none⟩) m m) m (sxL p m (k + 1) 0))
            have hpre : Hid (Pm.lp p k ++ [k] <+: Pm.lp p m) := (by rw [← Pm.lp_yes hsH.out]; exact Pm.lp_pre p hlt : Pm.lp p k ++ [k] <+: Pm.lp p m)
            have hitm : (Pm.it p k t : Int) < (m : Int) := by omega
            obtain ⟨fn, tmps, assign, body, hy, hR9⟩ := hY.out _ k wr wr hJk.out hsz.out rfl hpre.out
            clear c2 etp htp ht hrow hJk
            gi_wp2
            refine hR9.mono ?_
            rintro e W3 (⟨rfl, hJ3, hk3⟩ | ⟨rfl, hJx3, _⟩)
            · have hrow3 : Hid (W3.ownsRow B 4 1 (.slice (some ⟨B, 0, none⟩) m m) m (sxL p m (k + 1) 0)) := hk3.own hrow2.out (fun g e => by cases e; exact hTB.out)
              have hc3 : Hid (W3.cell? ⟨Bp, 0, none⟩ = some (.slice ao m cap)) := (hk3.cell (p := ⟨Bp, 0, none⟩) (show Bp < _ by have := hBl.out; have := hsz.out; omega) hTp.out).trans hcB.out
              have hR3 : Hid (RdT T W3 (.slice ao m cap) p) := hRk.out.kt hk3
              have hs3 : Hid (B < W3.heap.size) := Nat.lt_of_lt_of_le hsz.out hk3.size
              have hJ4 : Hid (J (Pm.lp p (k + 1)) W3) := (by rw [Pm.lp_yes hsH.out]; exact hJ3 : J (Pm.lp p (k + 1)) W3)
              clear hR9 hy hk3 hJ3 hrow2 hcB hRk hsz hpre c3
              gi_wp2
              go_roundw
              case rel => exact ⟨k + 1, by omega, by go_num, hrow3, hJ4, hc3, hR3, hs3⟩
              case measure => simp [RowKit.intOf]; omega
            · gi_wp2
              refine bodyPost_ret (results_none rfl _ _ _) rfl ?_
              exact ⟨⟨_, rfl⟩, .inr ⟨_, hpre.out, hJx3⟩⟩
      · rw [hs] at c2
        have hrow2 : Hid (wr.ownsRow B 4 1 (.slice (some ⟨B, 0, none⟩) m m) m (sxL p m (k + 1) 0)) := (by rw [sxL_same hok.out hkp.out hs]; exact hrow.out : wr.ownsRow B 4 1 (.slice (some ⟨B, 0, none⟩) m m) m (sxL p m (k + 1) 0))
        have hJ4 : Hid (J (Pm.lp p (k + 1)) wr) := (by rw [Pm.lp_no hs]; exact hJk.out : J (Pm.lp p (k + 1)) wr)
        clear hs hrow hJk
        gi_wp2
        go_roundw
        case rel => exact ⟨k + 1, by omega, by go_num, hrow2, hJ4, hcB, hRk, hsz⟩
        case measure => simp [RowKit.intOf]; omega
    · have hlt' : decide ((k : Int) < (m : Int)) = false := decide_eq_false (by omega)
      have ek : k = m := by omega
      subst ek
      gi_wp2
      go_end0
      exact ⟨⟨_, rfl⟩, .inl ⟨_, rfl, hJk.out⟩⟩
end Go.Proofs.YtbhhbnhoknlonaaDoor
