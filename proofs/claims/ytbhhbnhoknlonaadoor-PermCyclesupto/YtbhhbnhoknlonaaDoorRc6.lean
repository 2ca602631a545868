/-
  The contracts of the document's Cycles and Sign.
-/
import Derived.Test.YtbhhbnhoknlonaaDoorCw6
namespace Go.Proofs.YtbhhbnhoknlonaaDoor
open Flo Go.RowKit Go.Shelf

theorem own_kept_ne {W W' : World} {N N' : Nat} {e e' : TypeId} {s s' : Nat} {v v' : Value} {n n' : Nat} {xs xs' : List Value} (h : W.ownsRow N e s v n xs) (h' : W.ownsRow N' e' s' v' n' xs') (hne : e ≠ e') (hg : W.grownBy W' v'.ownBlock) : W'.ownsRow N e s v n xs :=
  h.kept hg (by
    cases hv : v.ownBlock with
    | none => exact .inl rfl
    | some k => exact .inr fun e => own_ne h h' hne k hv e.symm)
theorem CyO.kept_ne {p : List Int} {N : Nat} {W W' : World} {ys : List (Value × Nat)} {N' : Nat} {e' : TypeId} {s' : Nat} {v' : Value} {n' : Nat} {xs' : List Value} (h : CyO p N W ys) (h' : W.ownsRow N' e' s' v' n' xs') (hne : 3 ≠ e') (hg : W.grownBy W' v'.ownBlock) : CyO p N W' ys :=
  ⟨fun y hy => own_kept_ne (h.row y hy) h' hne hg, h.ap⟩
theorem CyO.alloc {p : List Int} {N : Nat} {W : World} {ys : List (Value × Nat)} (h : CyO p N W ys) (o : Obj) : CyO p N (W.alloc o) ys := ⟨fun y hy => (h.row y hy).alloc o, h.ap⟩
/-- an int row in a block from M on: the older lists are kept -/
theorem CyO.kept_new {p : List Int} {N M : Nat} {W W' : World} {ys : List (Value × Nat)} {e' : TypeId} {s' : Nat} {v' : Value} {n' : Nat} {xs' : List Value} (h : CyO p N W ys) (h' : W.ownsRow M e' s' v' n' xs') (hM : ∀ y ∈ ys, ∀ k, y.1.ownBlock = some k → k < M) (hg : W.grownBy W' v'.ownBlock) : CyO p N W' ys :=
  h.kept hg fun y hy => by
    cases hv : v'.ownBlock with
    | none => exact .inr rfl
    | some k =>
      left
      intro e
      have h1 := hM y hy k e
      have h2 := (h'.lt k hv).1
      omega
theorem own_low {w : World} {base base' : Nat} {e : TypeId} {size : Nat} {v : Value} {n : Nat} {xs : List Value} (h : w.ownsRow base e size v n xs) (hb : base' ≤ base) : w.ownsRow base' e size v n xs := by
  obtain ⟨h1, h2⟩ := h
  refine ⟨h1, ?_⟩
  rcases h2 with h2 | ⟨g, cap, cur, hv, hg, r⟩
  · exact .inl h2
  · exact .inr ⟨g, cap, cur, hv, by omega, r⟩
theorem CyO.more {p : List Int} {N M : Nat} {W : World} {ys : List (Value × Nat)} {v : Value} {x : Nat} (h : CyO p N W ys) (hv : W.ownsRow M 3 1 v (Pm.per p x) (fl (Pm.it p x) (Pm.per p x))) (hN : N ≤ M) (hM : ∀ y ∈ ys, ∀ k, y.1.ownBlock = some k → k < M) : CyO p N W (ys ++ [(v, x)]) := by
  refine ⟨fun y hy => ?_, List.pairwise_append.2 ⟨h.ap, List.pairwise_singleton _ _, fun a ha b hb k hk hk2 => ?_⟩⟩
  · rcases List.mem_append.1 hy with hy | hy
    · exact h.row y hy
    · obtain rfl : y = (v, x) := by simpa using hy
      exact own_low hv hN
  · obtain rfl : b = (v, x) := by simpa using hb
    have h1 := hM a ha k hk
    have h2 := (hv.lt k hk2).1
    omega
set_option maxHeartbeats 8000000 in
theorem r6Cycles_c (v : Value) (p : List Int) (w : World) (hR : RdZ w v p) (hn : p.length ≤ 1048576) :
    Calls Tryd.prog 20 #[v] w fun e W' => ∃ v' ys, e = .returned v' ∧ ys.map (·.2) = lpC p ∧ W'.ownsRow w.heap.size 22 1 v' ys.length (ys.map (·.1)) ∧ CyO p w.heap.size W' ys ∧ Below w.heap.size w W' := by
  have hRH0 : Hid (RdZ w v p) := hR
  obtain ⟨ao, cap, rfl, hrd⟩ := hR
  have hRH : Hid (p ≠ [] → ∃ b off, ao = some ⟨b, off, none⟩ ∧ b < w.heap.size ∧ ∀ i, i < p.length → w.cell? ⟨b, off + i, none⟩ = some (.int .i64 (p.getD i 0))) := hrd
  obtain ⟨i0, hi0, hz0, hz1, hz2⟩ := info_parts infoInt
  obtain ⟨j0, hj0, hy0, hy1, hy2⟩ := info_parts infoLs
  clear hrd
  go_enter Tryd.func20, Tryd.ntmps20
  go_wp2_with fail
  have oE0 := getEmptyRow w w.heap.size (Nat.le_refl _)
  have hb0 : Below w.heap.size w (w.alloc (.cells #[] 22)) := (Below.refl _ _).alloc (Nat.le_refl _) _
  generalize w.alloc (.cells #[] 22) = W0 at oE0 hb0 ⊢
  refine (r6Check_c _ p W0 (hRH0.out.below hb0) (by omega)).mono ?_
  rintro e w1 ⟨rfl, b1⟩
  have B1 : Hid (Below w.heap.size w w1) := hb0.trans (b1.mono hb0.size)
  have oE : Hid (w1.ownsRow w.heap.size 22 1 (.slice (some ⟨w.heap.size, 0, none⟩) 0 0) 0 []) := by
    obtain ⟨a1, a2⟩ := oE0
    refine ⟨a1, ?_⟩
    rcases a2 with a2 | ⟨g, cap, cur, hv, hg, hgb, r⟩
    · exact .inl a2
    · exact .inr ⟨g, cap, cur, hv, hg, by rw [b1.block g (Array.getElem?_eq_some_iff.1 hgb).1]; exact hgb, r⟩
  clear oE0 hb0 b1
  cases hck : ckB p
  · have hf : Hid (lpC p = []) := (by unfold lpC; rw [if_neg (by rw [hck]; decide)] : lpC p = [])
    rw [ckE_false hck]
    clear hck
    go_wp2
    go_ret
    exact ⟨_, [], rfl, by rw [hf.out]; rfl, oE.out, CyO.nil _ _ _, B1.out⟩
  · have hok : Hid (Pm.Ok p) := ckB_Ok hck
    have hf : Hid (lpC p = Pm.lp p p.length) := (by unfold lpC; rw [if_pos hck] : lpC p = Pm.lp p p.length)
    rw [ckE_true hck]
    clear hck
    obtain ⟨m, hmm⟩ : ∃ m, p.length = m := ⟨_, rfl⟩
    have hm : Hid (p.length = m) := hmm
    rw [hmm] at hn hf ⊢
    obtain ⟨w2, hmk, hrow, hgr, hlt2⟩ := makeB' w1 m (by omega)
    have B2 : Hid (Below w.heap.size w w2) := B1.out.grown hgr.out B1.out.size (fun b e => by cases e)
    have oE2 : Hid (w2.ownsRow w.heap.size 22 1 (.slice (some ⟨w.heap.size, 0, none⟩) 0 0) 0 []) := oE.out.kept hgr.out (.inr (by simp [Value.ownBlock]))
    obtain ⟨S, hS⟩ : ∃ S, w1.heap.size = S := ⟨_, rfl⟩
    rw [hS] at hmk hrow hlt2
    have hSw : Hid (w.heap.size ≤ S) := (by rw [← hS]; exact B1.out.size : w.heap.size ≤ S)
    clear hmm hgr hS oE
    go_wp2
    clear hmk
    go_loopw [3, 5, 6, 7, 18] (fun so _ _ _ si wx => ∃ (k : Nat) (ys : List (Value × Nat)), k ≤ m ∧ si = .int .i64 (k : Int) ∧ Hid (ys.map (·.2) = Pm.lp p k) ∧ Hid (wx.ownsRow w.heap.size 22 1 so ys.length (ys.map (·.1))) ∧ Hid (CyO p w.heap.size wx ys) ∧ Hid (wx.ownsRow S 4 1 (.slice (some ⟨S, 0, none⟩) m m) m (sxL p m k 0)) ∧ Hid (Below w.heap.size w wx)) (fun _ _ _ _ si _ => m - (intOf si).toNat)
    case atStart => exact ⟨0, [], Nat.zero_le _, rfl, rfl, oE2, CyO.nil _ _ _, (by rw [sxL_0]; exact hrow.out), B2⟩
    case round =>
      clear hrow B2 oE2 hlt2
      obtain ⟨k, ys, hk, rfl, hys, hout, hcy, hrow, hb⟩ := hrel
      by_cases hlt : k < m
      · have hlt' : (k : Int) < (m : Int) := by omega
        have hkp : Hid (k < p.length) := (by rw [hm.out]; exact hlt : k < p.length)
        have hyl : ys.length ≤ 1048576 := by
          have := congrArg List.length hys.out
          rw [List.length_map] at this
          have := Pm.lp_len_le p k
          omega
        have c2 := hrow.out.cellAt k (by omega)
        rw [sxL_get p hlt, Pm.sx_zero] at c2
        cases hs : Pm.sn p k k
        · have hsH : Hid (Pm.sn p k k = false) := hs
          obtain ⟨N0, hN0⟩ : ∃ N0, wr.heap.size = N0 := ⟨_, rfl⟩
          have hNw : Hid (w.heap.size ≤ N0) := (by rw [← hN0]; exact hb.out.size : w.heap.size ≤ N0)
          have hbig : Hid (∀ y ∈ ys, ∀ k, y.1.ownBlock = some k → k < N0) := fun y hy k e => by rw [← hN0]; exact ((hcy.out.row y hy).lt k e).2
          have oC : Hid ((wr.alloc (.cells #[] 3)).ownsRow N0 3 1 (.slice (some ⟨N0, 0, none⟩) 0 0) 0 (fl (Pm.it p k) 0)) := (by rw [← hN0]; exact emptyI wr _ (Nat.le_refl _) : (wr.alloc (.cells #[] 3)).ownsRow N0 3 1 (.slice (some ⟨N0, 0, none⟩) 0 0) 0 (fl (Pm.it p k) 0))
          have hout3 : Hid ((wr.alloc (.cells #[] 3)).ownsRow w.heap.size 22 1 u3 ys.length (ys.map (·.1))) := hout.out.alloc (.cells #[] 3)
          have hcy3 : Hid (CyO p w.heap.size (wr.alloc (.cells #[] 3)) ys) := hcy.out.alloc (.cells #[] 3)
          have hb3 : Hid (Below w.heap.size w (wr.alloc (.cells #[] 3))) := hb.out.alloc hb.out.size (.cells #[] 3)
          have hrow3 : Hid ((wr.alloc (.cells #[] 3)).ownsRow S 4 1 (.slice (some ⟨S, 0, none⟩) m m) m (sxL p m k 0)) := hrow.out.alloc (.cells #[] 3)
          have hz3 : Hid (N0 ≤ (wr.alloc (.cells #[] 3)).heap.size) := (by rw [World.size_alloc]; omega : N0 ≤ (wr.alloc (.cells #[] 3)).heap.size)
          have hpl : Hid (Pm.per p k ≤ 1048576) := (by have := hok.out.per_le hkp.out; rw [hm.out] at this; omega : Pm.per p k ≤ 1048576)
          clear hs hout hcy hb hrow c2
          go_wp2
          clear hN0
          go_loopw [6, 7] (fun sc sa wx => ∃ t : Nat, t ≤ Pm.per p k ∧ sa = .int .i64 ((Pm.it p k t : Nat) : Int) ∧ Hid (wx.ownsRow N0 3 1 sc t (fl (Pm.it p k) t)) ∧ Hid (wx.ownsRow w.heap.size 22 1 u3 ys.length (ys.map (·.1))) ∧ Hid (CyO p w.heap.size wx ys) ∧ Hid (wx.ownsRow S 4 1 (.slice (some ⟨S, 0, none⟩) m m) m (sxL p m k t)) ∧ Hid (Below w.heap.size w wx) ∧ Hid (N0 ≤ wx.heap.size)) (fun sc _ _ => Pm.per p k - slLen sc)
          case atStart => exact ⟨0, Nat.zero_le _, rfl, oC, hout3, hcy3, hrow3, hb3, hz3⟩
          case round =>
            clear oC hout3 hcy3 hrow3 hb3 hz3
            obtain ⟨t, ht, rfl, oC, hout, hcy, hrow, hb, hz⟩ := hrel
            have hitp : Pm.it p k t < p.length := hok.out.it_lt hkp.out t
            have hit : Pm.it p k t < m := by rw [← hm.out]; exact hitp
            have hit' : (Pm.it p k t : Int) < (m : Int) := by omega
            have c2 := hrow.out.cellAt (Pm.it p k t) (by omega)
            rw [sxL_get p hit] at c2
            by_cases htp : t < Pm.per p k
            · rw [hok.out.sx_no hkp.out hsH.out htp] at c2
              have f2 := hrow.out.frozenAt (Pm.it p k t)
              obtain ⟨b, off, rfl, hbw, hcell⟩ := hRH.out (fun e => by rw [e] at hitp; simp at hitp)
              have hst := hrow.out.stored (Pm.it p k t) (.bool true)
              rw [sxL_step] at hst
              have oC1 := own_kept_ne oC.out hrow.out (by decide) hst.2
              have out1 := own_kept_ne hout.out hrow.out (by decide) hst.2
              have cy1 := hcy.out.kept_ne hrow.out (by decide) hst.2
              have hb1 := hb.out.setCell (p := ⟨S, Pm.it p k t, none⟩) hSw.out (.bool true)
              have hz1' : N0 ≤ (wr.setCell ⟨S, Pm.it p k t, none⟩ (.bool true)).heap.size := by simpa using hz.out
              have row1 := hst.1
              have hlen : Hid (slLen u6 = t) := ownsRow_len oC1
              have hpl2 := hpl.out
              have hc9 : Hid (p.getD (Pm.it p k t) 0 = ((Pm.it p k (t + 1) : Nat) : Int) ∧ w.cell? ⟨b, off + Pm.it p k t, none⟩ = some (.int .i64 (p.getD (Pm.it p k t) 0))) := ⟨hok.out.val hitp, hcell _ hitp⟩
              have hsn : Hid (fl (Pm.it p k) (t + 1) = fl (Pm.it p k) t ++ [.int .i64 ((Pm.it p k t : Nat) : Int)]) := fl_snoc _ _
              have oC1H : Hid ((wr.setCell ⟨S, Pm.it p k t, none⟩ (.bool true)).ownsRow N0 3 1 u6 t (fl (Pm.it p k) t)) := oC1
              have out1H : Hid ((wr.setCell ⟨S, Pm.it p k t, none⟩ (.bool true)).ownsRow w.heap.size 22 1 u3 ys.length (ys.map (·.1))) := out1
              have cy1H : Hid (CyO p w.heap.size (wr.setCell ⟨S, Pm.it p k t, none⟩ (.bool true)) ys) := cy1
              have row1H : Hid ((wr.setCell ⟨S, Pm.it p k t, none⟩ (.bool true)).ownsRow S 4 1 (.slice (some ⟨S, 0, none⟩) m m) m (sxL p m k (t + 1))) := row1
              have hb1H : Hid (Below w.heap.size w (wr.setCell ⟨S, Pm.it p k t, none⟩ (.bool true))) := hb1
              have hz1H : Hid (N0 ≤ (wr.setCell ⟨S, Pm.it p k t, none⟩ (.bool true)).heap.size) := hz1'
              clear hcell hst oC hout hcy hrow hb hz out1 cy1 hb1 row1 oC1 hz1'
              go_wp2_with (at_builtin; refine wpList_append_own _ rfl _ _ 22 rfl N0 3 i0 (.int .i64 0) 1 8 Tryd.underlying22 hi0 hz0 hz1 hz2 rfl (by decide) _ _ _ rfl (oC1H.out.alloc _) ⟨wr.heap.size, 0, none⟩ 1 1 [.int .i64 ((Pm.it p k t : Nat) : Int)] rfl rfl ?c1 ?c2 ?c3 ?c4 ?c5 ?_)
              case c1 =>
                intro j u hj
                match j, hj with
                | 0, hj => simp at hj; subst hj; have h9 := (Boxed.new (wr.setCell ⟨S, Pm.it p k t, none⟩ (.bool true)) 3 (.int .i64 ((Pm.it p k t : Nat) : Int))).cell; simpa [Addr.add, World.setCell] using h9
              case c2 => intro u hu; simp at hu; subst hu; rfl
              case c3 => unfold maxLen; omega
              case c4 => omega
              case c5 => have := hz1H.out; rw [World.size_alloc]; omega
              · intro v' w3 hown' hgrow hnil
                have oCA := oC1H.out.alloc (.cells #[.int .i64 ((Pm.it p k t : Nat) : Int)] 3)
                have out3 : Hid (w3.ownsRow w.heap.size 22 1 u3 ys.length (ys.map (·.1))) := own_kept_ne (out1H.out.alloc _) oCA (by decide) hgrow
                have cy3 : Hid (CyO p w.heap.size w3 ys) := (cy1H.out.alloc _).kept_new oCA hbig.out hgrow
                have row3 : Hid (w3.ownsRow S 4 1 (.slice (some ⟨S, 0, none⟩) m m) m (sxL p m k (t + 1))) := own_kept_ne (row1H.out.alloc _) oCA (by decide) hgrow
                have hb3 : Hid (Below w.heap.size w w3) := (hb1H.out.alloc hb1H.out.size _).grown hgrow (by have := hb1H.out.size; rw [World.size_alloc]; omega) (fun k' hk' => by have := (oC1H.out.lt k' hk').1; have := hNw.out; omega)
                have hz3 : Hid (N0 ≤ w3.heap.size) := (by have := hgrow.size; have := hz1H.out; rw [World.size_alloc] at *; omega : N0 ≤ w3.heap.size)
                rw [← hsn.out] at hown'
                have oC3 : Hid (w3.ownsRow N0 3 1 v' (t + 1) (fl (Pm.it p k) (t + 1))) := hown'
                have hlen2 : Hid (slLen v' = t + 1) := ownsRow_len hown'
                have c3 : w3.cell? ⟨b, off + Pm.it p k t, none⟩ = some (.int .i64 ((Pm.it p k (t + 1) : Nat) : Int)) := by
                  rw [← hc9.out.1]; exact (hb3.out.cell (p := ⟨b, off + Pm.it p k t, none⟩) hbw).trans hc9.out.2
                clear hown' hgrow hnil oCA oC1H out1H cy1H row1H hb1H hz1H
                go_wp2
                go_roundw
                case rel => exact ⟨t + 1, htp, rfl, oC3, out3, cy3, row3, hb3, hz3⟩
                case measure => rw [hlen.out, hlen2.out]; omega
            · have etp : t = Pm.per p k := by omega
              have hpos := Pm.per_pos p k
              rw [etp, hok.out.sx_yes hkp.out] at c2
              rw [etp] at oC hrow hit'
              rw [etp]
              have hrow2 : Hid (wr.ownsRow S 4 1 (.slice (some ⟨S, 0, none⟩) m m) m (sxL p m (k + 1) 0)) := (by rw [← sxL_per]; exact hrow.out : wr.ownsRow S 4 1 (.slice (some ⟨S, 0, none⟩) m m) m (sxL p m (k + 1) 0))
              obtain ⟨gc, cc, rfl, _, hgc1, hgc2⟩ := ownsRow_form oC.out (by omega)
              have hys2 : Hid (∀ v : Value, (ys ++ [(v, k)]).map (·.2) = Pm.lp p (k + 1)) := fun v => by rw [List.map_append, hys.out, Pm.lp_yes hsH.out]; rfl
              have hd : (0 : Int) < (Pm.per p k : Int) := by omega
              have hpl2 := hpl.out
              generalize hper : Pm.per p k = pr at oC hd hpos c2 hit' hpl2 ⊢
              have hperH : Hid (Pm.per p k = pr) := hper
              clear hrow etp htp ht hper
              go_wp2_with (at_builtin; refine wpList_append_own _ rfl _ _ 42 rfl w.heap.size 22 j0 (.slice none 0 0) 1 24 Tryd.underlying42 hj0 hy0 hy1 hy2 rfl (by decide) _ _ _ rfl (hout.out.alloc _) ⟨wr.heap.size, 0, none⟩ 1 1 [.slice (some ⟨gc, 0, none⟩) pr cc] rfl rfl ?c1 ?c2 ?c3 ?c4 ?c5 ?_)
              case c1 =>
                intro j u hj
                match j, hj with
                | 0, hj => simp at hj; subst hj; simp [Addr.add]
              case c2 => intro u hu; simp at hu; subst hu; rfl
              case c3 => unfold maxLen; omega
              case c4 => omega
              case c5 => have := hb.out.size; rw [World.size_alloc]; omega
              · intro v' w3 hown' hgrow hnil
                have outA := hout.out.alloc (.cells #[.slice (some ⟨gc, 0, none⟩) pr cc] 22)
                have oC3 := own_kept_ne (oC.out.alloc (.cells #[.slice (some ⟨gc, 0, none⟩) pr cc] 22)) outA (by decide) hgrow
                have cy3 := (hcy.out.alloc (.cells #[.slice (some ⟨gc, 0, none⟩) pr cc] 22)).kept_ne outA (by decide) hgrow
                have cy4 : Hid (CyO p w.heap.size w3 (ys ++ [(.slice (some ⟨gc, 0, none⟩) pr cc, k)])) := cy3.more (by rw [hperH.out]; exact oC3) hNw.out hbig.out
                have row3 : Hid (w3.ownsRow S 4 1 (.slice (some ⟨S, 0, none⟩) m m) m (sxL p m (k + 1) 0)) := own_kept_ne (hrow2.out.alloc _) outA (by decide) hgrow
                have hb3 : Hid (Below w.heap.size w w3) := (hb.out.alloc hb.out.size _).grown hgrow (by have := hb.out.size; rw [World.size_alloc]; omega) (fun k' hk' => (hout.out.lt k' hk').1)
                have out3 : Hid (w3.ownsRow w.heap.size 22 1 v' (ys ++ [((.slice (some ⟨gc, 0, none⟩) pr cc : Value), k)]).length ((ys ++ [((.slice (some ⟨gc, 0, none⟩) pr cc : Value), k)]).map (·.1))) := (by
                  rw [List.length_append, List.map_append]; exact hown' : w3.ownsRow w.heap.size 22 1 v' (ys ++ [((.slice (some ⟨gc, 0, none⟩) pr cc : Value), k)]).length ((ys ++ [((.slice (some ⟨gc, 0, none⟩) pr cc : Value), k)]).map (·.1)))
                clear hown' hgrow hnil outA oC3 cy3 hrow2 hcy hout hb oC hz
                go_wp2
                go_roundw
                case rel => exact ⟨k + 1, _, by omega, by go_num, hys2.out _, out3, cy4, row3, hb3⟩
                case measure => simp [intOf]; omega
        · rw [hs] at c2
          have c3 : ∀ o, (wr.alloc o).cell? ⟨S, k, none⟩ = some (.bool true) := fun o => cell_alloc c2 o
          have hrow2 : Hid ((wr.alloc (.cells #[] 3)).ownsRow S 4 1 (.slice (some ⟨S, 0, none⟩) m m) m (sxL p m (k + 1) 0)) := (by rw [sxL_same hok.out hkp.out hs]; exact hrow.out.alloc _ : (wr.alloc (.cells #[] 3)).ownsRow S 4 1 (.slice (some ⟨S, 0, none⟩) m m) m (sxL p m (k + 1) 0))
          have hys2 : Hid (ys.map (·.2) = Pm.lp p (k + 1)) := (by rw [Pm.lp_no hs]; exact hys.out : ys.map (·.2) = Pm.lp p (k + 1))
          have hout2 := hout.out.alloc (.cells #[] 3)
          have hcy2 := hcy.out.alloc (.cells #[] 3)
          have hb2 := hb.out.alloc hb.out.size (.cells #[] 3)
          have hout3 : Hid ((wr.alloc (.cells #[] 3)).ownsRow w.heap.size 22 1 u3 ys.length (ys.map (·.1))) := hout2
          have hcy3 : Hid (CyO p w.heap.size (wr.alloc (.cells #[] 3)) ys) := hcy2
          have hb3 : Hid (Below w.heap.size w (wr.alloc (.cells #[] 3))) := hb2
          clear hs hrow hys hout hcy hb hout2 hcy2 hb2 c2
          go_wp2
          refine wp_loop_rounds 1 ?_
          rw [rounds_succ]
          go_wp2
          go_roundw
          case rel => exact ⟨k + 1, ys, by omega, by go_num, hys2, hout3, hcy3, hrow2, hb3⟩
          case measure => simp [intOf]; omega
      · have hlt' : decide ((k : Int) < (m : Int)) = false := decide_eq_false (by omega)
        have ek : k = m := by omega
        subst ek
        go_wp2
        go_ret
        exact ⟨_, ys, rfl, by rw [hys.out, hf.out], hout.out, hcy.out, hb.out⟩
end Go.Proofs.YtbhhbnhoknlonaaDoor
