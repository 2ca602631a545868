/-
  timbremem.OwnInts answers true for lists in rows of their own, and leaves all else.
-/
import Derived.Test.YtbhhbnhoknlonaaDoorOwn7
import Derived.Deep.CutBlock
namespace Go.Proofs.YtbhhbnhoknlonaaDoor
open Flo Go.RowKit

theorem upd_self {α : Type} (f : Nat → α) (i : Nat) : upd f i (f i) = f := by
  funext t; unfold upd; split
  · rename_i h; rw [h]
  · rfl
theorem LsI.congr {w : World} {m : Nat} {vs : Nat → Value} {ns : Nat → Nat} {ls ls2 : Nat → List Value} (h : LsI w m vs ns ls) (e : ∀ t, t < m → ls t = ls2 t) : LsI w m vs ns ls2 :=
  ⟨fun t ht => by rw [← e t ht]; exact h.row t ht, h.ap⟩
theorem LsI.drewN {w : World} {m : Nat} {vs : Nat → Value} {ns : Nat → Nat} {ls : Nat → List Value} (h : LsI w m vs ns ls) (k : Nat) : LsI (w.drewN k) m vs ns ls := ⟨h.row, h.ap⟩
theorem LsI.form {w : World} {m : Nat} {vs : Nat → Value} {ns : Nat → Nat} {ls : Nat → List Value} (h : LsI w m vs ns ls) {t : Nat} (ht : t < m) : ∃ ao c, vs t = .slice ao (ns t) c ∧ (0 < ns t → ∃ g, ao = some ⟨g, 0, none⟩) := by
  rcases (h.row t ht).2 with ⟨h1, h2⟩ | ⟨g, cap, cur, h1, _⟩
  · exact ⟨none, 0, by rw [h1, h2], fun c => by omega⟩
  · exact ⟨_, cap, h1, fun _ => ⟨g, rfl⟩⟩
theorem infoLI : (Tryd.prog.info? 22).map (fun i => (i.zero, i.size, i.bytes)) = some (some (.slice none 0 0), 1, 24) := by kernel_rfl
theorem emptyRow (w : World) : (w.alloc (.cells #[] 22)).ownsRow w.heap.size 22 1 (.slice (some ⟨w.heap.size, 0, none⟩) 0 0) 0 [] :=
  ⟨rfl, .inr ⟨w.heap.size, 0, #[], rfl, Nat.le_refl _, heap_alloc_new w _, Nat.le_refl _, Nat.zero_le _, rfl, rfl⟩⟩
theorem StI.congr {m G cG : Nat} {vs : Nat → Value} {ns : Nat → Nat} {w W : World} {gs : Nat → Value} {cn c2 : Nat → Nat} (h : StI m G cG vs ns w W gs cn) (e : ∀ t, t < m → cn t = c2 t) : StI m G cG vs ns w W gs c2 :=
  ⟨⟨fun t ht => by rw [← e t ht]; exact h.L.row t ht, h.L.ap⟩, h.P, h.B, h.R, h.K, fun t ht => by rw [← e t ht]; exact h.ge t ht, h.old⟩
theorem stepI {o : Oper} {a : Act} {K : Act → World → Prop} {Q : Exit → Act → World → Prop} (w : World) (s x : Operand) (v : Value) (n : Nat) (xs : List Value) (u : Value) (q : Nat)
    (ho : o.op = .call { callee := .builtin .append, args := #[s, x], argTypes := #[22, 22] }) (hs : a.eval s = v) (hx : a.eval x = .slice (some ⟨q, 0, none⟩) 1 1) (hu : u.oneCell' = true) (hrow : w.ownsRow 0 3 1 v n xs)
    (hcell : w.cell? ⟨q, 0, none⟩ = some u) (hn : n ≤ 1099511630000)
    (h : ∀ v' w', w'.ownsRow 0 3 1 v' (n + 1) (xs ++ [u]) → ((v'.ownBlock = v.ownBlock ∧ w.grownBy w' v.ownBlock) ∨ (v'.ownBlock = some w.heap.size ∧ w.grownBy w' none)) → K (a.put o.dst v') w') : Oper.wp Tryd.prog o a w K Q := by
  obtain ⟨i0, hi0, hz0, hz1, hz2⟩ := info_parts infoInt
  obtain ⟨v', w', hr, h2, h3⟩ := run_app1 (P := Tryd.prog) w 22 o.type 3 i0 (.int .i64 0) 8 Tryd.underlying22 hi0 hz0 hz1 hz2 rfl 0 v n xs hrow u hu ⟨q, 0, none⟩ (by simpa [Addr.add] using hcell) (by unfold maxLen; omega) (by omega) (Nat.zero_le _)
  unfold Oper.wp execOp
  simp only [ho, resolve, invoke, builtin, Sem.run_bind, Sem.run_pure, Result.andThen_ok, List.map_toArray, List.map_cons, List.map_nil, hs, hx, hr]
  exact h v' w' h2 h3
theorem cell_new1 (w : World) (u : Value) (ty : TypeId) : (w.alloc (.cells #[u] ty)).cell? ⟨w.heap.size, 0, none⟩ = some u := by simp
theorem take_set_snoc {l : List Value} {j : Nat} {u : Value} (h : j < l.length) : (l.set j u).take (j + 1) = l.take j ++ [u] := by
  rw [List.take_succ_eq_append_getElem (by simpa using h)]
  simp
  rw [List.take_set_of_le]
  exact Nat.le_refl _
set_option maxRecDepth 10000 in
set_option maxHeartbeats 4000000 in
theorem ownInts_c (m q cap : Nat) (vs : Nat → Value) (ns : Nat → Nat) (ls : Nat → List Value) (w : World) (hm : 1 ≤ m) (hm2 : m ≤ 1099511627776) (hns : Hid (∀ t, ns t ≤ 1099511627776)) (hq : Hid (∀ t, t < m → w.cell? ⟨q, t, none⟩ = some (vs t)))
    (hqT : Hid (¬ Tb m vs q)) (hqw : q < w.heap.size) (hL : Hid (LsI w m vs ns ls)) :
    Calls Tryd.prog 25 #[.slice (some ⟨q, 0, none⟩) m cap] w fun e w' => e = .returned (.bool true) ∧ KT (Tb m vs) w w' := by
  go_enter Tryd.func25, Tryd.ntmps25
  go_wp2
  go_loopw [3, 4, 5, 15] (fun _ _ _ si wx => ∃ (i : Nat) (ls' : Nat → List Value), i ≤ m ∧ si = .int .i64 (i : Int) ∧ Hid (LsI wx m vs ns ls') ∧ Hid (∀ t, t < i → ls' t = mks t (ns t)) ∧ Hid (KT (Tb m vs) w wx)) (fun _ _ _ si _ => m - (intOf si).toNat)
  case atStart => exact ⟨0, ls, Nat.zero_le _, rfl, hL, fun t ht => absurd ht (by omega), KT.refl _ _⟩
  case round =>
    obtain ⟨i, ls', hi, rfl, hL', hM, hK⟩ := hrel
    by_cases hlt : i < m
    · have hlt' : (i : Int) < (m : Int) := by omega
      have cq : wr.cell? ⟨q, i, none⟩ = some (vs i) := (hK.out.cell (p := ⟨q, i, none⟩) hqw hqT.out).trans (hq.out i hlt)
      have hvi : Hid (vs i = vs i) := (rfl : vs i = vs i)
      obtain ⟨ao, ci, hv, hpos⟩ := hL'.out.form hlt
      have hni := hns.out i
      rw [hv] at cq
      have hvH : Hid (vs i = .slice ao (ns i) ci) := hv
      have hpH : Hid (0 < ns i → ∃ g, ao = some ⟨g, 0, none⟩) := hpos
      obtain ⟨N, hN⟩ : ∃ N, ns i = N := ⟨_, rfl⟩
      have hNH : Hid (ns i = N) := hN
      rw [hN] at cq hni
      clear hv hpos hvi hN
      go_wp2
      obtain ⟨wo, rfl⟩ : ∃ wo, wo = wr := ⟨_, rfl⟩
      clear cq
      go_loopw [5, 22] (fun _ sj wx => ∃ (j : Nat) (l2 : Nat → List Value), j ≤ N ∧ sj = .int .i64 (j : Int) ∧ Hid (LsI wx m vs ns l2) ∧ Hid (∀ t, t < i → l2 t = mks t (ns t)) ∧ Hid ((l2 i).take j = mks i j) ∧ Hid (KT (Tb m vs) w wx)) (fun _ sj _ => N - (intOf sj).toNat)
      case atStart => exact ⟨0, ls', Nat.zero_le _, rfl, hL', hM, by rw [List.take_zero]; rfl, hK⟩
      case round =>
        clear hL' hM hK
        obtain ⟨j, l2, hj, rfl, hL2, hM2, hT2, hK2⟩ := hrel
        by_cases hlj : j < N
        · have hlj' : (j : Int) < (N : Int) := by omega
          obtain ⟨g, rfl⟩ := hpH.out (by rw [hNH.out]; omega)
          have hrow := hL2.out.row i hlt
          rw [hvH.out, hNH.out] at hrow
          have hst := hrow.stored j (.int .i64 (mkv i j))
          have hlen : (l2 i).length = N := by have := hrow.1; omega
          have cj : wr.cell? ⟨g, j, none⟩ = some ((l2 i)[j]'(by omega)) := by
            rw [hrow.cellAt j (by omega), List.getElem?_eq_getElem (by omega)]
          have fj : wr.frozen? ⟨g, j, none⟩ = false := hrow.frozenAt j
          have hL3 : Hid (LsI (wr.setCell ⟨g, j, none⟩ (.int .i64 (mkv i j))) m vs ns (upd l2 i ((l2 i).set j (.int .i64 (mkv i j))))) := by
            have := hL2.out.turn i hlt (vs i) (ns i) ((l2 i).set j (.int .i64 (mkv i j))) (by rw [hvH.out, hNH.out]; exact hst.1) (Or.inl ⟨rfl, by rw [hvH.out]; exact hst.2⟩)
            rw [upd_self, upd_self] at this
            exact this
          have hM3 : Hid (∀ t, t < i → upd l2 i ((l2 i).set j (.int .i64 (mkv i j))) t = mks t (ns t)) := fun t ht => by rw [upd_ne _ _ (by omega)]; exact hM2.out t ht
          have hT3 : Hid ((upd l2 i ((l2 i).set j (.int .i64 (mkv i j))) i).take (j + 1) = mks i (j + 1)) := (by
            rw [upd_same, take_set_snoc (by omega), hT2.out, mks_snoc] : (upd l2 i ((l2 i).set j (.int .i64 (mkv i j))) i).take (j + 1) = mks i (j + 1))
          have hK3 : Hid (KT (Tb m vs) w (wr.setCell ⟨g, j, none⟩ (.int .i64 (mkv i j)))) := hK2.out.trans (KT.grown hst.2 (fun b hb => ⟨i, hlt, by rw [hvH.out]; simpa [Value.ownBlock] using hb⟩))
          generalize (l2 i)[j]'(by omega) = old at cj
          clear hst hrow hlen
          go_wp2_with fail
          refine (mark_c i j _ (by omega) (by omega)).mono ?_
          rintro e w' ⟨rfl, rfl⟩
          go_wp2_with fail
          go_roundw
          case rel => exact ⟨j + 1, _, by omega, by go_num, hL3, hM3, hT3, hK3⟩
          case measure => simp [intOf]; omega
        · have hlj' : decide ((j : Int) < (N : Int)) = false := decide_eq_false (by omega)
          have hM4 : Hid (∀ t, t < i + 1 → l2 t = mks t (ns t)) := fun t ht => by
            by_cases e : t = i
            · subst e
              have hrow := hL2.out.row t hlt
              have h1 := hT2.out
              have hl := hrow.1
              rw [Nat.mul_one] at hl
              have e2 : j = ns t := by rw [hNH.out]; omega
              rw [e2, ← hl, List.take_length, hl] at h1
              exact h1
            · exact hM2.out t (by omega)
          go_wp2
          go_roundw
          case rel => exact ⟨i + 1, l2, by omega, by go_num, hL2, hM4, hK2⟩
          case measure => simp [intOf]; omega
    · have hlt' : decide ((i : Int) < (m : Int)) = false := decide_eq_false (by omega)
      have ei : i = m := by omega
      have hL4 : Hid (LsI wr m vs ns (fun t => mks t (ns t))) := hL'.out.congr (fun t ht => hM.out t (by omega))
      clear hL' hM
      obtain ⟨i1, hi1, hzz0, hzz1, hzz2⟩ := info_parts infoLI
      have hqs : Hid (q < wr.heap.size) := Nat.lt_of_lt_of_le hqw hK.out.size
      have hqc : Hid (∀ t, t < m → wr.cell? ⟨q, t, none⟩ = some (vs t)) := fun t ht => (hK.out.cell (p := ⟨q, t, none⟩) hqw hqT.out).trans (hq.out t ht)
      obtain ⟨wo, rfl⟩ : ∃ wo, wo = wr := ⟨_, rfl⟩
      go_wp2_with (at_builtin; refine wpList_append_own _ rfl _ _ 42 rfl wo.heap.size 22 i1 (.slice none 0 0) 1 24 Tryd.underlying42 hi1 hzz0 hzz1 hzz2 rfl (by decide) _ _ _ rfl (emptyRow wo) ⟨q, 0, none⟩ m cap ((List.range m).map vs) rfl ?c0 ?c1 ?c2 ?c3 ?c4 ?c5 ?_)
      case c0 => simp
      case c1 =>
        intro j u hj
        have hjm : j < m := by have := (List.getElem?_eq_some_iff.1 hj).1; simpa using this
        have hu : vs j = u := by simpa [hjm] using hj
        rw [← hu]
        have e : (⟨q, 0, none⟩ : Addr).add j = ⟨q, j, none⟩ := by
          unfold Addr.add
          by_cases j0 : j = 0
          · subst j0; simp
          · simp [j0]
        rw [e]
        exact (World.cell?_alloc_lt wo _ ⟨q, j, none⟩ hqs.out).trans (hqc.out j hjm)
      case c2 =>
        intro u hu
        obtain ⟨t, ht, rfl⟩ := List.mem_map.1 hu
        obtain ⟨ao, c, hv, _⟩ := hL4.out.form (List.mem_range.1 ht)
        rw [hv]; rfl
      case c3 => unfold maxLen; omega
      case c4 => omega
      case c5 => simp
      · intro v' w1 hown' hgrow hnil
        obtain ⟨G, cG, rfl⟩ : ∃ G cG, v' = .slice (some ⟨G, 0, none⟩) m cG := by
          rcases hown'.2 with ⟨_, h⟩ | ⟨g, c, _, h, _⟩
          · omega
          · exact ⟨g, c, h⟩
        have hGl := hown'.lt G rfl
        have hold : ∀ t, t < m → ∀ b, (vs t).ownBlock = some b → b < w.heap.size := fun t ht b hb => ((hL.out.row t ht).lt b hb).2
        have hSt : Hid (StI m G cG vs ns w w1 vs ns) := by
          have hsz := hK.out.size
          refine ⟨⟨fun t ht => ?_, hL4.out.ap⟩, fun t ht => .inl rfl, fun t ht b hb => ⟨.inl ⟨t, ht, hb⟩, ?_⟩, ?_, ?_, fun t _ => Nat.le_refl _, hold⟩
          · have h1 := ((hL4.out.row t ht).alloc (.cells #[] 22))
            refine h1.kept hgrow ?_
            cases e : (vs t).ownBlock with
            | none => exact .inl rfl
            | some b =>
              have := hold t ht b e
              exact .inr (fun c => by simp [Value.ownBlock] at c; omega)
          · have := hold t ht b hb
            omega
          · obtain ⟨x1, x2⟩ := hown'
            exact ⟨x1, x2.imp id (fun ⟨g, c, cu, y1, y2, y3⟩ => ⟨g, c, cu, y1, by omega, y3⟩)⟩
          · refine hK.out.trans ⟨hgrow.os, hgrow.tape, hgrow.output, by have := hgrow.size; simp at this; omega, fun k hk hT => ?_⟩
            have h2 := hgrow.block k (by simp; omega) (fun c => by simp [Value.ownBlock] at c; omega)
            rw [h2, Below.heap_alloc wo _ k hk]
        clear hown' hgrow hnil hL4 hold hqc hqs hGl
        go_wp2
        clear hlt'
        go_loopw [7, 8, 9, 42] (fun s7 _ _ _ wx => ∃ (k : Nat) (gs : Nat → Value), k ≤ 80 ∧ s7 = .int .i64 (k : Int) ∧ Hid (StI m G cG vs ns w wx gs (fun t => ns t + k))) (fun s7 _ _ _ _ => 80 - (intOf s7).toNat)
        case atStart => exact ⟨0, vs, by omega, rfl, hSt⟩
        case round =>
          clear hSt
          obtain ⟨k, gs, hk, rfl, hS⟩ := hrel
          by_cases hk80 : k < 80
          · have hk' : (k : Int) < 80 := by omega
            go_wp2
            clear hk'
            go_loopw [8, 9, 42] (fun _ _ si wx => ∃ (i : Nat) (g2 : Nat → Value), i ≤ m ∧ si = .int .i64 (i : Int) ∧ Hid (StI m G cG vs ns w wx g2 (fun t => ns t + k + if t < i then 1 else 0))) (fun _ _ si _ => m - (intOf si).toNat)
            case atStart => exact ⟨0, gs, Nat.zero_le _, rfl, hS.out.congr (fun t _ => by simp)⟩
            case round =>
              clear hS gs
              obtain ⟨i, gs, hi, rfl, hS⟩ := hrel
              by_cases hlt : i < m
              · have hlt' : (i : Int) < (m : Int) := by omega
                have hcg := hS.out.R.cellAt i (by omega)
                have cg0 : wr.cell? ⟨G, i, none⟩ = some (gs i) := by rw [hcg]; simp [hlt]
                obtain ⟨ao, ci, hv, hpos⟩ := hS.out.L.form hlt
                obtain ⟨N, hN⟩ : ∃ N, ns i + k = N := ⟨_, rfl⟩
                have hNH : Hid (ns i + k = N) := hN
                have hni := hns.out i
                have hNl : N ≤ 1099511627856 := by omega
                have hN2 : ns i + k + (if i < i then 1 else 0) = N := by simp [hN]
                have hrow : Hid (wr.ownsRow 0 3 1 (gs i) N (mks i N)) := (by have := hS.out.L.row i hlt; rw [hN2] at this; exact this : wr.ownsRow 0 3 1 (gs i) N (mks i N))
                rw [hN2] at hv
                have hgsi : Hid (gs i = .slice ao N ci) := hv
                have cg : wr.cell? ⟨G, i, none⟩ = some (.slice ao N ci) := by rw [cg0, hv]
                have hGw : Hid (G < wr.heap.size) := hS.out.Glt.2
                have hrow2 : Hid ((wr.alloc (.cells #[.int .i64 (mkv i N)] 3)).ownsRow 0 3 1 (.slice ao N ci) N (mks i N)) := (by have := hrow.out.alloc (.cells #[.int .i64 (mkv i N)] 3); rw [hv] at this; exact this : (wr.alloc (.cells #[.int .i64 (mkv i N)] 3)).ownsRow 0 3 1 (.slice ao N ci) N (mks i N))
                clear hcg cg0 hv hpos hN2 hN
                go_wp2_with fail
                refine wp_region_held_drew (S := fun _ => True) (by kernel_rfl) trivial (fun hHeld => ?_)
                refine wpAnyH_take (i := 0) (oi := { dst := some 50, op := Go.Op.move (Go.Operand.tmp 6), type := 42, pos := "mem.go:156", after := #[], guard := none }) (v := .slice (some ⟨G, 0, none⟩) m cG) rfl (by kernel_rfl) (by kernel_rfl) (by kernel_rfl) (fun _ _ _ h => h) (Or.inl ⟨by kernel_rfl, ?_⟩) hHeld ?_
                · intro W hW
                  go_simp
                simp only [Act.put, List.setIfInBounds_toArray, List.set_cons_zero, List.set_cons_succ]
                refine wpAnyH_take (i := 1) (oi := { dst := some 51, op := Go.Op.move (Go.Operand.tmp 8), type := 3, pos := "mem.go:156", after := #[], guard := none }) (v := .int .i64 (i : Int)) rfl (by kernel_rfl) (by kernel_rfl) (by kernel_rfl) (fun _ _ _ h => h) (Or.inl ⟨by kernel_rfl, ?_⟩) hHeld ?_
                · intro W hW
                  go_simp
                simp only [Act.put, List.setIfInBounds_toArray, List.set_cons_zero, List.set_cons_succ]
                refine wpAnyH_take (i := 2) (oi := { dst := some 52, op := Go.Op.move (Go.Operand.tmp 6), type := 42, pos := "mem.go:156", after := #[], guard := none }) (v := .slice (some ⟨G, 0, none⟩) m cG) rfl (by kernel_rfl) (by kernel_rfl) (by kernel_rfl) (fun _ _ _ h => h) (Or.inl ⟨by kernel_rfl, ?_⟩) hHeld ?_
                · intro W hW
                  go_simp
                simp only [Act.put, List.setIfInBounds_toArray, List.set_cons_zero, List.set_cons_succ]
                refine wpAnyH_take (i := 3) (oi := { dst := some 53, op := Go.Op.move (Go.Operand.tmp 8), type := 3, pos := "mem.go:156", after := #[], guard := none }) (v := .int .i64 (i : Int)) rfl (by kernel_rfl) (by kernel_rfl) (by kernel_rfl) (fun _ _ _ h => h) (Or.inl ⟨by kernel_rfl, ?_⟩) hHeld ?_
                · intro W hW
                  go_simp
                simp only [Act.put, List.setIfInBounds_toArray, List.set_cons_zero, List.set_cons_succ]
                refine wpAnyH_take (i := 4) (oi := { dst := some 54, op := Go.Op.indexAddr 42 (Go.Operand.tmp 52) (Go.Operand.tmp 53), type := 0, pos := "mem.go:156", after := #[{ on := 2, ground := Go.Ground.data }, { on := 3, ground := Go.Ground.data }], guard := none }) (v := .pointer (some ⟨G, i, none⟩)) rfl (by kernel_rfl) (by kernel_rfl) (by kernel_rfl) (fun _ _ _ h => h) (Or.inl ⟨by kernel_rfl, ?_⟩) hHeld ?_
                · intro W hW
                  go_simp
                simp only [Act.put, List.setIfInBounds_toArray, List.set_cons_zero, List.set_cons_succ]
                refine wpAnyH_take (i := 6) (oi := { dst := some 56, op := Go.Op.move (Go.Operand.tmp 8), type := 3, pos := "mem.go:156", after := #[], guard := none }) (v := .int .i64 (i : Int)) rfl (by kernel_rfl) (by kernel_rfl) (by kernel_rfl) (fun _ _ _ h => h) (Or.inl ⟨by kernel_rfl, ?_⟩) hHeld ?_
                · intro W hW
                  go_simp
                simp only [Act.put, List.setIfInBounds_toArray, List.set_cons_zero, List.set_cons_succ]
                refine wpAnyH_take (i := 7) (oi := { dst := some 57, op := Go.Op.move (Go.Operand.tmp 9), type := 3, pos := "mem.go:156", after := #[], guard := none }) (v := .int .i64 (N : Int)) rfl (by kernel_rfl) (by kernel_rfl) (by kernel_rfl) (fun _ _ _ h => h) (Or.inl ⟨by kernel_rfl, ?_⟩) hHeld ?_
                · intro W hW
                  go_simp
                simp only [Act.put, List.setIfInBounds_toArray, List.set_cons_zero, List.set_cons_succ]
                refine wpAnyH_ready (rs := [5, 8]) (by kernel_rfl) (by simp) ?_
                refine AllReadyH.cons (o := { dst := some 55, op := Go.Op.load 22 (Go.Operand.tmp 54), type := 22, pos := "mem.go:156", after := #[{ on := 4, ground := Go.Ground.data }], guard := none }) rfl (fun K0 hK0 => ?_) ?_
                · rw [if_pos (by kernel_rfl)]
                  go_wp2_with fail
                  refine hK0.out _ _ trivial (fun hHeld => ?_)
                  clear hK0 K0
                  try simp only [Act.put, List.setIfInBounds_toArray, List.set_cons_zero, List.set_cons_succ]
                  refine wpAnyH_ready (rs := [8]) (by kernel_rfl) (by simp) ?_
                  refine AllReadyH.cons (o := { dst := some 58, op := Go.Op.call { callee := Go.Callee.value (Go.Operand.func 26), args := #[Go.Operand.tmp 56, Go.Operand.tmp 57], argTypes := #[3, 3] }, type := 3, pos := "mem.go:156", after := #[{ on := 6, ground := Go.Ground.data }, { on := 7, ground := Go.Ground.data }], guard := none }) rfl (fun K0 hK0 => ?_) ?_
                  · rw [if_pos (by kernel_rfl)]
                    go_wp2_with fail
                    refine (mark_c i N _ (by omega) (by omega)).mono ?_
                    rintro e w' ⟨rfl, rfl⟩
                    refine hK0.out _ _ trivial (fun hHeld => ?_)
                    clear hK0 K0
                    try simp only [Act.put, List.setIfInBounds_toArray, List.set_cons_zero, List.set_cons_succ]
                    refine wpAnyH_ready (rs := [9]) (by kernel_rfl) (by simp) ?_
                    refine AllReadyH.cons (o := { dst := some 59, op := Go.Op.buildSlice 22 1 #[(0, Go.Operand.tmp 58)], type := 22, pos := "mem.go:156", after := #[{ on := 8, ground := Go.Ground.data }], guard := none }) rfl (fun K0 hK0 => ?_) ?_
                    · rw [if_pos (by kernel_rfl)]
                      go_wp2_with fail
                      refine hK0.out _ _ trivial (fun hHeld => ?_)
                      clear hK0 K0
                      try simp only [Act.put, List.setIfInBounds_toArray, List.set_cons_zero, List.set_cons_succ]
                      refine wpAnyH_ready (rs := [10]) (by kernel_rfl) (by simp) ?_
                      refine AllReadyH.cons (o := { dst := some 60, op := Go.Op.call { callee := Go.Callee.builtin Go.Builtin.append, args := #[Go.Operand.tmp 55, Go.Operand.tmp 59], argTypes := #[22, 22] }, type := 22, pos := "mem.go:156", after := #[{ on := 5, ground := Go.Ground.data }, { on := 9, ground := Go.Ground.data }, { on := 8, ground := Go.Ground.chain }], guard := none }) rfl (fun K0 hK0 => ?_) ?_
                      · rw [if_pos (by kernel_rfl)]
                        refine stepI _ _ _ (.slice ao N ci) N (mks i N) (.int .i64 (mkv i N)) wr.heap.size rfl rfl rfl rfl hrow2.out (cell_new1 _ _ _) (by omega) ?_
                        intro v5 w5 ho5 hg5
                        have hS1 : StI m G cG vs ns w (wr.alloc (.cells #[.int .i64 (mkv i N)] 3)).drew gs (fun t => ns t + k + if t < i then 1 else 0) := hS.out.quiet ⟨rfl, rfl, rfl, by simp, fun k hk _ => Below.heap_alloc wr _ k hk⟩
                        have hS5 : Hid (StI m G cG vs ns w (w5.setCell ⟨G, i, none⟩ v5) (upd gs i v5) (upd (fun t => ns t + k + if t < i then 1 else 0) i ((fun t => ns t + k + if t < i then 1 else 0) i + 1))) := hS1.step i hlt v5 (by
                          have e : ns i + k + (if i < i then 1 else 0) = N := by simp [hNH.out]
                          show w5.ownsRow 0 3 1 v5 (ns i + k + (if i < i then 1 else 0) + 1) (mks i (ns i + k + (if i < i then 1 else 0) + 1))
                          rw [e, mks_snoc]; exact ho5) (by rw [hgsi.out]; exact hg5)
                        have cg5 : w5.cell? ⟨G, i, none⟩ = some (.slice ao N ci) := by
                          have c0 : (wr.alloc (.cells #[.int .i64 (mkv i N)] 3)).drew.cell? ⟨G, i, none⟩ = some (.slice ao N ci) := (World.cell?_alloc_lt wr _ ⟨G, i, none⟩ hGw.out).trans cg
                          rcases hg5 with ⟨_, g⟩ | ⟨_, g⟩
                          · refine g.cell c0 (fun c => ?_)
                            have := (hS.out.B i hlt G (by rw [hgsi.out]; exact c.symm)).2
                            exact this rfl
                          · exact g.cell c0 (by simp)
                        have fg5 : w5.frozen? ⟨G, i, none⟩ = false := by
                          have := hS5.out.R.frozenAt i
                          rwa [World.frozen?_setCell] at this
                        obtain ⟨ao5, c5, rfl⟩ : ∃ ao5 c5, v5 = .slice ao5 (N + 1) c5 := by
                          rcases ho5.2 with ⟨_, h⟩ | ⟨g, c, _, h, _⟩
                          · omega
                          · exact ⟨_, c, h⟩
                        clear hS1 ho5 hg5
                        refine hK0.out _ _ trivial (fun hHeld => ?_)
                        clear hK0 K0
                        try simp only [Act.put, List.setIfInBounds_toArray, List.set_cons_zero, List.set_cons_succ]
                        refine wpAnyH_take (i := 11) (oi := { dst := some 61, op := Go.Op.indexAddr 42 (Go.Operand.tmp 50) (Go.Operand.tmp 51), type := 0, pos := "mem.go:156", after := #[{ on := 0, ground := Go.Ground.data }, { on := 1, ground := Go.Ground.data }, { on := 0, ground := Go.Ground.phase }, { on := 1, ground := Go.Ground.phase }, { on := 2, ground := Go.Ground.phase }, { on := 3, ground := Go.Ground.phase }, { on := 4, ground := Go.Ground.phase }, { on := 5, ground := Go.Ground.phase }, { on := 6, ground := Go.Ground.phase }, { on := 7, ground := Go.Ground.phase }, { on := 8, ground := Go.Ground.phase }, { on := 9, ground := Go.Ground.phase }, { on := 10, ground := Go.Ground.phase }], guard := none }) (v := .pointer (some ⟨G, i, none⟩)) rfl (by kernel_rfl) (by kernel_rfl) (by kernel_rfl) (fun _ _ _ h => h) (Or.inl ⟨by kernel_rfl, ?_⟩) hHeld ?_
                        · intro W hW
                          go_simp
                        simp only [Act.put, List.setIfInBounds_toArray, List.set_cons_zero, List.set_cons_succ]
                        refine wpAnyH_ready (rs := [12]) (by kernel_rfl) (by simp) ?_
                        refine AllReadyH.cons (o := { dst := none, op := Go.Op.store 22 (Go.Operand.tmp 61) (Go.Operand.tmp 60), type := 0, pos := "mem.go:156", after := #[{ on := 11, ground := Go.Ground.data }, { on := 10, ground := Go.Ground.data }, { on := 10, ground := Go.Ground.chain }, { on := 0, ground := Go.Ground.phase }, { on := 1, ground := Go.Ground.phase }, { on := 2, ground := Go.Ground.phase }, { on := 3, ground := Go.Ground.phase }, { on := 4, ground := Go.Ground.phase }, { on := 5, ground := Go.Ground.phase }, { on := 6, ground := Go.Ground.phase }, { on := 7, ground := Go.Ground.phase }, { on := 8, ground := Go.Ground.phase }, { on := 9, ground := Go.Ground.phase }, { on := 10, ground := Go.Ground.phase }], guard := none }) rfl (fun K0 hK0 => ?_) ?_
                        · rw [if_pos (by kernel_rfl)]
                          go_wp2_with fail
                          refine hK0.out _ _ trivial (fun hHeld => ?_)
                          clear hK0 K0
                          try simp only [Act.put, List.setIfInBounds_toArray, List.set_cons_zero, List.set_cons_succ]
                          refine wpAnyH_done (by kernel_rfl) ?_ _
                          have hS6 : Hid (StI m G cG vs ns w (w5.setCell ⟨G, i, none⟩ (.slice ao5 (N + 1) c5)) (upd gs i (.slice ao5 (N + 1) c5)) (fun t => ns t + k + if t < i + 1 then 1 else 0)) := hS5.out.congr (fun t ht => by
                            unfold upd
                            by_cases e : t = i
                            · subst e; simp
                            · rw [if_neg e]
                              show ns t + k + (if t < i then 1 else 0) = _
                              by_cases e2 : t < i
                              · rw [if_pos e2, if_pos (by omega)]
                              · rw [if_neg e2, if_neg (by omega)])
                          clear hS5 cg5 fg5
                          go_wp2
                          go_roundw
                          case rel => exact ⟨i + 1, _, by omega, by go_num, hS6⟩
                          case measure => simp [intOf]; omega
                        exact AllReadyH.nil
                      exact AllReadyH.nil
                    exact AllReadyH.nil
                  exact AllReadyH.nil
                refine AllReadyH.cons (o := { dst := some 58, op := Go.Op.call { callee := Go.Callee.value (Go.Operand.func 26), args := #[Go.Operand.tmp 56, Go.Operand.tmp 57], argTypes := #[3, 3] }, type := 3, pos := "mem.go:156", after := #[{ on := 6, ground := Go.Ground.data }, { on := 7, ground := Go.Ground.data }], guard := none }) rfl (fun K0 hK0 => ?_) ?_
                · rw [if_pos (by kernel_rfl)]
                  go_wp2_with fail
                  refine (mark_c i N _ (by omega) (by omega)).mono ?_
                  rintro e w' ⟨rfl, rfl⟩
                  refine hK0.out _ _ trivial (fun hHeld => ?_)
                  clear hK0 K0
                  try simp only [Act.put, List.setIfInBounds_toArray, List.set_cons_zero, List.set_cons_succ]
                  refine wpAnyH_ready (rs := [5, 9]) (by kernel_rfl) (by simp) ?_
                  refine AllReadyH.cons (o := { dst := some 55, op := Go.Op.load 22 (Go.Operand.tmp 54), type := 22, pos := "mem.go:156", after := #[{ on := 4, ground := Go.Ground.data }], guard := none }) rfl (fun K0 hK0 => ?_) ?_
                  · rw [if_pos (by kernel_rfl)]
                    go_wp2_with fail
                    refine hK0.out _ _ trivial (fun hHeld => ?_)
                    clear hK0 K0
                    try simp only [Act.put, List.setIfInBounds_toArray, List.set_cons_zero, List.set_cons_succ]
                    refine wpAnyH_ready (rs := [9]) (by kernel_rfl) (by simp) ?_
                    refine AllReadyH.cons (o := { dst := some 59, op := Go.Op.buildSlice 22 1 #[(0, Go.Operand.tmp 58)], type := 22, pos := "mem.go:156", after := #[{ on := 8, ground := Go.Ground.data }], guard := none }) rfl (fun K0 hK0 => ?_) ?_
                    · rw [if_pos (by kernel_rfl)]
                      go_wp2_with fail
                      refine hK0.out _ _ trivial (fun hHeld => ?_)
                      clear hK0 K0
                      try simp only [Act.put, List.setIfInBounds_toArray, List.set_cons_zero, List.set_cons_succ]
                      refine wpAnyH_ready (rs := [10]) (by kernel_rfl) (by simp) ?_
                      refine AllReadyH.cons (o := { dst := some 60, op := Go.Op.call { callee := Go.Callee.builtin Go.Builtin.append, args := #[Go.Operand.tmp 55, Go.Operand.tmp 59], argTypes := #[22, 22] }, type := 22, pos := "mem.go:156", after := #[{ on := 5, ground := Go.Ground.data }, { on := 9, ground := Go.Ground.data }, { on := 8, ground := Go.Ground.chain }], guard := none }) rfl (fun K0 hK0 => ?_) ?_
                      · rw [if_pos (by kernel_rfl)]
                        refine stepI _ _ _ (.slice ao N ci) N (mks i N) (.int .i64 (mkv i N)) wr.heap.size rfl rfl rfl rfl hrow2.out (cell_new1 _ _ _) (by omega) ?_
                        intro v5 w5 ho5 hg5
                        have hS1 : StI m G cG vs ns w (wr.alloc (.cells #[.int .i64 (mkv i N)] 3)).drew gs (fun t => ns t + k + if t < i then 1 else 0) := hS.out.quiet ⟨rfl, rfl, rfl, by simp, fun k hk _ => Below.heap_alloc wr _ k hk⟩
                        have hS5 : Hid (StI m G cG vs ns w (w5.setCell ⟨G, i, none⟩ v5) (upd gs i v5) (upd (fun t => ns t + k + if t < i then 1 else 0) i ((fun t => ns t + k + if t < i then 1 else 0) i + 1))) := hS1.step i hlt v5 (by
                          have e : ns i + k + (if i < i then 1 else 0) = N := by simp [hNH.out]
                          show w5.ownsRow 0 3 1 v5 (ns i + k + (if i < i then 1 else 0) + 1) (mks i (ns i + k + (if i < i then 1 else 0) + 1))
                          rw [e, mks_snoc]; exact ho5) (by rw [hgsi.out]; exact hg5)
                        have cg5 : w5.cell? ⟨G, i, none⟩ = some (.slice ao N ci) := by
                          have c0 : (wr.alloc (.cells #[.int .i64 (mkv i N)] 3)).drew.cell? ⟨G, i, none⟩ = some (.slice ao N ci) := (World.cell?_alloc_lt wr _ ⟨G, i, none⟩ hGw.out).trans cg
                          rcases hg5 with ⟨_, g⟩ | ⟨_, g⟩
                          · refine g.cell c0 (fun c => ?_)
                            have := (hS.out.B i hlt G (by rw [hgsi.out]; exact c.symm)).2
                            exact this rfl
                          · exact g.cell c0 (by simp)
                        have fg5 : w5.frozen? ⟨G, i, none⟩ = false := by
                          have := hS5.out.R.frozenAt i
                          rwa [World.frozen?_setCell] at this
                        obtain ⟨ao5, c5, rfl⟩ : ∃ ao5 c5, v5 = .slice ao5 (N + 1) c5 := by
                          rcases ho5.2 with ⟨_, h⟩ | ⟨g, c, _, h, _⟩
                          · omega
                          · exact ⟨_, c, h⟩
                        clear hS1 ho5 hg5
                        refine hK0.out _ _ trivial (fun hHeld => ?_)
                        clear hK0 K0
                        try simp only [Act.put, List.setIfInBounds_toArray, List.set_cons_zero, List.set_cons_succ]
                        refine wpAnyH_take (i := 11) (oi := { dst := some 61, op := Go.Op.indexAddr 42 (Go.Operand.tmp 50) (Go.Operand.tmp 51), type := 0, pos := "mem.go:156", after := #[{ on := 0, ground := Go.Ground.data }, { on := 1, ground := Go.Ground.data }, { on := 0, ground := Go.Ground.phase }, { on := 1, ground := Go.Ground.phase }, { on := 2, ground := Go.Ground.phase }, { on := 3, ground := Go.Ground.phase }, { on := 4, ground := Go.Ground.phase }, { on := 5, ground := Go.Ground.phase }, { on := 6, ground := Go.Ground.phase }, { on := 7, ground := Go.Ground.phase }, { on := 8, ground := Go.Ground.phase }, { on := 9, ground := Go.Ground.phase }, { on := 10, ground := Go.Ground.phase }], guard := none }) (v := .pointer (some ⟨G, i, none⟩)) rfl (by kernel_rfl) (by kernel_rfl) (by kernel_rfl) (fun _ _ _ h => h) (Or.inl ⟨by kernel_rfl, ?_⟩) hHeld ?_
                        · intro W hW
                          go_simp
                        simp only [Act.put, List.setIfInBounds_toArray, List.set_cons_zero, List.set_cons_succ]
                        refine wpAnyH_ready (rs := [12]) (by kernel_rfl) (by simp) ?_
                        refine AllReadyH.cons (o := { dst := none, op := Go.Op.store 22 (Go.Operand.tmp 61) (Go.Operand.tmp 60), type := 0, pos := "mem.go:156", after := #[{ on := 11, ground := Go.Ground.data }, { on := 10, ground := Go.Ground.data }, { on := 10, ground := Go.Ground.chain }, { on := 0, ground := Go.Ground.phase }, { on := 1, ground := Go.Ground.phase }, { on := 2, ground := Go.Ground.phase }, { on := 3, ground := Go.Ground.phase }, { on := 4, ground := Go.Ground.phase }, { on := 5, ground := Go.Ground.phase }, { on := 6, ground := Go.Ground.phase }, { on := 7, ground := Go.Ground.phase }, { on := 8, ground := Go.Ground.phase }, { on := 9, ground := Go.Ground.phase }, { on := 10, ground := Go.Ground.phase }], guard := none }) rfl (fun K0 hK0 => ?_) ?_
                        · rw [if_pos (by kernel_rfl)]
                          go_wp2_with fail
                          refine hK0.out _ _ trivial (fun hHeld => ?_)
                          clear hK0 K0
                          try simp only [Act.put, List.setIfInBounds_toArray, List.set_cons_zero, List.set_cons_succ]
                          refine wpAnyH_done (by kernel_rfl) ?_ _
                          have hS6 : Hid (StI m G cG vs ns w (w5.setCell ⟨G, i, none⟩ (.slice ao5 (N + 1) c5)) (upd gs i (.slice ao5 (N + 1) c5)) (fun t => ns t + k + if t < i + 1 then 1 else 0)) := hS5.out.congr (fun t ht => by
                            unfold upd
                            by_cases e : t = i
                            · subst e; simp
                            · rw [if_neg e]
                              show ns t + k + (if t < i then 1 else 0) = _
                              by_cases e2 : t < i
                              · rw [if_pos e2, if_pos (by omega)]
                              · rw [if_neg e2, if_neg (by omega)])
                          clear hS5 cg5 fg5
                          go_wp2
                          go_roundw
                          case rel => exact ⟨i + 1, _, by omega, by go_num, hS6⟩
                          case measure => simp [intOf]; omega
                        exact AllReadyH.nil
                      exact AllReadyH.nil
                    exact AllReadyH.nil
                  refine AllReadyH.cons (o := { dst := some 59, op := Go.Op.buildSlice 22 1 #[(0, Go.Operand.tmp 58)], type := 22, pos := "mem.go:156", after := #[{ on := 8, ground := Go.Ground.data }], guard := none }) rfl (fun K0 hK0 => ?_) ?_
                  · rw [if_pos (by kernel_rfl)]
                    go_wp2_with fail
                    refine hK0.out _ _ trivial (fun hHeld => ?_)
                    clear hK0 K0
                    try simp only [Act.put, List.setIfInBounds_toArray, List.set_cons_zero, List.set_cons_succ]
                    refine wpAnyH_ready (rs := [5]) (by kernel_rfl) (by simp) ?_
                    refine AllReadyH.cons (o := { dst := some 55, op := Go.Op.load 22 (Go.Operand.tmp 54), type := 22, pos := "mem.go:156", after := #[{ on := 4, ground := Go.Ground.data }], guard := none }) rfl (fun K0 hK0 => ?_) ?_
                    · rw [if_pos (by kernel_rfl)]
                      have cgA : (wr.alloc (.cells #[.int .i64 (mkv i N)] 3)).cell? ⟨G, i, none⟩ = some (.slice ao N ci) := (World.cell?_alloc_lt wr _ ⟨G, i, none⟩ hGw.out).trans cg
                      go_wp2_with fail
                      clear cgA
                      refine hK0.out _ _ trivial (fun hHeld => ?_)
                      clear hK0 K0
                      try simp only [Act.put, List.setIfInBounds_toArray, List.set_cons_zero, List.set_cons_succ]
                      refine wpAnyH_ready (rs := [10]) (by kernel_rfl) (by simp) ?_
                      refine AllReadyH.cons (o := { dst := some 60, op := Go.Op.call { callee := Go.Callee.builtin Go.Builtin.append, args := #[Go.Operand.tmp 55, Go.Operand.tmp 59], argTypes := #[22, 22] }, type := 22, pos := "mem.go:156", after := #[{ on := 5, ground := Go.Ground.data }, { on := 9, ground := Go.Ground.data }, { on := 8, ground := Go.Ground.chain }], guard := none }) rfl (fun K0 hK0 => ?_) ?_
                      · rw [if_pos (by kernel_rfl)]
                        refine stepI _ _ _ (.slice ao N ci) N (mks i N) (.int .i64 (mkv i N)) wr.heap.size rfl rfl rfl rfl hrow2.out (cell_new1 _ _ _) (by omega) ?_
                        intro v5 w5 ho5 hg5
                        have hS1 : StI m G cG vs ns w (wr.alloc (.cells #[.int .i64 (mkv i N)] 3)).drew gs (fun t => ns t + k + if t < i then 1 else 0) := hS.out.quiet ⟨rfl, rfl, rfl, by simp, fun k hk _ => Below.heap_alloc wr _ k hk⟩
                        have hS5 : Hid (StI m G cG vs ns w (w5.setCell ⟨G, i, none⟩ v5) (upd gs i v5) (upd (fun t => ns t + k + if t < i then 1 else 0) i ((fun t => ns t + k + if t < i then 1 else 0) i + 1))) := hS1.step i hlt v5 (by
                          have e : ns i + k + (if i < i then 1 else 0) = N := by simp [hNH.out]
                          show w5.ownsRow 0 3 1 v5 (ns i + k + (if i < i then 1 else 0) + 1) (mks i (ns i + k + (if i < i then 1 else 0) + 1))
                          rw [e, mks_snoc]; exact ho5) (by rw [hgsi.out]; exact hg5)
                        have cg5 : w5.cell? ⟨G, i, none⟩ = some (.slice ao N ci) := by
                          have c0 : (wr.alloc (.cells #[.int .i64 (mkv i N)] 3)).drew.cell? ⟨G, i, none⟩ = some (.slice ao N ci) := (World.cell?_alloc_lt wr _ ⟨G, i, none⟩ hGw.out).trans cg
                          rcases hg5 with ⟨_, g⟩ | ⟨_, g⟩
                          · refine g.cell c0 (fun c => ?_)
                            have := (hS.out.B i hlt G (by rw [hgsi.out]; exact c.symm)).2
                            exact this rfl
                          · exact g.cell c0 (by simp)
                        have fg5 : w5.frozen? ⟨G, i, none⟩ = false := by
                          have := hS5.out.R.frozenAt i
                          rwa [World.frozen?_setCell] at this
                        obtain ⟨ao5, c5, rfl⟩ : ∃ ao5 c5, v5 = .slice ao5 (N + 1) c5 := by
                          rcases ho5.2 with ⟨_, h⟩ | ⟨g, c, _, h, _⟩
                          · omega
                          · exact ⟨_, c, h⟩
                        clear hS1 ho5 hg5
                        refine hK0.out _ _ trivial (fun hHeld => ?_)
                        clear hK0 K0
                        try simp only [Act.put, List.setIfInBounds_toArray, List.set_cons_zero, List.set_cons_succ]
                        refine wpAnyH_take (i := 11) (oi := { dst := some 61, op := Go.Op.indexAddr 42 (Go.Operand.tmp 50) (Go.Operand.tmp 51), type := 0, pos := "mem.go:156", after := #[{ on := 0, ground := Go.Ground.data }, { on := 1, ground := Go.Ground.data }, { on := 0, ground := Go.Ground.phase }, { on := 1, ground := Go.Ground.phase }, { on := 2, ground := Go.Ground.phase }, { on := 3, ground := Go.Ground.phase }, { on := 4, ground := Go.Ground.phase }, { on := 5, ground := Go.Ground.phase }, { on := 6, ground := Go.Ground.phase }, { on := 7, ground := Go.Ground.phase }, { on := 8, ground := Go.Ground.phase }, { on := 9, ground := Go.Ground.phase }, { on := 10, ground := Go.Ground.phase }], guard := none }) (v := .pointer (some ⟨G, i, none⟩)) rfl (by kernel_rfl) (by kernel_rfl) (by kernel_rfl) (fun _ _ _ h => h) (Or.inl ⟨by kernel_rfl, ?_⟩) hHeld ?_
                        · intro W hW
                          go_simp
                        simp only [Act.put, List.setIfInBounds_toArray, List.set_cons_zero, List.set_cons_succ]
                        refine wpAnyH_ready (rs := [12]) (by kernel_rfl) (by simp) ?_
                        refine AllReadyH.cons (o := { dst := none, op := Go.Op.store 22 (Go.Operand.tmp 61) (Go.Operand.tmp 60), type := 0, pos := "mem.go:156", after := #[{ on := 11, ground := Go.Ground.data }, { on := 10, ground := Go.Ground.data }, { on := 10, ground := Go.Ground.chain }, { on := 0, ground := Go.Ground.phase }, { on := 1, ground := Go.Ground.phase }, { on := 2, ground := Go.Ground.phase }, { on := 3, ground := Go.Ground.phase }, { on := 4, ground := Go.Ground.phase }, { on := 5, ground := Go.Ground.phase }, { on := 6, ground := Go.Ground.phase }, { on := 7, ground := Go.Ground.phase }, { on := 8, ground := Go.Ground.phase }, { on := 9, ground := Go.Ground.phase }, { on := 10, ground := Go.Ground.phase }], guard := none }) rfl (fun K0 hK0 => ?_) ?_
                        · rw [if_pos (by kernel_rfl)]
                          go_wp2_with fail
                          refine hK0.out _ _ trivial (fun hHeld => ?_)
                          clear hK0 K0
                          try simp only [Act.put, List.setIfInBounds_toArray, List.set_cons_zero, List.set_cons_succ]
                          refine wpAnyH_done (by kernel_rfl) ?_ _
                          have hS6 : Hid (StI m G cG vs ns w (w5.setCell ⟨G, i, none⟩ (.slice ao5 (N + 1) c5)) (upd gs i (.slice ao5 (N + 1) c5)) (fun t => ns t + k + if t < i + 1 then 1 else 0)) := hS5.out.congr (fun t ht => by
                            unfold upd
                            by_cases e : t = i
                            · subst e; simp
                            · rw [if_neg e]
                              show ns t + k + (if t < i then 1 else 0) = _
                              by_cases e2 : t < i
                              · rw [if_pos e2, if_pos (by omega)]
                              · rw [if_neg e2, if_neg (by omega)])
                          clear hS5 cg5 fg5
                          go_wp2
                          go_roundw
                          case rel => exact ⟨i + 1, _, by omega, by go_num, hS6⟩
                          case measure => simp [intOf]; omega
                        exact AllReadyH.nil
                      exact AllReadyH.nil
                    exact AllReadyH.nil
                  exact AllReadyH.nil
                exact AllReadyH.nil
              · have hlt' : decide ((i : Int) < (m : Int)) = false := decide_eq_false (by omega)
                have hS2 : Hid (StI m G cG vs ns w wr gs (fun t => ns t + (k + 1))) := hS.out.congr (fun t ht => by rw [if_pos (by omega)]; omega)
                go_wp2
                go_roundw
                case rel => exact ⟨k + 1, gs, by omega, by go_num, hS2⟩
                case measure => simp [intOf]; omega
          · have hk' : decide ((k : Int) < 80) = false := decide_eq_false (by omega)
            have ek : k = 80 := by omega
            subst ek
            obtain ⟨wz, rfl⟩ : ∃ wz, wz = wr := ⟨_, rfl⟩
            have hqz : Hid (∀ t, t < m → wz.cell? ⟨q, t, none⟩ = some (vs t)) := fun t ht => (hS.out.K.cell (p := ⟨q, t, none⟩) hqw hqT.out).trans (hq.out t ht)
            go_wp2
            clear hk'
            go_loopw [10, 11, 12, 65] (fun _ _ _ si wx => ∃ (i x : Nat), i ≤ m ∧ si = .int .i64 (i : Int) ∧ wx = wz.drewN x) (fun _ _ _ si _ => m - (intOf si).toNat)
            case atStart => exact ⟨0, 0, Nat.zero_le _, rfl, rfl⟩
            case round =>
              obtain ⟨i, x, hi, rfl, rfl⟩ := hrel
              by_cases hlt : i < m
              · have hlt' : (i : Int) < (m : Int) := by omega
                have hni := hns.out i
                have cg : (wz.drewN x).cell? ⟨G, i, none⟩ = some (gs i) := by
                  have := hS.out.R.cellAt i (by omega)
                  rw [show (wz.drewN x).cell? ⟨G, i, none⟩ = wz.cell? ⟨G, i, none⟩ from rfl, this]; simp [hlt]
                obtain ⟨ao, ci, hv, hpos⟩ := hS.out.L.form hlt
                obtain ⟨g, rfl⟩ := hpos (by omega)
                obtain ⟨N, hN⟩ : ∃ N, ns i + 80 = N := ⟨_, rfl⟩
                have hrow : Hid (wz.ownsRow 0 3 1 (.slice (some ⟨g, 0, none⟩) N ci) N (mks i N)) := (by have := hS.out.L.row i hlt; rw [hv] at this; simp only [hN] at this; exact this : wz.ownsRow 0 3 1 (.slice (some ⟨g, 0, none⟩) N ci) N (mks i N))
                have hvg : Hid (gs i = .slice (some ⟨g, 0, none⟩) N ci) := (by rw [hv, hN] : gs i = .slice (some ⟨g, 0, none⟩) N ci)
                rw [hvg.out] at cg
                have hNl : N ≤ 1099511627856 := by omega
                have hNH : Hid (ns i + 80 = N) := hN
                obtain ⟨aq, cq, hw0, hpw⟩ := hL.out.form hlt
                have hvq : Hid (vs i = .slice aq (ns i) cq) := hw0
                have hpq : Hid (0 < ns i → ∃ b, aq = some ⟨b, 0, none⟩) := hpw
                obtain ⟨n0, hn0⟩ : ∃ n0, ns i = n0 := ⟨_, rfl⟩
                have hn0H : Hid (ns i = n0) := hn0
                have hnn : n0 ≤ N := by omega
                clear hv hpos hN hw0 hpw hn0 hni
                generalize hwx1 : wz.drewN x = wy at cg ⊢
                have hwx : Hid (wz.drewN x = wy) := hwx1
                clear hwx1
                go_wp2
                clear cg
                go_loopw [12, 72] (fun _ sj wx => ∃ (j y : Nat), j ≤ N ∧ sj = .int .i64 (j : Int) ∧ wx = wz.drewN y) (fun _ sj _ => N - (intOf sj).toNat)
                case atStart => exact ⟨0, x, Nat.zero_le _, rfl, hwx.out.symm⟩
                case round =>
                  clear hwx
                  obtain ⟨j, y, hj, rfl, rfl⟩ := hrel
                  by_cases hlj : j < N
                  · have hlj' : (j : Int) < (N : Int) := by omega
                    have cj : (wz.drewN y).cell? ⟨g, j, none⟩ = some (.int .i64 (mkv i j)) := by
                      have := hrow.out.cellAt j (by omega)
                      rw [show (wz.drewN y).cell? ⟨g, j, none⟩ = wz.cell? ⟨g, j, none⟩ from rfl, this, mks_get i N j hlj]
                    have cl : (wz.drewN y).cell? ⟨q, i, none⟩ = some (.slice aq n0 cq) := by
                      rw [show (wz.drewN y).cell? ⟨q, i, none⟩ = wz.cell? ⟨q, i, none⟩ from rfl, hqz.out i hlt, hvq.out, hn0H.out]
                    have cb : Hid (j < n0 → ∃ b, aq = some ⟨b, 0, none⟩ ∧ (wz.drewN y).cell? ⟨b, j, none⟩ = some (.int .i64 (mkv i j))) := fun hjn => by
                      obtain ⟨b, hb⟩ := hpq.out (by rw [hn0H.out]; omega)
                      refine ⟨b, hb, ?_⟩
                      have hob : (vs i).ownBlock = some b := by rw [hvq.out, hb]; rfl
                      rcases hS.out.P i hlt with p | ⟨_, p⟩
                      · have hgb : g = b := by rw [hob, hvg.out] at p; simpa [Value.ownBlock] using p.symm
                        rw [← hgb]; exact cj
                      · exact p b j hob (by rw [hn0H.out]; exact hjn)
                    generalize hwy1 : wz.drewN y = wy2 at cj cl cb ⊢
                    have hwy : Hid (wz.drewN y = wy2) := hwy1
                    clear hwy1
                    generalize hmk : mkv i j = mm0 at cj cb
                    have hmkH : Hid (mkv i j = mm0) := hmk
                    clear hmk
                    go_wp2
                    go_quiet ((go_at_call 26; exact Calls.quiet_of_same ((mark_c i j _ (by omega) (by omega)).mono fun _ _ h => ⟨by rw [h.1, hmkH.out], h.2.symm⟩)))
                    have cj2 : (wy2.drewN nq).cell? ⟨g, j, none⟩ = some (.int .i64 mm0) := cj
                    have cl2 : (wy2.drewN nq).cell? ⟨q, i, none⟩ = some (.slice aq n0 cq) := cl
                    have cb2 : Hid (j < n0 → ∃ b, aq = some ⟨b, 0, none⟩ ∧ (wy2.drewN nq).cell? ⟨b, j, none⟩ = some (.int .i64 mm0)) := cb.out
                    have hwy3 : Hid (wz.drewN (y + nq) = wy2.drewN nq) := (by rw [← hwy.out, World.drewN_drewN] : wz.drewN (y + nq) = wy2.drewN nq)
                    generalize wy2.drewN nq = wy3 at cj2 cl2 cb2 hwy3 ⊢
                    clear cj cl cb hwy hmkH
                    by_cases hjn : j < n0
                    · have hjn' : (j : Int) < (n0 : Int) := by omega
                      obtain ⟨b, rfl, cb3⟩ := cb2.out hjn
                      go_wp2
                      go_quiet (fail)
                      go_wp2
                      go_roundw
                      case rel => exact ⟨j + 1, _, by omega, by go_num, by rw [← hwy3.out, World.drewN_drewN]⟩
                      case measure => simp [intOf]; omega
                    · have hjn' : decide ((j : Int) < (n0 : Int)) = false := decide_eq_false (by omega)
                      go_wp2
                      go_quiet (fail)
                      go_wp2
                      go_roundw
                      case rel => exact ⟨j + 1, _, by omega, by go_num, by rw [← hwy3.out, World.drewN_drewN]⟩
                      case measure => simp [intOf]; omega
                  · have hlj' : decide ((j : Int) < (N : Int)) = false := decide_eq_false (by omega)
                    go_wp2
                    go_roundw
                    case rel => exact ⟨i + 1, y, by omega, by go_num, rfl⟩
                    case measure => simp [intOf]; omega
              · have hlt' : decide ((i : Int) < (m : Int)) = false := decide_eq_false (by omega)
                go_wp2
                go_ret
                exact ⟨rfl, hS.out.K.drewN x⟩
end Go.Proofs.YtbhhbnhoknlonaaDoor
