/-
  The document's planner: cheapest, the step.
-/
import Derived.WalkKit
import Ieee.Arith
import Derived.WalkLawsBesides
import Derived.Laws.FloatArith
import Derived.Test.YtoaccmblaifnmaaDoorProg
import Derived.RegionTactic
import Derived.Outline
import Derived.Lib.Mul64
import Derived.Laws.Bits64b
import Derived.Deep.QuietTactic
import Derived.BigQuiet
import Derived.WalkSmall
import Derived.Deep.CutBlock
import Derived.Deep.DeepCutAuto
import Derived.Laws.Rows
import Derived.Lib.ItoaNum
import Derived.Laws.IdiomStrings
import Derived.Deep.RegionHeld3
import Derived.Lib.SmallJoins
import Derived.Lib.HexFns
import Derived.Test.YtoaccmblaifnmaaDoorRows
import Derived.LaidEql
import Derived.LaidLaws
import Derived.LaidHandle
import Derived.Stop.Joined
import Derived.Deep.RegionWith
import Derived.Recover
import Derived.RegionDies
import Derived.Laws.CopyOwn
import Derived.Lib.AppendIntMem
import Derived.Deep.RegionHeldLaw
import Derived.Maps.AppendAt
import Derived.Laws.OwnMore
import Derived.RangeFuncNested
import Derived.RangeFuncBound
import Derived.RangeFuncCalls
import Derived.RangeFuncLeaves
import Derived.RangeFuncBox
import Derived.Shelf.Abstract
import Derived.Shelf.RegionOpen
import Derived.OwnWalkIn
import Derived.TacticsInMore
import Derived.LoopNIn
import Derived.LoopIn
import Derived.Laws.AppendOwn
import Derived.OwnWalk
import Derived.BigCall
import Derived.Laws.ComplexArith
import Derived.Laws.MakeOwn
import Derived.MapKept
import Derived.Carry
import Derived.ChangeAlike
import Derived.Deep.RegionLaw
import Derived.Defers
import Derived.Test.YtoaccmblaifnmaaDoorBd7
namespace Go.Proofs.YtoaccmblaifnmaaDoor
open Flo Go.RowKit Tr
theorem Os.fit2 {S : Nat → Prop} {w : World} {t : Tr} {v : Value} (h : Os S w t v) : fit t.k t.n := by
  obtain ⟨k, n, ks⟩ := t
  exact h.od.fits
theorem fm_one {α β : Type} (f : α → β) : ∀ (l : List α), (l.flatMap fun x => [f x]) = l.map f
  | [] => rfl
  | x :: l => by rw [List.flatMap_cons, fm_one f l]; rfl
set_option maxHeartbeats 16000000 in
set_option maxRecDepth 100000 in
theorem dch_step {D p : Int} {F : List Int} {fv : Value} {B kb : Nat} {V : Nat → Prop} (gpo : Pl.GP D F p) (hF : F.length ≤ 1000) (hV : ∀ b, V b → b < B) (n : Nat) (hd : Pl.Dm p n) (ih : ∀ m, Pl.Dm p m → Pl.mu p m < Pl.mu p n → DCH D p F fv B kb V m) : DCH D p F fv B kb V n := by
  intro H T U W hK hFl
  obtain ⟨g, hg⟩ : ∃ g, Hid (W.heap.size = g) := ⟨_, (rfl : _ = _)⟩
  obtain ⟨wa, ewa⟩ : ∃ wa, Hid (W.alloc (.cells #[.int .i64 D, fv, .int .i64 p] 45) = wa) := ⟨_, (rfl : _ = _)⟩
  obtain ⟨wb, ewb⟩ : ∃ wb, Hid (wa.alloc (.cells #[.int .i64 0, .int .i64 0, .slice none 0 0] 24) = wb) := ⟨_, (rfl : _ = _)⟩
  have Ba : Below W.heap.size W wa := by rw [← ewa.out]; exact (Below.refl _ _).alloc (Nat.le_refl _) _
  have Bab : Below wa.heap.size wa wb := by rw [← ewb.out]; exact (Below.refl _ _).alloc (Nat.le_refl _) _
  have Bb := btr Ba Bab
  have sa : wa.heap.size = g + 1 := by rw [← ewa.out, ← hg.out]; simp
  have sbH : Hid (wb.heap.size = g + 2) := by show _ = _; rw [← ewb.out]; simp [sa]
  have hKb : Hid (KS D p F B kb H T U wb) := hK.bel Bb
  have hM0 : Hid (Mv T U W T U wb) := (Mv.refl T U W).bel Bb
  have hFlb : Hid (FlR V wb fv F) := hFl.kt (T := fun _ => False) (KT.of_below Bb) (fun _ (h : False) => h.elim)
  have Xp : Hid (Bp wb g D fv p) := by
    have h : Bp wa W.heap.size D fv p := by rw [← ewa.out]; exact Bp.new _ _ _ _
    rw [hg.out] at h
    exact h.bel Bab
  have Xr : Hid (Bo wb (g + 1) 0 0 (.slice none 0 0)) := by
    have h : Bo wb wa.heap.size 0 0 (.slice none 0 0) := by rw [← ewb.out]; exact Bo.new _ _ _ _
    rw [sa] at h; exact h
  have lT : Hid (∀ b, T b → b < g) := fun b hb => by have := (hK.tlt hb).2; have := hg.out; omega
  have lU : Hid (∀ b, U b → b < g) := fun b hb => by have := (hK.ult hb).2.1; have := hg.out; omega
  have ihH : Hid (∀ m, Pl.Dm p m → Pl.mu p m < Pl.mu p n → DCH D p F fv B kb V m) := ih
  have gpH : Hid (Pl.GP D F p) := gpo
  have hFH : Hid (F.length ≤ 1000) := hF
  have hVH : Hid (∀ b, V b → b < B) := hV
  have hdH : Hid (Pl.Dm p n) := hd
  have hn1 : 1 ≤ n := hd.1
  have hn2 : n ≤ 16384 := hd.2.1
  obtain ⟨fn, hfn⟩ : ∃ z, Hid (tc D F p n = z) := ⟨_, (rfl : _ = _)⟩
  have hK0 : Hid (KS D p F B kb H T U W) := hK
  have hFlW : Hid (FlR V W fv F) := hFl
  obtain ⟨vN, vO, vC, ss, hkg, hTk⟩ := hKb.out.kg
  have kgH : Hid (Kg B kb vN vO vC H (H.map (Pl.ch D F p)) ss (H.map (tc D F p)) U wb) := hkg
  have hTH : Hid (T = Tk kb vN vO vC) := hTk
  obtain ⟨aN, cN, eN, rN⟩ := RdI.of_own hkg.oN
  have rNH : Hid (H ≠ [] → ∃ b off, aN = some ⟨b, off, none⟩ ∧ b < wb.heap.size ∧ ∀ i, i < H.length → wb.cell? ⟨b, off + i, none⟩ = some (.int .i64 ((H.getD i 0 : Nat) : Int))) := rN
  have hfew : H.length ≤ 16385 := hK.few
  subst eN
  obtain ⟨L, hL⟩ : ∃ L, Hid (H.length = L) := ⟨_, (rfl : _ = _)⟩
  have c0 := hkg.c0
  rw [hL.out] at c0 hfew
  clear hK hFl ih gpo hF hV hd Ba Bab Bb sa hkg rN hTk
  go_enter Tryd.func48, Tryd.ntmps48
  go_upto_region 1 with fail
  rw [ewa.out, ewb.out, hg.out]
  go_wp2
  go_loopw [8] (fun i wr => ∃ (k : Nat), k ≤ L ∧ i = .int .i64 k ∧ wb = wr ∧ Hid (∀ m ∈ H.take k, m ≠ n)) (fun i _ => L - (intOf i).toNat)
  case atStart => exact ⟨0, Nat.zero_le _, rfl, rfl, fun y hy => by simp at hy⟩
  case round => as_aux_lemma =>
    obtain ⟨k, hk, rfl, rfl, hI⟩ := hrel
    by_cases hlt : k < L
    · have hlt' : (k : Int) < (L : Int) := by omega
      have hkH : k < H.length := by rw [hL.out]; exact hlt
      obtain ⟨b, off, rfl, -, hc⟩ := rNH.out (fun e => by rw [e] at hkH; simp at hkH)
      have z1 := hc k hkH
      have hge : H.getD k 0 = H[k] := by rw [List.getD_eq_getElem?_getD, List.getElem?_eq_getElem hkH]; rfl
      obtain ⟨X, hX⟩ : ∃ X, Hid (H.getD k 0 = X) := ⟨_, (rfl : _ = _)⟩
      rw [hX.out] at z1
      by_cases hn : X = n
      · subst hn
        have hkX : H[k]? = some X := by rw [List.getElem?_eq_getElem hkH, ← hge, hX.out]
        have htO : (H.map (Pl.ch D F p))[k]? = some (Pl.ch D F p X) := by rw [List.getElem?_map, hkX]; rfl
        obtain ⟨go, co, oa, oc, eO, y0, y1, y2, hos⟩ := kgH.out.atO htO
        have hosH : Hid (Os U wb (Pl.ch D F p X) (.agg #[.int .i64 (Pl.ch D F p X).k, .int .i64 (Pl.ch D F p X).n, .slice oa (Pl.ch D F p X).ks.length oc])) := hos
        obtain ⟨aC, cC, eC, rC⟩ := RdI.of_own kgH.out.oC
        have hne : H.map (tc D F p) ≠ [] := fun e => by rw [List.map_eq_nil_iff] at e; rw [e] at hkH; simp at hkH
        obtain ⟨bC, offC, eC2, -, hcC⟩ := rC hne
        have z2 := hcC k (by rw [List.length_map]; exact hkH)
        have e9 : (H.map (tc D F p)).getD k 0 = fn := by rw [List.getD_eq_getElem?_getD, List.getElem?_map, hkX]; exact hfn.out
        rw [e9] at z2
        have c1 := kgH.out.c1
        have c2 := kgH.out.c2
        rw [eO, List.length_map, hL.out] at c1
        rw [eC, eC2, List.length_map, hL.out] at c2
        have f0 := Xr.out.fz 0
        have f1 := Xr.out.fz 1
        have f2 := Xr.out.fz 2
        have q0 := Xr.out.c0
        have q1 := Xr.out.c1
        have q2 := Xr.out.c2
        have hkl := kgH.out.lt
        have hgO : go ≠ g + 1 := fun e => by
          have := lT.out go (by rw [hTH.out]; exact .inr (.inr (.inl (by rw [eO]; rfl))))
          omega
        have hgC : bC ≠ g + 1 := fun e => by
          have := lT.out bC (by rw [hTH.out]; exact .inr (.inr (.inr (by rw [eC, eC2]; rfl))))
          omega
        have hgK : kb ≠ g + 1 := fun e => by
          have := lT.out kb (by rw [hTH.out]; exact .inl rfl)
          omega
        obtain ⟨t, ht⟩ : ∃ t, Hid (Pl.ch D F p X = t) := ⟨_, (rfl : _ = _)⟩
        rw [ht.out] at y0 y1 y2 hosH
        obtain ⟨tk, htk⟩ : ∃ z, Hid (t.k = z) := ⟨_, (rfl : _ = _)⟩
        obtain ⟨tn, htn⟩ : ∃ z, Hid (t.n = z) := ⟨_, (rfl : _ = _)⟩
        obtain ⟨tl, htl⟩ : ∃ z, Hid (t.ks.length = z) := ⟨_, (rfl : _ = _)⟩
        rw [htk.out, htn.out, htl.out] at hosH
        rw [htk.out] at y0
        rw [htn.out] at y1
        rw [htl.out] at y2
        clear rC hne hcC hge hX hos htO hkX e9 eO eC eC2 hc hI hkH hkl
        go_upto_region 5 with fail
        clear z1
        go_region
        obtain ⟨w9, ew9⟩ : ∃ w9, Hid ((((wb.setCell ⟨g + 1, 0, none⟩ (.int .i64 tk)).setCell ⟨g + 1, 1, none⟩ (.int .i64 tn)).setCell ⟨g + 1, 2, none⟩ (.slice oa tl oc)).drew = w9) := ⟨_, (rfl : _ = _)⟩
        have hkt : Hid (KT (fun x => x = g + 1) wb w9) := by
          show KT _ _ _
          rw [← ew9.out]
          exact (st3_kt wb (g + 1) tk tn (.slice oa tl oc)).drew
        have hb9 : Bo w9 (g + 1) tk tn (.slice oa tl oc) := by
          rw [← ew9.out]
          exact ⟨(st3_bo Xr.out tk tn (.slice oa tl oc)).b⟩
        rw [ew9.out]
        have q0 := hb9.c0
        have q1 := hb9.c1
        have q2 := hb9.c2
        clear y0 y1 y2 z2 c0 c1 c2 f0 f1 f2 hb9
        go_wp2_with fail
        refine bodyPost_ret (v := .tuple #[.agg #[.int .i64 tk, .int .i64 tn, .slice oa tl oc], .int .i64 fn]) (by simp [results, Tryd.results48, go_sem, q0, q1, q2]) rfl ?_
        have hgT : ¬ T (g + 1) := fun h => by have := lT.out _ h; omega
        have hgU : ¬ U (g + 1) := fun h => by have := lU.out _ h; omega
        refine ⟨_, H, T, U, by rw [hfn.out], hKb.out.loc hkt.out hgT hgU, ?_, hM0.out.loc hkt.out (by rw [hg.out]; omega), fun m hm => .inl hm⟩
        rw [ht.out]
        exact Os.keep (fun _ hx => hx) (fun x hx hl => hkt.out.block x hl (fun e => hgU (e ▸ hx))) _ _ hosH.out
      · have hne : (X == n) = false := beq_eq_false_iff_ne.2 hn
        have hneI : ((X : Int) == (n : Int)) = false := beq_eq_false_iff_ne.2 (by omega)
        have hI2 : Hid (∀ m ∈ H.take (k + 1), m ≠ n) := fun y hy => by
          rw [List.take_add_one, List.getElem?_eq_getElem hkH, List.mem_append] at hy
          rcases hy with hy | hy
          · exact hI.out y hy
          · have : y = H[k] := by simpa using hy
            rw [this, ← hge, hX.out]; exact hn
        clear hge hX hI hc hkH
        go_wp2
        go_roundw
        case rel => exact ⟨k + 1, by omega, by go_num, by first | rfl | trivial, hI2⟩
        case measure => simp [intOf]; omega
    · have hlt' : decide ((k : Int) < (L : Int)) = false := decide_eq_false (by omega)
      have hnH : Hid (n ∉ H) := fun hm => hI.out n (by rw [List.take_of_length_le (by rw [hL.out]; omega)]; exact hm) rfl
      obtain ⟨wc, ewc⟩ : ∃ wc, Hid (wb.alloc (.cells #[.int .i64 0, .int .i64 0, .slice none 0 0] 24) = wc) := ⟨_, (rfl : _ = _)⟩
      have Bbc : Below wb.heap.size wb wc := by rw [← ewc.out]; exact (Below.refl _ _).alloc (Nat.le_refl _) _
      have Sc : Hid (S5 D p F fv B kb n g H T U W H T U [] wc) := by
        refine ⟨hKb.out.bel Bbc, hM0.out.bel Bbc, Xp.out.bel Bbc, Xr.out.bel Bbc, ⟨none, 0, ?_, Os.leaf ⟨by decide, by decide⟩⟩, fun b hb => ?_, fun m hm => .inl hm, hg.out⟩
        · have h : Bo wc wb.heap.size 0 0 (.slice none 0 0) := by rw [← ewc.out]; exact Bo.new _ _ _ _
          rw [sbH.out] at h
          exact h
        · rcases hb with h | h
          · exact .inl (lT.out b h)
          · exact .inl (lU.out b h)
      have hTB : Hid (∀ b, T b → B ≤ b) := fun b hb => (hK0.out.tlt hb).1
      have hFlH : Hid (FlR V W fv F) := hFlW.out
      have hlv : Hid (∀ (a : Nat) (H' : List Nat) (T' U' : Nat → Prop) (l : List Tr) (w : World), a ≤ 16384 → S5 D p F fv B kb n g H T U W H' T' U' l w → Calls Tryd.prog 72 #[.int .i64 (a : Int), .agg #[.int .i64 D, fv, .int .i64 p]] w (LvE w (Pl.lvs D F a))) := fun a H' T' U' l w ha h => dleaves_c a fv w (h.fl hFlH.out hVH.out hTB.out) hFH.out ha
      have x0 := Sc.out.bp.c0
      have x1 := Sc.out.bp.c1
      have x2 := Sc.out.bp.c2
      clear hI rNH kgH Bbc hKb hM0 hFlb Xp Xr
      go_upto_region 7 with fail
      rw [ewc.out, sbH.out]
      clear c0
      go_wp2_with fail
      refine (hlv.out n _ _ _ _ _ hn2 Sc.out).mono ?_
      rintro e w1 ⟨kv, ss1, rfl, G1', B1'⟩
      have S1 : Hid (S5 D p F fv B kb n g H T U W H T U [] w1) := Sc.out.bel B1'
      have G1 : Hid (Gr wc.heap.size w1 kv (Pl.lvs D F n) ss1) := G1'
      have hlt0 := Sc.out.lt
      clear x0 x1 x2 B1' G1' Sc
      obtain ⟨lv, hlvn⟩ : ∃ z, Hid (Pl.lvs D F n = z) := ⟨_, (rfl : _ = _)⟩
      obtain ⟨lo, hlo⟩ : ∃ z, Hid (wc.heap.size = z) := ⟨_, (rfl : _ = _)⟩
      rw [hlvn.out, hlo.out] at G1
      obtain ⟨ka, kc, rfl⟩ := G1.out.shape
      obtain ⟨ll, hll⟩ : ∃ z, Hid (lv.length = z) := ⟨_, (rfl : _ = _)⟩
      have hllb : ll ≤ 2 := by
        rw [← hll.out, ← hlvn.out]
        unfold Pl.lvs
        split <;> split <;> simp
      have hlog : Hid (g + 2 < lo) := by show _ < _; rw [← hlo.out]; exact hlt0
      clear hlt0
      rw [hll.out]
      go_wp2
      go_loopw [10, 12] (fun b i wr => ∃ (j : Nat), j ≤ ll ∧ i = .int .i64 j ∧ b = .int .i64 (Pl.lsv (lv.take j)) ∧ Hid (S5 D p F fv B kb n g H T U W H T U (lv.take j) wr) ∧ Hid (Gr lo wr (.slice ka ll kc) lv ss1)) (fun _ i _ => ll - (intOf i).toNat)
      case atStart => exact ⟨0, Nat.zero_le _, rfl, rfl, S1.out, by rw [← hll.out]; exact G1.out⟩
      case round => as_aux_lemma =>
        obtain ⟨j, hj, rfl, rfl, Sj, Gj⟩ := hrel
        rename World => wr
        obtain ⟨lz, hlz⟩ : ∃ z, Hid (Pl.lsv (lv.take j) = z) := ⟨_, (rfl : _ = _)⟩
        rw [hlz.out]
        by_cases hlt : j < ll
        · have hlt' : (j : Int) < (ll : Int) := by omega
          have hjl : j < lv.length := by rw [hll.out]; exact hlt
          obtain ⟨t, ht⟩ : ∃ t, Hid (lv[j]? = some t) := ⟨lv[j], List.getElem?_eq_getElem hjl⟩
          have hmem : t ∈ Pl.lvs D F n := by rw [hlvn.out]; exact List.mem_of_getElem? ht.out
          obtain ⟨hlnt, hks⟩ := Pl.lvs_ln gpH.out hn1 hmem
          have hGG : Gr lo wr (.slice ka lv.length kc) lv ss1 := by rw [hll.out]; exact Gj.out
          obtain ⟨gl, cap, ta, tc0, eK, y0, y1, y2, hos⟩ := hGG.at ht.out
          simp only [Value.slice.injEq] at eK
          obtain ⟨rfl, -, rfl⟩ := eK
          rw [hks, List.length_nil] at y2 hos
          have htake : Hid (lv.take (j + 1) = lv.take j ++ [t]) := by
            show _ = _
            rw [List.take_add_one, ht.out]; rfl
          have hksH : Hid (t.ks = []) := hks
          have hosH : Hid (Os (fun b => lo ≤ b) wr t (.agg #[.int .i64 t.k, .int .i64 t.n, .slice ta 0 tc0])) := hos
          have hcs := dcost_c t _ wr hos.od (by omega)
          rw [hlnt] at hcs
          obtain ⟨X, hX⟩ : ∃ z, Hid (Pl.tcs t = z) := ⟨_, (rfl : _ = _)⟩
          have hXb : X ≤ 4611686018427387905 := by rw [← hX.out]; unfold Pl.tcs; exact tm_le _
          have hlzb := Pl.lsv_lt (lv.take j)
          rw [hlz.out] at hlzb
          obtain ⟨tk, htk⟩ : ∃ z, Hid (t.k = z) := ⟨_, (rfl : _ = _)⟩
          obtain ⟨tn, htn⟩ : ∃ z, Hid (t.n = z) := ⟨_, (rfl : _ = _)⟩
          rw [hX.out, htk.out, htn.out] at hcs
          rw [htk.out] at y0
          rw [htn.out] at y1
          have hcsH : Hid (Calls Tryd.prog 73 #[.agg #[.int .i64 tk, .int .i64 tn, .slice ta 0 tc0]] wr fun e w' => e = .returned (.tuple #[.int .i64 (X : Int), .int .i64 (n : Int)]) ∧ Below wr.heap.size wr w') := hcs
          have hyH : Hid (∀ w', Below wr.heap.size wr w' → w'.cell? ⟨gl, j * 3, none⟩ = some (.int .i64 tk) ∧ w'.cell? ⟨gl, j * 3 + 1, none⟩ = some (.int .i64 tn) ∧ w'.cell? ⟨gl, j * 3 + 2, none⟩ = some (.slice ta 0 tc0)) := fun w' hb => ⟨(hb.cell (p := ⟨gl, j * 3, none⟩) (cell_lt y0)).trans y0, (hb.cell (p := ⟨gl, j * 3 + 1, none⟩) (cell_lt y1)).trans y1, (hb.cell (p := ⟨gl, j * 3 + 2, none⟩) (cell_lt y2)).trans y2⟩
          clear hcs hos hGG hmem hks hlnt hjl
          go_wp2_with fail
          refine hcsH.out.mono ?_
          rintro e w5 ⟨rfl, B5⟩
          have Sv : Hid (S5 D p F fv B kb n g H T U W H T U (lv.take j) w5) := Sj.out.bel B5
          have G5 : Hid (Gr lo w5 (.slice (some ⟨gl, 0, none⟩) ll kc) lv ss1) := Gj.out.bel B5
          obtain ⟨v0, v1, v2⟩ := hyH.out w5 B5
          clear B5 y0 y1 y2 hcsH hyH Sj Gj
          obtain ⟨ba, bc, hbo, -⟩ := Sv.out.bi.ex
          have b0 := hbo.c0
          have b1 := hbo.c1
          have b2 := hbo.c2
          have bf := hbo.fz
          have bf0 := bf 0
          have bf1 := bf 1
          have bf2 := bf 2
          clear bf hbo
          by_cases hs : lz < 0 ∨ (X : Int) < lz
          · obtain ⟨hl1, hl2⟩ := Pl.lsv_yes (l := lv.take j) (t := t) (by rw [hlz.out, hX.out]; exact hs)
            rw [← htake.out] at hl1 hl2
            rw [hX.out] at hl1
            have S6 : Hid (S5 D p F fv B kb n g H T U W H T U (lv.take (j + 1)) (st3 w5 (g + 2) t.k t.n (.slice ta t.ks.length tc0))) := Sv.out.put hl2 (by
              obtain ⟨k0, n0, ks0⟩ := t
              have hk0 : ks0 = [] := hksH.out
              subst hk0
              exact Os.leaf hosH.out.od.fits)
            have G6 : Hid (Gr lo (st3 w5 (g + 2) t.k t.n (.slice ta t.ks.length tc0)) (.slice (some ⟨gl, 0, none⟩) ll kc) lv ss1) := G5.out.kt (st3_kt _ _ _ _ _) (fun b e => by rw [e]; exact hlog.out)
            have hl1H : Hid (Pl.lsv (lv.take (j + 1)) = (X : Int)) := hl1
            rw [htk.out, htn.out, hksH.out, List.length_nil] at S6 G6
            obtain ⟨w6, ew6⟩ : ∃ w6, Hid (((w5.setCell ⟨g + 2, 0, none⟩ (.int .i64 tk)).setCell ⟨g + 2, 1, none⟩ (.int .i64 tn)).setCell ⟨g + 2, 2, none⟩ (.slice ta 0 tc0) = w6) := ⟨_, (rfl : _ = _)⟩
            have e6 : st3 w5 (g + 2) tk tn (.slice ta 0 tc0) = w6 := ew6.out
            rw [e6] at S6 G6
            clear hl1 hl2 e6 hosH
            by_cases h1 : lz < 0
            · clear hs
              go_upto_region 10 with fail
              rw [ew6.out]
              clear v0 v1 v2 b0 b1 b2 bf0 bf1 bf2
              go_wp2
              go_roundw
              case rel => exact ⟨j + 1, by omega, by go_num, by rw [hl1H.out], S6, G6⟩
              case measure => simp [intOf]; omega
            · have h1' : decide (lz < 0) = false := decide_eq_false h1
              have h2 : (X : Int) < lz := by
                rcases hs with h | h
                · exact absurd h h1
                · exact h
              clear hs
              go_upto_region 10 with fail
              rw [ew6.out]
              clear v0 v1 v2 b0 b1 b2 bf0 bf1 bf2
              go_wp2
              go_roundw
              case rel => exact ⟨j + 1, by omega, by go_num, by rw [hl1H.out], S6, G6⟩
              case measure => simp [intOf]; omega
          · have h1 : ¬ lz < 0 := fun h => hs (.inl h)
            have h2 : ¬ (X : Int) < lz := fun h => hs (.inr h)
            obtain ⟨hl1, hl2⟩ := Pl.lsv_no (l := lv.take j) (t := t) (by rw [hlz.out]; exact h1) (by rw [hlz.out, hX.out]; exact h2)
            rw [← htake.out] at hl1 hl2
            have S6 : Hid (S5 D p F fv B kb n g H T U W H T U (lv.take (j + 1)) w5) := Sv.out.eqv hl2
            have hl1H : Hid (Pl.lsv (lv.take (j + 1)) = lz) := hl1.trans hlz.out
            have h1' : decide (lz < 0) = false := decide_eq_false h1
            have h2' : decide ((X : Int) < lz) = false := decide_eq_false h2
            clear hl1 hl2 hs
            go_wp2
            go_roundw
            case rel => exact ⟨j + 1, by omega, by go_num, by rw [hl1H.out], S6, G5⟩
            case measure => simp [intOf]; omega
        · have hlt' : decide ((j : Int) < (ll : Int)) = false := decide_eq_false (by omega)
          have hall : lv.take j = Pl.acc D F (fun m => [Pl.ch D F p m]) n 2 := by
            rw [List.take_of_length_le (by rw [hll.out]; omega), Pl.acc_two]
            exact hlvn.out.symm
          rw [hall] at Sj hlz
          clear Gj hall G1
          obtain ⟨sec, hsec⟩ : ∃ z, Hid ((fun m => [Pl.ch D F p m]) = z) := ⟨_, (rfl : _ = _)⟩
          rw [hsec.out] at Sj hlz
          go_wp2
          go_loopw [10, 15] (fun b i wr => ∃ (a : Nat) (H' : List Nat) (T' U' : Nat → Prop), 2 ≤ a ∧ (a ≤ n ∨ a = 2) ∧ i = .int .i64 a ∧ b = .int .i64 (Pl.lsv (Pl.acc D F sec n a)) ∧ Hid (S5 D p F fv B kb n g H T U W H' T' U' (Pl.acc D F sec n a) wr)) (fun _ i _ => n - (intOf i).toNat)
          case atStart => exact ⟨2, H, T, U, Nat.le_refl _, .inr rfl, rfl, by rw [hlz.out], Sj.out⟩
          case round => as_aux_lemma =>
            clear Sj hlz hlt hlt' hj
            obtain ⟨a, H', T', U', ha2, han, rfl, rfl, Sa⟩ := hrel
            rename World => wr
            obtain ⟨lz, hlz⟩ : ∃ z, Hid (Pl.lsv (Pl.acc D F sec n a) = z) := ⟨_, (rfl : _ = _)⟩
            rw [hlz.out]
            have hlzb := Pl.lsv_lt (Pl.acc D F sec n a)
            rw [hlz.out] at hlzb
            by_cases hlt : a < n
            · have hlt' : (a : Int) < (n : Int) := by omega
              by_cases hdv : a ∣ n
              · have hmod : n % a = 0 := Nat.mod_eq_zero_of_dvd hdv
                obtain ⟨hdm, hmu, hq2, hqa, hqh⟩ := Pl.quo_dm hdH.out hdv (by omega) hlt
                have hacc : Pl.acc D F sec n (a + 1) = Pl.acc D F sec n a ++ (Pl.lvs D F a).map fun l => ⟨3, 0, [l, Pl.ch D F p (n / a)]⟩ := by
                  rw [Pl.acc_dvd hn1 hdv (by omega) hlt, ← hsec.out]
                  simp only [List.map_cons, List.map_nil]
                  exact congrArg _ (fm_one _ _)
                have x0 := Sa.out.bp.c0
                have x1 := Sa.out.bp.c1
                have x2 := Sa.out.bp.c2
                have hlva := hlv.out a _ _ _ _ _ (by omega) Sa.out
                obtain ⟨la, hla⟩ : ∃ z, Hid (Pl.lvs D F a = z) := ⟨_, (rfl : _ = _)⟩
                rw [hla.out] at hlva hacc
                have hlvaH : Hid (Calls Tryd.prog 72 #[.int .i64 (a : Int), .agg #[.int .i64 D, fv, .int .i64 p]] wr (LvE wr la)) := hlva
                have haccH : Hid (Pl.acc D F sec n (a + 1) = Pl.acc D F sec n a ++ la.map fun l => ⟨3, 0, [l, Pl.ch D F p (n / a)]⟩) := hacc
                clear hlva hacc
                go_upto_region 18 with fail
                go_wp2_with fail
                refine hlvaH.out.mono ?_
                rintro e w1 ⟨kv, ss2, rfl, G1', B1'⟩
                have Sb : Hid (S5 D p F fv B kb n g H T U W H' T' U' (Pl.acc D F sec n a) w1) := Sa.out.bel B1'
                have hszr : Hid (B ≤ wr.heap.size ∧ g + 2 < wr.heap.size ∧ (∀ b, T' b → b < wr.heap.size) ∧ wr.heap.size ≤ w1.heap.size) := ⟨Nat.le_of_lt Sa.out.ks.size, Sa.out.lt, fun b hb => (Sa.out.ks.tlt hb).2, B1'.size⟩
                obtain ⟨lo2, hlo2⟩ : ∃ z, Hid (wr.heap.size = z) := ⟨_, (rfl : _ = _)⟩
                rw [hlo2.out] at G1' hszr
                have G2 : Hid (Gr lo2 w1 kv la ss2) := G1'
                obtain ⟨ka2, kc2, rfl⟩ := G1'.shape
                clear x0 x1 x2 G1' B1' hlvaH
                obtain ⟨l2, hl2⟩ : ∃ z, Hid (la.length = z) := ⟨_, (rfl : _ = _)⟩
                have hl2b : l2 ≤ 2 := by
                  rw [← hl2.out, ← hla.out]
                  unfold Pl.lvs
                  split <;> split <;> simp
                rw [hl2.out] at G2
                rw [hl2.out]
                by_cases hz : l2 = 0
                · have hacc0 : Pl.acc D F sec n (a + 1) = Pl.acc D F sec n a := by
                    have : la = [] := List.length_eq_zero_iff.1 (by rw [hl2.out]; exact hz)
                    rw [haccH.out, this]
                    simp
                  subst hz
                  go_wp2
                  go_roundw
                  case rel => exact ⟨a + 1, H', T', U', by omega, by omega, by go_num, by rw [hacc0, hlz.out], by rw [hacc0]; exact Sb.out⟩
                  case measure => simp [intOf]; omega
                · have hz0 : ((l2 : Int) == 0) = false := beq_eq_false_iff_ne.2 (by omega)
                  have hz1 : ¬ (l2 : Int) = 0 := by omega
                  have x0 := Sb.out.bp.c0
                  have x1 := Sb.out.bp.c1
                  have x2 := Sb.out.bp.c2
                  have hcl := Pl.ch_ln gpH.out hdm
                  obtain ⟨m, hm⟩ : ∃ z, Hid (n / a = z) := ⟨_, (rfl : _ = _)⟩
                  have hmI : (n : Int) / (a : Int) = (m : Int) := by rw [← hm.out]; rfl
                  have hih := ihH.out (n / a) hdm hmu
                  rw [hm.out] at hih hdm hmu hq2 hqa hqh hcl haccH
                  obtain ⟨cm, hcm⟩ : ∃ z, Hid (Pl.ch D F p m = z) := ⟨_, (rfl : _ = _)⟩
                  obtain ⟨Y, hY⟩ : ∃ z, Hid (tc D F p m = z) := ⟨_, (rfl : _ = _)⟩
                  have hYc : Hid (Pl.tcs cm = Y) := by show _ = _; rw [← hcm.out]; exact hY.out
                  have hYb : Y ≤ 4611686018427387905 := by rw [← hYc.out]; unfold Pl.tcs; exact tm_le _
                  rw [hcm.out] at hcl haccH
                  have hclH : Hid (ln cm = m) := hcl
                  obtain ⟨ck, hck⟩ : ∃ z, Hid (cm.k = z) := ⟨_, (rfl : _ = _)⟩
                  obtain ⟨cn, hcn⟩ : ∃ z, Hid (cm.n = z) := ⟨_, (rfl : _ = _)⟩
                  obtain ⟨cl, hcl2⟩ : ∃ z, Hid (cm.ks.length = z) := ⟨_, (rfl : _ = _)⟩
                  have hcallH : Hid (∀ Z, Below w1.heap.size w1 Z → Calls Tryd.prog 48 #[.pointer (some ⟨kb, 0, none⟩), .int .i64 (m : Int), .agg #[.int .i64 D, fv, .int .i64 p]] Z fun e w2 => ∃ va vc H2 T2 U2, e = .returned (.tuple #[.agg #[.int .i64 ck, .int .i64 cn, .slice va cl vc], .int .i64 (Y : Int)]) ∧ S5 D p F fv B kb n g H T U W H2 T2 U2 (Pl.acc D F sec n a) w2 ∧ Os U2 w2 cm (.agg #[.int .i64 ck, .int .i64 cn, .slice va cl vc]) ∧ KT T' Z w2 ∧ (∀ b, T2 b → T' b ∨ Z.heap.size ≤ b) ∧ (∀ b, U2 b → U' b ∨ Z.heap.size ≤ b)) := fun Z hZ => by
                    have SZ := Sb.out.bel hZ
                    refine (hih H' T' U' Z SZ.ks (SZ.fl hFlH.out hVH.out hTB.out)).mono ?_
                    rintro e w2 ⟨v2, H2, T2, U2, rfl, k2, o2, m2, h2⟩
                    rw [hcm.out] at o2
                    obtain ⟨va, vc, rfl⟩ := o2.shape
                    rw [hck.out, hcn.out, hcl2.out] at o2 ⊢
                    exact ⟨va, vc, H2, T2, U2, by rw [hY.out], SZ.call k2 m2 (fun x hx => by
                      rcases h2 x hx with q | q
                      · exact .inl q
                      · exact .inr (by omega)), o2, m2.kt, m2.tn, m2.un⟩
                  have hszb : Hid (w1.heap.size ≥ lo2 ∧ (∀ b, T' b ∨ U' b → b < w1.heap.size)) := ⟨hszr.out.2.2.2, fun b hb => by
                    rcases hb with h | h
                    · exact (Sb.out.ks.tlt h).2
                    · exact (Sb.out.ks.ult h).2.1⟩
                  have hq2H : Hid (∀ w2, KT T' (w1.alloc (.cells #[.int .i64 0, .int .i64 0, .slice none 0 0] 24)).drew w2 → Bo w2 w1.heap.size 0 0 (.slice none 0 0)) := fun w2 hk => Bo.kt (w := (w1.alloc (.cells #[.int .i64 0, .int .i64 0, .slice none 0 0] 24)).drew) ⟨(Bo.new w1 0 0 (.slice none 0 0)).b⟩ hk (fun t => by have := hszb.out.2 _ (.inl t); omega)
                  have hGl : Hid (∀ Z w2, Below w1.heap.size w1 Z → KT T' Z w2 → Gr lo2 w2 (.slice ka2 l2 kc2) la ss2) := fun Z w2 hZ hk => by
                    exact (G2.out.bel hZ).kt hk (fun b hb => hszr.out.2.2.1 b hb)
                  have hleaf : Hid (∀ w2, Gr lo2 w2 (.slice ka2 l2 kc2) la ss2 → ∀ (j : Nat) t s, la[j]? = some t → ss2[j]? = some s → Os (fun _ => False) w2 t (.agg #[.int .i64 t.k, .int .i64 t.n, s])) := fun w2 G j t s h1 h2 => by
                    have hmm : t ∈ Pl.lvs D F a := by rw [hla.out]; exact List.mem_of_getElem? h1
                    obtain ⟨_, hks⟩ := Pl.lvs_ln gpH.out (by omega) hmm
                    have hk := G.kid j t s h1 h2
                    obtain ⟨a0, c0, e⟩ := hk.shape
                    have hf := hk.fit2
                    obtain ⟨tk, tn, tks⟩ := t
                    have hk0 : tks = [] := hks
                    subst hk0
                    have es : s = .slice a0 0 c0 := by simpa using e
                    subst es
                    exact Os.leaf hf
                  obtain ⟨R, hR⟩ : ∃ R : Value → Value → World → Prop, Hid ((fun s17 s18 wx => ∃ gq va vc H2 T2 U2, s17 = .pointer (some ⟨gq, 0, none⟩) ∧ s18 = .int .i64 (Y : Int) ∧ Hid (S5 D p F fv B kb n g H T U W H2 T2 U2 (Pl.acc D F sec n a) wx) ∧ Hid (Bo wx gq ck cn (.slice va cl vc)) ∧ Hid (Os U2 wx cm (.agg #[.int .i64 ck, .int .i64 cn, .slice va cl vc])) ∧ Hid (Gr lo2 wx (.slice ka2 l2 kc2) la ss2) ∧ Hid (g + 2 < gq ∧ lo2 ≤ gq ∧ ¬ T2 gq ∧ ¬ U2 gq)) = R) := ⟨_, (rfl : _ = _)⟩
                  have finB : Hid (∀ (Z w2 : World) (va : Option Addr) (vc : Nat) (H2 : List Nat) (T2 U2 : Nat → Prop), Below w1.heap.size w1 Z → S5 D p F fv B kb n g H T U W H2 T2 U2 (Pl.acc D F sec n a) w2 → Os U2 w2 cm (.agg #[.int .i64 ck, .int .i64 cn, .slice va cl vc]) → KT T' Z w2 → R (.pointer (some ⟨w2.heap.size, 0, none⟩)) (.int .i64 (Y : Int)) (w2.alloc (.cells #[.int .i64 ck, .int .i64 cn, .slice va cl vc] 24))) := fun Z w2 va vc H2 T2 U2 hZ S2 o2 k2 => by
                    have B23 : Below w2.heap.size w2 (w2.alloc (.cells #[.int .i64 ck, .int .i64 cn, .slice va cl vc] 24)) := (Below.refl _ _).alloc (Nat.le_refl _) _
                    rw [← hR.out]
                    exact ⟨_, va, vc, H2, T2, U2, rfl, rfl, S2.bel B23, Bo.new _ _ _ _, o2.bel B23, (hGl.out Z w2 hZ k2).bel B23, S2.lt, by have := k2.size; have := hZ.size; have := hszb.out.1; omega, fun h => by have := (S2.ks.tlt h).2; omega, fun h => by have := (S2.ks.ult h).2.1; omega⟩
                  have finA : Hid (∀ (w2 : World) (va : Option Addr) (vc : Nat) (H2 : List Nat) (T2 U2 : Nat → Prop), S5 D p F fv B kb n g H T U W H2 T2 U2 (Pl.acc D F sec n a) w2 → Os U2 w2 cm (.agg #[.int .i64 ck, .int .i64 cn, .slice va cl vc]) → KT T' (w1.alloc (.cells #[.int .i64 0, .int .i64 0, .slice none 0 0] 24)).drew w2 → (∀ b, T2 b → T' b ∨ (w1.alloc (.cells #[.int .i64 0, .int .i64 0, .slice none 0 0] 24)).drew.heap.size ≤ b) → (∀ b, U2 b → U' b ∨ (w1.alloc (.cells #[.int .i64 0, .int .i64 0, .slice none 0 0] 24)).drew.heap.size ≤ b) → R (.pointer (some ⟨w1.heap.size, 0, none⟩)) (.int .i64 (Y : Int)) (st3 w2 w1.heap.size ck cn (.slice va cl vc))) := fun w2 va vc H2 T2 U2 S2 o2 k2 t2 u2 => by
                    have hsz1 : (w1.alloc (.cells #[.int .i64 0, .int .i64 0, .slice none 0 0] 24)).drew.heap.size = w1.heap.size + 1 := by simp [World.drew]
                    have nT : ¬ T2 w1.heap.size := fun h => by
                      rcases t2 _ h with q | q
                      · have := hszb.out.2 _ (.inl q); omega
                      · omega
                    have nU : ¬ U2 w1.heap.size := fun h => by
                      rcases u2 _ h with q | q
                      · have := hszb.out.2 _ (.inr q); omega
                      · omega
                    have hgl := Sb.out.lt
                    have hkt := st3_kt w2 w1.heap.size ck cn (.slice va cl vc)
                    rw [← hR.out]
                    exact ⟨_, va, vc, H2, T2, U2, rfl, rfl, S2.kt hkt (fun b e => by rw [e]; exact ⟨hgl, nT, nU⟩), st3_bo (hq2H.out _ k2) _ _ _, Os.keep (fun _ hx => hx) (fun x hx hl => hkt.block x hl (fun e => nU (e ▸ hx))) _ _ o2, by
                      have h := (hGl.out _ w2 ((Below.refl _ _).alloc (Nat.le_refl _) _).drew k2)
                      exact h.kt2 hkt (fun b hb e => by rw [e] at hb; have := (own_ty G2.out.own hb).2.1; omega) (hleaf.out _ h), hgl, hszb.out.1, nT, nU⟩
                  have z0 := cell_alloc x0 (.cells #[.int .i64 0, .int .i64 0, .slice none 0 0] 24)
                  have z1 := cell_alloc x1 (.cells #[.int .i64 0, .int .i64 0, .slice none 0 0] 24)
                  have z2 := cell_alloc x2 (.cells #[.int .i64 0, .int .i64 0, .slice none 0 0] 24)
                  have ha0 : ((a : Int) == 0) = false := beq_eq_false_iff_ne.2 (by omega)
                  have hmb : m ≤ 16384 := by omega
                  have hmI3 : (n : Int).tdiv (a : Int) = (m : Int) := by rw [Int.tdiv_eq_ediv_of_nonneg (by omega)]; exact hmI
                  clear hih hcl
                  go_upto_region 20 with fail
                  go_cut [17, 18] (fun s17 s18 wx => R s17 s18 wx)
                  case first => as_aux_lemma =>
                    go_region_held_law (fun Z => Z.cell? ⟨g, 0, none⟩ = some (.int .i64 D) ∧ Z.cell? ⟨g, 1, none⟩ = some fv ∧ Z.cell? ⟨g, 2, none⟩ = some (.int .i64 p)) (go_keep) ((first
                      | (go_at_call 48; refine (hcallH.out _ (Below.refl _ _).drew).mono ?_; rintro e w2 ⟨va, vc, H2, T2, U2, rfl, S2, o2, k2, t2, u2⟩; have y0 := S2.bp.c0; have y1 := S2.bp.c1; have y2 := S2.bp.c2; have hgl := S2.lt; have hgn : ¬ w2.heap.size = g := by omega)
                      | (go_at_call 48; refine (hcallH.out _ ((Below.refl _ _).alloc (Nat.le_refl _) _).drew).mono ?_; rintro e w2 ⟨va, vc, H2, T2, U2, rfl, S2, o2, k2, t2, u2⟩; have hbq := hq2H.out _ k2; have e0 := hbq.c0; have e1 := hbq.c1; have e2 := hbq.c2; have ef0 := hbq.fz 0; have ef1 := hbq.fz 1; have ef2 := hbq.fz 2; have y0 := S2.bp.c0; have y1 := S2.bp.c1; have y2 := S2.bp.c2; have hgn : ¬ w1.heap.size = g := by have := Sb.out.lt; omega)
                      | fail))
                    all_goals (go_wp2_with fail; go_meet; first | exact finB.out _ _ _ _ _ _ _ (Below.refl _ _).drew S2 o2 k2 | exact finA.out _ _ _ _ _ _ S2 o2 k2 t2 u2)
                  case rest => as_aux_lemma =>
                  rw [← hR.out] at hcut
                  obtain ⟨gq, va, vc, H2, T2, U2, rfl, rfl, S3, Q3, o3, G3, hgqH⟩ := hcut
                  rename World => w3
                  clear x0 x1 x2 z0 z1 z2 hcallH hq2H hGl finA finB hR G2 hleaf
                  obtain ⟨fq, hfq⟩ : ∃ z, Hid ((fun l : Tr => (⟨3, 0, [l, cm]⟩ : Tr)) = z) := ⟨_, (rfl : _ = _)⟩
                  rw [hfq.out] at haccH
                  have hY0 : (0 : Int) ≤ (Y : Int) := by omega
                  go_wp2
                  go_loopw [10, 19] (fun b i wz => ∃ (j : Nat) (U3 : Nat → Prop), j ≤ l2 ∧ i = .int .i64 j ∧ b = .int .i64 (Pl.lsv (Pl.acc D F sec n a ++ (la.take j).map fq)) ∧ Hid (S5 D p F fv B kb n g H T U W H2 T2 U3 (Pl.acc D F sec n a ++ (la.take j).map fq) wz) ∧ Hid (Gr lo2 wz (.slice ka2 l2 kc2) la ss2) ∧ Hid (Bo wz gq ck cn (.slice va cl vc)) ∧ Hid (Os U3 wz cm (.agg #[.int .i64 ck, .int .i64 cn, .slice va cl vc])) ∧ Hid (¬ U3 gq)) (fun _ i _ => l2 - (intOf i).toNat)
                  case atStart => exact ⟨0, U2, Nat.zero_le _, rfl, by rw [List.take_zero, List.map_nil, List.append_nil, hlz.out], by rw [List.take_zero, List.map_nil, List.append_nil]; exact S3.out, G3.out, Q3.out, o3.out, hgqH.out.2.2.2⟩
                  case round => as_aux_lemma =>
                    clear S3 G3 Q3 o3
                    obtain ⟨j2, U3, hj2, rfl, rfl, Sj, Gj, Qj, oj, uj⟩ := hrel
                    rename World => wz
                    obtain ⟨lz2, hlz2⟩ : ∃ z, Hid (Pl.lsv (Pl.acc D F sec n a ++ (la.take j2).map fq) = z) := ⟨_, (rfl : _ = _)⟩
                    rw [hlz2.out]
                    by_cases hlt2 : j2 < l2
                    · have hlt2' : (j2 : Int) < (l2 : Int) := by omega
                      have hjl : j2 < la.length := by rw [hl2.out]; exact hlt2
                      obtain ⟨t, ht⟩ : ∃ t, Hid (la[j2]? = some t) := ⟨la[j2], List.getElem?_eq_getElem hjl⟩
                      have hmem : t ∈ Pl.lvs D F a := by rw [hla.out]; exact List.mem_of_getElem? ht.out
                      obtain ⟨hlnt, hks⟩ := Pl.lvs_ln gpH.out (by omega) hmem
                      have hGG : Gr lo2 wz (.slice ka2 la.length kc2) la ss2 := by rw [hl2.out]; exact Gj.out
                      obtain ⟨gl, cap, ta, tc0, eK, y0, y1, y2, hos⟩ := hGG.at ht.out
                      simp only [Value.slice.injEq] at eK
                      obtain ⟨rfl, -, rfl⟩ := eK
                      rw [hks, List.length_nil] at y2 hos
                      have htake : Hid (Pl.acc D F sec n a ++ (la.take (j2 + 1)).map fq = (Pl.acc D F sec n a ++ (la.take j2).map fq) ++ [⟨3, 0, [t, cm]⟩]) := by
                        show _ = _
                        rw [List.take_add_one, ht.out, List.append_assoc, ← hfq.out]
                        simp
                      have hksH : Hid (t.ks = []) := hks
                      have hfitH : Hid (fit t.k t.n) := hos.fit2
                      have hcs := dcost_c t _ wz hos.od (by omega)
                      rw [hlnt] at hcs
                      obtain ⟨X, hX⟩ : ∃ z, Hid (Pl.tcs t = z) := ⟨_, (rfl : _ = _)⟩
                      have hXb : X ≤ 4611686018427387905 := by rw [← hX.out]; unfold Pl.tcs; exact tm_le _
                      obtain ⟨C, hC⟩ : ∃ z, Hid (Pl.tcs ⟨3, 0, [t, cm]⟩ = z) := ⟨_, (rfl : _ = _)⟩
                      have hCb : C ≤ 4611686018427387905 := by rw [← hC.out]; unfold Pl.tcs; exact tm_le _
                      have hprc : Hid (prc a m X Y (t.k == 2) = C) := by
                        show _ = _
                        rw [← hX.out, ← hYc.out, Pl.tcs_prod (by omega) (by omega) hlnt hclH.out, hC.out]
                      have hlzb2 := Pl.lsv_lt (Pl.acc D F sec n a ++ (la.take j2).map fq)
                      rw [hlz2.out] at hlzb2
                      obtain ⟨tk, htk⟩ : ∃ z, Hid (t.k = z) := ⟨_, (rfl : _ = _)⟩
                      obtain ⟨tn, htn⟩ : ∃ z, Hid (t.n = z) := ⟨_, (rfl : _ = _)⟩
                      rw [hX.out, htk.out, htn.out] at hcs
                      rw [htk.out] at y0 hprc
                      rw [htn.out] at y1
                      have hcsH : Hid (Calls Tryd.prog 73 #[.agg #[.int .i64 tk, .int .i64 tn, .slice ta 0 tc0]] wz fun e w' => e = .returned (.tuple #[.int .i64 (X : Int), .int .i64 (a : Int)]) ∧ Below wz.heap.size wz w') := hcs
                      have hyH : Hid (∀ w', Below wz.heap.size wz w' → w'.cell? ⟨gl, j2 * 3, none⟩ = some (.int .i64 tk) ∧ w'.cell? ⟨gl, j2 * 3 + 1, none⟩ = some (.int .i64 tn) ∧ w'.cell? ⟨gl, j2 * 3 + 2, none⟩ = some (.slice ta 0 tc0)) := fun w' hb => ⟨(hb.cell (p := ⟨gl, j2 * 3, none⟩) (cell_lt y0)).trans y0, (hb.cell (p := ⟨gl, j2 * 3 + 1, none⟩) (cell_lt y1)).trans y1, (hb.cell (p := ⟨gl, j2 * 3 + 2, none⟩) (cell_lt y2)).trans y2⟩
                      have htm : Hid (∀ Z, Calls Tryd.prog 74 #[.int .i64 tk, .int .i64 (X : Int), .int .i64 (a : Int), .int .i64 (Y : Int), .int .i64 (m : Int)] Z fun e w' => e = .returned (.int .i64 (C : Int)) ∧ w' = Z) := fun Z => by
                        have := dtimes_c tk a m X Y ha2 hq2 (by omega) Z
                        rw [hprc.out] at this
                        exact this
                      clear hcs hos hGG hmem hks hlnt hjl
                      go_wp2_with fail
                      refine hcsH.out.mono ?_
                      rintro e w5 ⟨rfl, B5⟩
                      have Sv : Hid (S5 D p F fv B kb n g H T U W H2 T2 U3 (Pl.acc D F sec n a ++ (la.take j2).map fq) w5) := Sj.out.bel B5
                      have G5 : Hid (Gr lo2 w5 (.slice (some ⟨gl, 0, none⟩) l2 kc2) la ss2) := Gj.out.bel B5
                      have Q5 : Hid (Bo w5 gq ck cn (.slice va cl vc)) := Qj.out.bel B5
                      have o5 : Hid (Os U3 w5 cm (.agg #[.int .i64 ck, .int .i64 cn, .slice va cl vc])) := oj.out.bel B5
                      obtain ⟨v0, v1, v2⟩ := hyH.out w5 B5
                      clear B5 y0 y1 y2 hcsH hyH Sj Gj Qj oj
                      go_upto_region 25 with fail
                      go_quiet ((go_at_call 74; exact Calls.quiet_of_same (htm.out _)))
                      obtain ⟨w6, ew6, B56⟩ : ∃ w6, Hid (w5.drewN nq = w6) ∧ Below w5.heap.size w5 w6 := ⟨_, (rfl : _ = _), below_drewN (Below.refl _ _) nq⟩
                      rw [ew6.out]
                      have Sw : Hid (S5 D p F fv B kb n g H T U W H2 T2 U3 (Pl.acc D F sec n a ++ (la.take j2).map fq) w6) := Sv.out.bel B56
                      have G6 : Hid (Gr lo2 w6 (.slice (some ⟨gl, 0, none⟩) l2 kc2) la ss2) := G5.out.bel B56
                      have Q6 : Hid (Bo w6 gq ck cn (.slice va cl vc)) := Q5.out.bel B56
                      have o6 : Hid (Os U3 w6 cm (.agg #[.int .i64 ck, .int .i64 cn, .slice va cl vc])) := o5.out.bel B56
                      replace v0 := (B56.cell (p := ⟨gl, j2 * 3, none⟩) (cell_lt v0)).trans v0
                      replace v1 := (B56.cell (p := ⟨gl, j2 * 3 + 1, none⟩) (cell_lt v1)).trans v1
                      replace v2 := (B56.cell (p := ⟨gl, j2 * 3 + 2, none⟩) (cell_lt v2)).trans v2
                      clear B56 Sv G5 Q5 o5
                      by_cases hs : lz2 < 0 ∨ (C : Int) < lz2
                      · obtain ⟨hl1, hl2'⟩ := Pl.lsv_yes (l := Pl.acc D F sec n a ++ (la.take j2).map fq) (t := ⟨3, 0, [t, cm]⟩) (by rw [hlz2.out, hC.out]; exact hs)
                        rw [← htake.out] at hl1 hl2'
                        rw [hC.out] at hl1
                        have hl1H : Hid (Pl.lsv (Pl.acc D F sec n a ++ (la.take (j2 + 1)).map fq) = (C : Int)) := hl1
                        have hl2H : Hid (Pl.bst (Pl.acc D F sec n a ++ (la.take (j2 + 1)).map fq) = ⟨3, 0, [t, cm]⟩) := hl2'
                        have hot : Hid (Os U3 w6 t (.agg #[.int .i64 tk, .int .i64 tn, .slice ta 0 tc0])) := by
                          show Os _ _ _ _
                          rw [← htk.out, ← htn.out]
                          have hf := hfitH.out
                          obtain ⟨k0, n0, ks0⟩ := t
                          have hk0 : ks0 = [] := hksH.out
                          subst hk0
                          exact Os.leaf hf
                        have hboth : Hid (Calls Tryd.prog 75 #[.agg #[.int .i64 tk, .int .i64 tn, .slice ta 0 tc0], .agg #[.int .i64 ck, .int .i64 cn, .slice va cl vc]] w6.drew fun e w' => ∃ ba bc, e = .returned (.agg #[.int .i64 3, .int .i64 0, .slice ba 2 bc]) ∧ Os (fun b => (U3 b ∧ b < w6.heap.size) ∨ w6.heap.size ≤ b) w' ⟨3, 0, [t, cm]⟩ (.agg #[.int .i64 3, .int .i64 0, .slice ba 2 bc]) ∧ Below w6.heap.size w6 w') := dboth2_c t cm _ _ w6 hot.out o6.out
                        have r0 := Q6.out.c0
                        have r1 := Q6.out.c1
                        have r2 := Q6.out.c2
                        have hglo : Hid (lo2 ≤ gl ∧ g + 2 < lo2) := ⟨(own_ty G6.out.own rfl).1, hszr.out.2.1⟩
                        have n1 : ¬ gl = g + 2 := by have := hglo.out; omega
                        have n2 : ¬ gq = g + 2 := by have := hgqH.out; omega
                        have n3 : ¬ g + 2 = gl := fun e => n1 e.symm
                        have n4 : ¬ g + 2 = gq := fun e => n2 e.symm
                        have hbB : Hid (∀ w', Below w6.heap.size w6 w' → ∃ k0 n0 s0, Bo w' (g + 2) k0 n0 s0) := fun w' hb => by
                          obtain ⟨xa, xc, hbo, -⟩ := (Sw.out.bel hb).bi.ex
                          exact ⟨_, _, _, hbo⟩
                        have hcH : Hid (∀ w', Below w6.heap.size w6 w' → (w'.cell? ⟨gl, j2 * 3, none⟩ = some (.int .i64 tk) ∧ w'.cell? ⟨gl, j2 * 3 + 1, none⟩ = some (.int .i64 tn) ∧ w'.cell? ⟨gl, j2 * 3 + 2, none⟩ = some (.slice ta 0 tc0)) ∧ w'.cell? ⟨gq, 0, none⟩ = some (.int .i64 ck) ∧ w'.cell? ⟨gq, 1, none⟩ = some (.int .i64 cn) ∧ w'.cell? ⟨gq, 2, none⟩ = some (.slice va cl vc)) := fun w' hb => ⟨⟨(hb.cell (p := ⟨gl, j2 * 3, none⟩) (cell_lt v0)).trans v0, (hb.cell (p := ⟨gl, j2 * 3 + 1, none⟩) (cell_lt v1)).trans v1, (hb.cell (p := ⟨gl, j2 * 3 + 2, none⟩) (cell_lt v2)).trans v2⟩, (Q6.out.bel hb).c0, (Q6.out.bel hb).c1, (Q6.out.bel hb).c2⟩
                        clear hl1 hl2' hot hdv hmod hqa hqh hq2 hdm hmu hmI hmb hmI3 ha0
                        by_cases h1 : lz2 < 0
                        · clear hs
                          go_upto_region 27 with fail
                          go_region_held3 (fun Z => Z.cell? ⟨gl, j2 * 3, none⟩ = some (.int .i64 tk) ∧ Z.cell? ⟨gl, j2 * 3 + 1, none⟩ = some (.int .i64 tn) ∧ Z.cell? ⟨gl, j2 * 3 + 2, none⟩ = some (.slice ta 0 tc0) ∧ Z.cell? ⟨gq, 0, none⟩ = some (.int .i64 ck) ∧ Z.cell? ⟨gq, 1, none⟩ = some (.int .i64 cn) ∧ Z.cell? ⟨gq, 2, none⟩ = some (.slice va cl vc)) (go_keep) ((first
                            | (go_at_call 75; refine hboth.out.mono ?_; rintro e w7 ⟨ba, bc, rfl, o7, B7⟩; obtain ⟨⟨q0, q1, q2⟩, q3, q4, q5⟩ := hcH.out w7 B7; obtain ⟨k0, n0, s0, hbo⟩ := hbB.out w7 B7; have b0 := hbo.c0; have b1 := hbo.c1; have b2 := hbo.c2; have bf0 := hbo.fz 0; have bf1 := hbo.fz 1; have bf2 := hbo.fz 2)
                            | fail))
                          all_goals
                            obtain ⟨U4, S8', G8', Q8', o8', u8'⟩ := Sw.out.both G6.out Q6.out o6.out uj.out hgqH.out.1 hglo.out.2 hl2H.out B7 o7
                            obtain ⟨w8, ew8⟩ : ∃ w8, Hid (((w7.setCell ⟨g + 2, 0, none⟩ (.int .i64 3)).setCell ⟨g + 2, 1, none⟩ (.int .i64 0)).setCell ⟨g + 2, 2, none⟩ (.slice ba 2 bc) = w8) := ⟨_, (rfl : _ = _)⟩
                            have e8 : st3 w7 (g + 2) 3 0 (.slice ba 2 bc) = w8 := ew8.out
                            rw [e8] at S8' G8' Q8' o8'
                            have S8 : Hid (S5 D p F fv B kb n g H T U W H2 T2 U4 (Pl.acc D F sec n a ++ (la.take (j2 + 1)).map fq) w8) := S8'
                            have G8 : Hid (Gr lo2 w8 (.slice (some ⟨gl, 0, none⟩) l2 kc2) la ss2) := G8'
                            have Q8 : Hid (Bo w8 gq ck cn (.slice va cl vc)) := Q8'
                            have o8 : Hid (Os U4 w8 cm (.agg #[.int .i64 ck, .int .i64 cn, .slice va cl vc])) := o8'
                            have u8 : Hid (¬ U4 gq) := u8'
                            rw [ew8.out]
                            clear S8' G8' Q8' o8' u8' e8 v0 v1 v2 r0 r1 r2 o7 B7 hbo b0 b1 b2 bf0 bf1 bf2 n1 n2 n3 n4 hboth hbB hcH Sw G6 Q6 o6 uj
                            go_wp2
                            go_roundw
                            case rel => exact ⟨j2 + 1, U4, by omega, by go_num, by rw [hl1H.out], S8, G8, Q8, o8, u8⟩
                            case measure => simp [intOf]; omega
                        · have h1' : decide (lz2 < 0) = false := decide_eq_false h1
                          have h2 : (C : Int) < lz2 := by
                            rcases hs with h | h
                            · exact absurd h h1
                            · exact h
                          clear hs
                          go_upto_region 27 with fail
                          go_region_held3 (fun Z => Z.cell? ⟨gl, j2 * 3, none⟩ = some (.int .i64 tk) ∧ Z.cell? ⟨gl, j2 * 3 + 1, none⟩ = some (.int .i64 tn) ∧ Z.cell? ⟨gl, j2 * 3 + 2, none⟩ = some (.slice ta 0 tc0) ∧ Z.cell? ⟨gq, 0, none⟩ = some (.int .i64 ck) ∧ Z.cell? ⟨gq, 1, none⟩ = some (.int .i64 cn) ∧ Z.cell? ⟨gq, 2, none⟩ = some (.slice va cl vc)) (go_keep) ((first
                            | (go_at_call 75; refine hboth.out.mono ?_; rintro e w7 ⟨ba, bc, rfl, o7, B7⟩; obtain ⟨⟨q0, q1, q2⟩, q3, q4, q5⟩ := hcH.out w7 B7; obtain ⟨k0, n0, s0, hbo⟩ := hbB.out w7 B7; have b0 := hbo.c0; have b1 := hbo.c1; have b2 := hbo.c2; have bf0 := hbo.fz 0; have bf1 := hbo.fz 1; have bf2 := hbo.fz 2)
                            | fail))
                          all_goals
                            obtain ⟨U4, S8', G8', Q8', o8', u8'⟩ := Sw.out.both G6.out Q6.out o6.out uj.out hgqH.out.1 hglo.out.2 hl2H.out B7 o7
                            obtain ⟨w8, ew8⟩ : ∃ w8, Hid (((w7.setCell ⟨g + 2, 0, none⟩ (.int .i64 3)).setCell ⟨g + 2, 1, none⟩ (.int .i64 0)).setCell ⟨g + 2, 2, none⟩ (.slice ba 2 bc) = w8) := ⟨_, (rfl : _ = _)⟩
                            have e8 : st3 w7 (g + 2) 3 0 (.slice ba 2 bc) = w8 := ew8.out
                            rw [e8] at S8' G8' Q8' o8'
                            have S8 : Hid (S5 D p F fv B kb n g H T U W H2 T2 U4 (Pl.acc D F sec n a ++ (la.take (j2 + 1)).map fq) w8) := S8'
                            have G8 : Hid (Gr lo2 w8 (.slice (some ⟨gl, 0, none⟩) l2 kc2) la ss2) := G8'
                            have Q8 : Hid (Bo w8 gq ck cn (.slice va cl vc)) := Q8'
                            have o8 : Hid (Os U4 w8 cm (.agg #[.int .i64 ck, .int .i64 cn, .slice va cl vc])) := o8'
                            have u8 : Hid (¬ U4 gq) := u8'
                            rw [ew8.out]
                            clear S8' G8' Q8' o8' u8' e8 v0 v1 v2 r0 r1 r2 o7 B7 hbo b0 b1 b2 bf0 bf1 bf2 n1 n2 n3 n4 hboth hbB hcH Sw G6 Q6 o6 uj
                            go_wp2
                            go_roundw
                            case rel => exact ⟨j2 + 1, U4, by omega, by go_num, by rw [hl1H.out], S8, G8, Q8, o8, u8⟩
                            case measure => simp [intOf]; omega
                      · have h1 : ¬ lz2 < 0 := fun h => hs (.inl h)
                        have h2 : ¬ (C : Int) < lz2 := fun h => hs (.inr h)
                        obtain ⟨hl1, hl2'⟩ := Pl.lsv_no (l := Pl.acc D F sec n a ++ (la.take j2).map fq) (t := ⟨3, 0, [t, cm]⟩) (by rw [hlz2.out]; exact h1) (by rw [hlz2.out, hC.out]; exact h2)
                        rw [← htake.out] at hl1 hl2'
                        have S7 : Hid (S5 D p F fv B kb n g H T U W H2 T2 U3 (Pl.acc D F sec n a ++ (la.take (j2 + 1)).map fq) w6) := Sw.out.eqv hl2'
                        have hl1H : Hid (Pl.lsv (Pl.acc D F sec n a ++ (la.take (j2 + 1)).map fq) = lz2) := hl1.trans hlz2.out
                        have h1' : decide (lz2 < 0) = false := decide_eq_false h1
                        have h2' : decide ((C : Int) < lz2) = false := decide_eq_false h2
                        clear hl1 hl2' hs v0 v1 v2
                        go_wp2
                        go_roundw
                        case rel => exact ⟨j2 + 1, U3, by omega, by go_num, by rw [hl1H.out], S7, G6, Q6, o6, uj⟩
                        case measure => simp [intOf]; omega
                    · have hlt2' : decide ((j2 : Int) < (l2 : Int)) = false := decide_eq_false (by omega)
                      have hall : Pl.acc D F sec n (a + 1) = Pl.acc D F sec n a ++ (la.take j2).map fq := by
                        rw [haccH.out, List.take_of_length_le (by rw [hl2.out]; omega)]
                      rw [← hall] at Sj hlz2
                      clear Gj Qj oj uj hall
                      go_wp2
                      go_roundw
                      case rel => exact ⟨a + 1, H2, T2, U3, by omega, by omega, by go_num, by rw [hlz2.out], Sj⟩
                      case measure => simp [intOf]; omega
              · have hmod : ¬ n % a = 0 := fun h => hdv (Nat.dvd_of_mod_eq_zero h)
                have hacc : Pl.acc D F sec n (a + 1) = Pl.acc D F sec n a := Pl.acc_skip hn1 hdv
                go_upto_region 17 with fail
                go_wp2
                go_roundw
                case rel => exact ⟨a + 1, H', T', U', by omega, by omega, by go_num, by rw [hacc, hlz.out], by rw [hacc]; exact Sa.out⟩
                case measure => simp [intOf]; omega
            · have hlt' : decide ((a : Int) < (n : Int)) = false := decide_eq_false (by omega)
              clear hlv
              have hacc : Pl.acc D F sec n a ++ Pl.blu p (Pl.ch D F p) n = Pl.cnd D F (fun m => [Pl.ch D F p m]) (Pl.blu p (Pl.ch D F p) n) n := by rw [← hsec.out]; exact Pl.acc_end (by omega)
              have hch : Pl.ch D F p n = Pl.bst (Pl.cnd D F (fun m => [Pl.ch D F p m]) (Pl.blu p (Pl.ch D F p) n) n) := Pl.ch_eq gpH.out.p2 hdH.out
              have hne : Pl.cnd D F (fun m => [Pl.ch D F p m]) (Pl.blu p (Pl.ch D F p) n) n ≠ [] := Pl.cnd_ne gpH.out hdH.out (fun m => by simp)
              obtain ⟨cl, hcl⟩ : ∃ z, Hid (Pl.cnd D F (fun m => [Pl.ch D F p m]) (Pl.blu p (Pl.ch D F p) n) n = z) := ⟨_, (rfl : _ = _)⟩
              rw [hcl.out] at hacc hch hne
              have hclv : Hid (Pl.lsv cl = (fn : Int)) := by
                show _ = _
                rw [(Pl.lsv_pos hne).2, ← hch]
                exact congrArg Int.ofNat hfn.out
              have haccH : Hid (Pl.acc D F sec n a ++ Pl.blu p (Pl.ch D F p) n = cl) := hacc
              have hchH : Hid (Pl.ch D F p n = Pl.bst cl) := hch
              obtain ⟨ac, hac⟩ : ∃ z, Hid (Pl.acc D F sec n a = z) := ⟨_, (rfl : _ = _)⟩
              rw [hac.out] at haccH Sa hlz
              obtain ⟨R2, hR2⟩ : ∃ R : Value → World → Prop, Hid ((fun s10 wx => ∃ H2 T2 U2, s10 = .int .i64 (Pl.lsv cl) ∧ Hid (S5 D p F fv B kb n g H T U W H2 T2 U2 cl wx)) = R) := ⟨_, (rfl : _ = _)⟩
              have x0 := Sa.out.bp.c0
              have x1 := Sa.out.bp.c1
              have x2 := Sa.out.bp.c2
              clear hacc hch hne
              go_upto_region 28 with fail
              go_wp2_with fail
              refine (dblue_c (D := D) (p := p) n fv wr hn1 hn2).mono ?_
              rintro e w1 ⟨rfl, B1⟩
              have S1 : Hid (S5 D p F fv B kb n g H T U W H' T' U' ac w1) := Sa.out.bel B1
              clear B1 x0 x1 x2
              obtain ⟨bb, hbb⟩ : ∃ z, Hid ((Pl.big p n && decide ((n : Int) ≤ 8192)) = z) := ⟨_, (rfl : _ = _)⟩
              rw [hbb.out]
              go_upto_if 160 with fail
              go_cut [10] (fun s10 wx => R2 s10 wx)
              case first => as_aux_lemma =>
                cases bb with
                | false =>
                  have hi0 : Pl.inn p n = 0 := by
                    unfold Pl.inn
                    rw [if_neg]
                    rintro ⟨q1, q2⟩
                    have := hbb.out
                    rw [q1, decide_eq_true (by omega)] at this
                    cases this
                  have hbl : ac = cl := by
                    have := haccH.out
                    unfold Pl.blu at this
                    rw [if_pos hi0, List.append_nil] at this
                    exact this
                  have hfin : Hid (R2 (.int .i64 lz) w1) := by
                    show R2 _ _
                    rw [← hR2.out]
                    exact ⟨H', T', U', by rw [← hbl, hlz.out], by rw [← hbl]; exact S1.out⟩
                  clear hi0 hbl
                  go_wp2_with fail
                  go_meet
                  exact hfin.out
                | true =>
                  have hbg : Pl.big p n = true ∧ n ≤ 8192 := by
                    have := hbb.out
                    rw [Bool.and_eq_true, decide_eq_true_eq] at this
                    exact ⟨this.1, by omega⟩
                  have hi0 : Pl.inn p n ≠ 0 := by
                    have := (Pl.szf_le (2 * n - 1) (by omega)).1
                    unfold Pl.inn
                    rw [if_pos hbg]
                    omega
                  obtain ⟨hdm, hmu, hn22, hn8, h2n, hbM, hM16⟩ := Pl.inn_dm gpH.out.p2 hn1 hi0
                  have hsz := (Pl.inn_pos hi0).2.2
                  have hcl3 := Pl.ch_ln gpH.out hdm
                  have hsm := Pl.ch_small gpH.out (Pl.inn p n) (Pl.inn p n) (Nat.le_refl _) hdm hbM
                  have hih := ihH.out (Pl.inn p n) hdm hmu
                  have hblu : Pl.blu p (Pl.ch D F p) n = [⟨4, n, [Pl.ch D F p (Pl.inn p n)]⟩] := by unfold Pl.blu; rw [if_neg hi0]
                  have hszq : ∀ s, Sz (2 * n - 1) s → s = Pl.inn p n := fun s hs => by
                    rw [hsz]
                    exact hs.uniq (szf_sz (2 * n - 1) (by omega))
                  have hszqH : Hid (∀ s, Sz (2 * n - 1) s → s = Pl.inn p n) := hszq
                  have haccH2 := haccH.out
                  rw [hblu] at haccH2
                  obtain ⟨M, hM⟩ : ∃ z, Hid (Pl.inn p n = z) := ⟨_, (rfl : _ = _)⟩
                  rw [hM.out] at hdm hmu hbM hM16 hcl3 hsm hih haccH2 hszqH
                  obtain ⟨cm, hcm⟩ : ∃ z, Hid (Pl.ch D F p M = z) := ⟨_, (rfl : _ = _)⟩
                  rw [hcm.out] at hcl3 hsm haccH2
                  have haccH3 : Hid (ac ++ [⟨4, n, [cm]⟩] = cl) := haccH2
                  obtain ⟨Y, hY⟩ : ∃ z, Hid (tc D F p M = z) := ⟨_, (rfl : _ = _)⟩
                  have hYc : Hid (Pl.tcs cm = Y) := by show _ = _; rw [← hcm.out]; exact hY.out
                  obtain ⟨C, hC⟩ : ∃ z, Hid (Pl.tcs ⟨4, n, [cm]⟩ = z) := ⟨_, (rfl : _ = _)⟩
                  have hM1 : 1 ≤ M := hdm.1
                  have hMM : M * M ≤ 16384 * 16384 := Nat.mul_le_mul hM16 hM16
                  have hbc := Pl.tcs_blue (n := n) (M := M) (t := cm) hn2 hM16 hcl3 hM1 (by omega)
                  rw [hYc.out, hC.out] at hbc
                  have hYs : Y ≤ 4294967296 := hbc.2
                  have hCb : C ≤ 4611686018427387905 := by rw [← hC.out]; unfold Pl.tcs; exact tm_le _
                  have hCI : (3 * (Y : Int) + 12 * (n : Int)) + 10 * (M : Int) = (C : Int) := by have := hbc.1; omega
                  have hfitH : Hid (fit 4 (n : Int)) := ⟨by decide, by omega⟩
                  obtain ⟨ck, hck⟩ : ∃ z, Hid (cm.k = z) := ⟨_, (rfl : _ = _)⟩
                  obtain ⟨cn, hcn⟩ : ∃ z, Hid (cm.n = z) := ⟨_, (rfl : _ = _)⟩
                  obtain ⟨cq, hcq⟩ : ∃ z, Hid (cm.ks.length = z) := ⟨_, (rfl : _ = _)⟩
                  have hcallH : Hid (Calls Tryd.prog 48 #[.pointer (some ⟨kb, 0, none⟩), .int .i64 (M : Int), .agg #[.int .i64 D, fv, .int .i64 p]] w1 fun e w2 => ∃ va vc H2 T2 U2, e = .returned (.tuple #[.agg #[.int .i64 ck, .int .i64 cn, .slice va cq vc], .int .i64 (Y : Int)]) ∧ S5 D p F fv B kb n g H T U W H2 T2 U2 ac w2 ∧ Os U2 w2 cm (.agg #[.int .i64 ck, .int .i64 cn, .slice va cq vc])) := by
                    refine (hih H' T' U' w1 S1.out.ks (S1.out.fl hFlH.out hVH.out hTB.out)).mono ?_
                    rintro e w2 ⟨v2, H2, T2, U2, rfl, k2, o2, m2, h2⟩
                    rw [hcm.out] at o2
                    obtain ⟨va, vc, rfl⟩ := o2.shape
                    rw [hck.out, hcn.out, hcq.out] at o2 ⊢
                    exact ⟨va, vc, H2, T2, U2, by rw [hY.out], S1.out.call k2 m2 (fun x hx => by
                      rcases h2 x hx with q | q
                      · exact .inl q
                      · exact .inr (by omega)), o2⟩
                  have hsizeH : Hid (Calls Tryd.prog 77 #[.int .i64 (n : Int)] w1 fun e w' => e = .returned (.tuple #[.int .i64 (M : Int), .int .i64 0]) ∧ w' = w1) := by
                    refine (r13SizeOk_c n w1 (by omega) hbg.2).mono ?_
                    rintro e w' ⟨s, rfl, h1, _, rfl⟩
                    exact ⟨by rw [hszqH.out s h1], rfl⟩
                  clear hih hszq hsz hblu hi0 hbg hcl3 hsm hdm hmu hbM hn22 hn8 h2n haccH2 hbc hMM hbb hM1
                  have hlzb := Pl.lsv_lt ac
                  rw [hlz.out] at hlzb
                  go_wp2_with fail
                  refine hsizeH.out.mono ?_
                  rintro e w' ⟨rfl, rfl⟩
                  have x0 := S1.out.bp.c0
                  have x1 := S1.out.bp.c1
                  have x2 := S1.out.bp.c2
                  go_wp2_with fail
                  refine hcallH.out.mono ?_
                  rintro e w2 ⟨va, vc, H2, T2, U2, rfl, S2', o2'⟩
                  clear x0 x1 x2 hcallH hsizeH
                  have hgqlt0 := S2'.lt
                  obtain ⟨gq, hgq⟩ : ∃ z, Hid (w2.heap.size = z) := ⟨_, (rfl : _ = _)⟩
                  have hgqlt : Hid (g + 2 < gq) := by show _ < _; rw [← hgq.out]; exact hgqlt0
                  clear hgqlt0
                  obtain ⟨w3, ew3⟩ : ∃ z, Hid (w2.alloc (.cells #[.int .i64 ck, .int .i64 cn, .slice va cq vc] 24) = z) := ⟨_, (rfl : _ = _)⟩
                  have B23 : Below w2.heap.size w2 w3 := by rw [← ew3.out]; exact (Below.refl _ _).alloc (Nat.le_refl _) _
                  have S3 : Hid (S5 D p F fv B kb n g H T U W H2 T2 U2 ac w3) := S2'.bel B23
                  have Q3 : Hid (Bo w3 gq ck cn (.slice va cq vc)) := by
                    have h : Bo w3 w2.heap.size ck cn (.slice va cq vc) := by rw [← ew3.out]; exact Bo.new _ _ _ _
                    rw [hgq.out] at h
                    exact h
                  have o3 : Hid (Os U2 w3 cm (.agg #[.int .i64 ck, .int .i64 cn, .slice va cq vc])) := o2'.bel B23
                  clear S2' o2' B23
                  go_upto_region 31 with fail
                  rw [ew3.out, hgq.out]
                  have hY0 : (0 : Int) ≤ (Y : Int) := by omega
                  have r0 := Q3.out.c0
                  have r1 := Q3.out.c1
                  have r2 := Q3.out.c2
                  obtain ⟨xa, xc, hbo, -⟩ := S3.out.bi.ex
                  have b0 := hbo.c0
                  have b1 := hbo.c1
                  have b2 := hbo.c2
                  have bf0 := hbo.fz 0
                  have bf1 := hbo.fz 1
                  have bf2 := hbo.fz 2
                  have hgl3 := S3.out.lt
                  have hgq2 : g + 2 < gq := hgqlt.out
                  have n2 : ¬ gq = g + 2 := by omega
                  have n4 : ¬ g + 2 = gq := by omega
                  clear hbo hgq2
                  by_cases hs : lz < 0 ∨ (C : Int) < lz
                  · obtain ⟨hl1, hl2'⟩ := Pl.lsv_yes (l := ac) (t := ⟨4, n, [cm]⟩) (by rw [hlz.out, hC.out]; exact hs)
                    rw [haccH3.out] at hl1 hl2'
                    rw [hC.out] at hl1
                    obtain ⟨U4, S8'⟩ := S3.out.blue o3.out hck.out hcn.out hfitH.out hl2'
                    obtain ⟨w8, ew8⟩ : ∃ w8, Hid ((((w3.setCell ⟨g + 2, 0, none⟩ (.int .i64 4)).setCell ⟨g + 2, 1, none⟩ (.int .i64 (n : Int))).setCell ⟨g + 2, 2, none⟩ (.slice (some ⟨w3.heap.size, 0, none⟩) 1 1)).alloc (.cells #[.int .i64 ck, .int .i64 cn, .slice va cq vc] 24) = w8) := ⟨_, (rfl : _ = _)⟩
                    have e8 : (st3 w3 (g + 2) 4 (n : Int) (.slice (some ⟨w3.heap.size, 0, none⟩) 1 1)).alloc (.cells #[.int .i64 ck, .int .i64 cn, .slice va cq vc] 24) = w8 := ew8.out
                    rw [e8] at S8'
                    have hfin : Hid (R2 (.int .i64 (C : Int)) w8) := by
                      show R2 _ _
                      rw [← hR2.out]
                      exact ⟨H2, T2, U4, by rw [hl1], S8'⟩
                    clear hl1 hl2' S8' e8
                    by_cases h1 : lz < 0
                    · clear hs
                      go_wp2_with fail
                      rw [ew8.out]
                      go_meet
                      exact hfin.out
                    · have h1' : decide (lz < 0) = false := decide_eq_false h1
                      have h2 : (C : Int) < lz := by
                        rcases hs with h | h
                        · exact absurd h h1
                        · exact h
                      clear hs
                      go_wp2_with fail
                      rw [ew8.out]
                      go_meet
                      exact hfin.out
                  · have h1 : ¬ lz < 0 := fun h => hs (.inl h)
                    have h2 : ¬ (C : Int) < lz := fun h => hs (.inr h)
                    obtain ⟨hl1, hl2'⟩ := Pl.lsv_no (l := ac) (t := ⟨4, n, [cm]⟩) (by rw [hlz.out]; exact h1) (by rw [hlz.out, hC.out]; exact h2)
                    rw [haccH3.out] at hl1 hl2'
                    have hfin : Hid (R2 (.int .i64 lz) w3) := by
                      show R2 _ _
                      rw [← hR2.out]
                      exact ⟨H2, T2, U2, by rw [hl1, hlz.out], S3.out.eqv hl2'⟩
                    have h1' : decide (lz < 0) = false := decide_eq_false h1
                    have h2' : decide ((C : Int) < lz) = false := decide_eq_false h2
                    clear hl1 hl2' hs
                    go_wp2_with fail
                    go_meet
                    exact hfin.out
              case rest => as_aux_lemma =>
                rw [← hR2.out] at hcut
                obtain ⟨H2, T2, U2, rfl, S2⟩ := hcut
                rename World => wt
                rw [hclv.out]
                obtain ⟨vN2, vO2, vC2, ss2, kg, hT2⟩ := S2.out.ks.kg
                have hnn : Hid (n ∉ H2) := fun hm => by
                  rcases S2.out.hh n hm with q | q
                  · exact hnH.out q
                  · omega
                have hfew2 : H2.length ≤ 16385 := S2.out.ks.few
                have hKd : Hid (H2.Nodup ∧ (∀ m ∈ H2, Pl.Dm p m) ∧ ∀ m ∈ H2, m ∈ H ∨ Pl.mu p m < Pl.mu p n) := ⟨S2.out.ks.nd, S2.out.ks.dm, S2.out.hh⟩
                have J0 : Hid (J5 B kb g T U W vN2 vO2 vC2 H2 (H2.map (Pl.ch D F p)) ss2 (H2.map (tc D F p)) U2 cl wt) := ⟨kg, by have := S2.out.mv; rw [hT2] at this; exact this, S2.out.br, S2.out.bi, fun b hb => S2.out.lc b (by rw [hT2]; exact hb), S2.out.sz⟩
                have hBs : Hid (B ≤ wt.heap.size) := Nat.le_of_lt S2.out.ks.size
                obtain ⟨aO, cO, rfl⟩ := own_shape kg.oO
                obtain ⟨L2, hL2⟩ : ∃ z, Hid (H2.length = z) := ⟨_, (rfl : _ = _)⟩
                have oN := kg.oN
                have c0 := kg.c0
                have f0 := kg.fz 0
                rw [hL2.out] at oN hfew2
                have oNH : Hid (wt.ownsRow B 3 1 vN2 L2 (il H2)) := oN
                obtain ⟨i0, hi0, hz0, hz1, hz2⟩ := info_parts infoI9
                clear kg hT2 S2 oN hlz Sa S1 hac haccH hsec hbb hR2
                go_wp2_with (at_builtin; refine wpList_append_fr _ rfl _ _ 43 rfl B 3 i0 (.int .i64 0) 1 8 Tryd.underlying43 hi0 hz0 hz1 hz2 rfl (by decide) vN2 L2 (il H2) rfl (oNH.out.alloc _) ⟨wt.heap.size, 0, none⟩ 1 1 [.int .i64 (n : Int)] rfl rfl (by intro j u' hj; match j, hj with | 0, hj => simp at hj; subst hj; simp [Addr.add] | j + 1, hj => simp at hj) (by intro u' hu'; simp at hu'; subst hu'; rfl) (by unfold maxLen; omega) (by omega) (by have := hBs.out; simp; omega) ?_)
                intro v5 w5 q1 q2 q3
                obtain ⟨a5, c5, rfl⟩ := own_shape q1
                obtain ⟨v5, hv5⟩ : ∃ z, Hid (Value.slice a5 (L2 + 1) c5 = z) := ⟨_, (rfl : _ = _)⟩
                rw [hv5.out] at q1 q3
                have BA : Below wt.heap.size wt (wt.alloc (.cells #[.int .i64 (n : Int)] 3)) := (Below.refl _ _).alloc (Nat.le_refl _) _
                have kgA := J0.out.kg.bel BA
                have hkb5 := (q2.block kb kgA.lt (fun e => kgA.nk.1 e.symm)).trans kgA.blk
                obtain ⟨kg6, kt6⟩ := kgA.putN (z := n) (by rw [il_snoc, List.length_append, hL2.out]; exact q1) q2 (fun b e => by have := q3 b e; simpa using this)
                have J6' : Hid (J5 B kb g T U W v5 (.slice aO L2 cO) vC2 (H2 ++ [n]) (H2.map (Pl.ch D F p)) ss2 (H2.map (tc D F p)) U2 cl (w5.setCell ⟨kb, 0, none⟩ (.slice a5 (L2 + 1) c5))) := by
                  rw [hv5.out]
                  have e9 : (H2.map (Pl.ch D F p)).length = L2 := by rw [List.length_map]; exact hL2.out
                  rw [e9] at kg6 kt6
                  have J0' := J0.out
                  rw [e9] at J0'
                  refine J0'.step kg6 ?_ ?_
                  · exact (KT.of_below BA).trans (kt6.weak fun b _ t => .inl t)
                  · intro b t
                    rcases t with t | t | t | t
                    · exact .inl (.inl t)
                    · rcases q3 b t with q | q
                      · exact .inl (.inr (.inl q))
                      · exact .inr (by omega)
                    · exact .inl (.inr (.inr (.inl t)))
                    · exact .inl (.inr (.inr (.inr t)))
                have hsz6 : Hid (B ≤ w5.heap.size) := by have := q2.size; have := BA.size; have := hBs.out; show _ ≤ _; omega
                have e0 : w5.cell? ⟨kb, 0, none⟩ = some vN2 := by rw [Joins.cell_of_block hkb5]; rfl
                have ef0 : w5.frozen? ⟨kb, 0, none⟩ = false := Joins.unfrozen_of_block hkb5 0
                clear q1 q2 q3 BA kgA hkb5 kg6 kt6 oNH J0 hBs c0 f0
                obtain ⟨w6, ew6⟩ : ∃ z, Hid (w5.setCell ⟨kb, 0, none⟩ (.slice a5 (L2 + 1) c5) = z) := ⟨_, (rfl : _ = _)⟩
                have hsz7 : Hid (B ≤ w6.heap.size) := by show _ ≤ _; rw [← ew6.out, sc_size]; exact hsz6.out
                rw [ew6.out] at J6'
                go_upto_region 35 with fail
                rw [ew6.out]
                clear e0 ef0 hsz6
                have kg6 := J6'.out.kg
                have c0 := kg6.c1
                have f0 := kg6.fz 1
                obtain ⟨ba, bc, hbo, hos⟩ := J6'.out.bi.ex
                obtain ⟨bt, hbt⟩ : ∃ z, Hid (Pl.bst cl = z) := ⟨_, (rfl : _ = _)⟩
                rw [hbt.out] at hbo hos
                have hosH : Hid (Os U2 w6 bt (.agg #[.int .i64 bt.k, .int .i64 bt.n, .slice ba bt.ks.length bc])) := hos
                obtain ⟨bk, hbk⟩ : ∃ z, Hid (bt.k = z) := ⟨_, (rfl : _ = _)⟩
                obtain ⟨bn, hbn⟩ : ∃ z, Hid (bt.n = z) := ⟨_, (rfl : _ = _)⟩
                obtain ⟨bl, hbl⟩ : ∃ z, Hid (bt.ks.length = z) := ⟨_, (rfl : _ = _)⟩
                rw [hbk.out, hbn.out, hbl.out] at hbo
                have hboH : Hid (Bo w6 (g + 2) bk bn (.slice ba bl bc)) := hbo
                have b0 := hbo.c0
                have b1 := hbo.c1
                have b2 := hbo.c2
                have hkl := kg6.lt
                have hgl := hbo.lt
                have hgk : ¬ g + 2 = kb := fun e => by have := J6'.out.lc kb (.inl (.inl rfl)); omega
                have hgk2 : ¬ kb = g + 2 := fun e => hgk e.symm
                have e9 : (H2.map (Pl.ch D F p)).length = L2 := by rw [List.length_map]; exact hL2.out
                have hoO := kg6.oO
                rw [e9] at hoO
                obtain ⟨xs, hxs⟩ : ∃ z, Hid (cso (H2.map (Pl.ch D F p)) ss2 = z) := ⟨_, (rfl : _ = _)⟩
                have hxl : Hid (xs.length = L2 * 3) := by show _ = _; rw [← hxs.out, cso_len _ _ kg6.len, e9]
                rw [hxs.out] at hoO
                have hOH : Hid (∀ Z, Below w6.heap.size w6 Z → Z.ownsRow B 24 3 (.slice aO L2 cO) L2 xs) := fun Z hZ => own_keep hoO fun b e => hZ.block b (own_ty hoO e).2.1
                obtain ⟨R5, hR5⟩ : ∃ R : World → Prop, Hid ((fun wx => ∃ vO3 ss3, J5 B kb g T U W v5 vO3 vC2 (H2 ++ [n]) (H2.map (Pl.ch D F p) ++ [bt]) ss3 (H2.map (tc D F p)) U2 cl wx) = R) := ⟨_, (rfl : _ = _)⟩
                have finH : Hid (∀ (wA w7 : World) (r c : Nat), Below w6.heap.size w6 wA → w7.ownsRow B 24 3 (.slice (some ⟨r, 0, none⟩) (L2 + 1) c) (L2 + 1) (xs ++ [.int .i64 0, .int .i64 0, .slice none 0 0]) → wA.grownBy w7 (Value.slice aO L2 cO).ownBlock → ((Value.slice aO L2 cO).ownBlock = some r ∨ wA.heap.size ≤ r) → ∀ w8, (w8 = (s3 w7 r (L2 * 3) bk bn (.slice ba bl bc)).setCell ⟨kb, 1, none⟩ (.slice (some ⟨r, 0, none⟩) (L2 + 1) c) ∨ w8 = s3 (w7.setCell ⟨kb, 1, none⟩ (.slice (some ⟨r, 0, none⟩) (L2 + 1) c)) r (L2 * 3) bk bn (.slice ba bl bc)) → R5 w8) := fun wA w7 r c hA p1 p2 p3 w8 h8 => by
                  have kgA := J6'.out.kg.bel hA
                  obtain ⟨kg8, kt8⟩ := kgA.putO3 (t0 := bt) (s0 := .slice ba bt.ks.length bc) ⟨_, _, _, rfl⟩ (hosH.out.bel hA) (by rw [e9, hxs.out]; exact p1) p2 p3 w8 (by rw [e9, hbk.out, hbn.out, hbl.out]; exact h8)
                  rw [← hR5.out]
                  refine ⟨_, _, J6'.out.step kg8 ?_ ?_⟩
                  · exact (KT.of_below hA).trans (kt8.weak fun b hb t => by
                      rcases t with t | t | t
                      · exact .inl (.inl t)
                      · exact .inl (.inr (.inr (.inl t)))
                      · exact .inr (Nat.le_trans hA.size t))
                  · intro b t
                    rcases t with t | t | t | t
                    · exact .inl (.inl t)
                    · exact .inl (.inr (.inl t))
                    · cases t
                      rcases p3 with q | q
                      · exact .inl (.inr (.inr (.inl q)))
                      · exact .inr (Nat.le_trans hA.size q)
                    · exact .inl (.inr (.inr (.inr t)))
                have hcell : Hid (∀ (wA w7 : World) (r : Nat), Below w6.heap.size w6 wA → wA.grownBy w7 (Value.slice aO L2 cO).ownBlock → ((Value.slice aO L2 cO).ownBlock = some r ∨ wA.heap.size ≤ r) → Bo w7 (g + 2) bk bn (.slice ba bl bc) ∧ w7.cell? ⟨kb, 1, none⟩ = some (.slice aO L2 cO) ∧ w7.frozen? ⟨kb, 1, none⟩ = false ∧ ¬ r = kb ∧ ¬ r = g + 2) := fun wA w7 r hA p2 p3 => by
                  have kgA := J6'.out.kg.bel hA
                  have hkb := (p2.block kb kgA.lt (fun e => kgA.nk.2.1 e.symm)).trans kgA.blk
                  have hbA := hboH.out.bel hA
                  have hne : ¬ (Value.slice aO L2 cO).ownBlock = some (g + 2) := fun e => by have := J6'.out.lc (g + 2) (.inl (.inr (.inr (.inl e)))); omega
                  refine ⟨⟨(p2.block (g + 2) hbA.lt (fun e => hne e.symm)).trans hbA.b⟩, by rw [Joins.cell_of_block hkb]; rfl, Joins.unfrozen_of_block hkb 1, fun e => ?_, fun e => ?_⟩
                  · subst e
                    rcases p3 with q | q
                    · exact kgA.nk.2.1 q
                    · have := kgA.lt; omega
                  · subst e
                    rcases p3 with q | q
                    · exact hne q
                    · have := hbA.lt; omega
                have hL2b : L2 ≤ 20000 := by omega
                have ca0 := cell_alloc c0 (.cells #[.int .i64 0, .int .i64 0, .slice none 0 0] 24)
                have ba0 := cell_alloc b0 (.cells #[.int .i64 0, .int .i64 0, .slice none 0 0] 24)
                have ba1 := cell_alloc b1 (.cells #[.int .i64 0, .int .i64 0, .slice none 0 0] 24)
                have ba2 := cell_alloc b2 (.cells #[.int .i64 0, .int .i64 0, .slice none 0 0] 24)
                obtain ⟨L3, hL3, hL3a, hL3b⟩ : ∃ z, Hid (L2 + 1 = z) ∧ (L2 : Int) < (z : Int) ∧ ¬ z ≤ L2 := ⟨_, (rfl : _ = _), by omega, by omega⟩
                clear kg6 hbo hos hoO e9 hkl hgl
                go_cut [] (fun wx => R5 wx)
                case first => as_aux_lemma =>
                  go_region_law (first
                    | (refine step_ord rfl (.tmp 210) (.tmp 213) rfl B L2 (.slice aO L2 cO) xs (by simp [Act.eval, Act.put]) (hOH.out _ ((Below.refl _ _).alloc (Nat.le_refl _) _).drew) w6.heap.size 1 (by simp [Act.eval, Act.put]) (heap_alloc_new w6 _) hL2b (Nat.le_trans hsz7.out ((Below.refl w6.heap.size w6).alloc (Nat.le_refl _) _).drew.size) ?_
                       intro r c w7 p1 p2 p3
                       obtain ⟨hB7, k1, k2, k3, k4⟩ := hcell.out _ _ r ((Below.refl _ _).alloc (Nat.le_refl _) _).drew p2 p3
                       have hf7 := finH.out _ _ r c ((Below.refl _ _).alloc (Nat.le_refl _) _).drew p1 p2 p3
                       rw [hL3.out] at hf7 ⊢
                       have hf7H : Hid (∀ w8, _ → R5 w8) := hf7
                       obtain ⟨zf, z0, z1, z2⟩ := own_zero p1 hxl.out
                       have zf0 := zf (L2 * 3)
                       have zf1 := zf (L2 * 3 + 1)
                       have zf2 := zf (L2 * 3 + 2)
                       have d0 := hB7.c0
                       have d1 := hB7.c1
                       have d2 := hB7.c2
                       have k5 : ¬ kb = r := fun e => k3 e.symm
                       have k6 : ¬ g + 2 = r := fun e => k4 e.symm
                       clear hB7 p1 p2 p3 hf7 zf)
                    | fail)
                  all_goals (go_wp2_with fail; go_meet; first | exact hf7H.out _ (.inl rfl) | exact hf7H.out _ (.inr rfl))
                case rest => as_aux_lemma =>
                rw [← hR5.out] at hcut
                obtain ⟨vO3, ss3, J8⟩ := hcut
                rename World => w8
                clear hR5 finH hcell hOH hboH hosH ca0 ba0 ba1 ba2 b0 b1 b2 c0 f0 hxl hxs
                have J8H : Hid (J5 B kb g T U W v5 vO3 vC2 (H2 ++ [n]) (H2.map (Pl.ch D F p) ++ [bt]) ss3 (H2.map (tc D F p)) U2 cl w8) := J8
                have hBs : Hid (B ≤ w8.heap.size) := by have := J8.kg.kB; have := J8.kg.lt; show _ ≤ _; omega
                have e9 : (H2.map (tc D F p)).length = L2 := by rw [List.length_map]; exact hL2.out
                have oC := J8.kg.oC
                rw [e9] at oC
                obtain ⟨lc, hlc⟩ : ∃ z, Hid (H2.map (tc D F p) = z) := ⟨_, (rfl : _ = _)⟩
                rw [hlc.out] at oC
                have oCH : Hid (w8.ownsRow B 3 1 vC2 L2 (il lc)) := oC
                have c0 := J8.kg.c2
                have f0 := J8.kg.fz 2
                have hfb : fn ≤ 4611686018427387905 := by
                  rw [← hfn.out]
                  exact tm_le _
                clear J8 oC e9
                go_wp2_with (at_builtin; refine wpList_append_fr _ rfl _ _ 43 rfl B 3 i0 (.int .i64 0) 1 8 Tryd.underlying43 hi0 hz0 hz1 hz2 rfl (by decide) vC2 L2 (il lc) rfl (oCH.out.alloc _) ⟨w8.heap.size, 0, none⟩ 1 1 [.int .i64 (fn : Int)] rfl rfl (by intro j u' hj; match j, hj with | 0, hj => simp at hj; subst hj; simp [Addr.add] | j + 1, hj => simp at hj) (by intro u' hu'; simp at hu'; subst hu'; rfl) (by unfold maxLen; omega) (by omega) (by have := hBs.out; simp; omega) ?_)
                intro v9 w9 q1 q2 q3
                obtain ⟨a9, c9, rfl⟩ := own_shape q1
                obtain ⟨v9, hv9⟩ : ∃ z, Hid (Value.slice a9 (L2 + 1) c9 = z) := ⟨_, (rfl : _ = _)⟩
                rw [hv9.out] at q1 q3
                have BA : Below w8.heap.size w8 (w8.alloc (.cells #[.int .i64 (fn : Int)] 3)) := (Below.refl _ _).alloc (Nat.le_refl _) _
                have kgA := J8H.out.kg.bel BA
                have hkb9 := (q2.block kb kgA.lt (fun e => kgA.nk.2.2 e.symm)).trans kgA.blk
                have hll9 : lc.length = L2 := by rw [← hlc.out, List.length_map]; exact hL2.out
                obtain ⟨kg10, kt10⟩ := kgA.putC (z := fn) (by rw [hlc.out, il_snoc, List.length_append, hll9]; exact q1) q2 (fun b e => by have := q3 b e; simpa using this)
                have J10 : Hid (J5 B kb g T U W v5 vO3 v9 (H2 ++ [n]) (H2.map (Pl.ch D F p) ++ [bt]) ss3 (H2.map (tc D F p) ++ [fn]) U2 cl (w9.setCell ⟨kb, 2, none⟩ (.slice a9 (L2 + 1) c9))) := by
                  rw [hv9.out]
                  refine J8H.out.step kg10 ?_ ?_
                  · exact (KT.of_below BA).trans (kt10.weak fun b _ t => .inl t)
                  · intro b t
                    rcases t with t | t | t | t
                    · exact .inl (.inl t)
                    · exact .inl (.inr (.inl t))
                    · exact .inl (.inr (.inr (.inl t)))
                    · rcases q3 b t with q | q
                      · exact .inl (.inr (.inr (.inr q)))
                      · exact .inr (by omega)
                have e0 : w9.cell? ⟨kb, 2, none⟩ = some vC2 := by rw [Joins.cell_of_block hkb9]; rfl
                have ef0 : w9.frozen? ⟨kb, 2, none⟩ = false := Joins.unfrozen_of_block hkb9 2
                clear q1 q2 q3 BA kgA hkb9 kg10 kt10 oCH J8H hBs c0 f0 hll9
                obtain ⟨w10, ew10⟩ : ∃ z, Hid (w9.setCell ⟨kb, 2, none⟩ (.slice a9 (L2 + 1) c9) = z) := ⟨_, (rfl : _ = _)⟩
                rw [ew10.out] at J10
                go_upto_region 37 with fail
                rw [ew10.out]
                clear e0 ef0
                obtain ⟨da, dc, hbo, hos⟩ := J10.out.bi.ex
                rw [hbt.out] at hbo hos
                have hosH : Hid (Os U2 w10 bt (.agg #[.int .i64 bt.k, .int .i64 bt.n, .slice da bt.ks.length dc])) := hos
                rw [hbk.out, hbn.out, hbl.out] at hbo hosH
                have b0 := hbo.c0
                have b1 := hbo.c1
                have b2 := hbo.c2
                have hbr := J10.out.br
                have r0 := hbr.c0
                have r1 := hbr.c1
                have r2 := hbr.c2
                have rf0 := hbr.fz 0
                have rf1 := hbr.fz 1
                have rf2 := hbr.fz 2
                have hbr9 := st3_bo hbr bk bn (.slice da bl dc)
                have hkt : Hid (KT (fun x => x = g + 1) w10 (st3 w10 (g + 1) bk bn (.slice da bl dc))) := st3_kt _ _ _ _ _
                obtain ⟨w11, ew11⟩ : ∃ w11, Hid (((w10.setCell ⟨g + 1, 0, none⟩ (.int .i64 bk)).setCell ⟨g + 1, 1, none⟩ (.int .i64 bn)).setCell ⟨g + 1, 2, none⟩ (.slice da bl dc) = w11) := ⟨_, (rfl : _ = _)⟩
                have e11 : st3 w10 (g + 1) bk bn (.slice da bl dc) = w11 := ew11.out
                rw [e11] at hbr9 hkt
                have q0 := hbr9.c0
                have q1 := hbr9.c1
                have q2 := hbr9.c2
                clear hbo hos hbr hbr9 e11
                go_wp2_with fail
                rw [ew11.out]
                refine bodyPost_ret (v := .tuple #[.agg #[.int .i64 bk, .int .i64 bn, .slice da bl dc], .int .i64 fn]) (by simp [results, Tryd.results48, go_sem, q0, q1, q2]) rfl ?_
                have hgT : ¬ Tk kb v5 vO3 v9 (g + 1) := fun h => by have := J10.out.lc _ (.inl h); omega
                have hgU : ¬ U2 (g + 1) := fun h => by have := J10.out.lc _ (.inr h); omega
                have hbt2 : Pl.ch D F p n = bt := hchH.out.trans hbt.out
                have hKS : KS D p F B kb (H2 ++ [n]) (Tk kb v5 vO3 v9) U2 w10 := by
                  refine ⟨⟨v5, vO3, v9, ss3, ?_, rfl⟩, ?_, fun m hm => ?_⟩
                  · rw [List.map_append, List.map_append, List.map_cons, List.map_nil, List.map_cons, List.map_nil, hbt2, hfn.out]
                    exact J10.out.kg
                  · rw [List.nodup_append]
                    exact ⟨hKd.out.1, by simp, fun x hx y hy => by
                      rw [List.mem_singleton] at hy
                      subst hy
                      exact fun e => hnn.out (e ▸ hx)⟩
                  · rcases List.mem_append.1 hm with q | q
                    · exact hKd.out.2.1 m q
                    · rw [List.mem_singleton] at q
                      rw [q]; exact hdH.out
                refine ⟨_, H2 ++ [n], Tk kb v5 vO3 v9, U2, by rw [hfn.out], hKS.loc hkt.out hgT hgU, ?_, J10.out.mv.loc hkt.out (by have := J10.out.sz; omega), fun m hm => ?_⟩
                · rw [hbt2]
                  exact Os.keep (fun _ hx => hx) (fun x hx hl => hkt.out.block x hl (fun e => hgU (by rw [← e]; exact hx))) bt _ hosH.out
                · rcases List.mem_append.1 hm with q | q
                  · rcases hKd.out.2.2 m q with q | q
                    · exact .inl q
                    · exact .inr (Nat.le_of_lt q)
                  · rw [List.mem_singleton] at q
                    rw [q]; exact .inr (Nat.le_refl _)
end Go.Proofs.YtoaccmblaifnmaaDoor
