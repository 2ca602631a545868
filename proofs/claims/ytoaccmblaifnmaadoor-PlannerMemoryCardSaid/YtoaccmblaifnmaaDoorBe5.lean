/-
  The document's planner: all, the step.
-/
import Derived.WalkKit
import Ieee.Arith
import Derived.WalkLawsBesides
import Derived.Laws.FloatArith
import Derived.Test.YtoaccmblaifnmaaDoorProg
import Derived.RegionTactic
import Derived.Outline
import Derived.Lib.Mul64
import Derived.Laws.Bits64b
import Derived.Deep.QuietTactic
import Derived.BigQuiet
import Derived.WalkSmall
import Derived.Deep.CutBlock
import Derived.Deep.DeepCutAuto
import Derived.Laws.Rows
import Derived.Lib.ItoaNum
import Derived.Laws.IdiomStrings
import Derived.Deep.RegionHeld3
import Derived.Lib.SmallJoins
import Derived.Lib.HexFns
import Derived.Test.YtoaccmblaifnmaaDoorRows
import Derived.LaidEql
import Derived.LaidLaws
import Derived.LaidHandle
import Derived.Stop.Joined
import Derived.Deep.RegionWith
import Derived.Recover
import Derived.RegionDies
import Derived.Laws.CopyOwn
import Derived.Lib.AppendIntMem
import Derived.Deep.RegionHeldLaw
import Derived.Maps.AppendAt
import Derived.Laws.OwnMore
import Derived.RangeFuncNested
import Derived.RangeFuncBound
import Derived.RangeFuncCalls
import Derived.RangeFuncLeaves
import Derived.RangeFuncBox
import Derived.Shelf.Abstract
import Derived.Shelf.RegionOpen
import Derived.OwnWalkIn
import Derived.TacticsInMore
import Derived.LoopNIn
import Derived.LoopIn
import Derived.Laws.AppendOwn
import Derived.OwnWalk
import Derived.BigCall
import Derived.Laws.ComplexArith
import Derived.Laws.MakeOwn
import Derived.MapKept
import Derived.Carry
import Derived.ChangeAlike
import Derived.Deep.RegionLaw
import Derived.Defers
import Derived.Deep.AppendSrc
import Derived.Lib.LaidTab
import Derived.LaidSub
import Derived.LaidMore
import Derived.ProofKit
import Derived.Laws.AppendOwnNone
import Derived.Test.YtoaccmblaifnmaaDoorBd8
import Derived.Test.YtoaccmblaifnmaaDoorBe4
namespace Go.Proofs.YtoaccmblaifnmaaDoor
open Flo Go.RowKit Tr
/-- the leaves of a length, appended to nothing -/
theorem wpList_lvs {ops : Array Oper} {rest : List Oper} {o : Oper} {a : Act} {w : World} {Q : Exit → Act → World → Prop}
    (hg : o.guard = none) (s x : Operand) (hop : o.op = Op.call { callee := Callee.builtin Builtin.append, args := #[s, x], argTypes := #[22, 22] })
    (B : Nat) (hs : a.eval s = .slice none 0 0) (hB : B ≤ w.heap.size) (xv : Value) (hx : a.eval x = xv) {Bx : Nat} {ls : List Tr} {ss : List Value} (hG : Gr Bx w xv ls ss) (hl : ∀ t ∈ ls, t.ks = [] ∧ fit t.k t.n) (h2 : ls.length ≤ 2)
    (h : ∀ v' ss' w', Lrw B (fun _ => False) w' v' ls ss' → w.grownBy w' none → (∀ b, v'.ownBlock = some b → w.heap.size ≤ b) → wpList Tryd.prog ops Q rest (a.put o.dst v') w') : wpList Tryd.prog ops Q (o :: rest) a w := by
  obtain ⟨i0, hi0, iz0, iz1, iz2⟩ := info_o
  rcases hG.own.2 with ⟨e, e0⟩ | ⟨r, cap, cur, e, _, hh, hnc, hcm, hsz, htk⟩
  · have hls : ls = [] := List.length_eq_zero_iff.1 e0
    subst hls
    exact wpList_append_own_none hg s x 22 hop B 24 i0 3 Tryd.underlying22 hi0 (.slice none 0 0) 0 [] hs (World.ownsRow_nil _ _ _ _) (hx.trans e) (h _ [] w (Lrw.nil _ _ _) (Lib.Hx.grownBy_refl _ _) (fun b hb => by cases hb))
  · have hlc : (cso ls ss).length = ls.length * 3 := cso_len _ _ hG.len
    refine wpList_append_fr w hg s x 22 hop B 24 i0 _ 3 40 Tryd.underlying22 hi0 iz0 iz1 iz2 rfl (by decide) (.slice none 0 0) 0 [] hs (World.ownsRow_nil _ _ _ _) ⟨r, 0, none⟩ ls.length cap (cso ls ss) (hx.trans e) hlc (fun j u hj => ?_) (fun u hu => ?_) (by unfold maxLen; omega) (by omega) hB (fun v' w' q1 q2 q3 => ?_)
    · have hj2 : j < ls.length * 3 := by
        by_cases hc : j < ls.length * 3
        · exact hc
        · rw [List.getElem?_eq_none (by omega)] at hj; cases hj
      rw [add_pl, Joins.cell_of_block hh, ← hj, ← htk, List.getElem?_take, if_pos (by omega)]
      simp
    · unfold cso at hu
      obtain ⟨q, hq1, hq2⟩ := List.mem_flatMap.1 hu
      obtain ⟨a1, l1, c1, e1⟩ := hG.sl q.2 (List.of_mem_zip hq1).2
      simp only [List.mem_cons, List.not_mem_nil, or_false] at hq2
      rcases hq2 with rfl | rfl | rfl
      · rfl
      · rfl
      · rw [e1]; rfl
    · rw [Nat.zero_add, List.nil_append] at q1
      refine h v' ss w' ⟨q1, hG.len, hG.sl, fun j t s' h1 h3 => ?_, fun b _ hb => hb⟩ q2 (fun b hb => (q3 b hb).resolve_left (fun e => by cases e))
      have hk := hG.kid j t s' h1 h3
      obtain ⟨t1, t2⟩ := hl t (List.mem_of_getElem? h1)
      obtain ⟨a1, c1, e1⟩ := hk.shape
      simp only [Value.agg.injEq, Array.mk.injEq, List.cons.injEq, true_and, and_true] at e1
      rw [e1]
      obtain ⟨k9, n9, ks9⟩ := t
      simp only at t1 t2
      subst t1
      exact Os.leaf t2
/-- one order more on a list: a step of a region that draws its order -/
theorem step_or1 {ops : Array Oper} {o : Oper} {a : Act} {w : World} {K : Act → World → Prop} {Q : Exit → Act → World → Prop} {E : Prop}
    (hg : o.guard = none) (s x : Operand) (hop : o.op = Op.call { callee := Callee.builtin Builtin.append, args := #[s, x], argTypes := #[22, 22] })
    (B n : Nat) (v : Value) (xs : List Value) (hs : a.eval s = v) (hown : w.ownsRow B 24 3 v n xs)
    (fb fc : Nat) (k1 n1 : Int) (a1 : Option Addr) (l1 p1 : Nat) (hx : a.eval x = .slice (some ⟨fb, 0, none⟩) 1 fc) (hf : w.heap[fb]? = some (.cells #[.int .i64 k1, .int .i64 n1, .slice a1 l1 p1] 24 (0, 0))) (hn : n ≤ 20000) (hB : B ≤ w.heap.size)
    (hK : ∀ r c w', w'.ownsRow B 24 3 (.slice (some ⟨r, 0, none⟩) (n + 1) c) (n + 1) (xs ++ [.int .i64 k1, .int .i64 n1, .slice a1 l1 p1]) → w.grownBy w' v.ownBlock → (v.ownBlock = some r ∨ w.heap.size ≤ r) → K (a.put o.dst (.slice (some ⟨r, 0, none⟩) (n + 1) c)) w') :
    if Region.wanted o (yielded ops a.tmps) = true then Oper.wp Tryd.prog o a w K Q else E := by
  obtain ⟨i0, hi0, iz0, iz1, iz2⟩ := info_o
  have hw : Region.wanted o (yielded ops a.tmps) = true := by simp [Region.wanted, hg]
  rw [if_pos hw]
  obtain ⟨v', w', hrun, r1, r2, r3⟩ := append_fr (P := Tryd.prog) w B 22 o.type 24 i0 (.agg #[.int .i64 0, .int .i64 0, .slice none 0 0]) 3 40 Tryd.underlying22 hi0 iz0 iz1 iz2 rfl (by decide) v n xs hown ⟨fb, 0, none⟩ 1 fc [.int .i64 k1, .int .i64 n1, .slice a1 l1 p1] rfl (fun j u hj => by
    rw [add_pl, Joins.cell_of_block hf]
    match j, hj with
    | 0, hj => simpa using hj
    | 1, hj => simpa using hj
    | 2, hj => simpa using hj) (fun u hu => by simp at hu; rcases hu with rfl | rfl | rfl <;> rfl) (by unfold maxLen; omega) (by omega) hB
  unfold Oper.wp
  simp [execOp, hop, resolve, invoke, builtin, hs, hx, hrun, Result.andThen]
  rcases r1.2 with ⟨e, e0⟩ | ⟨r, cap, cur, e, q⟩
  · omega
  · subst e
    exact hK r cap w' r1 r2 (r3 r rfl)
theorem wpList_or1 {ops : Array Oper} {rest : List Oper} {o : Oper} {a : Act} {w : World} {Q : Exit → Act → World → Prop}
    (hg : o.guard = none) (s x : Operand) (hop : o.op = Op.call { callee := Callee.builtin Builtin.append, args := #[s, x], argTypes := #[22, 22] })
    (B n : Nat) (v : Value) (xs : List Value) (hs : a.eval s = v) (hown : w.ownsRow B 24 3 v n xs)
    (fb fc : Nat) (k1 n1 : Int) (a1 : Option Addr) (l1 p1 : Nat) (hx : a.eval x = .slice (some ⟨fb, 0, none⟩) 1 fc) (hf : w.heap[fb]? = some (.cells #[.int .i64 k1, .int .i64 n1, .slice a1 l1 p1] 24 (0, 0))) (hn : n ≤ 20000) (hB : B ≤ w.heap.size)
    (h : ∀ r c w', w'.ownsRow B 24 3 (.slice (some ⟨r, 0, none⟩) (n + 1) c) (n + 1) (xs ++ [.int .i64 k1, .int .i64 n1, .slice a1 l1 p1]) → w.grownBy w' v.ownBlock → (v.ownBlock = some r ∨ w.heap.size ≤ r) → wpList Tryd.prog ops Q rest (a.put o.dst (.slice (some ⟨r, 0, none⟩) (n + 1) c)) w') : wpList Tryd.prog ops Q (o :: rest) a w := by
  refine wpList_plain hg fun _ hK => ?_
  have := step_or1 (ops := ops) (E := True) (Q := Q) hg s x hop B n v xs hs hown fb fc k1 n1 a1 l1 p1 hx hf hn hB (fun r c w' h1 h2 h3 => hK _ _ (h r c w' h1 h2 h3))
  rwa [if_pos (by simp [Region.wanted, hg])] at this
/-- another list is gathered -/
theorem SA.put {D p : Int} {F : List Int} {fv kv kv' : Value} {B kb g : Nat} {T U : Nat → Prop} {W w : World} {H' : List Nat} {T' U' : Nat → Prop} {P P' : List Tr} {ss ss' : List Value} (h : SA D p F fv B kb g T U W H' T' U' P ss kv w) (hl : Lrw (g + 1) U' w kv' P' ss') (hn : ∀ b, kv'.ownBlock = some b → ¬ T' b) : SA D p F fv B kb g T U W H' T' U' P' ss' kv' w := ⟨h.ks, h.mv, h.bp, hl, hn, h.lc, h.hg⟩
/-- the row of the leaves of a divisor lies untouched -/
def LR (rb : Nat) (cur : Array Value) (T' U' : Nat → Prop) (kv : Value) (w : World) : Prop := w.heap[rb]? = some (.cells cur 24 (0, 0)) ∧ ¬ T' rb ∧ ¬ U' rb ∧ kv.ownBlock ≠ some rb
set_option maxHeartbeats 16000000 in
set_option maxRecDepth 100000 in
theorem dal_step {D p : Int} {F : List Int} {fv : Value} {B kb : Nat} {V : Nat → Prop} (gpo : Pl.GP D F p) (hF : F.length ≤ 1000) (hV : ∀ b, V b → b < B) (n : Nat) (hd : Pl.Dm p n) (ih : ∀ m, Pl.Dm p m → Pl.mu p m < Pl.mu p n → DAL D p F fv B kb V m) : DAL D p F fv B kb V n := by
  intro top H T U W ht1 ht2 hK hFl
  obtain ⟨g, hg⟩ : ∃ g, Hid (W.heap.size = g) := ⟨_, (rfl : _ = _)⟩
  obtain ⟨wa, ewa⟩ : ∃ wa, Hid (W.alloc (.cells #[.int .i64 D, fv, .int .i64 p] 45) = wa) := ⟨_, (rfl : _ = _)⟩
  have Ba : Below W.heap.size W wa := by rw [← ewa.out]; exact (Below.refl _ _).alloc (Nat.le_refl _) _
  have sa : wa.heap.size = g + 1 := by rw [← ewa.out, ← hg.out]; simp
  have Xp : Bp wa g D fv p := by
    have h := Bp.new W D p fv
    rw [ewa.out, hg.out] at h; exact h
  have lTU : ∀ b, T b ∨ U b → b ≠ g := fun b hb e => by
    have := hg.out
    rcases hb with h | h
    · have := (hK.tlt h).2; omega
    · have := (hK.ult h).2.1; omega
  have Sa : Hid (SA D p F fv B kb g T U W H T U [] [] (.slice none 0 0) wa) := ⟨hK.bel Ba, (Mv.refl T U W).bel Ba, Xp, Lrw.nil _ _ _, fun b h => by simp [Value.ownBlock] at h, lTU, hg.out⟩
  have hTB : Hid (∀ b, T b → B ≤ b) := fun b hb => (hK.tlt hb).1
  have hFlH : Hid (FlR V W fv F) := hFl
  have ihH : Hid (∀ m, Pl.Dm p m → Pl.mu p m < Pl.mu p n → DAL D p F fv B kb V m) := ih
  have gpH : Hid (Pl.GP D F p) := gpo
  have hFH : Hid (F.length ≤ 1000) := hF
  have hVH : Hid (∀ b, V b → b < B) := hV
  have hdH : Hid (Pl.Dm p n) := hd
  have hn1 : 1 ≤ n := hd.1
  have hn2 : n ≤ 16384 := hd.2.1
  have hlv : Hid (∀ (a : Nat) (H' : List Nat) (T' U' : Nat → Prop) (P : List Tr) (ss : List Value) (kv : Value) (w : World), a ≤ 16384 → SA D p F fv B kb g T U W H' T' U' P ss kv w → Calls Tryd.prog 72 #[.int .i64 (a : Int), .agg #[.int .i64 D, fv, .int .i64 p]] w (LvE w (Pl.lvs D F a))) := fun a H' T' U' P ss kv w ha h => dleaves_c a fv w (h.fl hFlH.out hVH.out hTB.out) hFH.out ha
  have x0 := Xp.c0
  have x1 := Xp.c1
  have x2 := Xp.c2
  obtain ⟨fa, fc, hfv, _⟩ := id hFl
  clear hK hFl ih gpo hF hV hd Ba Xp lTU
  obtain ⟨FL, hFLn⟩ : ∃ z, Hid (F.length = z) := ⟨_, (rfl : _ = _)⟩
  rw [hFLn.out] at hfv
  subst hfv
  go_enter Tryd.func51, Tryd.ntmps51
  go_upto_region 1 with fail
  rw [ewa.out, hg.out]
  go_wp2_with fail
  refine (hlv.out n _ _ _ _ _ _ _ hn2 Sa.out).mono ?_
  rintro e w1 ⟨kv, ss1, rfl, G1', B1'⟩
  have S1 : Hid (SA D p F (.slice fa FL fc) B kb g T U W H T U [] [] (.slice none 0 0) w1) := Sa.out.bel B1'
  have G1 : Hid (Gr wa.heap.size w1 kv (Pl.lvs D F n) ss1) := G1'
  clear x0 x1 x2 B1' G1'
  have hlfit : ∀ t ∈ Pl.lvs D F n, t.ks = [] ∧ fit t.k t.n := lvs_fit hn2
  have hsw : Hid (g + 1 ≤ w1.heap.size) := S1.out.lt
  go_upto_region 3 with fail
  go_wp2_with (at_builtin; refine wpList_lvs rfl _ _ rfl (g + 1) rfl hsw.out kv rfl G1.out hlfit (Pl.lvs_le D F n) ?_)
  intro v2 ss2 w2 q1 q2 q3
  have B2 : Below w1.heap.size w1 w2 := (Below.refl _ _).grown q2 (Nat.le_refl _) (fun k hk => by cases hk)
  have S2' := S1.out.bel B2
  have hL2 : Pl.acc D F (Pl.als D F p) n 2 = Pl.lvs D F n := Pl.acc_two D F (Pl.als D F p) n
  have S2 : Hid (SA D p F (.slice fa FL fc) B kb g T U W H T U (Pl.acc D F (Pl.als D F p) n 2) ss2 v2 w2) := by
    rw [hL2]
    refine S2'.put (q1.wid (fun _ h => h.elim) (fun b e u => ?_)) (fun b e t => ?_)
    · have := (S1.out.ks.ult u).2.1; have := q3 b e; omega
    · have := (S1.out.ks.tlt t).2; have := q3 b e; omega
  have hc2 : Hid (Pl.Cut (Pl.acc D F (Pl.als D F p) n n) (Pl.acc D F (Pl.als D F p) n 2) (Pl.acc D F (Pl.als D F p) n 2) top ∧ (Pl.acc D F (Pl.als D F p) n 2).length ≤ 4098) := by
    refine ⟨⟨?_, .inl rfl⟩, by rw [hL2]; have := Pl.lvs_le D F n; omega⟩
    by_cases h : 2 ≤ n
    · exact Pl.acc_pre hn1 (n - 2) 2 (Nat.le_refl _) (by omega)
    · rw [Pl.acc_end0 (by omega)]; exact List.prefix_refl _
  clear q1 q2 q3 B2 S2' hL2 S1 G1 Sa hlfit sa
  obtain ⟨sec, hsec⟩ : ∃ z, Hid (Pl.als D F p = z) := ⟨_, (rfl : _ = _)⟩
  rw [hsec.out] at S2 hc2
  go_wp2
  go_loopw [9, 11] (fun kv i wr => ∃ (a : Nat) (H' : List Nat) (T' U' : Nat → Prop) (P : List Tr) (ss : List Value), 2 ≤ a ∧ (a ≤ n ∨ a = 2) ∧ i = .int .i64 a ∧ Hid (SA D p F (.slice fa FL fc) B kb g T U W H' T' U' P ss kv wr) ∧ Hid (Pl.Cut (Pl.acc D F sec n n) (Pl.acc D F sec n a) P top ∧ P.length ≤ 4098)) (fun _ i _ => n - (intOf i).toNat)
  case atStart => exact ⟨2, H, T, U, _, _, Nat.le_refl _, .inr rfl, rfl, S2.out, hc2.out⟩
  case round => as_aux_lemma =>
    clear S2 hc2
    obtain ⟨a, H', T', U', P, ss, ha2, han, rfl, Sa, hcu⟩ := hrel
    rename World => wr
    obtain ⟨ka, kc, rfl⟩ := Sa.out.lo.shape
    obtain ⟨K, hK⟩ : ∃ z, Hid (P.length = z) := ⟨_, (rfl : _ = _)⟩
    have hK0 : K ≤ 4098 := by rw [← hK.out]; exact hcu.out.2
    rw [hK.out] at Sa
    rw [hK.out]
    by_cases hlt : a < n
    · have hlt' : (a : Int) < (n : Int) := by omega
      by_cases hKt : K < top
      · have hKt' : (K : Int) < (top : Int) := by omega
        by_cases hdv : a ∣ n
        · have hmod : n % a = 0 := Nat.mod_eq_zero_of_dvd hdv
          obtain ⟨hdm, hmu, hq2, hqa, hqh⟩ := Pl.quo_dm hdH.out hdv (by omega) hlt
          have hpe : Hid (∀ i, (Pl.lvs D F a).length ≤ i → Pl.pri D F sec n a i = Pl.acc D F sec n (a + 1)) := fun i hi => Pl.pri_end hn1 hdv (by omega) hlt hi
          have hpp : Hid (∀ i, Pl.pri D F sec n a i <+: Pl.acc D F sec n n) := fun i => Pl.pri_pre hn1 hdv (by omega) hlt
          have hp0 : Hid (Pl.pri D F sec n a 0 = Pl.acc D F sec n a) := Pl.pri_zero D F sec n a
          have hps : Hid (∀ i x, (Pl.lvs D F a)[i]? = some x → Pl.pri D F sec n a (i + 1) = Pl.pri D F sec n a i ++ (sec (n / a)).map fun b => ⟨3, 0, [x, b]⟩) := fun i x h => Pl.pri_succ h
          have hlfit : ∀ t ∈ Pl.lvs D F a, t.ks = [] ∧ fit t.k t.n := lvs_fit (by omega)
          have hlva := hlv.out a _ _ _ _ _ _ _ (by omega) Sa.out
          have hlvl := Pl.lvs_le D F a
          have x0 := Sa.out.bp.c0
          have x1 := Sa.out.bp.c1
          have x2 := Sa.out.bp.c2
          obtain ⟨la, hla⟩ : ∃ z, Hid (Pl.lvs D F a = z) := ⟨_, (rfl : _ = _)⟩
          rw [hla.out] at hlfit hlva hlvl hpe hps
          have hlfitH : Hid (∀ t ∈ la, t.ks = [] ∧ fit t.k t.n) := hlfit
          have hlvaH : Hid (Calls Tryd.prog 72 #[.int .i64 (a : Int), .agg #[.int .i64 D, .slice fa FL fc, .int .i64 p]] wr (LvE wr la)) := hlva
          clear hlva hlfit hlv
          go_upto_region 8 with fail
          go_wp2_with fail
          refine hlvaH.out.mono ?_
          rintro e w1 ⟨kvl, ss2, rfl, G1', B1'⟩
          have Sb : Hid (SA D p F (.slice fa FL fc) B kb g T U W H' T' U' P ss (.slice ka K kc) w1) := Sa.out.bel B1'
          obtain ⟨ka2, kc2, hkl⟩ := G1'.shape
          obtain ⟨l2, hl2⟩ : ∃ z, Hid (la.length = z) := ⟨_, (rfl : _ = _)⟩
          rw [hl2.out] at hkl hlvl
          obtain ⟨rb, cur, hrow⟩ : ∃ rb cur, 0 < l2 → Lfs w1 kvl la rb kc2 cur ∧ wr.heap.size ≤ rb := by
            by_cases h0 : 0 < l2
            · obtain ⟨rb, cap', cur, h1, h2⟩ := G1'.lfs hlfitH.out (by rw [hl2.out]; exact h0)
              have h3 := h1.kv
              rw [hkl] at h3
              injection h3 with _ _ h4
              subst h4
              exact ⟨rb, cur, fun _ => ⟨h1, (World.ownsRow.lt G1'.own rb h2).1⟩⟩
            · exact ⟨0, #[], fun h => absurd h h0⟩
          have hLR0 : Hid (0 < l2 → LR rb cur T' U' (.slice ka K kc) w1) := fun h0 => by
            obtain ⟨q1, q2⟩ := hrow h0
            refine ⟨q1.blk, fun t => ?_, fun u => ?_, fun e => ?_⟩
            · have := (Sa.out.ks.tlt t).2; omega
            · have := (Sa.out.ks.ult u).2.1; omega
            · have := (Sa.out.lo.ge e).2; omega
          have hka2 : Hid (0 < l2 → ka2 = some ⟨rb, 0, none⟩) := fun h0 => by
            have h3 := (hrow h0).1.kv
            rw [hkl] at h3
            injection h3
          have hcurA : Hid (∀ i t, la[i]? = some t → ∃ a c, t.ks = [] ∧ fit t.k t.n ∧ cur[i * 3]? = some (.int .i64 t.k) ∧ cur[i * 3 + 1]? = some (.int .i64 t.n) ∧ cur[i * 3 + 2]? = some (.slice a 0 c)) := fun i t h => (hrow (by
            have := (List.getElem?_eq_some_iff.1 h).1
            have := hl2.out
            omega)).1.at' i t h
          subst hkl
          clear x0 x1 x2 G1' B1' hlvaH hrow Sa
          have hcu2 : Hid (Pl.Cut (Pl.acc D F sec n n) (Pl.pri D F sec n a 0) P top ∧ P.length ≤ 4098) := by
            show _ ∧ _
            rw [hp0.out]; exact hcu.out
          clear hcu hp0
          obtain ⟨q, hq⟩ : ∃ z, Hid (n / a = z) := ⟨_, (rfl : _ = _)⟩
          rw [hq.out] at hps hdm hmu
          have hihH : Hid (DAL D p F (.slice fa FL fc) B kb V q) := ihH.out q hdm hmu
          have hqI : (n : Int).tdiv (a : Int) = (q : Int) := by rw [Int.tdiv_eq_ediv_of_nonneg (by omega), ← Int.natCast_ediv, hq.out]
          have hqI2 : (n : Int) / (a : Int) = (q : Int) := by rw [← Int.natCast_ediv, hq.out]
          have hq16 : q ≤ 16384 := hdm.2.1
          clear hdm hmu hq2 hqa hqh
          go_wp2
          go_loopw [9, 13] (fun kv i wx => ∃ (i0 : Nat) (H2 : List Nat) (T2 U2 : Nat → Prop) (P2 : List Tr) (ss2 : List Value), i0 ≤ l2 ∧ i = .int .i64 i0 ∧ Hid (SA D p F (.slice fa FL fc) B kb g T U W H2 T2 U2 P2 ss2 kv wx) ∧ Hid (Pl.Cut (Pl.acc D F sec n n) (Pl.pri D F sec n a i0) P2 top ∧ P2.length ≤ 4098) ∧ Hid (0 < l2 → LR rb cur T2 U2 kv wx)) (fun _ i _ => l2 - (intOf i).toNat)
          case atStart => exact ⟨0, H', T', U', P, ss, Nat.zero_le _, rfl, Sb.out, hcu2.out, hLR0.out⟩
          case round =>
            clear Sb hcu2 hLR0 hKt hKt' hK0 hK
            obtain ⟨i0, H2, T2, U2, P2, ss3, hi0, rfl, S2, hcu, hLR⟩ := hrel
            rename World => wx
            obtain ⟨k2, c2, rfl⟩ := S2.out.lo.shape
            obtain ⟨K2, hK2⟩ : ∃ z, Hid (P2.length = z) := ⟨_, (rfl : _ = _)⟩
            have hK20 : K2 ≤ 4098 := by rw [← hK2.out]; exact hcu.out.2
            rw [hK2.out] at S2 hLR
            rw [hK2.out]
            by_cases hil : i0 < l2
            · have hil' : (i0 : Int) < (l2 : Int) := by omega
              by_cases hKt : K2 < top
              · have hKt' : (K2 : Int) < (top : Int) := by omega
                obtain ⟨T3, hT3⟩ : ∃ z, Hid (top - K2 = z) := ⟨_, (rfl : _ = _)⟩
                have hT31 : 1 ≤ T3 ∧ T3 ≤ 4096 := by have := hT3.out; omega
                have hT3I : (top : Int) - (K2 : Int) = (T3 : Int) := by have := hT3.out; omega
                obtain ⟨bs, hbs⟩ : ∃ z, Hid ((sec q).take T3 = z) := ⟨_, (rfl : _ = _)⟩
                obtain ⟨LB, hLB⟩ : ∃ z, Hid (bs.length = z) := ⟨_, (rfl : _ = _)⟩
                have hLBb : Hid (LB ≤ T3) := by
                  show LB ≤ T3
                  rw [← hLB.out, ← hbs.out, List.length_take]; omega
                have hsx : g < wx.heap.size := S2.out.lt
                have hsxH : Hid (g < wx.heap.size) := hsx
                have hk2l : Hid (∀ b, (Value.slice k2 K2 c2).ownBlock = some b → b < wx.heap.size) := fun b e => (S2.out.lo.ge e).2
                have hcallH : Hid (Calls Tryd.prog 51 #[.pointer (some ⟨kb, 0, none⟩), .int .i64 (q : Int), .agg #[.int .i64 D, .slice fa FL fc, .int .i64 p], .int .i64 (T3 : Int)] wx.drew fun e w2 => ∃ kb2 cb2 bss H3 T3' U3, e = .returned (.slice kb2 LB cb2) ∧ SA D p F (.slice fa FL fc) B kb g T U W H3 T3' U3 P2 ss3 (.slice k2 K2 c2) w2 ∧ Lrw wx.heap.size U3 w2 (.slice kb2 LB cb2) bs bss ∧ (∀ b, (Value.slice kb2 LB cb2).ownBlock = some b → ¬ T3' b) ∧ (0 < l2 → LR rb cur T3' U3 (.slice k2 K2 c2) w2) ∧ (∀ b, (Value.slice kb2 LB cb2).ownBlock = some b → b ≠ rb)) := by
                  have Sd : SA D p F (.slice fa FL fc) B kb g T U W H2 T2 U2 P2 ss3 (.slice k2 K2 c2) wx.drew := S2.out.bel (Below.refl _ _).drew
                  refine (hihH.out T3 H2 T2 U2 wx.drew hT31.1 hT31.2 Sd.ks (Sd.fl hFlH.out hVH.out hTB.out)).mono ?_
                  rintro e w2 ⟨kvb, bss, H3, T3', U3, rfl, k3, m3, l3, n3⟩
                  rw [hsec.out, hbs.out] at l3
                  obtain ⟨kb2, cb2, rfl⟩ := l3.shape
                  rw [hLB.out] at l3 n3 ⊢
                  have l3' : Lrw wx.heap.size U3 w2 (.slice kb2 LB cb2) bs bss := l3
                  refine ⟨kb2, cb2, bss, H3, T3', U3, rfl, Sd.call k3 m3, l3', n3, fun h0 => ?_, fun b e => ?_⟩
                  · obtain ⟨q1, q2, q3, q4⟩ := hLR.out h0
                    have hrl := blk_lt q1
                    refine ⟨(m3.kt.block rb hrl q2).trans q1, fun t => ?_, fun u => ?_, q4⟩
                    · rcases m3.tn rb t with h | h
                      · exact q2 h
                      · have : wx.heap.size ≤ rb := h
                        omega
                    · rcases m3.un rb u with h | h
                      · exact q3 h
                      · have : wx.heap.size ≤ rb := h
                        omega
                  · have h1 := (l3'.ge e).1
                    have h2 := blk_lt (hLR.out (by omega)).1
                    omega
                have x0 := S2.out.bp.c0
                have x1 := S2.out.bp.c1
                have x2 := S2.out.bp.c2
                obtain ⟨R5, hR5⟩ : ∃ R : Value → World → Prop, Hid ((fun s14 wy => ∃ kb2 cb2 bss H3 T3' U3, s14 = Value.slice kb2 LB cb2 ∧ Hid (SA D p F (.slice fa FL fc) B kb g T U W H3 T3' U3 P2 ss3 (.slice k2 K2 c2) wy) ∧ Hid (Lrw wx.heap.size U3 wy (.slice kb2 LB cb2) bs bss ∧ (∀ b, (Value.slice kb2 LB cb2).ownBlock = some b → ¬ T3' b)) ∧ Hid (0 < l2 → LR rb cur T3' U3 (.slice k2 K2 c2) wy) ∧ Hid (∀ b, (Value.slice kb2 LB cb2).ownBlock = some b → b ≠ rb)) = R) := ⟨_, (rfl : _ = _)⟩
                clear hLR
                have ha0 : ((a : Int) == 0) = false := beq_eq_false_iff_ne.2 (by omega)
                go_upto_region 12 with fail
                go_cut [14] (fun s14 wy => R5 s14 wy)
                case first => as_aux_lemma =>
                  go_region_held_law (fun Z => Z.cell? ⟨g, 0, none⟩ = some (.int .i64 D) ∧ Z.cell? ⟨g, 1, none⟩ = some (.slice fa FL fc) ∧ Z.cell? ⟨g, 2, none⟩ = some (.int .i64 p)) (go_keep) ((first
                    | (go_at_call 51; refine hcallH.out.mono ?_; rintro e w2 ⟨kb2, cb2, bss, H3, T3', U3, rfl, s3, l3, n3, r3, e3⟩; have y0 := s3.bp.c0; have y1 := s3.bp.c1; have y2 := s3.bp.c2)
                    | fail))
                  all_goals
                    go_wp2_with fail
                    go_meet
                    rw [← hR5.out]
                    exact ⟨kb2, cb2, bss, H3, T3', U3, rfl, s3, ⟨l3, n3⟩, r3, e3⟩
                case rest => as_aux_lemma =>
                  rw [← hR5.out] at hcut
                  obtain ⟨kb2, cb2, bss, H3, T3', U3, rfl, S3, L3, hLR, hne⟩ := hcut
                  rename World => wy
                  clear x0 x1 x2 hcallH hR5 S2
                  obtain ⟨x, hx⟩ : ∃ x, la[i0]? = some x := ⟨_, List.getElem?_eq_getElem (by rw [hl2.out]; exact hil)⟩
                  obtain ⟨fq, hfq⟩ : ∃ z, Hid ((fun b : Tr => (⟨3, 0, [x, b]⟩ : Tr)) = z) := ⟨_, (rfl : _ = _)⟩
                  have hprn : Hid (Pl.pri D F sec n a (i0 + 1) = Pl.pri D F sec n a i0 ++ (sec q).map fq) := by
                    show _ = _
                    rw [← hfq.out]; exact hps.out i0 x hx
                  have hcm : Hid (Pl.Cut (Pl.acc D F sec n n) (Pl.pri D F sec n a (i0 + 1)) (P2 ++ bs.map fq) top ∧ (P2 ++ bs.map fq).length ≤ 4098) := by
                    have h := hcu.out.1.more (r := (sec q).map fq) (by rw [hK2.out]; exact hKt) (by rw [← hprn.out]; exact hpp.out _)
                    rw [hK2.out, hT3.out, ← List.map_take, hbs.out, ← hprn.out] at h
                    refine ⟨h, ?_⟩
                    rw [List.length_append, List.length_map, hK2.out, hLB.out]
                    have := hLBb.out
                    have := hT3.out
                    omega
                  obtain ⟨xa, xc, hxk, hxf, d0, d1, d2⟩ := hcurA.out i0 x hx
                  have hleafH : Hid (∀ (U : Nat → Prop) (w : World), Os U w x (.agg #[.int .i64 x.k, .int .i64 x.n, .slice xa 0 xc])) := fun U w => by
                    obtain ⟨k9, n9, ks9⟩ := x
                    simp only at hxk hxf
                    subst hxk
                    exact Os.leaf hxf
                  obtain ⟨xk, hxk2⟩ : ∃ z, Hid (x.k = z) := ⟨_, (rfl : _ = _)⟩
                  obtain ⟨xn, hxn2⟩ : ∃ z, Hid (x.n = z) := ⟨_, (rfl : _ = _)⟩
                  rw [hxk2.out, hxn2.out] at hleafH
                  rw [hxk2.out] at d0
                  rw [hxn2.out] at d1
                  have hdH2 : Hid (cur[i0 * 3]? = some (.int .i64 xk) ∧ cur[i0 * 3 + 1]? = some (.int .i64 xn) ∧ cur[i0 * 3 + 2]? = some (.slice xa 0 xc)) := ⟨d0, d1, d2⟩
                  have hkaR : ka2 = some ⟨rb, 0, none⟩ := hka2.out (by omega)
                  subst hkaR
                  have hLR1 : Hid (LR rb cur T3' U3 (.slice k2 K2 c2) wy) := hLR.out (by omega)
                  have hnekv : Hid (∀ b, (Value.slice kb2 LB cb2).ownBlock = some b → (Value.slice k2 K2 c2).ownBlock ≠ some b) := fun b e e2 => by
                    have h1 := (L3.out.1.ge e).1
                    have h2 := hk2l.out b e2
                    omega
                  clear d0 d1 d2 hxf hxk hx hLR hcu hps hprn hpe
                  go_wp2
                  go_loopw [9, 15] (fun kv j wz => ∃ (j0 : Nat) (U4 : Nat → Prop) (ss4 : List Value), j0 ≤ LB ∧ j = .int .i64 j0 ∧ Hid (SA D p F (.slice fa FL fc) B kb g T U W H3 T3' U4 (P2 ++ (bs.take j0).map fq) ss4 kv wz) ∧ Hid (Lrw wx.heap.size U4 wz (.slice kb2 LB cb2) bs bss ∧ ∀ b, (Value.slice kb2 LB cb2).ownBlock = some b → kv.ownBlock ≠ some b) ∧ Hid (LR rb cur T3' U4 kv wz)) (fun _ j _ => LB - (intOf j).toNat)
                  case atStart => exact ⟨0, U3, ss3, Nat.zero_le _, rfl, by rw [List.take_zero, List.map_nil, List.append_nil]; exact S3.out, ⟨L3.out.1, hnekv.out⟩, hLR1.out⟩
                  case round => as_aux_lemma =>
                    have hL3n : Hid (∀ b, (Value.slice kb2 LB cb2).ownBlock = some b → ¬ T3' b) := L3.out.2
                    clear S3 L3 hLR1 hnekv
                    obtain ⟨j0, U4, ss4, hj0, rfl, S4, L4, hLR⟩ := hrel
                    rename World => wz
                    obtain ⟨k4, c4, rfl⟩ := S4.out.lo.shape
                    have hK4l : (P2 ++ (bs.take j0).map fq).length = K2 + j0 := by
                      rw [List.length_append, List.length_map, List.length_take, hK2.out, hLB.out]; omega
                    obtain ⟨K4, hK4⟩ : ∃ z, Hid (K2 + j0 = z) := ⟨_, (rfl : _ = _)⟩
                    rw [hK4l, hK4.out] at S4 L4 hLR
                    rw [hK4l, hK4.out]
                    by_cases hjl : j0 < LB
                    · have hjl' : (j0 : Int) < (LB : Int) := by omega
                      obtain ⟨y, hy⟩ : ∃ y, bs[j0]? = some y := ⟨_, List.getElem?_eq_getElem (by rw [hLB.out]; exact hjl)⟩
                      obtain ⟨br, bcap, ya, yc, e, y0, y1, y2, hos⟩ := L4.out.1.at hy
                      simp only [Value.slice.injEq] at e
                      obtain ⟨rfl, -, -⟩ := e
                      have v0 : wz.cell? ⟨rb, i0 * 3, none⟩ = some (.int .i64 xk) := (Joins.cell_of_block hLR.out.1 _).trans hdH2.out.1
                      have v1 : wz.cell? ⟨rb, i0 * 3 + 1, none⟩ = some (.int .i64 xn) := (Joins.cell_of_block hLR.out.1 _).trans hdH2.out.2.1
                      have v2 : wz.cell? ⟨rb, i0 * 3 + 2, none⟩ = some (.slice xa 0 xc) := (Joins.cell_of_block hLR.out.1 _).trans hdH2.out.2.2
                      have htk : Hid ((bs.take (j0 + 1)).map fq = (bs.take j0).map fq ++ [Tr.mk 3 0 [x, y]]) := by
                        show _ = _
                        rw [List.take_add_one, hy, List.map_append, ← hfq.out]; rfl
                      have hboth : Hid (Calls Tryd.prog 75 #[.agg #[.int .i64 xk, .int .i64 xn, .slice xa 0 xc], .agg #[.int .i64 y.k, .int .i64 y.n, .slice ya y.ks.length yc]] wz.drew fun e w' => ∃ ba bc, e = .returned (.agg #[.int .i64 3, .int .i64 0, .slice ba 2 bc]) ∧ Os (fun b => (U4 b ∧ b < wz.heap.size) ∨ wz.heap.size ≤ b) w' ⟨3, 0, [x, y]⟩ (.agg #[.int .i64 3, .int .i64 0, .slice ba 2 bc]) ∧ Below wz.heap.size wz w') := dboth2_c x y _ _ wz (hleafH.out U4 wz) hos
                      obtain ⟨yk, hyk⟩ : ∃ z, Hid (y.k = z) := ⟨_, (rfl : _ = _)⟩
                      obtain ⟨yn, hyn⟩ : ∃ z, Hid (y.n = z) := ⟨_, (rfl : _ = _)⟩
                      obtain ⟨yl, hyl⟩ : ∃ z, Hid (y.ks.length = z) := ⟨_, (rfl : _ = _)⟩
                      rw [hyk.out, hyn.out, hyl.out] at hboth
                      rw [hyk.out] at y0
                      rw [hyn.out] at y1
                      rw [hyl.out] at y2
                      have hcH : Hid (∀ w', Below wz.heap.size wz w' → (w'.cell? ⟨rb, i0 * 3, none⟩ = some (.int .i64 xk) ∧ w'.cell? ⟨rb, i0 * 3 + 1, none⟩ = some (.int .i64 xn) ∧ w'.cell? ⟨rb, i0 * 3 + 2, none⟩ = some (.slice xa 0 xc)) ∧ w'.cell? ⟨br, j0 * 3, none⟩ = some (.int .i64 yk) ∧ w'.cell? ⟨br, j0 * 3 + 1, none⟩ = some (.int .i64 yn) ∧ w'.cell? ⟨br, j0 * 3 + 2, none⟩ = some (.slice ya yl yc)) := fun w' hb => ⟨⟨(hb.cell (p := ⟨rb, i0 * 3, none⟩) (cell_lt v0)).trans v0, (hb.cell (p := ⟨rb, i0 * 3 + 1, none⟩) (cell_lt v1)).trans v1, (hb.cell (p := ⟨rb, i0 * 3 + 2, none⟩) (cell_lt v2)).trans v2⟩, (hb.cell (p := ⟨br, j0 * 3, none⟩) (cell_lt y0)).trans y0, (hb.cell (p := ⟨br, j0 * 3 + 1, none⟩) (cell_lt y1)).trans y1, (hb.cell (p := ⟨br, j0 * 3 + 2, none⟩) (cell_lt y2)).trans y2⟩
                      obtain ⟨P4, hP4⟩ : ∃ z, Hid (P2 ++ (bs.take j0).map fq = z) := ⟨_, (rfl : _ = _)⟩
                      rw [hP4.out] at S4 hK4l
                      obtain ⟨xs, hxs⟩ : ∃ z, Hid (cso P4 ss4 = z) := ⟨_, (rfl : _ = _)⟩
                      have hownF : Hid (∀ (w7 : World) (o : Obj), Below wz.heap.size wz w7 → (w7.alloc o).ownsRow (g + 1) 24 3 (.slice k4 K4 c4) K4 xs) := fun w7 o hb => by
                        have h := own_keep S4.out.lo.own (w' := w7.alloc o) fun b e => by
                          have hl := (own_ty S4.out.lo.own e).2.1
                          exact (Below.heap_alloc _ _ _ (Nat.lt_of_lt_of_le hl hb.size)).trans (hb.block b hl)
                        rw [hK4l, hK4.out, hxs.out] at h; exact h
                      have hBF : Hid (∀ (w7 : World) (o : Obj), Below wz.heap.size wz w7 → g + 1 ≤ (w7.alloc o).heap.size) := fun w7 o hb => by
                        have h1 := S4.out.lt
                        have h2 := hb.size
                        rw [World.size_alloc]; omega
                      have hcG : Hid (∀ (w7 w8 : World) (o : Obj), Below wz.heap.size wz w7 → (w7.alloc o).grownBy w8 (Value.slice k4 K4 c4).ownBlock → (w8.cell? ⟨rb, i0 * 3, none⟩ = some (.int .i64 xk) ∧ w8.cell? ⟨rb, i0 * 3 + 1, none⟩ = some (.int .i64 xn) ∧ w8.cell? ⟨rb, i0 * 3 + 2, none⟩ = some (.slice xa 0 xc)) ∧ w8.cell? ⟨br, j0 * 3, none⟩ = some (.int .i64 yk) ∧ w8.cell? ⟨br, j0 * 3 + 1, none⟩ = some (.int .i64 yn) ∧ w8.cell? ⟨br, j0 * 3 + 2, none⟩ = some (.slice ya yl yc)) := fun w7 w8 o hb hg => by
                        have hrl := blk_lt hLR.out.1
                        have hbl := (L4.out.1.ge (b := br) rfl).2
                        have hk : ∀ b, b < wz.heap.size → (Value.slice k4 K4 c4).ownBlock ≠ some b → w8.heap[b]? = wz.heap[b]? := fun b hl hn => (hg.block b (by rw [World.size_alloc]; have := hb.size; omega) (fun e => hn e.symm)).trans ((Below.heap_alloc _ _ _ (Nat.lt_of_lt_of_le hl hb.size)).trans (hb.block b hl))
                        have er := hk rb hrl hLR.out.2.2.2
                        have eb := hk br hbl (L4.out.2 br rfl)
                        refine ⟨⟨?_, ?_, ?_⟩, ?_, ?_, ?_⟩
                        · rw [World.cell?_of_block (a := ⟨rb, i0 * 3, none⟩) er]; exact v0
                        · rw [World.cell?_of_block (a := ⟨rb, i0 * 3 + 1, none⟩) er]; exact v1
                        · rw [World.cell?_of_block (a := ⟨rb, i0 * 3 + 2, none⟩) er]; exact v2
                        · rw [World.cell?_of_block (a := ⟨br, j0 * 3, none⟩) eb]; exact y0
                        · rw [World.cell?_of_block (a := ⟨br, j0 * 3 + 1, none⟩) eb]; exact y1
                        · rw [World.cell?_of_block (a := ⟨br, j0 * 3 + 2, none⟩) eb]; exact y2
                      have hK4b : K4 ≤ 20000 := by have := hLBb.out; have := hK4.out; omega
                      clear hos
                      go_upto_region 16 with fail
                      go_region_held3 (fun Z => Z.cell? ⟨rb, i0 * 3, none⟩ = some (.int .i64 xk) ∧ Z.cell? ⟨rb, i0 * 3 + 1, none⟩ = some (.int .i64 xn) ∧ Z.cell? ⟨rb, i0 * 3 + 2, none⟩ = some (.slice xa 0 xc) ∧ Z.cell? ⟨br, j0 * 3, none⟩ = some (.int .i64 yk) ∧ Z.cell? ⟨br, j0 * 3 + 1, none⟩ = some (.int .i64 yn) ∧ Z.cell? ⟨br, j0 * 3 + 2, none⟩ = some (.slice ya yl yc)) (go_keep) ((first
                        | (go_at_call 75; refine hboth.out.mono ?_; rintro e w7 ⟨ba, bc, rfl, o7, B7⟩; obtain ⟨⟨q0, q1, q2⟩, q3, q4, q5⟩ := hcH.out w7 B7)
                        | (refine step_or1 rfl (.tmp 72) (.tmp 82) rfl (g + 1) K4 (.slice k4 K4 c4) xs (by simp [Act.eval]) (hownF.out w7 _ B7) w7.heap.size 1 3 0 ba 2 bc (by simp [Act.eval]) (heap_alloc_new w7 _) hK4b (hBF.out w7 _ B7) ?_; intro r c w8 z1 z2 z3; obtain ⟨⟨q0, q1, q2⟩, q3, q4, q5⟩ := hcG.out w7 w8 _ B7 z2)
                        | fail))
                      all_goals
                        have eK : K4 = P4.length := (hK4l.trans hK4.out).symm
                        have hfinJ : Hid (∃ (U5 : Nat → Prop) (ss5 : List Value), SA D p F (.slice fa FL fc) B kb g T U W H3 T3' U5 (P2 ++ (bs.take (j0 + 1)).map fq) ss5 (.slice (some ⟨r, 0, none⟩) (K4 + 1) c) w8 ∧ (Lrw wx.heap.size U5 w8 (.slice (some ⟨br, 0, none⟩) LB cb2) bs bss ∧ ∀ b, (Value.slice (some ⟨br, 0, none⟩) LB cb2).ownBlock = some b → (Value.slice (some ⟨r, 0, none⟩) (K4 + 1) c).ownBlock ≠ some b) ∧ LR rb cur T3' U5 (.slice (some ⟨r, 0, none⟩) (K4 + 1) c) w8) := by
                          have S4' := S4.out
                          have n4 := L4.out.2
                          have r4 := hLR.out.2.2.2
                          rw [← hxs.out] at z1
                          rw [eK] at S4' z1 z2 z3 n4 r4 ⊢
                          obtain ⟨U5, u1, u2, u3, u4⟩ := S4'.push (t := ⟨3, 0, [x, y]⟩) (s := .slice ba 2 bc) B7 ⟨_, _, _, rfl⟩ o7 z1 z2 (fun b e => by cases e; exact z3)
                          have hsz : wz.heap.size ≤ (w7.alloc (.cells #[.int .i64 3, .int .i64 0, .slice ba 2 bc] 24)).heap.size := by rw [World.size_alloc]; have := B7.size; omega
                          have hbl := (L4.out.1.ge (b := br) rfl).2
                          have hrl := blk_lt hLR.out.1
                          refine ⟨U5, ss4 ++ [.slice ba 2 bc], ?_, ⟨(L4.out.1.kt u2 fun b e => ⟨fun e2 => n4 b e2 e, fun u => S4'.lo.nu b e u⟩).wid u3 (fun b e u => ?_), fun b e e2 => ?_⟩, (u2.block rb hrl r4).trans hLR.out.1, hLR.out.2.1, fun u => ?_, fun e => ?_⟩
                          · rw [htk.out, ← List.append_assoc, hP4.out]; exact u1
                          · cases e
                            rcases u4 br u with h | h
                            · exact L4.out.1.nu br rfl h
                            · omega
                          · cases e
                            cases e2
                            rcases z3 with h | h
                            · exact n4 _ rfl h
                            · omega
                          · rcases u4 rb u with h | h
                            · exact hLR.out.2.2.1 h
                            · omega
                          · have e9 : r = rb := Option.some.inj e
                            rcases z3 with h | h
                            · exact r4 (e9 ▸ h)
                            · omega
                        clear z1 z2 z3 q0 q1 q2 q3 q4 q5 v0 v1 v2 y0 y1 y2 o7 B7 S4 L4 hLR hownF hBF hcG hcH hboth
                        go_wp2
                        go_roundw
                        case rel =>
                          obtain ⟨U5, ss5, h1, h2, h3⟩ := hfinJ.out
                          exact ⟨j0 + 1, U5, ss5, by omega, by go_num, h1, h2, h3⟩
                        case measure => simp [intOf]; omega
                    · have hjl' : decide ((j0 : Int) < (LB : Int)) = false := decide_eq_false (by omega)
                      have hall : (bs.take j0).map fq = bs.map fq := by rw [List.take_of_length_le (by rw [hLB.out]; omega)]
                      rw [hall] at S4
                      go_wp2
                      go_roundw
                      case rel => exact ⟨i0 + 1, H3, T3', U4, P2 ++ bs.map fq, ss4, by omega, by go_num, S4, hcm.out, fun _ => hLR.out⟩
                      case measure => simp [intOf]; omega
              · have hKt' : decide ((K2 : Int) < (top : Int)) = false := decide_eq_false (by omega)
                have hc4 : Hid (Pl.Cut (Pl.acc D F sec n n) (Pl.acc D F sec n (a + 1)) P2 top) := hcu.out.1.ge (by rw [hK2.out]; exact hKt)
                go_wp2
                go_roundw
                case rel => exact ⟨a + 1, H2, T2, U2, P2, ss3, by omega, by omega, by go_num, S2, hc4.out, hcu.out.2⟩
                case measure => simp [intOf]; omega
            · have hil' : decide ((i0 : Int) < (l2 : Int)) = false := decide_eq_false (by omega)
              have hc4 : Hid (Pl.Cut (Pl.acc D F sec n n) (Pl.acc D F sec n (a + 1)) P2 top) := by
                have h := hcu.out.1
                rw [hpe.out i0 (by rw [hl2.out]; omega)] at h; exact h
              go_wp2
              go_roundw
              case rel => exact ⟨a + 1, H2, T2, U2, P2, ss3, by omega, by omega, by go_num, S2, hc4.out, hcu.out.2⟩
              case measure => simp [intOf]; omega
        · have hmod : ¬ n % a = 0 := fun h => hdv (Nat.dvd_of_mod_eq_zero h)
          have hacc : Pl.acc D F sec n (a + 1) = Pl.acc D F sec n a := Pl.acc_skip hn1 hdv
          go_upto_region 7 with fail
          go_wp2
          go_roundw
          case rel => exact ⟨a + 1, H', T', U', P, ss, by omega, by omega, by go_num, Sa, by rw [hacc]; exact hcu.out⟩
          case measure => simp [intOf]; omega
      · have hKt' : decide ((K : Int) < (top : Int)) = false := decide_eq_false (by omega)
        have hc3 : Hid (Pl.Cut (Pl.acc D F sec n n) (Pl.acc D F sec n n) P top) := hcu.out.1.ge (by rw [hK.out]; exact hKt)
        have x0 := Sa.out.bp.c0
        have x1 := Sa.out.bp.c1
        have x2 := Sa.out.bp.c2
        have halsH : Hid (Pl.als D F p n = Pl.acc D F sec n n ++ Pl.blu p (Pl.ch D F p) n) := by
          show _ = _
          rw [← hsec.out, Pl.als_eq hdH.out]
          exact (Pl.acc_end (Nat.le_refl n)).symm
        obtain ⟨R2, hR2⟩ : ∃ R : Value → World → Prop, Hid ((fun s9 wx => ∃ H2 T2 U2 P2 ss2, Hid (SA D p F (.slice fa FL fc) B kb g T U W H2 T2 U2 P2 ss2 s9 wx) ∧ Hid (P2.take top = (Pl.als D F p n).take top ∧ P2.length ≤ 4099)) = R) := ⟨_, (rfl : _ = _)⟩
        clear hcu hlv han
        go_upto_region 17 with fail
        go_wp2_with fail
        refine (dblue_c (D := D) (p := p) n (.slice fa FL fc) wr hn1 hn2).mono ?_
        rintro e w1 ⟨rfl, B1⟩
        have S1 : Hid (SA D p F (.slice fa FL fc) B kb g T U W H' T' U' P ss (.slice ka K kc) w1) := Sa.out.bel B1
        clear B1 x0 x1 x2 Sa
        obtain ⟨bb, hbb⟩ : ∃ z, Hid ((Pl.big p n && decide ((n : Int) ≤ 8192)) = z) := ⟨_, (rfl : _ = _)⟩
        rw [hbb.out]
        go_upto_if 86 with fail
        go_cut [9] (fun s9 wx => R2 s9 wx)
        case first => as_aux_lemma =>
          cases bb with
          | false =>
            have hi0 : Pl.inn p n = 0 := by
              unfold Pl.inn
              rw [if_neg]
              rintro ⟨q1, q2⟩
              have := hbb.out
              rw [q1, decide_eq_true (by omega)] at this
              cases this
            have hfin : Hid (R2 (.slice ka K kc) w1) := by
              show R2 _ _
              rw [← hR2.out]
              refine ⟨H', T', U', P, ss, S1.out, ?_, by rw [hK.out]; omega⟩
              have h := hc3.out.take (bl := Pl.blu p (Pl.ch D F p) n)
              rw [halsH.out, ← h]
              unfold Pl.blu
              rw [if_pos hi0, List.append_nil]
            clear hi0
            go_wp2_with fail
            go_meet
            exact hfin.out
          | true =>
            have hbg : Pl.big p n = true ∧ n ≤ 8192 := by
              have := hbb.out
              rw [Bool.and_eq_true, decide_eq_true_eq] at this
              exact ⟨this.1, by omega⟩
            have hi0 : Pl.inn p n ≠ 0 := by
              have := (Pl.szf_le (2 * n - 1) (by omega)).1
              unfold Pl.inn
              rw [if_pos hbg]
              omega
            obtain ⟨hdm, hmu, hn22, hn8, h2n, hbM, hM16⟩ := Pl.inn_dm gpH.out.p2 hn1 hi0
            have hsz := (Pl.inn_pos hi0).2.2
            have hih := dch (B := B) (kb := kb) (fv := .slice fa FL fc) gpH.out hFH.out hVH.out _ (Pl.inn p n) hdm (Nat.le_refl _)
            have hblu : Pl.blu p (Pl.ch D F p) n = [⟨4, n, [Pl.ch D F p (Pl.inn p n)]⟩] := by unfold Pl.blu; rw [if_neg hi0]
            have hszqH : Hid (∀ s, Sz (2 * n - 1) s → s = Pl.inn p n) := fun s hs => by
              rw [hsz]
              exact hs.uniq (szf_sz (2 * n - 1) (by omega))
            have hPP : Hid ((P ++ [Tr.mk 4 n [Pl.ch D F p (Pl.inn p n)]]).take top = (Pl.als D F p n).take top) := by
              show _ = _
              rw [halsH.out, hblu]
              exact hc3.out.take
            obtain ⟨M, hM⟩ : ∃ z, Hid (Pl.inn p n = z) := ⟨_, (rfl : _ = _)⟩
            rw [hM.out] at hszqH hih hPP hM16
            obtain ⟨cm, hcm⟩ : ∃ z, Hid (Pl.ch D F p M = z) := ⟨_, (rfl : _ = _)⟩
            rw [hcm.out] at hPP
            obtain ⟨Y, hY⟩ : ∃ z, Hid (tc D F p M = z) := ⟨_, (rfl : _ = _)⟩
            obtain ⟨ck, hck⟩ : ∃ z, Hid (cm.k = z) := ⟨_, (rfl : _ = _)⟩
            obtain ⟨cn, hcn⟩ : ∃ z, Hid (cm.n = z) := ⟨_, (rfl : _ = _)⟩
            obtain ⟨cq, hcq⟩ : ∃ z, Hid (cm.ks.length = z) := ⟨_, (rfl : _ = _)⟩
            have hcallH : Hid (Calls Tryd.prog 48 #[.pointer (some ⟨kb, 0, none⟩), .int .i64 (M : Int), .agg #[.int .i64 D, .slice fa FL fc, .int .i64 p]] w1 fun e w2 => ∃ va vc H2 T2 U2, e = .returned (.tuple #[.agg #[.int .i64 ck, .int .i64 cn, .slice va cq vc], .int .i64 (Y : Int)]) ∧ SA D p F (.slice fa FL fc) B kb g T U W H2 T2 U2 P ss (.slice ka K kc) w2 ∧ Os U2 w2 cm (.agg #[.int .i64 ck, .int .i64 cn, .slice va cq vc])) := by
              refine (hih H' T' U' w1 S1.out.ks (S1.out.fl hFlH.out hVH.out hTB.out)).mono ?_
              rintro e w2 ⟨v2, H2, T2, U2, rfl, k2, o2, m2, _⟩
              rw [hcm.out] at o2
              obtain ⟨va, vc, rfl⟩ := o2.shape
              rw [hck.out, hcn.out, hcq.out] at o2 ⊢
              exact ⟨va, vc, H2, T2, U2, by rw [hY.out], S1.out.call k2 m2, o2⟩
            have hsizeH : Hid (Calls Tryd.prog 77 #[.int .i64 (n : Int)] w1 fun e w' => e = .returned (.tuple #[.int .i64 (M : Int), .int .i64 0]) ∧ w' = w1) := by
              refine (r13SizeOk_c n w1 (by omega) hbg.2).mono ?_
              rintro e w' ⟨s, rfl, h1, _, rfl⟩
              exact ⟨by rw [hszqH.out s h1], rfl⟩
            have hf4 : Hid (fit 4 (n : Int)) := ⟨by decide, by omega⟩
            have x0 := S1.out.bp.c0
            have x1 := S1.out.bp.c1
            have x2 := S1.out.bp.c2
            clear hih hszqH hsz hblu hi0 hbg hdm hmu hbM hn22 hn8 h2n hbb
            go_wp2_with fail
            refine hsizeH.out.mono ?_
            rintro e w' ⟨rfl, rfl⟩
            go_wp2_with fail
            refine hcallH.out.mono ?_
            rintro e w2 ⟨va, vc, H2, T2, U2, rfl, S2', o2'⟩
            clear x0 x1 x2 hcallH hsizeH
            obtain ⟨w3, ew3⟩ : ∃ z, Hid (w2.alloc (.cells #[.int .i64 ck, .int .i64 cn, .slice va cq vc] 24) = z) := ⟨_, (rfl : _ = _)⟩
            have B23 : Below w2.heap.size w2 w3 := by rw [← ew3.out]; exact (Below.refl _ _).alloc (Nat.le_refl _) _
            have S3 : Hid (SA D p F (.slice fa FL fc) B kb g T U W H2 T2 U2 P ss (.slice ka K kc) w3) := S2'.bel B23
            obtain ⟨gq, hgq⟩ : ∃ z, Hid (w2.heap.size = z) := ⟨_, (rfl : _ = _)⟩
            have Q3 : Hid (Bo w3 gq ck cn (.slice va cq vc)) := by
              have h : Bo w3 w2.heap.size ck cn (.slice va cq vc) := by rw [← ew3.out]; exact Bo.new _ _ _ _
              rw [hgq.out] at h
              exact h
            have o3 : Hid (Os U2 w3 cm (.agg #[.int .i64 ck, .int .i64 cn, .slice va cq vc])) := o2'.bel B23
            clear S2' o2' B23
            go_upto_region 20 with fail
            rw [ew3.out, hgq.out]
            have r0 := Q3.out.c0
            have r1 := Q3.out.c1
            have r2 := Q3.out.c2
            have hKb : K ≤ 20000 := by omega
            have hown3 : Hid (((w3.alloc (.cells #[.int .i64 ck, .int .i64 cn, .slice va cq vc] 24)).alloc (.cells #[.int .i64 4, .int .i64 (n : Int), .slice (some ⟨w3.heap.size, 0, none⟩) 1 1] 24)).ownsRow (g + 1) 24 3 (.slice ka K kc) K (cso P ss)) := by
              have h := own_keep S3.out.lo.own (w' := (w3.alloc (.cells #[.int .i64 ck, .int .i64 cn, .slice va cq vc] 24)).alloc (.cells #[.int .i64 4, .int .i64 (n : Int), .slice (some ⟨w3.heap.size, 0, none⟩) 1 1] 24)) fun b e => ((Below.heap_alloc _ _ _ (by have := (own_ty S3.out.lo.own e).2.1; simp; omega)).trans (Below.heap_alloc _ _ _ (own_ty S3.out.lo.own e).2.1))
              rw [hK.out] at h; exact h
            have hf3 : Hid (((w3.alloc (.cells #[.int .i64 ck, .int .i64 cn, .slice va cq vc] 24)).alloc (.cells #[.int .i64 4, .int .i64 (n : Int), .slice (some ⟨w3.heap.size, 0, none⟩) 1 1] 24)).heap[w3.heap.size + 1]? = some (.cells #[.int .i64 4, .int .i64 (n : Int), .slice (some ⟨w3.heap.size, 0, none⟩) 1 1] 24 (0, 0))) := (two_new w3 _ _).2
            have hB3 : Hid (g + 1 ≤ ((w3.alloc (.cells #[.int .i64 ck, .int .i64 cn, .slice va cq vc] 24)).alloc (.cells #[.int .i64 4, .int .i64 (n : Int), .slice (some ⟨w3.heap.size, 0, none⟩) 1 1] 24)).heap.size) := by have := S3.out.lt; show _ ≤ _; simp; omega
            go_wp2_with (at_builtin; refine wpList_or1 rfl _ _ rfl (g + 1) K (.slice ka K kc) (cso P ss) rfl hown3.out (w3.heap.size + 1) 1 4 (n : Int) (some ⟨w3.heap.size, 0, none⟩) 1 1 rfl hf3.out hKb hB3.out ?_)
            intro r c w8 k1 k2 k3
            have hpush : Hid (R2 (.slice (some ⟨r, 0, none⟩) (K + 1) c) w8) := by
              show R2 _ _
              rw [← hR2.out]
              have B34 : Below w3.heap.size w3 (w3.alloc (.cells #[.int .i64 ck, .int .i64 cn, .slice va cq vc] 24)) := (Below.refl _ _).alloc (Nat.le_refl _) _
              have hnew : (w3.alloc (.cells #[.int .i64 ck, .int .i64 cn, .slice va cq vc] 24)).heap[w3.heap.size]? = some (.cells #[.int .i64 cm.k, .int .i64 cm.n, .slice va cm.ks.length vc] 24 (0, 0)) := by rw [hck.out, hcn.out, hcq.out]; exact heap_alloc_new _ _
              have ok : Os (fun b => (U2 b ∧ b < w3.heap.size) ∨ w3.heap.size ≤ b) (w3.alloc (.cells #[.int .i64 ck, .int .i64 cn, .slice va cq vc] 24)) cm (.agg #[.int .i64 cm.k, .int .i64 cm.n, .slice va cm.ks.length vc]) := by
                rw [hck.out, hcn.out, hcq.out]
                exact Os.keep2 (fun b hb hl => .inl ⟨hb, hl⟩) (fun b hb hl => B34.block b hl) _ _ o3.out
              have o4 : Os (fun b => (U2 b ∧ b < w3.heap.size) ∨ w3.heap.size ≤ b) (w3.alloc (.cells #[.int .i64 ck, .int .i64 cn, .slice va cq vc] 24)) ⟨4, n, [cm]⟩ (.agg #[.int .i64 4, .int .i64 (n : Int), .slice (some ⟨w3.heap.size, 0, none⟩) 1 1]) := Os.one hf4.out (.inr (Nat.le_refl _)) ok hnew
              have S3' := S3.out
              rw [← hK.out] at S3' k1 k2 k3
              obtain ⟨U4, q1, _, _, _⟩ := S3'.push (t := ⟨4, n, [cm]⟩) (s := .slice (some ⟨w3.heap.size, 0, none⟩) 1 1) (o := (.cells #[.int .i64 4, .int .i64 (n : Int), .slice (some ⟨w3.heap.size, 0, none⟩) 1 1] 24)) B34 ⟨_, _, _, rfl⟩ o4 k1 k2 (fun b e => by cases e; rw [World.size_alloc, World.size_alloc]; exact k3)
              rw [hK.out] at q1
              exact ⟨H2, T2, U4, _, _, q1, hPP.out, by rw [List.length_append, hK.out]; simp; omega⟩
            clear k1 k2 k3 r0 r1 r2 hown3 hf3 hB3
            go_wp2_with fail
            go_meet
            exact hpush.out
        case rest => as_aux_lemma =>
          rw [← hR2.out] at hcut
          obtain ⟨H2, T2, U2, P2, ss2, S8, hP2⟩ := hcut
          rename World => w8
          obtain ⟨k8, c8, rfl⟩ := S8.out.lo.shape
          have hcap : P2.length ≤ c8 := by
            rcases S8.out.lo.own.2 with ⟨e, e0⟩ | ⟨r, cap, cur, e, _, _, hnc, _⟩
            · simp only [Value.slice.injEq] at e; omega
            · simp only [Value.slice.injEq] at e; omega
          have hP2l := hP2.out.2
          have hfinE : Hid (∀ (kv : Value) (ss : List Value), Lrw (g + 1) U2 w8 kv ((Pl.als D F p n).take top) ss → (∀ b, kv.ownBlock = some b → ¬ T2 b) → DaE D p F B kb n top T U W (.returned kv) w8) := fun kv ss h1 h2 => ⟨kv, ss, H2, T2, U2, rfl, S8.out.ks, S8.out.mv, h1.low (by have := S8.out.hg; omega), h2⟩
          by_cases hl : P2.length ≤ top
          · have hE : Hid (DaE D p F B kb n top T U W (.returned (.slice k8 P2.length c8)) w8) := by
              refine hfinE.out _ ss2 ?_ S8.out.nt
              have h := S8.out.lo
              rw [← hP2.out.1, List.take_of_length_le hl]
              exact h
            obtain ⟨LP, hLP⟩ : ∃ z, Hid (P2.length = z) := ⟨_, (rfl : _ = _)⟩
            rw [hLP.out] at hE hl
            rw [hLP.out]
            have hl' : decide ((LP : Int) > (top : Int)) = false := decide_eq_false (by omega)
            have hl2 : ¬ (top : Int) < (LP : Int) := by omega
            clear hfinE S8 hP2 hcap hP2l
            go_wp2_with fail
            go_ret
            exact hE.out
          · have hE : Hid (DaE D p F B kb n top T U W (.returned (.slice k8 top c8)) w8) := by
              have h := S8.out.lo.cut (n := top) (by omega)
              rw [hP2.out.1] at h
              exact hfinE.out _ _ h (fun b e => S8.out.nt b (by cases k8 <;> exact e))
            obtain ⟨LP, hLP⟩ : ∃ z, Hid (P2.length = z) := ⟨_, (rfl : _ = _)⟩
            rw [hLP.out] at hl hcap hP2l
            rw [hLP.out]
            have hl2 : (top : Int) < (LP : Int) := by omega
            have hcap2 : top ≤ c8 := by omega
            clear hfinE S8 hP2
            go_wp2_with fail
            go_ret
            exact hE.out
    · have hlt' : decide ((a : Int) < (n : Int)) = false := decide_eq_false (by omega)
      have hc3 : Hid (Pl.Cut (Pl.acc D F sec n n) (Pl.acc D F sec n n) P top) := by
        have h := hcu.out.1
        rw [Pl.acc_end0 (a := a) (by omega)] at h; exact h
      have x0 := Sa.out.bp.c0
      have x1 := Sa.out.bp.c1
      have x2 := Sa.out.bp.c2
      have halsH : Hid (Pl.als D F p n = Pl.acc D F sec n n ++ Pl.blu p (Pl.ch D F p) n) := by
        show _ = _
        rw [← hsec.out, Pl.als_eq hdH.out]
        exact (Pl.acc_end (Nat.le_refl n)).symm
      obtain ⟨R2, hR2⟩ : ∃ R : Value → World → Prop, Hid ((fun s9 wx => ∃ H2 T2 U2 P2 ss2, Hid (SA D p F (.slice fa FL fc) B kb g T U W H2 T2 U2 P2 ss2 s9 wx) ∧ Hid (P2.take top = (Pl.als D F p n).take top ∧ P2.length ≤ 4099)) = R) := ⟨_, (rfl : _ = _)⟩
      clear hcu hlv han
      go_upto_region 17 with fail
      go_wp2_with fail
      refine (dblue_c (D := D) (p := p) n (.slice fa FL fc) wr hn1 hn2).mono ?_
      rintro e w1 ⟨rfl, B1⟩
      have S1 : Hid (SA D p F (.slice fa FL fc) B kb g T U W H' T' U' P ss (.slice ka K kc) w1) := Sa.out.bel B1
      clear B1 x0 x1 x2 Sa
      obtain ⟨bb, hbb⟩ : ∃ z, Hid ((Pl.big p n && decide ((n : Int) ≤ 8192)) = z) := ⟨_, (rfl : _ = _)⟩
      rw [hbb.out]
      go_upto_if 86 with fail
      go_cut [9] (fun s9 wx => R2 s9 wx)
      case first => as_aux_lemma =>
        cases bb with
        | false =>
          have hi0 : Pl.inn p n = 0 := by
            unfold Pl.inn
            rw [if_neg]
            rintro ⟨q1, q2⟩
            have := hbb.out
            rw [q1, decide_eq_true (by omega)] at this
            cases this
          have hfin : Hid (R2 (.slice ka K kc) w1) := by
            show R2 _ _
            rw [← hR2.out]
            refine ⟨H', T', U', P, ss, S1.out, ?_, by rw [hK.out]; omega⟩
            have h := hc3.out.take (bl := Pl.blu p (Pl.ch D F p) n)
            rw [halsH.out, ← h]
            unfold Pl.blu
            rw [if_pos hi0, List.append_nil]
          clear hi0
          go_wp2_with fail
          go_meet
          exact hfin.out
        | true =>
          have hbg : Pl.big p n = true ∧ n ≤ 8192 := by
            have := hbb.out
            rw [Bool.and_eq_true, decide_eq_true_eq] at this
            exact ⟨this.1, by omega⟩
          have hi0 : Pl.inn p n ≠ 0 := by
            have := (Pl.szf_le (2 * n - 1) (by omega)).1
            unfold Pl.inn
            rw [if_pos hbg]
            omega
          obtain ⟨hdm, hmu, hn22, hn8, h2n, hbM, hM16⟩ := Pl.inn_dm gpH.out.p2 hn1 hi0
          have hsz := (Pl.inn_pos hi0).2.2
          have hih := dch (B := B) (kb := kb) (fv := .slice fa FL fc) gpH.out hFH.out hVH.out _ (Pl.inn p n) hdm (Nat.le_refl _)
          have hblu : Pl.blu p (Pl.ch D F p) n = [⟨4, n, [Pl.ch D F p (Pl.inn p n)]⟩] := by unfold Pl.blu; rw [if_neg hi0]
          have hszqH : Hid (∀ s, Sz (2 * n - 1) s → s = Pl.inn p n) := fun s hs => by
            rw [hsz]
            exact hs.uniq (szf_sz (2 * n - 1) (by omega))
          have hPP : Hid ((P ++ [Tr.mk 4 n [Pl.ch D F p (Pl.inn p n)]]).take top = (Pl.als D F p n).take top) := by
            show _ = _
            rw [halsH.out, hblu]
            exact hc3.out.take
          obtain ⟨M, hM⟩ : ∃ z, Hid (Pl.inn p n = z) := ⟨_, (rfl : _ = _)⟩
          rw [hM.out] at hszqH hih hPP hM16
          obtain ⟨cm, hcm⟩ : ∃ z, Hid (Pl.ch D F p M = z) := ⟨_, (rfl : _ = _)⟩
          rw [hcm.out] at hPP
          obtain ⟨Y, hY⟩ : ∃ z, Hid (tc D F p M = z) := ⟨_, (rfl : _ = _)⟩
          obtain ⟨ck, hck⟩ : ∃ z, Hid (cm.k = z) := ⟨_, (rfl : _ = _)⟩
          obtain ⟨cn, hcn⟩ : ∃ z, Hid (cm.n = z) := ⟨_, (rfl : _ = _)⟩
          obtain ⟨cq, hcq⟩ : ∃ z, Hid (cm.ks.length = z) := ⟨_, (rfl : _ = _)⟩
          have hcallH : Hid (Calls Tryd.prog 48 #[.pointer (some ⟨kb, 0, none⟩), .int .i64 (M : Int), .agg #[.int .i64 D, .slice fa FL fc, .int .i64 p]] w1 fun e w2 => ∃ va vc H2 T2 U2, e = .returned (.tuple #[.agg #[.int .i64 ck, .int .i64 cn, .slice va cq vc], .int .i64 (Y : Int)]) ∧ SA D p F (.slice fa FL fc) B kb g T U W H2 T2 U2 P ss (.slice ka K kc) w2 ∧ Os U2 w2 cm (.agg #[.int .i64 ck, .int .i64 cn, .slice va cq vc])) := by
            refine (hih H' T' U' w1 S1.out.ks (S1.out.fl hFlH.out hVH.out hTB.out)).mono ?_
            rintro e w2 ⟨v2, H2, T2, U2, rfl, k2, o2, m2, _⟩
            rw [hcm.out] at o2
            obtain ⟨va, vc, rfl⟩ := o2.shape
            rw [hck.out, hcn.out, hcq.out] at o2 ⊢
            exact ⟨va, vc, H2, T2, U2, by rw [hY.out], S1.out.call k2 m2, o2⟩
          have hsizeH : Hid (Calls Tryd.prog 77 #[.int .i64 (n : Int)] w1 fun e w' => e = .returned (.tuple #[.int .i64 (M : Int), .int .i64 0]) ∧ w' = w1) := by
            refine (r13SizeOk_c n w1 (by omega) hbg.2).mono ?_
            rintro e w' ⟨s, rfl, h1, _, rfl⟩
            exact ⟨by rw [hszqH.out s h1], rfl⟩
          have hf4 : Hid (fit 4 (n : Int)) := ⟨by decide, by omega⟩
          have x0 := S1.out.bp.c0
          have x1 := S1.out.bp.c1
          have x2 := S1.out.bp.c2
          clear hih hszqH hsz hblu hi0 hbg hdm hmu hbM hn22 hn8 h2n hbb
          go_wp2_with fail
          refine hsizeH.out.mono ?_
          rintro e w' ⟨rfl, rfl⟩
          go_wp2_with fail
          refine hcallH.out.mono ?_
          rintro e w2 ⟨va, vc, H2, T2, U2, rfl, S2', o2'⟩
          clear x0 x1 x2 hcallH hsizeH
          obtain ⟨w3, ew3⟩ : ∃ z, Hid (w2.alloc (.cells #[.int .i64 ck, .int .i64 cn, .slice va cq vc] 24) = z) := ⟨_, (rfl : _ = _)⟩
          have B23 : Below w2.heap.size w2 w3 := by rw [← ew3.out]; exact (Below.refl _ _).alloc (Nat.le_refl _) _
          have S3 : Hid (SA D p F (.slice fa FL fc) B kb g T U W H2 T2 U2 P ss (.slice ka K kc) w3) := S2'.bel B23
          obtain ⟨gq, hgq⟩ : ∃ z, Hid (w2.heap.size = z) := ⟨_, (rfl : _ = _)⟩
          have Q3 : Hid (Bo w3 gq ck cn (.slice va cq vc)) := by
            have h : Bo w3 w2.heap.size ck cn (.slice va cq vc) := by rw [← ew3.out]; exact Bo.new _ _ _ _
            rw [hgq.out] at h
            exact h
          have o3 : Hid (Os U2 w3 cm (.agg #[.int .i64 ck, .int .i64 cn, .slice va cq vc])) := o2'.bel B23
          clear S2' o2' B23
          go_upto_region 20 with fail
          rw [ew3.out, hgq.out]
          have r0 := Q3.out.c0
          have r1 := Q3.out.c1
          have r2 := Q3.out.c2
          have hKb : K ≤ 20000 := by omega
          have hown3 : Hid (((w3.alloc (.cells #[.int .i64 ck, .int .i64 cn, .slice va cq vc] 24)).alloc (.cells #[.int .i64 4, .int .i64 (n : Int), .slice (some ⟨w3.heap.size, 0, none⟩) 1 1] 24)).ownsRow (g + 1) 24 3 (.slice ka K kc) K (cso P ss)) := by
            have h := own_keep S3.out.lo.own (w' := (w3.alloc (.cells #[.int .i64 ck, .int .i64 cn, .slice va cq vc] 24)).alloc (.cells #[.int .i64 4, .int .i64 (n : Int), .slice (some ⟨w3.heap.size, 0, none⟩) 1 1] 24)) fun b e => ((Below.heap_alloc _ _ _ (by have := (own_ty S3.out.lo.own e).2.1; simp; omega)).trans (Below.heap_alloc _ _ _ (own_ty S3.out.lo.own e).2.1))
            rw [hK.out] at h; exact h
          have hf3 : Hid (((w3.alloc (.cells #[.int .i64 ck, .int .i64 cn, .slice va cq vc] 24)).alloc (.cells #[.int .i64 4, .int .i64 (n : Int), .slice (some ⟨w3.heap.size, 0, none⟩) 1 1] 24)).heap[w3.heap.size + 1]? = some (.cells #[.int .i64 4, .int .i64 (n : Int), .slice (some ⟨w3.heap.size, 0, none⟩) 1 1] 24 (0, 0))) := (two_new w3 _ _).2
          have hB3 : Hid (g + 1 ≤ ((w3.alloc (.cells #[.int .i64 ck, .int .i64 cn, .slice va cq vc] 24)).alloc (.cells #[.int .i64 4, .int .i64 (n : Int), .slice (some ⟨w3.heap.size, 0, none⟩) 1 1] 24)).heap.size) := by have := S3.out.lt; show _ ≤ _; simp; omega
          go_wp2_with (at_builtin; refine wpList_or1 rfl _ _ rfl (g + 1) K (.slice ka K kc) (cso P ss) rfl hown3.out (w3.heap.size + 1) 1 4 (n : Int) (some ⟨w3.heap.size, 0, none⟩) 1 1 rfl hf3.out hKb hB3.out ?_)
          intro r c w8 k1 k2 k3
          have hpush : Hid (R2 (.slice (some ⟨r, 0, none⟩) (K + 1) c) w8) := by
            show R2 _ _
            rw [← hR2.out]
            have B34 : Below w3.heap.size w3 (w3.alloc (.cells #[.int .i64 ck, .int .i64 cn, .slice va cq vc] 24)) := (Below.refl _ _).alloc (Nat.le_refl _) _
            have hnew : (w3.alloc (.cells #[.int .i64 ck, .int .i64 cn, .slice va cq vc] 24)).heap[w3.heap.size]? = some (.cells #[.int .i64 cm.k, .int .i64 cm.n, .slice va cm.ks.length vc] 24 (0, 0)) := by rw [hck.out, hcn.out, hcq.out]; exact heap_alloc_new _ _
            have ok : Os (fun b => (U2 b ∧ b < w3.heap.size) ∨ w3.heap.size ≤ b) (w3.alloc (.cells #[.int .i64 ck, .int .i64 cn, .slice va cq vc] 24)) cm (.agg #[.int .i64 cm.k, .int .i64 cm.n, .slice va cm.ks.length vc]) := by
              rw [hck.out, hcn.out, hcq.out]
              exact Os.keep2 (fun b hb hl => .inl ⟨hb, hl⟩) (fun b hb hl => B34.block b hl) _ _ o3.out
            have o4 : Os (fun b => (U2 b ∧ b < w3.heap.size) ∨ w3.heap.size ≤ b) (w3.alloc (.cells #[.int .i64 ck, .int .i64 cn, .slice va cq vc] 24)) ⟨4, n, [cm]⟩ (.agg #[.int .i64 4, .int .i64 (n : Int), .slice (some ⟨w3.heap.size, 0, none⟩) 1 1]) := Os.one hf4.out (.inr (Nat.le_refl _)) ok hnew
            have S3' := S3.out
            rw [← hK.out] at S3' k1 k2 k3
            obtain ⟨U4, q1, _, _, _⟩ := S3'.push (t := ⟨4, n, [cm]⟩) (s := .slice (some ⟨w3.heap.size, 0, none⟩) 1 1) (o := (.cells #[.int .i64 4, .int .i64 (n : Int), .slice (some ⟨w3.heap.size, 0, none⟩) 1 1] 24)) B34 ⟨_, _, _, rfl⟩ o4 k1 k2 (fun b e => by cases e; rw [World.size_alloc, World.size_alloc]; exact k3)
            rw [hK.out] at q1
            exact ⟨H2, T2, U4, _, _, q1, hPP.out, by rw [List.length_append, hK.out]; simp; omega⟩
          clear k1 k2 k3 r0 r1 r2 hown3 hf3 hB3
          go_wp2_with fail
          go_meet
          exact hpush.out
      case rest => as_aux_lemma =>
        rw [← hR2.out] at hcut
        obtain ⟨H2, T2, U2, P2, ss2, S8, hP2⟩ := hcut
        rename World => w8
        obtain ⟨k8, c8, rfl⟩ := S8.out.lo.shape
        have hcap : P2.length ≤ c8 := by
          rcases S8.out.lo.own.2 with ⟨e, e0⟩ | ⟨r, cap, cur, e, _, _, hnc, _⟩
          · simp only [Value.slice.injEq] at e; omega
          · simp only [Value.slice.injEq] at e; omega
        have hP2l := hP2.out.2
        have hfinE : Hid (∀ (kv : Value) (ss : List Value), Lrw (g + 1) U2 w8 kv ((Pl.als D F p n).take top) ss → (∀ b, kv.ownBlock = some b → ¬ T2 b) → DaE D p F B kb n top T U W (.returned kv) w8) := fun kv ss h1 h2 => ⟨kv, ss, H2, T2, U2, rfl, S8.out.ks, S8.out.mv, h1.low (by have := S8.out.hg; omega), h2⟩
        by_cases hl : P2.length ≤ top
        · have hE : Hid (DaE D p F B kb n top T U W (.returned (.slice k8 P2.length c8)) w8) := by
            refine hfinE.out _ ss2 ?_ S8.out.nt
            have h := S8.out.lo
            rw [← hP2.out.1, List.take_of_length_le hl]
            exact h
          obtain ⟨LP, hLP⟩ : ∃ z, Hid (P2.length = z) := ⟨_, (rfl : _ = _)⟩
          rw [hLP.out] at hE hl
          rw [hLP.out]
          have hl' : decide ((LP : Int) > (top : Int)) = false := decide_eq_false (by omega)
          have hl2 : ¬ (top : Int) < (LP : Int) := by omega
          clear hfinE S8 hP2 hcap hP2l
          go_wp2_with fail
          go_ret
          exact hE.out
        · have hE : Hid (DaE D p F B kb n top T U W (.returned (.slice k8 top c8)) w8) := by
            have h := S8.out.lo.cut (n := top) (by omega)
            rw [hP2.out.1] at h
            exact hfinE.out _ _ h (fun b e => S8.out.nt b (by cases k8 <;> exact e))
          obtain ⟨LP, hLP⟩ : ∃ z, Hid (P2.length = z) := ⟨_, (rfl : _ = _)⟩
          rw [hLP.out] at hl hcap hP2l
          rw [hLP.out]
          have hl2 : (top : Int) < (LP : Int) := by omega
          have hcap2 : top ≤ c8 := by omega
          clear hfinE S8 hP2
          go_wp2_with fail
          go_ret
          exact hE.out
end Go.Proofs.YtoaccmblaifnmaaDoor
