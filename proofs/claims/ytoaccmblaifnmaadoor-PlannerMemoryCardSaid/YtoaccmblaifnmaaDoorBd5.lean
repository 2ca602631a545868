/-
  What PlannerLists and its fellows rest on, joined: Dk2 Dk3.
-/
import Derived.WalkKit
import Ieee.Arith
import Derived.WalkLawsBesides
import Derived.Laws.FloatArith
import Derived.Test.YtoaccmblaifnmaaDoorProg
import Derived.RegionTactic
import Derived.Outline
import Derived.Lib.Mul64
import Derived.Laws.Bits64b
import Derived.Deep.QuietTactic
import Derived.BigQuiet
import Derived.WalkSmall
import Derived.Deep.CutBlock
import Derived.Deep.DeepCutAuto
import Derived.Laws.Rows
import Derived.Lib.ItoaNum
import Derived.Laws.IdiomStrings
import Derived.Deep.RegionHeld3
import Derived.Lib.SmallJoins
import Derived.Lib.HexFns
import Derived.Test.YtoaccmblaifnmaaDoorRows
import Derived.LaidEql
import Derived.LaidLaws
import Derived.LaidHandle
import Derived.Stop.Joined
import Derived.Deep.RegionWith
import Derived.Recover
import Derived.RegionDies
import Derived.Laws.CopyOwn
import Derived.Lib.AppendIntMem
import Derived.Deep.RegionHeldLaw
import Derived.Maps.AppendAt
import Derived.Laws.OwnMore
import Derived.RangeFuncNested
import Derived.RangeFuncBound
import Derived.RangeFuncCalls
import Derived.RangeFuncLeaves
import Derived.RangeFuncBox
import Derived.Shelf.Abstract
import Derived.Shelf.RegionOpen
import Derived.OwnWalkIn
import Derived.TacticsInMore
import Derived.LoopNIn
import Derived.LoopIn
import Derived.Laws.AppendOwn
import Derived.OwnWalk
import Derived.BigCall
import Derived.Laws.ComplexArith
import Derived.Laws.MakeOwn
import Derived.MapKept
import Derived.Carry
import Derived.ChangeAlike
import Derived.Deep.RegionLaw
import Derived.Test.YtoaccmblaifnmaaDoorBd4
import Derived.Test.YtoaccmblaifnmaaDoorBd3
namespace Go.Proofs.YtoaccmblaifnmaaDoor
open Flo Go.RowKit Tr
set_option maxHeartbeats 2000000 in
set_option maxRecDepth 100000 in
theorem dblue_c {D p : Int} (n : Nat) (fv : Value) (w : World) (h1 : 1 ≤ n) (hn : n ≤ 16384) : Calls Tryd.prog 76 #[.int .i64 (n : Int), .agg #[.int .i64 D, fv, .int .i64 p]] w fun e w' => e = .returned (.bool (Pl.big p n && decide ((n : Int) ≤ 8192))) ∧ Below w.heap.size w w' := by
  obtain ⟨wa, ewa⟩ : ∃ wa, Hid (w.alloc (.cells #[.int .i64 D, fv, .int .i64 p] 45) = wa) := ⟨_, (rfl : _ = _)⟩
  have Ba : Hid (Below w.heap.size w wa) := by show Below _ _ _; rw [← ewa.out]; exact (Below.refl _ _).alloc (Nat.le_refl _) _
  obtain ⟨g, hg⟩ : ∃ g, Hid (w.heap.size = g) := ⟨_, (rfl : _ = _)⟩
  have Xa : Hid (Bp wa g D fv p) := by show Bp _ _ _ _ _; rw [← ewa.out, ← hg.out]; exact Bp.new _ _ _ _
  have hfa : Hid (∃ (v : Value) (zs : List Nat), Calls Tryd.prog 104 #[.int .i64 (n : Int)] wa (fun e w' => ∃ v zs, e = .returned v ∧ ((n = 1 ∧ v = .slice none 0 0) ∨ (2 ≤ n ∧ Nt.Fac n zs ∧ w'.ownsRow wa.heap.size 3 1 v zs.length (il zs))) ∧ Below wa.heap.size wa w')) := by
    refine ⟨.slice none 0 0, [], ?_⟩
    by_cases h : n = 1
    · refine (r5Factors_no (n : Int) wa (.inl (by omega))).mono ?_
      rintro e w' ⟨rfl, rfl⟩
      exact ⟨_, [], rfl, .inl ⟨h, rfl⟩, Below.refl _ _⟩
    · refine (r5Factors_n n wa (by omega) (by omega)).mono ?_
      rintro e w' ⟨v, zs, rfl, hf, ho, hb⟩
      exact ⟨v, zs, rfl, .inr ⟨by omega, hf, ho⟩, hb⟩
  obtain ⟨-, -, hfa2⟩ := hfa.out
  have hfaH : Hid (Calls Tryd.prog 104 #[.int .i64 (n : Int)] wa (fun e w' => ∃ v zs, e = .returned v ∧ ((n = 1 ∧ v = .slice none 0 0) ∨ (2 ≤ n ∧ Nt.Fac n zs ∧ w'.ownsRow wa.heap.size 3 1 v zs.length (il zs))) ∧ Below wa.heap.size wa w')) := hfa2
  clear hfa hfa2
  go_enter Tryd.func76, Tryd.ntmps76
  go_upto_region 1 with fail
  rw [ewa.out, hg.out]
  go_wp2_with fail
  refine hfaH.out.mono ?_
  rintro e w1 ⟨v, zs, rfl, hz, b1⟩
  have B1 : Hid (Below w.heap.size w w1) := Ba.out.trans (b1.mono Ba.out.size)
  have x2 := (Xa.out.bel b1).c2
  clear b1 hfaH
  rcases hz with ⟨rfl, rfl⟩ | ⟨hn2, hfac, hown⟩
  · have hb : Hid (Pl.big p 1 = false) := by
      show _ = _
      cases h : Pl.big p 1 with
      | false => rfl
      | true =>
        obtain ⟨q, q1, q2, _⟩ := (Pl.big_iff (by decide)).1 h
        have := Nat.le_of_dvd (by decide) q2
        have := q1.1
        omega
    go_wp2_with fail
    go_quiet (fail)
    go_wp2
    go_ret
    exact ⟨by rw [hb.out]; simp, below_drewN B1.out _⟩
  · obtain ⟨hl, hiff⟩ := fac_last hn2 hfac p
    obtain ⟨ao, cap, rfl, hr⟩ := RdI.of_own hown
    obtain ⟨b, off, rfl, hlt, hc⟩ := hr (fun e => by rw [e] at hl; simp at hl)
    have z1 := hc (zs.length - 1) hl
    have hg1 : zs.getD (zs.length - 1) 0 = zs[zs.length - 1] := by rw [List.getD_eq_getElem?_getD, List.getElem?_eq_getElem hl]; rfl
    rw [← hg1] at hiff
    obtain ⟨X, hX⟩ : ∃ X, Hid (zs.getD (zs.length - 1) 0 = X) := ⟨_, (rfl : _ = _)⟩
    rw [hX.out] at z1 hiff
    have hlen : zs.length ≤ 32 := hfac.len (by omega)
    obtain ⟨K, hK⟩ : ∃ K, Hid (zs.length = K) := ⟨_, (rfl : _ = _)⟩
    rw [hK.out] at z1 hl hlen ⊢
    obtain ⟨l1, hl1, hl1'⟩ : ∃ l1 : Nat, Hid (l1 = K - 1) ∧ (K : Int) - 1 = (l1 : Int) := ⟨K - 1, (rfl : _ = _), by omega⟩
    rw [← hl1.out] at z1
    have hlt1 : (l1 : Int) < (K : Int) := by omega
    have hlt2 : l1 < K := by omega
    have hK1 : (0 : Int) < (K : Int) := by omega
    have hK2 : 0 < K := by omega
    have hiH : Hid (p < (X : Int) ↔ Pl.big p n = true) := hiff
    clear hr hc hfac hown hiff hg1 hX hK hl1 hl hlt
    by_cases hp : p < (X : Int)
    · have hb : Hid (Pl.big p n = true) := hiH.out.1 hp
      by_cases h8 : (n : Int) ≤ 8192
      · go_wp2_with fail
        go_quiet (fail)
        go_wp2
        go_ret
        exact ⟨by rw [hb.out]; simp [h8], below_drewN B1.out _⟩
      · have h8' : decide ((n : Int) ≤ 8192) = false := decide_eq_false h8
        go_wp2_with fail
        go_quiet (fail)
        go_wp2
        go_ret
        exact ⟨by rw [hb.out]; simp [h8], below_drewN B1.out _⟩
    · have hp' : decide (p < (X : Int)) = false := decide_eq_false hp
      have hb : Hid (Pl.big p n = false) := by
        show _ = _
        cases h : Pl.big p n with
        | false => rfl
        | true => exact absurd (hiH.out.2 h) hp
      go_wp2_with fail
      go_quiet (fail)
      go_wp2
      go_ret
      exact ⟨by rw [hb.out]; simp, below_drewN B1.out _⟩
end Go.Proofs.YtoaccmblaifnmaaDoor
namespace Go.Proofs.YtoaccmblaifnmaaDoor
open Flo Go.RowKit Tr
theorem own_ty {w : World} {B : Nat} {e : TypeId} {k : Nat} {v : Value} {n : Nat} {xs : List Value} {b : Nat} (h : w.ownsRow B e k v n xs) (hb : v.ownBlock = some b) : B ≤ b ∧ b < w.heap.size ∧ ∃ cs, w.heap[b]? = some (.cells cs e (0, 0)) := by
  rcases h.2 with ⟨rfl, _⟩ | ⟨g, cap, cur, rfl, h1, h2, _⟩
  · cases hb
  · cases hb
    exact ⟨h1, (Array.getElem?_eq_some_iff.1 h2).1, cur, h2⟩
theorem own_keep {w w' : World} {B : Nat} {e : TypeId} {k : Nat} {v : Value} {n : Nat} {xs : List Value} (h : w.ownsRow B e k v n xs) (hk : ∀ b, v.ownBlock = some b → w'.heap[b]? = w.heap[b]?) : w'.ownsRow B e k v n xs := by
  refine ⟨h.1, ?_⟩
  rcases h.2 with h2 | ⟨g, cap, cur, rfl, h1, h2, h3⟩
  · exact .inl h2
  · exact .inr ⟨g, cap, cur, rfl, h1, (hk g rfl).trans h2, h3⟩
theorem KT.sc {T : Nat → Prop} {A w : World} {b i : Nat} (h : KT T A w) (v : Value) (hT : T b) : KT T A (w.setCell ⟨b, i, none⟩ v) :=
  h.trans ⟨rfl, rfl, rfl, by rw [sc_size]; exact Nat.le_refl _, fun k _ hn => sc_blk _ _ _ (fun e => hn (e ▸ hT))⟩
/-- the blocks of what is known: those that may change -/
def Tk (kb : Nat) (vN vO vC : Value) (b : Nat) : Prop := b = kb ∨ vN.ownBlock = some b ∨ vO.ownBlock = some b ∨ vC.ownBlock = some b
/-- three lists at block kb; the orders lie in U -/
structure Kg (B kb : Nat) (vN vO vC : Value) (lN : List Nat) (tO : List Tr) (ss : List Value) (lC : List Nat) (U : Nat → Prop) (w : World) : Prop where
  blk : w.heap[kb]? = some (.cells #[vN, vO, vC] 79 (0, 0))
  kB : B ≤ kb
  oN : w.ownsRow B 3 1 vN lN.length (il lN)
  oO : w.ownsRow B 24 3 vO tO.length (cso tO ss)
  oC : w.ownsRow B 3 1 vC lC.length (il lC)
  len : ss.length = tO.length
  sl : ∀ s ∈ ss, ∃ a l c, s = .slice a l c
  kid : ∀ (j : Nat) t s, tO[j]? = some t → ss[j]? = some s → Os U w t (.agg #[.int .i64 t.k, .int .i64 t.n, s])
  nc : ∀ b, vN.ownBlock = some b → vC.ownBlock ≠ some b
  ub : ∀ b, U b → B ≤ b ∧ b < w.heap.size ∧ ¬ Tk kb vN vO vC b
section
variable {B kb : Nat} {vN vO vC : Value} {lN lC : List Nat} {tO : List Tr} {ss : List Value} {U : Nat → Prop} {w w' : World}
theorem Kg.lt (h : Kg B kb vN vO vC lN tO ss lC U w) : kb < w.heap.size := (Array.getElem?_eq_some_iff.1 h.blk).1
theorem Kg.c0 (h : Kg B kb vN vO vC lN tO ss lC U w) : w.cell? ⟨kb, 0, none⟩ = some vN := by rw [Joins.cell_of_block h.blk]; rfl
theorem Kg.c1 (h : Kg B kb vN vO vC lN tO ss lC U w) : w.cell? ⟨kb, 1, none⟩ = some vO := by rw [Joins.cell_of_block h.blk]; rfl
theorem Kg.c2 (h : Kg B kb vN vO vC lN tO ss lC U w) : w.cell? ⟨kb, 2, none⟩ = some vC := by rw [Joins.cell_of_block h.blk]; rfl
theorem Kg.fz (h : Kg B kb vN vO vC lN tO ss lC U w) (i : Nat) : w.frozen? ⟨kb, i, none⟩ = false := Joins.unfrozen_of_block h.blk i
/-- which blocks are which -/
theorem Kg.tk (h : Kg B kb vN vO vC lN tO ss lC U w) {b : Nat} (hb : Tk kb vN vO vC b) : B ≤ b ∧ b < w.heap.size := by
  rcases hb with rfl | hb | hb | hb
  · exact ⟨h.kB, h.lt⟩
  · have := own_ty h.oN hb; exact ⟨this.1, this.2.1⟩
  · have := own_ty h.oO hb; exact ⟨this.1, this.2.1⟩
  · have := own_ty h.oC hb; exact ⟨this.1, this.2.1⟩
theorem Kg.nk (h : Kg B kb vN vO vC lN tO ss lC U w) : vN.ownBlock ≠ some kb ∧ vO.ownBlock ≠ some kb ∧ vC.ownBlock ≠ some kb := by
  refine ⟨fun e => ?_, fun e => ?_, fun e => ?_⟩
  · obtain ⟨_, _, cs, h2⟩ := own_ty h.oN e
    rw [h.blk] at h2; injection h2 with h2; injection h2 with _ h2; exact absurd h2 (by decide)
  · obtain ⟨_, _, cs, h2⟩ := own_ty h.oO e
    rw [h.blk] at h2; injection h2 with h2; injection h2 with _ h2; exact absurd h2 (by decide)
  · obtain ⟨_, _, cs, h2⟩ := own_ty h.oC e
    rw [h.blk] at h2; injection h2 with h2; injection h2 with _ h2; exact absurd h2 (by decide)
theorem int_ne_order {b : Nat} {B B' k k' n n' : Nat} {v v' : Value} {xs xs' : List Value} (h : w.ownsRow B 3 k v n xs) (h' : w.ownsRow B' 24 k' v' n' xs') (hb : v.ownBlock = some b) : v'.ownBlock ≠ some b := fun e => by
  obtain ⟨_, _, cs, h1⟩ := own_ty h hb
  obtain ⟨_, _, cs', h2⟩ := own_ty h' e
  rw [h1] at h2; injection h2 with h2; injection h2 with _ h2; exact absurd h2 (by decide)
theorem Kg.kt {T : Nat → Prop} (h : Kg B kb vN vO vC lN tO ss lC U w) (k : KT T w w') (hT : ∀ b, T b → ¬ Tk kb vN vO vC b ∧ ¬ U b) : Kg B kb vN vO vC lN tO ss lC U w' := by
  have hk : ∀ b, Tk kb vN vO vC b → w'.heap[b]? = w.heap[b]? := fun b hb => k.block b (h.tk hb).2 fun t => (hT b t).1 hb
  refine ⟨(hk kb (.inl rfl)).trans h.blk, h.kB, own_keep h.oN fun b e => hk b (.inr (.inl e)), own_keep h.oO fun b e => hk b (.inr (.inr (.inl e))), own_keep h.oC fun b e => hk b (.inr (.inr (.inr e))), h.len, h.sl, fun j t s h1 h2 => Os.keep (fun _ hb => hb) (fun b hb hl => k.block b hl fun t => (hT b t).2 hb) _ _ (h.kid j t s h1 h2), h.nc, fun b hb => ?_⟩
  obtain ⟨h1, h2, h3⟩ := h.ub b hb
  exact ⟨h1, Nat.lt_of_lt_of_le h2 k.size, h3⟩
theorem Kg.bel (h : Kg B kb vN vO vC lN tO ss lC U w) (k : Below w.heap.size w w') : Kg B kb vN vO vC lN tO ss lC U w' := h.kt (T := fun _ => False) (KT.of_below k) (fun _ h => h.elim)
theorem Kg.wid {U' : Nat → Prop} (h : Kg B kb vN vO vC lN tO ss lC U w) (hU : ∀ b, U b → U' b) (ub : ∀ b, U' b → B ≤ b ∧ b < w.heap.size ∧ ¬ Tk kb vN vO vC b) : Kg B kb vN vO vC lN tO ss lC U' w :=
  ⟨h.blk, h.kB, h.oN, h.oO, h.oC, h.len, h.sl, fun j t s h1 h2 => Os.keep hU (fun _ _ _ => rfl) _ _ (h.kid j t s h1 h2), h.nc, ub⟩
/-- one number more in the first list -/
theorem Kg.putN {vN' : Value} {w1 : World} {z : Nat} (h : Kg B kb vN vO vC lN tO ss lC U w) (ho : w1.ownsRow B 3 1 vN' (lN ++ [z]).length (il (lN ++ [z]))) (hg : w.grownBy w1 vN.ownBlock) (hn : ∀ b, vN'.ownBlock = some b → vN.ownBlock = some b ∨ w.heap.size ≤ b) :
    Kg B kb vN' vO vC (lN ++ [z]) tO ss lC U (w1.setCell ⟨kb, 0, none⟩ vN') ∧ KT (Tk kb vN vO vC) w (w1.setCell ⟨kb, 0, none⟩ vN') := by
  have hk1 : ∀ b, b < w.heap.size → vN.ownBlock ≠ some b → w1.heap[b]? = w.heap[b]? := fun b hb hne => hg.block b hb fun e => hne e.symm
  have hb1 := (hk1 kb h.lt h.nk.1).trans h.blk
  have hkb : ∀ b, vN'.ownBlock = some b → b ≠ kb := fun b e hbk => by
    rcases hn b e with h2 | h2
    · exact h.nk.1 (hbk ▸ h2)
    · have := h.lt; omega
  have hk2 : ∀ b, b < w.heap.size → vN.ownBlock ≠ some b → b ≠ kb → (w1.setCell ⟨kb, 0, none⟩ vN').heap[b]? = w.heap[b]? := fun b hb hne hk => (sc_blk _ _ _ hk).trans (hk1 b hb hne)
  refine ⟨⟨?_, h.kB, own_keep ho fun b e => sc_blk _ _ _ (hkb b e), own_keep h.oO fun b e => hk2 b (own_ty h.oO e).2.1 (fun e2 => int_ne_order h.oN h.oO e2 e) (fun e2 => h.nk.2.1 (e2 ▸ e)), own_keep h.oC fun b e => hk2 b (own_ty h.oC e).2.1 (fun e2 => h.nc b e2 e) (fun e2 => h.nk.2.2 (e2 ▸ e)), h.len, h.sl, fun j t s h1 h2 => ?_, fun b e e2 => ?_, fun b hb => ?_⟩, (KT.grown hg (fun b e => .inr (.inl e))).sc _ (.inl rfl)⟩
  · rw [hsc hb1]; rfl
  · refine Os.keep (fun _ hb => hb) (fun b hb hl => ?_) _ _ (h.kid j t s h1 h2)
    have := (h.ub b hb).2.2
    exact hk2 b hl (fun e => this (.inr (.inl e))) (fun e => this (.inl e))
  · rcases hn b e with h2 | h2
    · exact h.nc b h2 e2
    · have := (own_ty h.oC e2).2.1; omega
  · obtain ⟨h1, h2, h3⟩ := h.ub b hb
    refine ⟨h1, by rw [sc_size]; have := hg.size; omega, fun t => ?_⟩
    rcases t with t | t | t | t
    · exact h3 (.inl t)
    · rcases hn b t with h4 | h4
      · exact h3 (.inr (.inl h4))
      · omega
    · exact h3 (.inr (.inr (.inl t)))
    · exact h3 (.inr (.inr (.inr t)))
/-- one number more in the third list -/
theorem Kg.putC {vC' : Value} {w1 : World} {z : Nat} (h : Kg B kb vN vO vC lN tO ss lC U w) (ho : w1.ownsRow B 3 1 vC' (lC ++ [z]).length (il (lC ++ [z]))) (hg : w.grownBy w1 vC.ownBlock) (hn : ∀ b, vC'.ownBlock = some b → vC.ownBlock = some b ∨ w.heap.size ≤ b) :
    Kg B kb vN vO vC' lN tO ss (lC ++ [z]) U (w1.setCell ⟨kb, 2, none⟩ vC') ∧ KT (Tk kb vN vO vC) w (w1.setCell ⟨kb, 2, none⟩ vC') := by
  have hk1 : ∀ b, b < w.heap.size → vC.ownBlock ≠ some b → w1.heap[b]? = w.heap[b]? := fun b hb hne => hg.block b hb fun e => hne e.symm
  have hb1 := (hk1 kb h.lt h.nk.2.2).trans h.blk
  have hkb : ∀ b, vC'.ownBlock = some b → b ≠ kb := fun b e hbk => by
    rcases hn b e with h2 | h2
    · exact h.nk.2.2 (hbk ▸ h2)
    · have := h.lt; omega
  have hk2 : ∀ b, b < w.heap.size → vC.ownBlock ≠ some b → b ≠ kb → (w1.setCell ⟨kb, 2, none⟩ vC').heap[b]? = w.heap[b]? := fun b hb hne hk => (sc_blk _ _ _ hk).trans (hk1 b hb hne)
  refine ⟨⟨?_, h.kB, own_keep h.oN fun b e => hk2 b (own_ty h.oN e).2.1 (h.nc b e) (fun e2 => h.nk.1 (e2 ▸ e)), own_keep h.oO fun b e => hk2 b (own_ty h.oO e).2.1 (fun e2 => int_ne_order h.oC h.oO e2 e) (fun e2 => h.nk.2.1 (e2 ▸ e)), own_keep ho fun b e => sc_blk _ _ _ (hkb b e), h.len, h.sl, fun j t s h1 h2 => ?_, fun b e e2 => ?_, fun b hb => ?_⟩, (KT.grown hg (fun b e => .inr (.inr (.inr e)))).sc _ (.inl rfl)⟩
  · rw [hsc hb1]; rfl
  · refine Os.keep (fun _ hb => hb) (fun b hb hl => ?_) _ _ (h.kid j t s h1 h2)
    have := (h.ub b hb).2.2
    exact hk2 b hl (fun e => this (.inr (.inr (.inr e)))) (fun e => this (.inl e))
  · rcases hn b e2 with h2 | h2
    · exact h.nc b e h2
    · have := (own_ty h.oN e).2.1; omega
  · obtain ⟨h1, h2, h3⟩ := h.ub b hb
    refine ⟨h1, by rw [sc_size]; have := hg.size; omega, fun t => ?_⟩
    rcases t with t | t | t | t
    · exact h3 (.inl t)
    · exact h3 (.inr (.inl t))
    · exact h3 (.inr (.inr (.inl t)))
    · rcases hn b t with h4 | h4
      · exact h3 (.inr (.inr (.inr h4)))
      · omega
end
end Go.Proofs.YtoaccmblaifnmaaDoor
