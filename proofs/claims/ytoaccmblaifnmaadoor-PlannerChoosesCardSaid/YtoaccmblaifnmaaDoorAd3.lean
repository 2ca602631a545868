/-
  The document's planner: blue.
-/
import Derived.Test.YtoaccmblaifnmaaDoorDk1
import Derived.Test.YtoaccmblaifnmaaDoorAd2
import Derived.BigQuiet
import Derived.Deep.QuietTactic
import Derived.Test.YtoaccmblaifnmaaDoorAc5
import Derived.Test.YtoaccmblaifnmaaDoorProg
import Derived.Test.YtoaccmblaifnmaaDoorAa1
namespace Go.Proofs.YtoaccmblaifnmaaDoor
open Flo Go.RowKit Tr
set_option maxHeartbeats 2000000 in
set_option maxRecDepth 100000 in
theorem dblue_c {D p : Int} (n : Nat) (fv : Value) (w : World) (h1 : 1 ≤ n) (hn : n ≤ 16384) : Calls Tryd.prog 76 #[.int .i64 (n : Int), .agg #[.int .i64 D, fv, .int .i64 p]] w fun e w' => e = .returned (.bool (Pl.big p n && decide ((n : Int) ≤ 8192))) ∧ Below w.heap.size w w' := by
  obtain ⟨wa, ewa⟩ : ∃ wa, Hid (w.alloc (.cells #[.int .i64 D, fv, .int .i64 p] 45) = wa) := ⟨_, (rfl : _ = _)⟩
  have Ba : Hid (Below w.heap.size w wa) := by show Below _ _ _; rw [← ewa.out]; exact (Below.refl _ _).alloc (Nat.le_refl _) _
  obtain ⟨g, hg⟩ : ∃ g, Hid (w.heap.size = g) := ⟨_, (rfl : _ = _)⟩
  have Xa : Hid (Bp wa g D fv p) := by show Bp _ _ _ _ _; rw [← ewa.out, ← hg.out]; exact Bp.new _ _ _ _
  have hfa : Hid (∃ (v : Value) (zs : List Nat), Calls Tryd.prog 104 #[.int .i64 (n : Int)] wa (fun e w' => ∃ v zs, e = .returned v ∧ ((n = 1 ∧ v = .slice none 0 0) ∨ (2 ≤ n ∧ Nt.Fac n zs ∧ w'.ownsRow wa.heap.size 3 1 v zs.length (il zs))) ∧ Below wa.heap.size wa w')) := by
    refine ⟨.slice none 0 0, [], ?_⟩
    by_cases h : n = 1
    · refine (r5Factors_no (n : Int) wa (.inl (by omega))).mono ?_
      rintro e w' ⟨rfl, rfl⟩
      exact ⟨_, [], rfl, .inl ⟨h, rfl⟩, Below.refl _ _⟩
    · refine (r5Factors_n n wa (by omega) (by omega)).mono ?_
      rintro e w' ⟨v, zs, rfl, hf, ho, hb⟩
      exact ⟨v, zs, rfl, .inr ⟨by omega, hf, ho⟩, hb⟩
  obtain ⟨-, -, hfa2⟩ := hfa.out
  have hfaH : Hid (Calls Tryd.prog 104 #[.int .i64 (n : Int)] wa (fun e w' => ∃ v zs, e = .returned v ∧ ((n = 1 ∧ v = .slice none 0 0) ∨ (2 ≤ n ∧ Nt.Fac n zs ∧ w'.ownsRow wa.heap.size 3 1 v zs.length (il zs))) ∧ Below wa.heap.size wa w')) := hfa2
  clear hfa hfa2
  go_enter Tryd.func76, Tryd.ntmps76
  go_upto_region 1 with fail
  rw [ewa.out, hg.out]
  go_wp2_with fail
  refine hfaH.out.mono ?_
  rintro e w1 ⟨v, zs, rfl, hz, b1⟩
  have B1 : Hid (Below w.heap.size w w1) := Ba.out.trans (b1.mono Ba.out.size)
  have x2 := (Xa.out.bel b1).c2
  clear b1 hfaH
  rcases hz with ⟨rfl, rfl⟩ | ⟨hn2, hfac, hown⟩
  · have hb : Hid (Pl.big p 1 = false) := by
      show _ = _
      cases h : Pl.big p 1 with
      | false => rfl
      | true =>
        obtain ⟨q, q1, q2, _⟩ := (Pl.big_iff (by decide)).1 h
        have := Nat.le_of_dvd (by decide) q2
        have := q1.1
        omega
    go_wp2_with fail
    go_quiet (fail)
    go_wp2
    go_ret
    exact ⟨by rw [hb.out]; simp, below_drewN B1.out _⟩
  · obtain ⟨hl, hiff⟩ := fac_last hn2 hfac p
    obtain ⟨ao, cap, rfl, hr⟩ := RdI.of_own hown
    obtain ⟨b, off, rfl, hlt, hc⟩ := hr (fun e => by rw [e] at hl; simp at hl)
    have z1 := hc (zs.length - 1) hl
    have hg1 : zs.getD (zs.length - 1) 0 = zs[zs.length - 1] := by rw [List.getD_eq_getElem?_getD, List.getElem?_eq_getElem hl]; rfl
    rw [← hg1] at hiff
    obtain ⟨X, hX⟩ : ∃ X, Hid (zs.getD (zs.length - 1) 0 = X) := ⟨_, (rfl : _ = _)⟩
    rw [hX.out] at z1 hiff
    have hlen : zs.length ≤ 32 := hfac.len (by omega)
    obtain ⟨K, hK⟩ : ∃ K, Hid (zs.length = K) := ⟨_, (rfl : _ = _)⟩
    rw [hK.out] at z1 hl hlen ⊢
    obtain ⟨l1, hl1, hl1'⟩ : ∃ l1 : Nat, Hid (l1 = K - 1) ∧ (K : Int) - 1 = (l1 : Int) := ⟨K - 1, (rfl : _ = _), by omega⟩
    rw [← hl1.out] at z1
    have hlt1 : (l1 : Int) < (K : Int) := by omega
    have hlt2 : l1 < K := by omega
    have hK1 : (0 : Int) < (K : Int) := by omega
    have hK2 : 0 < K := by omega
    have hiH : Hid (p < (X : Int) ↔ Pl.big p n = true) := hiff
    clear hr hc hfac hown hiff hg1 hX hK hl1 hl hlt
    by_cases hp : p < (X : Int)
    · have hb : Hid (Pl.big p n = true) := hiH.out.1 hp
      by_cases h8 : (n : Int) ≤ 8192
      · go_wp2_with fail
        go_quiet (fail)
        go_wp2
        go_ret
        exact ⟨by rw [hb.out]; simp [h8], below_drewN B1.out _⟩
      · have h8' : decide ((n : Int) ≤ 8192) = false := decide_eq_false h8
        go_wp2_with fail
        go_quiet (fail)
        go_wp2
        go_ret
        exact ⟨by rw [hb.out]; simp [h8], below_drewN B1.out _⟩
    · have hp' : decide (p < (X : Int)) = false := decide_eq_false hp
      have hb : Hid (Pl.big p n = false) := by
        show _ = _
        cases h : Pl.big p n with
        | false => rfl
        | true => exact absurd (hiH.out.2 h) hp
      go_wp2_with fail
      go_quiet (fail)
      go_wp2
      go_ret
      exact ⟨by rw [hb.out]; simp, below_drewN B1.out _⟩
end Go.Proofs.YtoaccmblaifnmaaDoor
/-
  The document's planner: what is known already, in memory.
-/
namespace Go.Proofs.YtoaccmblaifnmaaDoor
open Flo Go.RowKit Tr
theorem own_ty {w : World} {B : Nat} {e : TypeId} {k : Nat} {v : Value} {n : Nat} {xs : List Value} {b : Nat} (h : w.ownsRow B e k v n xs) (hb : v.ownBlock = some b) : B ≤ b ∧ b < w.heap.size ∧ ∃ cs, w.heap[b]? = some (.cells cs e (0, 0)) := by
  rcases h.2 with ⟨rfl, _⟩ | ⟨g, cap, cur, rfl, h1, h2, _⟩
  · cases hb
  · cases hb
    exact ⟨h1, (Array.getElem?_eq_some_iff.1 h2).1, cur, h2⟩
theorem own_keep {w w' : World} {B : Nat} {e : TypeId} {k : Nat} {v : Value} {n : Nat} {xs : List Value} (h : w.ownsRow B e k v n xs) (hk : ∀ b, v.ownBlock = some b → w'.heap[b]? = w.heap[b]?) : w'.ownsRow B e k v n xs := by
  refine ⟨h.1, ?_⟩
  rcases h.2 with h2 | ⟨g, cap, cur, rfl, h1, h2, h3⟩
  · exact .inl h2
  · exact .inr ⟨g, cap, cur, rfl, h1, (hk g rfl).trans h2, h3⟩
theorem KT.sc {T : Nat → Prop} {A w : World} {b i : Nat} (h : KT T A w) (v : Value) (hT : T b) : KT T A (w.setCell ⟨b, i, none⟩ v) :=
  h.trans ⟨rfl, rfl, rfl, by rw [sc_size]; exact Nat.le_refl _, fun k _ hn => sc_blk _ _ _ (fun e => hn (e ▸ hT))⟩
/-- the blocks of what is known: those that may change -/
def Tk (kb : Nat) (vN vO vC : Value) (b : Nat) : Prop := b = kb ∨ vN.ownBlock = some b ∨ vO.ownBlock = some b ∨ vC.ownBlock = some b
/-- three lists at block kb; the orders lie in U -/
structure Kg (B kb : Nat) (vN vO vC : Value) (lN : List Nat) (tO : List Tr) (ss : List Value) (lC : List Nat) (U : Nat → Prop) (w : World) : Prop where
  blk : w.heap[kb]? = some (.cells #[vN, vO, vC] 79 (0, 0))
  kB : B ≤ kb
  oN : w.ownsRow B 3 1 vN lN.length (il lN)
  oO : w.ownsRow B 24 3 vO tO.length (cso tO ss)
  oC : w.ownsRow B 3 1 vC lC.length (il lC)
  len : ss.length = tO.length
  sl : ∀ s ∈ ss, ∃ a l c, s = .slice a l c
  kid : ∀ (j : Nat) t s, tO[j]? = some t → ss[j]? = some s → Os U w t (.agg #[.int .i64 t.k, .int .i64 t.n, s])
  nc : ∀ b, vN.ownBlock = some b → vC.ownBlock ≠ some b
  ub : ∀ b, U b → B ≤ b ∧ b < w.heap.size ∧ ¬ Tk kb vN vO vC b
section
variable {B kb : Nat} {vN vO vC : Value} {lN lC : List Nat} {tO : List Tr} {ss : List Value} {U : Nat → Prop} {w w' : World}
theorem Kg.lt (h : Kg B kb vN vO vC lN tO ss lC U w) : kb < w.heap.size := (Array.getElem?_eq_some_iff.1 h.blk).1
theorem Kg.c0 (h : Kg B kb vN vO vC lN tO ss lC U w) : w.cell? ⟨kb, 0, none⟩ = some vN := by rw [Joins.cell_of_block h.blk]; rfl
theorem Kg.c1 (h : Kg B kb vN vO vC lN tO ss lC U w) : w.cell? ⟨kb, 1, none⟩ = some vO := by rw [Joins.cell_of_block h.blk]; rfl
theorem Kg.c2 (h : Kg B kb vN vO vC lN tO ss lC U w) : w.cell? ⟨kb, 2, none⟩ = some vC := by rw [Joins.cell_of_block h.blk]; rfl
theorem Kg.fz (h : Kg B kb vN vO vC lN tO ss lC U w) (i : Nat) : w.frozen? ⟨kb, i, none⟩ = false := Joins.unfrozen_of_block h.blk i
/-- which blocks are which -/
theorem Kg.tk (h : Kg B kb vN vO vC lN tO ss lC U w) {b : Nat} (hb : Tk kb vN vO vC b) : B ≤ b ∧ b < w.heap.size := by
  rcases hb with rfl | hb | hb | hb
  · exact ⟨h.kB, h.lt⟩
  · have := own_ty h.oN hb; exact ⟨this.1, this.2.1⟩
  · have := own_ty h.oO hb; exact ⟨this.1, this.2.1⟩
  · have := own_ty h.oC hb; exact ⟨this.1, this.2.1⟩
theorem Kg.nk (h : Kg B kb vN vO vC lN tO ss lC U w) : vN.ownBlock ≠ some kb ∧ vO.ownBlock ≠ some kb ∧ vC.ownBlock ≠ some kb := by
  refine ⟨fun e => ?_, fun e => ?_, fun e => ?_⟩
  · obtain ⟨_, _, cs, h2⟩ := own_ty h.oN e
    rw [h.blk] at h2; injection h2 with h2; injection h2 with _ h2; exact absurd h2 (by decide)
  · obtain ⟨_, _, cs, h2⟩ := own_ty h.oO e
    rw [h.blk] at h2; injection h2 with h2; injection h2 with _ h2; exact absurd h2 (by decide)
  · obtain ⟨_, _, cs, h2⟩ := own_ty h.oC e
    rw [h.blk] at h2; injection h2 with h2; injection h2 with _ h2; exact absurd h2 (by decide)
theorem int_ne_order {b : Nat} {B B' k k' n n' : Nat} {v v' : Value} {xs xs' : List Value} (h : w.ownsRow B 3 k v n xs) (h' : w.ownsRow B' 24 k' v' n' xs') (hb : v.ownBlock = some b) : v'.ownBlock ≠ some b := fun e => by
  obtain ⟨_, _, cs, h1⟩ := own_ty h hb
  obtain ⟨_, _, cs', h2⟩ := own_ty h' e
  rw [h1] at h2; injection h2 with h2; injection h2 with _ h2; exact absurd h2 (by decide)
theorem Kg.kt {T : Nat → Prop} (h : Kg B kb vN vO vC lN tO ss lC U w) (k : KT T w w') (hT : ∀ b, T b → ¬ Tk kb vN vO vC b ∧ ¬ U b) : Kg B kb vN vO vC lN tO ss lC U w' := by
  have hk : ∀ b, Tk kb vN vO vC b → w'.heap[b]? = w.heap[b]? := fun b hb => k.block b (h.tk hb).2 fun t => (hT b t).1 hb
  refine ⟨(hk kb (.inl rfl)).trans h.blk, h.kB, own_keep h.oN fun b e => hk b (.inr (.inl e)), own_keep h.oO fun b e => hk b (.inr (.inr (.inl e))), own_keep h.oC fun b e => hk b (.inr (.inr (.inr e))), h.len, h.sl, fun j t s h1 h2 => Os.keep (fun _ hb => hb) (fun b hb hl => k.block b hl fun t => (hT b t).2 hb) _ _ (h.kid j t s h1 h2), h.nc, fun b hb => ?_⟩
  obtain ⟨h1, h2, h3⟩ := h.ub b hb
  exact ⟨h1, Nat.lt_of_lt_of_le h2 k.size, h3⟩
theorem Kg.bel (h : Kg B kb vN vO vC lN tO ss lC U w) (k : Below w.heap.size w w') : Kg B kb vN vO vC lN tO ss lC U w' := h.kt (T := fun _ => False) (KT.of_below k) (fun _ h => h.elim)
theorem Kg.wid {U' : Nat → Prop} (h : Kg B kb vN vO vC lN tO ss lC U w) (hU : ∀ b, U b → U' b) (ub : ∀ b, U' b → B ≤ b ∧ b < w.heap.size ∧ ¬ Tk kb vN vO vC b) : Kg B kb vN vO vC lN tO ss lC U' w :=
  ⟨h.blk, h.kB, h.oN, h.oO, h.oC, h.len, h.sl, fun j t s h1 h2 => Os.keep hU (fun _ _ _ => rfl) _ _ (h.kid j t s h1 h2), h.nc, ub⟩
/-- one number more in the first list -/
theorem Kg.putN {vN' : Value} {w1 : World} {z : Nat} (h : Kg B kb vN vO vC lN tO ss lC U w) (ho : w1.ownsRow B 3 1 vN' (lN ++ [z]).length (il (lN ++ [z]))) (hg : w.grownBy w1 vN.ownBlock) (hn : ∀ b, vN'.ownBlock = some b → vN.ownBlock = some b ∨ w.heap.size ≤ b) :
    Kg B kb vN' vO vC (lN ++ [z]) tO ss lC U (w1.setCell ⟨kb, 0, none⟩ vN') ∧ KT (Tk kb vN vO vC) w (w1.setCell ⟨kb, 0, none⟩ vN') := by
  have hk1 : ∀ b, b < w.heap.size → vN.ownBlock ≠ some b → w1.heap[b]? = w.heap[b]? := fun b hb hne => hg.block b hb fun e => hne e.symm
  have hb1 := (hk1 kb h.lt h.nk.1).trans h.blk
  have hkb : ∀ b, vN'.ownBlock = some b → b ≠ kb := fun b e hbk => by
    rcases hn b e with h2 | h2
    · exact h.nk.1 (hbk ▸ h2)
    · have := h.lt; omega
  have hk2 : ∀ b, b < w.heap.size → vN.ownBlock ≠ some b → b ≠ kb → (w1.setCell ⟨kb, 0, none⟩ vN').heap[b]? = w.heap[b]? := fun b hb hne hk => (sc_blk _ _ _ hk).trans (hk1 b hb hne)
  refine ⟨⟨?_, h.kB, own_keep ho fun b e => sc_blk _ _ _ (hkb b e), own_keep h.oO fun b e => hk2 b (own_ty h.oO e).2.1 (fun e2 => int_ne_order h.oN h.oO e2 e) (fun e2 => h.nk.2.1 (e2 ▸ e)), own_keep h.oC fun b e => hk2 b (own_ty h.oC e).2.1 (fun e2 => h.nc b e2 e) (fun e2 => h.nk.2.2 (e2 ▸ e)), h.len, h.sl, fun j t s h1 h2 => ?_, fun b e e2 => ?_, fun b hb => ?_⟩, (KT.grown hg (fun b e => .inr (.inl e))).sc _ (.inl rfl)⟩
  · rw [hsc hb1]; rfl
  · refine Os.keep (fun _ hb => hb) (fun b hb hl => ?_) _ _ (h.kid j t s h1 h2)
    have := (h.ub b hb).2.2
    exact hk2 b hl (fun e => this (.inr (.inl e))) (fun e => this (.inl e))
  · rcases hn b e with h2 | h2
    · exact h.nc b h2 e2
    · have := (own_ty h.oC e2).2.1; omega
  · obtain ⟨h1, h2, h3⟩ := h.ub b hb
    refine ⟨h1, by rw [sc_size]; have := hg.size; omega, fun t => ?_⟩
    rcases t with t | t | t | t
    · exact h3 (.inl t)
    · rcases hn b t with h4 | h4
      · exact h3 (.inr (.inl h4))
      · omega
    · exact h3 (.inr (.inr (.inl t)))
    · exact h3 (.inr (.inr (.inr t)))
/-- one number more in the third list -/
theorem Kg.putC {vC' : Value} {w1 : World} {z : Nat} (h : Kg B kb vN vO vC lN tO ss lC U w) (ho : w1.ownsRow B 3 1 vC' (lC ++ [z]).length (il (lC ++ [z]))) (hg : w.grownBy w1 vC.ownBlock) (hn : ∀ b, vC'.ownBlock = some b → vC.ownBlock = some b ∨ w.heap.size ≤ b) :
    Kg B kb vN vO vC' lN tO ss (lC ++ [z]) U (w1.setCell ⟨kb, 2, none⟩ vC') ∧ KT (Tk kb vN vO vC) w (w1.setCell ⟨kb, 2, none⟩ vC') := by
  have hk1 : ∀ b, b < w.heap.size → vC.ownBlock ≠ some b → w1.heap[b]? = w.heap[b]? := fun b hb hne => hg.block b hb fun e => hne e.symm
  have hb1 := (hk1 kb h.lt h.nk.2.2).trans h.blk
  have hkb : ∀ b, vC'.ownBlock = some b → b ≠ kb := fun b e hbk => by
    rcases hn b e with h2 | h2
    · exact h.nk.2.2 (hbk ▸ h2)
    · have := h.lt; omega
  have hk2 : ∀ b, b < w.heap.size → vC.ownBlock ≠ some b → b ≠ kb → (w1.setCell ⟨kb, 2, none⟩ vC').heap[b]? = w.heap[b]? := fun b hb hne hk => (sc_blk _ _ _ hk).trans (hk1 b hb hne)
  refine ⟨⟨?_, h.kB, own_keep h.oN fun b e => hk2 b (own_ty h.oN e).2.1 (h.nc b e) (fun e2 => h.nk.1 (e2 ▸ e)), own_keep h.oO fun b e => hk2 b (own_ty h.oO e).2.1 (fun e2 => int_ne_order h.oC h.oO e2 e) (fun e2 => h.nk.2.1 (e2 ▸ e)), own_keep ho fun b e => sc_blk _ _ _ (hkb b e), h.len, h.sl, fun j t s h1 h2 => ?_, fun b e e2 => ?_, fun b hb => ?_⟩, (KT.grown hg (fun b e => .inr (.inr (.inr e)))).sc _ (.inl rfl)⟩
  · rw [hsc hb1]; rfl
  · refine Os.keep (fun _ hb => hb) (fun b hb hl => ?_) _ _ (h.kid j t s h1 h2)
    have := (h.ub b hb).2.2
    exact hk2 b hl (fun e => this (.inr (.inr (.inr e)))) (fun e => this (.inl e))
  · rcases hn b e2 with h2 | h2
    · exact h.nc b e h2
    · have := (own_ty h.oN e).2.1; omega
  · obtain ⟨h1, h2, h3⟩ := h.ub b hb
    refine ⟨h1, by rw [sc_size]; have := hg.size; omega, fun t => ?_⟩
    rcases t with t | t | t | t
    · exact h3 (.inl t)
    · exact h3 (.inr (.inl t))
    · exact h3 (.inr (.inr (.inl t)))
    · rcases hn b t with h4 | h4
      · exact h3 (.inr (.inr (.inr h4)))
      · omega
/-- one order more in the second list -/
theorem Kg.putO {vO' : Value} {w1 : World} {t0 : Tr} {s0 : Value} (h : Kg B kb vN vO vC lN tO ss lC U w) (hs : ∃ a l c, s0 = .slice a l c) (hos : Os U w t0 (.agg #[.int .i64 t0.k, .int .i64 t0.n, s0])) (ho : w1.ownsRow B 24 3 vO' (tO.length + 1) (cso tO ss ++ [.int .i64 t0.k, .int .i64 t0.n, s0])) (hg : w.grownBy w1 vO.ownBlock) (hn : ∀ b, vO'.ownBlock = some b → vO.ownBlock = some b ∨ w.heap.size ≤ b) :
    Kg B kb vN vO' vC lN (tO ++ [t0]) (ss ++ [s0]) lC U (w1.setCell ⟨kb, 1, none⟩ vO') ∧ KT (Tk kb vN vO vC) w (w1.setCell ⟨kb, 1, none⟩ vO') := by
  have hk1 : ∀ b, b < w.heap.size → vO.ownBlock ≠ some b → w1.heap[b]? = w.heap[b]? := fun b hb hne => hg.block b hb fun e => hne e.symm
  have hb1 := (hk1 kb h.lt h.nk.2.1).trans h.blk
  have hkb : ∀ b, vO'.ownBlock = some b → b ≠ kb := fun b e hbk => by
    rcases hn b e with h2 | h2
    · exact h.nk.2.1 (hbk ▸ h2)
    · have := h.lt; omega
  have hk2 : ∀ b, b < w.heap.size → vO.ownBlock ≠ some b → b ≠ kb → (w1.setCell ⟨kb, 1, none⟩ vO').heap[b]? = w.heap[b]? := fun b hb hne hk => (sc_blk _ _ _ hk).trans (hk1 b hb hne)
  have hkU : ∀ b, U b → b < w.heap.size → (w1.setCell ⟨kb, 1, none⟩ vO').heap[b]? = w.heap[b]? := fun b hb hl => by
    have := (h.ub b hb).2.2
    exact hk2 b hl (fun e => this (.inr (.inr (.inl e)))) (fun e => this (.inl e))
  refine ⟨⟨?_, h.kB, own_keep h.oN fun b e => hk2 b (own_ty h.oN e).2.1 (int_ne_order h.oN h.oO e) (fun e2 => h.nk.1 (e2 ▸ e)), own_keep (by rw [cso_snoc _ _ _ _ h.len, List.length_append]; exact ho) fun b e => sc_blk _ _ _ (hkb b e), own_keep h.oC fun b e => hk2 b (own_ty h.oC e).2.1 (int_ne_order h.oC h.oO e) (fun e2 => h.nk.2.2 (e2 ▸ e)), by simp [h.len], fun s hs2 => ?_, fun j t s h1 h2 => ?_, h.nc, fun b hb => ?_⟩, (KT.grown hg (fun b e => .inr (.inr (.inl e)))).sc _ (.inl rfl)⟩
  · rw [hsc hb1]; rfl
  · rcases List.mem_append.1 hs2 with e | e
    · exact h.sl s e
    · rw [List.mem_singleton] at e; subst e; exact hs
  · by_cases hj : j < tO.length
    · rw [List.getElem?_append_left hj] at h1
      rw [List.getElem?_append_left (by rw [h.len]; exact hj)] at h2
      exact Os.keep (fun _ hb => hb) hkU _ _ (h.kid j t s h1 h2)
    · rw [List.getElem?_append_right (by omega)] at h1
      rw [List.getElem?_append_right (by rw [h.len]; omega), h.len] at h2
      match hd : j - tO.length, h1, h2 with
      | 0, h1, h2 =>
        simp at h1 h2
        subst h1 h2
        exact Os.keep (fun _ hb => hb) hkU _ _ hos
      | n + 1, h1, h2 => simp at h1
  · obtain ⟨h1, h2, h3⟩ := h.ub b hb
    refine ⟨h1, by rw [sc_size]; have := hg.size; omega, fun t => ?_⟩
    rcases t with t | t | t | t
    · exact h3 (.inl t)
    · exact h3 (.inr (.inl t))
    · rcases hn b t with h4 | h4
      · exact h3 (.inr (.inr (.inl h4)))
      · omega
    · exact h3 (.inr (.inr (.inr t)))
end
end Go.Proofs.YtoaccmblaifnmaaDoor
/-
  The document's planner: what a call may change; what its cheapest is asked.
-/
namespace Go.Proofs.YtoaccmblaifnmaaDoor
open Flo Go.RowKit Tr
/-- what became of the known, of the orders' blocks and of the world since W -/
structure Mv (T U : Nat → Prop) (W : World) (T' U' : Nat → Prop) (W' : World) : Prop where
  kt : KT T W W'
  tn : ∀ b, T' b → T b ∨ W.heap.size ≤ b
  uu : ∀ b, U b → U' b
  un : ∀ b, U' b → U b ∨ W.heap.size ≤ b
theorem Mv.refl (T U : Nat → Prop) (W : World) : Mv T U W T U W := ⟨KT.refl _ _, fun _ h => .inl h, fun _ h => h, fun _ h => .inl h⟩
theorem Mv.trans {T U T1 U1 T2 U2 : Nat → Prop} {W W1 W2 : World} (h : Mv T U W T1 U1 W1) (k : Mv T1 U1 W1 T2 U2 W2) : Mv T U W T2 U2 W2 :=
  ⟨⟨k.kt.os.trans h.kt.os, k.kt.tape.trans h.kt.tape, k.kt.output.trans h.kt.output, Nat.le_trans h.kt.size k.kt.size, fun b hb hn => (k.kt.block b (Nat.lt_of_lt_of_le hb h.kt.size) (fun t => by
      rcases h.tn b t with t | t
      · exact hn t
      · omega)).trans (h.kt.block b hb hn)⟩, fun b hb => by
    rcases k.tn b hb with t | t
    · exact h.tn b t
    · exact .inr (Nat.le_trans h.kt.size t), fun b hb => k.uu b (h.uu b hb), fun b hb => by
    rcases k.un b hb with t | t
    · exact h.un b t
    · exact .inr (Nat.le_trans h.kt.size t)⟩
theorem Mv.bel {T U T1 U1 : Nat → Prop} {W W1 W2 : World} (h : Mv T U W T1 U1 W1) (k : Below W1.heap.size W1 W2) : Mv T U W T1 U1 W2 := h.trans ⟨KT.of_below k, fun _ h => .inl h, fun _ h => h, fun _ h => .inl h⟩
/-- a change of a block that is new -/
theorem Mv.loc {T U T1 U1 : Nat → Prop} {W W1 W2 : World} {b : Nat} (h : Mv T U W T1 U1 W1) (k : KT (fun x => x = b) W1 W2) (hb : W.heap.size ≤ b) : Mv T U W T1 U1 W2 :=
  ⟨⟨k.os.trans h.kt.os, k.tape.trans h.kt.tape, k.output.trans h.kt.output, Nat.le_trans h.kt.size k.size, fun x hx hn => (k.block x (Nat.lt_of_lt_of_le hx h.kt.size) (by omega)).trans (h.kt.block x hx hn)⟩, h.tn, h.uu, h.un⟩
/-- more blocks for the orders: new ones -/
theorem Mv.wid {T U T1 U1 U2 : Nat → Prop} {W W1 : World} (h : Mv T U W T1 U1 W1) (h1 : ∀ b, U1 b → U2 b) (h2 : ∀ b, U2 b → U1 b ∨ W.heap.size ≤ b) : Mv T U W T1 U2 W1 := ⟨h.kt, h.tn, fun b hb => h1 b (h.uu b hb), fun b hb => by
    rcases h2 b hb with t | t
    · exact h.un b t
    · exact .inr t⟩
def tc (D : Int) (F : List Int) (p : Int) (m : Nat) : Nat := Pl.tcs (Pl.ch D F p m)
/-- what is known: right, each length once -/
structure KS (D p : Int) (F : List Int) (B kb : Nat) (H : List Nat) (T U : Nat → Prop) (W : World) : Prop where
  kg : ∃ vN vO vC ss, Kg B kb vN vO vC H (H.map (Pl.ch D F p)) ss (H.map (tc D F p)) U W ∧ T = Tk kb vN vO vC
  nd : H.Nodup
  dm : ∀ m ∈ H, Pl.Dm p m
section
variable {D p : Int} {F : List Int} {B kb : Nat} {H : List Nat} {T U : Nat → Prop} {W W' : World}
theorem KS.kt {T' : Nat → Prop} (h : KS D p F B kb H T U W) (k : KT T' W W') (hT : ∀ b, T' b → ¬ T b ∧ ¬ U b) : KS D p F B kb H T U W' := by
  obtain ⟨vN, vO, vC, ss, h1, rfl⟩ := h.kg
  exact ⟨⟨vN, vO, vC, ss, h1.kt k hT, rfl⟩, h.nd, h.dm⟩
theorem KS.bel (h : KS D p F B kb H T U W) (k : Below W.heap.size W W') : KS D p F B kb H T U W' := h.kt (T' := fun _ => False) (KT.of_below k) (fun _ h => h.elim)
theorem KS.loc {b : Nat} (h : KS D p F B kb H T U W) (k : KT (fun x => x = b) W W') (hT : ¬ T b) (hU : ¬ U b) : KS D p F B kb H T U W' := h.kt k (fun x e => by cases e; exact ⟨hT, hU⟩)
theorem KS.tlt (h : KS D p F B kb H T U W) {b : Nat} (hb : T b) : B ≤ b ∧ b < W.heap.size := by
  obtain ⟨vN, vO, vC, ss, h1, rfl⟩ := h.kg
  exact h1.tk hb
theorem KS.ult (h : KS D p F B kb H T U W) {b : Nat} (hb : U b) : B ≤ b ∧ b < W.heap.size ∧ ¬ T b := by
  obtain ⟨vN, vO, vC, ss, h1, rfl⟩ := h.kg
  exact h1.ub b hb
theorem KS.size (h : KS D p F B kb H T U W) : B < W.heap.size := by
  obtain ⟨vN, vO, vC, ss, h1, rfl⟩ := h.kg
  have := h1.kB
  have := h1.lt
  omega
theorem KS.wid {U' : Nat → Prop} (h : KS D p F B kb H T U W) (hU : ∀ b, U b → U' b) (ub : ∀ b, U' b → B ≤ b ∧ b < W.heap.size ∧ ¬ T b) : KS D p F B kb H T U' W := by
  obtain ⟨vN, vO, vC, ss, h1, rfl⟩ := h.kg
  exact ⟨⟨vN, vO, vC, ss, h1.wid hU ub, rfl⟩, h.nd, h.dm⟩
/-- few are known -/
theorem KS.few (h : KS D p F B kb H T U W) : H.length ≤ 16385 := by
  have h1 : H ⊆ List.range 16385 := fun m hm => by
    have := (h.dm m hm).2.1
    rw [List.mem_range]; omega
  have := List.Nodup.length_le_of_subset h.nd h1
  simpa using this
end
/-- an order among the known, read -/
theorem Kg.atO {B kb : Nat} {vN vO vC : Value} {lN lC : List Nat} {tO : List Tr} {ss : List Value} {U : Nat → Prop} {w : World} (h : Kg B kb vN vO vC lN tO ss lC U w) {j : Nat} {t : Tr} (hj : tO[j]? = some t) :
    ∃ g cap a c, vO = .slice (some ⟨g, 0, none⟩) tO.length cap ∧ w.cell? ⟨g, j * 3, none⟩ = some (.int .i64 t.k) ∧ w.cell? ⟨g, j * 3 + 1, none⟩ = some (.int .i64 t.n) ∧ w.cell? ⟨g, j * 3 + 2, none⟩ = some (.slice a t.ks.length c) ∧ Os U w t (.agg #[.int .i64 t.k, .int .i64 t.n, .slice a t.ks.length c]) := by
  have hl : j < tO.length := by
    by_cases h1 : j < tO.length
    · exact h1
    · rw [List.getElem?_eq_none (by omega)] at hj; cases hj
  have hs : ss[j]? = some (ss[j]'(by rw [h.len]; exact hl)) := List.getElem?_eq_getElem _
  have hk := h.kid j t _ hj hs
  obtain ⟨a, c, e⟩ := hk.shape
  have es : ss[j]'(by rw [h.len]; exact hl) = .slice a t.ks.length c := by injection e with e; simpa using e
  rw [es] at hs hk
  rcases h.oO.2 with ⟨_, e0⟩ | ⟨g, cap, cur, e', hbg, hh, hnc, _, hsz, htk⟩
  · omega
  · have hc : ∀ i, i < 3 → w.cell? ⟨g, j * 3 + i, none⟩ = [Value.int .i64 t.k, .int .i64 t.n, .slice a t.ks.length c][i]? := fun i hi => by
      rw [← cso_at tO ss j i _ _ h.len hj hs hi, ← htk, List.getElem?_take, if_pos (by omega), Joins.cell_of_block hh]; simp
    exact ⟨g, cap, a, c, e', by have := hc 0 (by decide); rw [Nat.add_zero] at this; exact this, hc 1 (by decide), hc 2 (by decide), hk⟩
theorem st3_kt (w : World) (b : Nat) (k n : Int) (s : Value) : KT (fun x => x = b) w (st3 w b k n s) := KT.grown (st3_own w b k n s) (fun _ e => (Option.some.inj e).symm)
theorem Bo.kt {T : Nat → Prop} {w w' : World} {b : Nat} {k n : Int} {s : Value} (h : Bo w b k n s) (hk : KT T w w') (hT : ¬ T b) : Bo w' b k n s := ⟨(hk.block b h.lt hT).trans h.b⟩
theorem Bp.kt {T : Nat → Prop} {w w' : World} {b : Nat} {D p : Int} {f : Value} (h : Bp w b D f p) (hk : KT T w w') (hT : ¬ T b) : Bp w' b D f p := ⟨(hk.block b h.lt hT).trans h.b⟩
/-- a list of orders of one's own, read -/
theorem Gr.at {B : Nat} {w : World} {kv : Value} {ks : List Tr} {ss : List Value} (h : Gr B w kv ks ss) {j : Nat} {t : Tr} (hj : ks[j]? = some t) :
    ∃ g cap a c, kv = .slice (some ⟨g, 0, none⟩) ks.length cap ∧ w.cell? ⟨g, j * 3, none⟩ = some (.int .i64 t.k) ∧ w.cell? ⟨g, j * 3 + 1, none⟩ = some (.int .i64 t.n) ∧ w.cell? ⟨g, j * 3 + 2, none⟩ = some (.slice a t.ks.length c) ∧ Os (fun b => B ≤ b) w t (.agg #[.int .i64 t.k, .int .i64 t.n, .slice a t.ks.length c]) := by
  have hl : j < ks.length := by
    by_cases h1 : j < ks.length
    · exact h1
    · rw [List.getElem?_eq_none (by omega)] at hj; cases hj
  have hs : ss[j]? = some (ss[j]'(by rw [h.len]; exact hl)) := List.getElem?_eq_getElem _
  have hk := h.kid j t _ hj hs
  obtain ⟨a, c, e⟩ := hk.shape
  have es : ss[j]'(by rw [h.len]; exact hl) = .slice a t.ks.length c := by injection e with e; simpa using e
  rw [es] at hs hk
  rcases h.own.2 with ⟨_, e0⟩ | ⟨g, cap, cur, e', hbg, hh, hnc, _, hsz, htk⟩
  · omega
  · have hc : ∀ i, i < 3 → w.cell? ⟨g, j * 3 + i, none⟩ = [Value.int .i64 t.k, .int .i64 t.n, .slice a t.ks.length c][i]? := fun i hi => by
      rw [← cso_at ks ss j i _ _ h.len hj hs hi, ← htk, List.getElem?_take, if_pos (by omega), Joins.cell_of_block hh]; simp
    exact ⟨g, cap, a, c, e', by have := hc 0 (by decide); rw [Nat.add_zero] at this; exact this, hc 1 (by decide), hc 2 (by decide), Os.keep (fun b hb => hb.1) (fun _ _ _ => rfl) _ _ hk⟩
theorem Gr.shape {B : Nat} {w : World} {kv : Value} {ks : List Tr} {ss : List Value} (h : Gr B w kv ks ss) : ∃ a c, kv = .slice a ks.length c := by
  rcases h.own.2 with ⟨e, e0⟩ | ⟨g, cap, cur, e, _⟩
  · exact ⟨none, 0, by rw [e, e0]⟩
  · exact ⟨_, _, e⟩
theorem Gr.kt {B : Nat} {T : Nat → Prop} {w w' : World} {kv : Value} {ks : List Tr} {ss : List Value} (h : Gr B w kv ks ss) (k : KT T w w') (hT : ∀ b, T b → b < B) : Gr B w' kv ks ss :=
  ⟨own_keep h.own fun b e => k.block b (own_ty h.own e).2.1 (fun t => by have := hT b t; have := (own_ty h.own e).1; omega), h.len, h.sl, fun j t s h1 h2 => Os.keep (fun _ hb => hb) (fun b hb hl => k.block b hl (fun t => by have := hT b t; have := hb.1; omega)) _ _ (h.kid j t s h1 h2)⟩
theorem Gr.kt2 {B : Nat} {T : Nat → Prop} {w w' : World} {kv : Value} {ks : List Tr} {ss : List Value} (h : Gr B w kv ks ss) (k : KT T w w') (hk : ∀ b, kv.ownBlock = some b → ¬ T b) (hl : ∀ (j : Nat) t s, ks[j]? = some t → ss[j]? = some s → Os (fun _ => False) w t (.agg #[.int .i64 t.k, .int .i64 t.n, s])) : Gr B w' kv ks ss :=
  ⟨own_keep h.own fun b e => k.block b (own_ty h.own e).2.1 (hk b e), h.len, h.sl, fun j t s h1 h2 => Os.keep (fun _ (f : False) => f.elim) (fun _ (f : False) _ => f.elim) _ _ (hl j t s h1 h2)⟩
/-- the best so far, in its box -/
structure BI (b : Nat) (l : List Tr) (U : Nat → Prop) (w : World) : Prop where
  ex : ∃ a c, Bo w b (Pl.bst l).k (Pl.bst l).n (.slice a (Pl.bst l).ks.length c) ∧ Os U w (Pl.bst l) (.agg #[.int .i64 (Pl.bst l).k, .int .i64 (Pl.bst l).n, .slice a (Pl.bst l).ks.length c])
theorem BI.kt {T : Nat → Prop} {b : Nat} {l : List Tr} {U U' : Nat → Prop} {w w' : World} (h : BI b l U w) (k : KT T w w') (hb : ¬ T b) (hU : ∀ x, U x → ¬ T x) (hU' : ∀ x, U x → U' x) : BI b l U' w' := by
  obtain ⟨a, c, h1, h2⟩ := h.ex
  exact ⟨a, c, h1.kt k hb, Os.keep hU' (fun x hx hl => k.block x hl (hU x hx)) _ _ h2⟩
/-- another best -/
theorem BI.put {b : Nat} {l l0 : List Tr} {U : Nat → Prop} {w : World} (h : BI b l0 U w) {t : Tr} {a : Option Addr} {c : Nat} (ht : Pl.bst l = t) (ho : Os U w t (.agg #[.int .i64 t.k, .int .i64 t.n, .slice a t.ks.length c])) (hU : ¬ U b) : BI b l U (st3 w b t.k t.n (.slice a t.ks.length c)) := by
  obtain ⟨a0, c0, h1, _⟩ := h.ex
  refine ⟨a, c, ?_, ?_⟩
  · rw [ht]; exact st3_bo h1 _ _ _
  · rw [ht]; exact Os.keep (fun _ hx => hx) (fun x hx _ => st3_blk _ _ _ _ _ (show x ≠ b from fun e => hU (by rw [← e]; exact hx))) _ _ ho
/-- the state of cheapest: the policy at g, the result at g + 1, the best at g + 2 -/
structure S5 (D p : Int) (F : List Int) (fv : Value) (B kb n g : Nat) (H : List Nat) (T U : Nat → Prop) (W : World) (H' : List Nat) (T' U' : Nat → Prop) (l : List Tr) (w : World) : Prop where
  ks : KS D p F B kb H' T' U' w
  mv : Mv T U W T' U' w
  bp : Bp w g D fv p
  br : Bo w (g + 1) 0 0 (.slice none 0 0)
  bi : BI (g + 2) l U' w
  lc : ∀ b, T' b ∨ U' b → b < g ∨ g + 2 < b
  hh : ∀ m ∈ H', m ∈ H ∨ Pl.mu p m < Pl.mu p n
  sz : W.heap.size = g
section
variable {D p : Int} {F : List Int} {fv : Value} {B kb n g : Nat} {H H' : List Nat} {T U T' U' : Nat → Prop} {W w w' : World} {l l' : List Tr}
theorem S5.lt (h : S5 D p F fv B kb n g H T U W H' T' U' l w) : g + 2 < w.heap.size := by
  obtain ⟨a, c, h1, _⟩ := h.bi.ex
  exact h1.lt
theorem S5.kt {T2 : Nat → Prop} (h : S5 D p F fv B kb n g H T U W H' T' U' l w) (k : KT T2 w w') (h1 : ∀ b, T2 b → g + 2 < b ∧ ¬ T' b ∧ ¬ U' b) : S5 D p F fv B kb n g H T U W H' T' U' l w' := by
  have hs := h.sz
  refine ⟨h.ks.kt k fun b hb => (h1 b hb).2, ?_, h.bp.kt k fun t => ?_, h.br.kt k fun t => ?_, h.bi.kt k (fun t => ?_) (fun x hx t => (h1 x t).2.2 hx) (fun _ hx => hx), h.lc, h.hh, hs⟩
  · exact ⟨⟨k.os.trans h.mv.kt.os, k.tape.trans h.mv.kt.tape, k.output.trans h.mv.kt.output, Nat.le_trans h.mv.kt.size k.size, fun x hx hn => (k.block x (Nat.lt_of_lt_of_le hx h.mv.kt.size) (fun t => by have := (h1 x t).1; omega)).trans (h.mv.kt.block x hx hn)⟩, h.mv.tn, h.mv.uu, h.mv.un⟩
  · have := (h1 _ t).1; omega
  · have := (h1 _ t).1; omega
  · have := (h1 _ t).1; omega
theorem S5.bel (h : S5 D p F fv B kb n g H T U W H' T' U' l w) (k : Below w.heap.size w w') : S5 D p F fv B kb n g H T U W H' T' U' l w' := h.kt (T2 := fun _ => False) (KT.of_below k) (fun _ h => h.elim)
theorem S5.eqv (h : S5 D p F fv B kb n g H T U W H' T' U' l w) (e : Pl.bst l' = Pl.bst l) : S5 D p F fv B kb n g H T U W H' T' U' l' w :=
  ⟨h.ks, h.mv, h.bp, h.br, ⟨by rw [e]; exact h.bi.ex⟩, h.lc, h.hh, h.sz⟩
theorem S5.fl {V : Nat → Prop} (h : S5 D p F fv B kb n g H T U W H' T' U' l w) (hf : FlR V W fv F) (hV : ∀ b, V b → b < B) (hT : ∀ b, T b → B ≤ b) : FlR V w fv F := hf.kt h.mv.kt (fun b t v => by have := hV b v; have := hT b t; omega)
theorem S5.put (h : S5 D p F fv B kb n g H T U W H' T' U' l w) {t : Tr} {a : Option Addr} {c : Nat} (ht : Pl.bst l' = t) (ho : Os U' w t (.agg #[.int .i64 t.k, .int .i64 t.n, .slice a t.ks.length c])) :
    S5 D p F fv B kb n g H T U W H' T' U' l' (st3 w (g + 2) t.k t.n (.slice a t.ks.length c)) := by
  have k := st3_kt w (g + 2) t.k t.n (.slice a t.ks.length c)
  have hU : ¬ U' (g + 2) := fun u => by have := h.lc _ (.inr u); omega
  have hT : ¬ T' (g + 2) := fun u => by have := h.lc _ (.inl u); omega
  have hs := h.sz
  exact ⟨h.ks.loc k hT hU, h.mv.loc k (by omega), h.bp.kt k (by omega), h.br.kt k (by omega), h.bi.put ht ho hU, h.lc, h.hh, hs⟩
/-- a call of its own -/
theorem S5.call {H2 : List Nat} {T2 U2 : Nat → Prop} (h : S5 D p F fv B kb n g H T U W H' T' U' l w) (hk : KS D p F B kb H2 T2 U2 w') (hm : Mv T' U' w T2 U2 w') (hh : ∀ m ∈ H2, m ∈ H' ∨ Pl.mu p m < Pl.mu p n) : S5 D p F fv B kb n g H T U W H2 T2 U2 l w' := by
  have hs := h.lt
  have hT : ∀ b, b = g ∨ b = g + 1 ∨ b = g + 2 → ¬ T' b := fun b hb t => by have := h.lc b (.inl t); omega
  refine ⟨hk, h.mv.trans hm, h.bp.kt hm.kt (hT _ (.inl rfl)), h.br.kt hm.kt (hT _ (.inr (.inl rfl))), h.bi.kt hm.kt (hT _ (.inr (.inr rfl))) (fun x hx t => (h.ks.ult hx).2.2 t) hm.uu, fun b hb => ?_, fun m hmm => ?_, h.sz⟩
  · rcases hb with t | t
    · rcases hm.tn b t with q | q
      · exact h.lc b (.inl q)
      · omega
    · rcases hm.un b t with q | q
      · exact h.lc b (.inr q)
      · omega
  · rcases hh m hmm with q | q
    · exact h.hh m q
    · exact .inr q
/-- more blocks for the orders, all of them new -/
theorem S5.wid {U2 : Nat → Prop} {lo : Nat} (h : S5 D p F fv B kb n g H T U W H' T' U' l w) (hlo : g + 2 < lo) (hB : B ≤ lo) (hT : ∀ b, T' b → b < lo) (h1 : ∀ b, U' b → U2 b) (h2 : ∀ b, U2 b → U' b ∨ (lo ≤ b ∧ b < w.heap.size)) : S5 D p F fv B kb n g H T U W H' T' U2 l w := by
  have hs := h.sz
  refine ⟨h.ks.wid h1 fun b hb => ?_, h.mv.wid h1 fun b hb => ?_, h.bp, h.br, h.bi.kt (KT.refl (fun _ => False) _) (fun f => f) (fun _ _ f => f) h1, fun b hb => ?_, h.hh, hs⟩
  · rcases h2 b hb with q | q
    · exact h.ks.ult q
    · exact ⟨by omega, q.2, fun t => by have := hT b t; omega⟩
  · rcases h2 b hb with q | q
    · exact .inl q
    · exact .inr (by omega)
  · rcases hb with t | t
    · exact h.lc b (.inl t)
    · rcases h2 b t with q | q
      · exact h.lc b (.inr q)
      · omega
end
theorem S5.put2 {D p : Int} {F : List Int} {fv : Value} {B kb n g : Nat} {H H' : List Nat} {T U T' U' : Nat → Prop} {W w : World} {l l' : List Tr} (h : S5 D p F fv B kb n g H T U W H' T' U' l w) {t : Tr} {a : Option Addr} {c : Nat} (ht : Pl.bst l' = t) {k m : Int} {L : Nat} (h1 : t.k = k) (h2 : t.n = m) (h3 : t.ks.length = L) (ho : Os U' w t (.agg #[.int .i64 k, .int .i64 m, .slice a L c])) :
    S5 D p F fv B kb n g H T U W H' T' U' l' (st3 w (g + 2) k m (.slice a L c)) := by
  subst h1 h2 h3
  exact h.put ht ho
/-- a product of a leaf and an order that is known: the best now -/
theorem S5.both {D p : Int} {F : List Int} {fv : Value} {B kb n g gq lo2 : Nat} {H H' : List Nat} {T U T' U' : Nat → Prop} {W w w' : World} {l l' la : List Tr} {t cm : Tr} {ck cn : Int} {cs kv : Value} {ss2 : List Value} {ba : Option Addr} {bc : Nat}
    (h : S5 D p F fv B kb n g H T U W H' T' U' l w) (hG : Gr lo2 w kv la ss2) (hQ : Bo w gq ck cn cs) (ho : Os U' w cm (.agg #[.int .i64 ck, .int .i64 cn, cs])) (hu : ¬ U' gq) (hgq : g + 2 < gq) (hlo : g + 2 < lo2) (hl : Pl.bst l' = ⟨3, 0, [t, cm]⟩)
    (hb : Below w.heap.size w w') (hn : Os (fun b => (U' b ∧ b < w.heap.size) ∨ w.heap.size ≤ b) w' ⟨3, 0, [t, cm]⟩ (.agg #[.int .i64 3, .int .i64 0, .slice ba 2 bc])) :
    ∃ U4 : Nat → Prop, S5 D p F fv B kb n g H T U W H' T' U4 l' (st3 w' (g + 2) 3 0 (.slice ba 2 bc)) ∧ Gr lo2 (st3 w' (g + 2) 3 0 (.slice ba 2 bc)) kv la ss2 ∧ Bo (st3 w' (g + 2) 3 0 (.slice ba 2 bc)) gq ck cn cs ∧ Os U4 (st3 w' (g + 2) 3 0 (.slice ba 2 bc)) cm (.agg #[.int .i64 ck, .int .i64 cn, cs]) ∧ ¬ U4 gq := by
  have hgl := h.lt
  have S7 := h.bel hb
  have hsB := h.ks.size
  have S8 := S7.wid (U2 := fun b => U' b ∨ (w.heap.size ≤ b ∧ b < w'.heap.size)) (lo := w.heap.size) hgl (by omega) (fun b h2 => (h.ks.tlt h2).2) (fun b h2 => .inl h2) (fun b h2 => h2)
  have hnU : ¬ (U' (g + 2) ∨ (w.heap.size ≤ g + 2 ∧ g + 2 < w'.heap.size)) := fun h2 => by
    have := S8.lc (g + 2) (.inr h2); omega
  have ho7 : Os (fun b => U' b ∨ (w.heap.size ≤ b ∧ b < w'.heap.size)) w' ⟨3, 0, [t, cm]⟩ (.agg #[.int .i64 3, .int .i64 0, .slice ba 2 bc]) := Os.keep2 (fun b h2 hl2 => by
    rcases h2 with h2 | h2
    · exact .inl h2.1
    · exact .inr ⟨h2, hl2⟩) (fun _ _ _ => rfl) _ _ hn
  have hkt := st3_kt w' (g + 2) 3 0 (.slice ba 2 bc)
  have o7 : Os (fun b => U' b ∨ (w.heap.size ≤ b ∧ b < w'.heap.size)) w' cm (.agg #[.int .i64 ck, .int .i64 cn, cs]) := Os.keep (fun _ h2 => Or.inl h2) (fun _ _ _ => rfl) cm _ (ho.bel hb)
  have o8 : Os (fun b => U' b ∨ (w.heap.size ≤ b ∧ b < w'.heap.size)) (st3 w' (g + 2) 3 0 (.slice ba 2 bc)) cm (.agg #[.int .i64 ck, .int .i64 cn, cs]) := Os.keep (fun _ hx => hx) (fun x hx hl2 => hkt.block x hl2 (fun e => by rw [e] at hx; exact hnU hx)) cm _ o7
  have s8 : S5 D p F fv B kb n g H T U W H' T' (fun b => U' b ∨ (w.heap.size ≤ b ∧ b < w'.heap.size)) l' (st3 w' (g + 2) 3 0 (.slice ba 2 bc)) := S8.put2 hl rfl rfl rfl ho7
  refine ⟨_, s8, (hG.bel hb).kt hkt (fun b e => by omega), (hQ.bel hb).kt hkt (by omega), o8, fun h2 => ?_⟩
  rcases h2 with h2 | h2
  · exact hu h2
  · have := hQ.lt; omega
theorem dboth2_c {S : Nat → Prop} (x y : Tr) (v u : Value) (w : World) (ox : Os S w x v) (oy : Os S w y u) : Calls Tryd.prog 75 #[v, u] w.drew fun e w' => ∃ ba bc, e = .returned (.agg #[.int .i64 3, .int .i64 0, .slice ba 2 bc]) ∧ Os (fun b => (S b ∧ b < w.heap.size) ∨ w.heap.size ≤ b) w' ⟨3, 0, [x, y]⟩ (.agg #[.int .i64 3, .int .i64 0, .slice ba 2 bc]) ∧ Below w.heap.size w w' := by
  refine (dboth_c (S := S) x y v u w.drew (ox.bel (Below.refl _ _).drew) (oy.bel (Below.refl _ _).drew)).mono ?_
  rintro e w' ⟨z, rfl, ho, hb⟩
  obtain ⟨ba, bc, e⟩ := ho.shape
  have e2 : z = .agg #[.int .i64 3, .int .i64 0, .slice ba 2 bc] := by simpa using e
  subst e2
  exact ⟨ba, bc, rfl, ho, (Below.refl _ _).drew.trans hb⟩
/-- Bluestein's way over an order that is known: the best now -/
theorem S5.blue {D p : Int} {F : List Int} {fv : Value} {B kb n g : Nat} {H H' : List Nat} {T U T' U' : Nat → Prop} {W w : World} {l l' : List Tr} {cm : Tr} {ck cn : Int} {cs : Value} {N : Int}
    (h : S5 D p F fv B kb n g H T U W H' T' U' l w) (ho : Os U' w cm (.agg #[.int .i64 ck, .int .i64 cn, cs])) (h1 : cm.k = ck) (h2 : cm.n = cn) (hf : fit 4 N) (hl : Pl.bst l' = ⟨4, N, [cm]⟩) :
    ∃ U4 : Nat → Prop, S5 D p F fv B kb n g H T U W H' T' U4 l' ((st3 w (g + 2) 4 N (.slice (some ⟨w.heap.size, 0, none⟩) 1 1)).alloc (.cells #[.int .i64 ck, .int .i64 cn, cs] 24)) := by
  subst h1 h2
  obtain ⟨w', hw'⟩ : ∃ w', w' = (st3 w (g + 2) 4 N (.slice (some ⟨w.heap.size, 0, none⟩) 1 1)).alloc (.cells #[.int .i64 cm.k, .int .i64 cm.n, cs] 24) := ⟨_, rfl⟩
  rw [← hw']
  have hkt : KT (fun x => x = g + 2) w w' := by rw [hw']; exact (st3_kt w (g + 2) 4 N _).alloc _
  have hnew : w'.heap[w.heap.size]? = some (.cells #[.int .i64 cm.k, .int .i64 cm.n, cs] 24 (0, 0)) := by
    have := heap_alloc_new (st3 w (g + 2) 4 N (.slice (some ⟨w.heap.size, 0, none⟩) 1 1)) (.cells #[.int .i64 cm.k, .int .i64 cm.n, cs] 24)
    rw [st3_size] at this
    rw [hw']; exact this
  have hsz : w'.heap.size = w.heap.size + 1 := by rw [hw']; simp [st3_size]
  have hU : ¬ U' (g + 2) := fun u => by have := h.lc _ (.inr u); omega
  have hT : ¬ T' (g + 2) := fun u => by have := h.lc _ (.inl u); omega
  have hs := h.sz
  have hgl := h.lt
  have hsB := h.ks.size
  obtain ⟨xa, xc, hbo, -⟩ := h.bi.ex
  have hB2 : Bo w' (g + 2) 4 N (.slice (some ⟨w.heap.size, 0, none⟩) 1 1) := by rw [hw']; exact (st3_bo hbo 4 N _).bel ((Below.refl _ _).alloc (Nat.le_refl _) _)
  have o1 : Os (fun b => U' b ∨ b = w.heap.size) w' cm (.agg #[.int .i64 cm.k, .int .i64 cm.n, cs]) := Os.keep (fun _ hx => Or.inl hx) (fun x hx hl2 => hkt.block x hl2 (fun e => by rw [e] at hx; exact hU hx)) cm _ ho
  have o2 : Os (fun b => U' b ∨ b = w.heap.size) w' ⟨4, N, [cm]⟩ (.agg #[.int .i64 4, .int .i64 N, .slice (some ⟨w.heap.size, 0, none⟩) 1 1]) := Os.one hf (.inr rfl) o1 hnew
  refine ⟨fun b => U' b ∨ b = w.heap.size, (h.ks.loc hkt hT hU).wid (fun _ hx => .inl hx) (fun b hb => ?_), (h.mv.loc hkt (by omega)).wid (fun _ hx => .inl hx) (fun b hb => ?_), h.bp.kt hkt (by omega), h.br.kt hkt (by omega), ⟨some ⟨w.heap.size, 0, none⟩, 1, ?_, ?_⟩, fun b hb => ?_, h.hh, hs⟩
  · rcases hb with q | q
    · exact (h.ks.loc hkt hT hU).ult q
    · rw [q]
      exact ⟨by omega, by omega, fun t => by have := (h.ks.tlt t).2; omega⟩
  · rcases hb with q | q
    · exact .inl q
    · exact .inr (by omega)
  · rw [hl]; exact hB2
  · rw [hl]; exact o2
  · rcases hb with q | q | q
    · exact h.lc b (.inl q)
    · exact h.lc b (.inr q)
    · omega
/-- what the document's cheapest answers -/
def DcE (D p : Int) (F : List Int) (B kb n : Nat) (H : List Nat) (T U : Nat → Prop) (W : World) (e : Ending) (W' : World) : Prop :=
  ∃ v H' T' U', e = .returned (.tuple #[v, .int .i64 (tc D F p n : Int)]) ∧ KS D p F B kb H' T' U' W' ∧ Os U' W' (Pl.ch D F p n) v ∧ Mv T U W T' U' W' ∧ (∀ m ∈ H', m ∈ H ∨ Pl.mu p m ≤ Pl.mu p n)
def DCH (D p : Int) (F : List Int) (fv : Value) (B kb : Nat) (V : Nat → Prop) (n : Nat) : Prop :=
  ∀ (H : List Nat) (T U : Nat → Prop) (W : World), KS D p F B kb H T U W → FlR V W fv F →
    Calls Tryd.prog 48 #[.pointer (some ⟨kb, 0, none⟩), .int .i64 (n : Int), .agg #[.int .i64 D, fv, .int .i64 p]] W (DcE D p F B kb n H T U W)
end Go.Proofs.YtoaccmblaifnmaaDoor
/-
  One number more at the end of a list of the call's own.
-/
namespace Go.Proofs.YtoaccmblaifnmaaDoor
open Flo Go.RowKit
theorem ow8 {B : Nat} {e : TypeId} {k : Nat} {v : Value} {n : Nat} {xs : List Value} {w w' : World} (h : w.ownsRow B e k v n xs) (hb : Below w.heap.size w w') : w'.ownsRow B e k v n xs :=
  h.kept (row := none) ⟨hb.os, hb.tape, hb.output, hb.size, fun j hj _ => hb.block j hj⟩ (by cases hv : v.ownBlock <;> simp)
theorem infoI9 : (Tryd.prog.info? 3).map (fun i => (i.zero, i.size, i.bytes)) = some (some (.int .i64 0), 1, 8) := by kernel_rfl
/-- one number more -/
theorem appI {ops : Array Oper} {rest : List Oper} {o : Oper} {a : Act} {Q : Exit → Act → World → Prop} (w : World) (hgd : o.guard = none) (sl x : Operand)
    (ho : o.op = .call { callee := .builtin .append, args := #[sl, x], argTypes := #[43, 43] })
    (B : Nat) (zs : List Nat) (z : Nat) (q : Nat) (v : Value) (hs : a.eval sl = v) (hx : a.eval x = .slice (some ⟨q, 0, none⟩) 1 1) (hrow : w.ownsRow B 3 1 v zs.length (il zs))
    (hcell : w.cell? ⟨q, 0, none⟩ = some (.int .i64 (z : Int))) (hk : (zs.length + 1) * 8 ≤ 140737488355328) (hB : B ≤ w.heap.size)
    (h : ∀ v' w', w'.ownsRow B 3 1 v' (zs ++ [z]).length (il (zs ++ [z])) → w.grownBy w' v.ownBlock → wpList Tryd.prog ops Q rest (a.put o.dst v') w') : wpList Tryd.prog ops Q (o :: rest) a w := by
  obtain ⟨i0, hi0, hz0, hz1, hz2⟩ := info_parts infoI9
  refine wpList_append_own w hgd sl x 43 ho B 3 i0 (.int .i64 0) 1 8 Tryd.underlying43 hi0 hz0 hz1 hz2 rfl (by decide) v zs.length _ hs hrow ⟨q, 0, none⟩ 1 1 [.int .i64 (z : Int)] hx rfl ?_ ?_ ?_ ?_ hB ?_
  · intro j u hj
    match j, hj with
    | 0, hj => simp at hj; subst hj; simpa [Addr.add] using hcell
  · intro u hu; simp at hu; subst hu; rfl
  · unfold maxLen; omega
  · omega
  · intro v' w1 hown' hgrow _
    refine h v' w1 ?_ hgrow
    rw [il_snoc, List.length_append]
    exact hown'
end Go.Proofs.YtoaccmblaifnmaaDoor
