/-
  Package check: rows of cells: at, last, reach, meets, crossed.
-/
import Derived.Test.YtedfjedmapimnaaDoorKc0
import Derived.Test.YtedfjedmapimnaaDoorNum
import Derived.Test.YtedfjedmapimnaaDoorSp4
import Derived.Deep.Cut
import Derived.Deep.DeepCutAuto
import Derived.Deep.RegionHeld3
namespace Go.Proofs.YtedfjedmapimnaaDoor
open Flo Go.RowKit
def rva (f j c : Int) : Value := .agg #[.int .i64 f, .int .i64 j, .int .i64 c]
def rv (r : Kc.Rw) : Value := rva r.f r.j r.c
/-- a row at a block -/
structure Brw (w : World) (g : Nat) (f j c : Int) : Prop where
  c0 : w.cell? ⟨g, 0, none⟩ = some (.int .i64 f)
  c1 : w.cell? ⟨g, 1, none⟩ = some (.int .i64 j)
  c2 : w.cell? ⟨g, 2, none⟩ = some (.int .i64 c)
theorem Brw.new (w : World) (f j c : Int) : Brw (w.alloc (.cells #[.int .i64 f, .int .i64 j, .int .i64 c] 72)) w.heap.size f j c := ⟨by simp [go_sem], by simp [go_sem], by simp [go_sem]⟩
theorem Brw.below {w w' : World} {g : Nat} {f j c : Int} (h : Brw w g f j c) (hb : Below w.heap.size w w') : Brw w' g f j c := ⟨(hb.cell (p := ⟨g, 0, none⟩) (cell_lt h.c0)).trans h.c0, (hb.cell (p := ⟨g, 1, none⟩) (cell_lt h.c1)).trans h.c1, (hb.cell (p := ⟨g, 2, none⟩) (cell_lt h.c2)).trans h.c2⟩
structure Rok (r : Kc.Rw) : Prop where
  f : r.f ≤ 1099511627776
  j1 : 1 ≤ r.j
  j2 : r.j ≤ 262144
  c1 : 1 ≤ r.c
  c2 : r.c ≤ 262144
theorem at_le (r : Kc.Rw) (h : Rok r) (i : Nat) (hi : i ≤ 4398046511104) : i * r.j ≤ 1152921504606846976 ∧ r.at i ≤ 1152922604118474752 := by
  have h1 : i * r.j ≤ 4398046511104 * 262144 := Nat.mul_le_mul hi h.j2
  have := h.f
  unfold Kc.Rw.at
  exact ⟨by omega, by omega⟩
theorem kat_c (r : Kc.Rw) (h : Rok r) (i : Nat) (hi : i ≤ 4398046511104) (w : World) :
    Calls Tryd.prog 38 #[rv r, .int .i64 (i : Int)] w fun e w' => e = .returned (.int .i64 (r.at i : Nat)) ∧ Below w.heap.size w w' := by
  obtain ⟨h1, h2⟩ := at_le r h i hi
  have hA : Hid (r.at i = r.f + i * r.j) := (rfl : _ = _)
  have hB : Hid (∀ o, Below w.heap.size w (w.alloc o)) := fun o => (Below.refl _ _).alloc (Nat.le_refl _) o
  unfold rv rva
  generalize r.at i = A at h2 hA ⊢
  generalize r.f = f at hA ⊢
  generalize r.j = j at h1 hA ⊢
  generalize r.c = c
  obtain ⟨M, hM⟩ : ∃ M : Nat, Hid (i * j = M) := ⟨_, (rfl : _ = _)⟩
  rw [hM.out] at hA h1
  have e1 : wrap64 ((i : Int) * (j : Int)) = (M : Int) := by rw [← Int.natCast_mul, hM.out]; unfold wrap64; omega
  have e2 : wrap64 ((f : Int) + (M : Int)) = (A : Int) := by have := hA.out; unfold wrap64; omega
  clear h hi h1 h2 hA hM
  go_enter Tryd.func38, Tryd.ntmps38
  go_wp2
  rw [e2]
  go_ret
  exact ⟨rfl, hB.out _⟩
theorem klast_c (r : Kc.Rw) (h : Rok r) (w : World) :
    Calls Tryd.prog 42 #[rv r] w fun e w' => e = .returned (.int .i64 (r.last : Nat)) ∧ Below w.heap.size w w' := by
  have h1 := h.c1
  have h2 := h.c2
  have e1 : wrap64 ((r.c : Int) - 1) = ((r.c - 1 : Nat) : Int) := by unfold wrap64; omega
  have hc : Hid (∀ W, Calls Tryd.prog 38 #[rv r, .int .i64 ((r.c - 1 : Nat) : Int)] W fun e w' => e = .returned (.int .i64 (r.last : Nat)) ∧ Below W.heap.size W w') := fun W => kat_c r h (r.c - 1) (by omega) W
  clear h h1 h2
  generalize r.last = A at hc ⊢
  generalize r.c - 1 = M at e1 hc
  unfold rv rva at *
  generalize r.f = f at e1 hc ⊢
  generalize r.j = j at e1 hc ⊢
  generalize r.c = c at e1 hc ⊢
  go_enter Tryd.func42, Tryd.ntmps42
  go_wp2_with fail
  refine (hc.out _).mono ?_
  rintro e w1 ⟨rfl, B1⟩
  have hB : Hid (Below w.heap.size w w1) := ((Below.refl _ _).alloc (Nat.le_refl _) _).trans (B1.mono (by simp))
  clear B1 hc
  go_wp2
  go_ret
  exact ⟨rfl, hB.out⟩
theorem rea_lt (r : Kc.Rw) (x : Nat) (h : Rok r) (hx : x ≤ 1099511627776) : r.rea x ≤ 2199023255552 := by
  unfold Kc.Rw.rea
  have := Nat.div_le_self (x - r.f + r.j - 1) r.j
  have := h.j2
  omega
theorem kreach_c (r : Kc.Rw) (h : Rok r) (x : Nat) (hx : x ≤ 1099511627776) (w : World) :
    Calls Tryd.prog 53 #[rv r, .int .i64 (x : Int)] w fun e w' => e = .returned (.int .i64 (r.rea x : Nat)) ∧ Below w.heap.size w w' := by
  have hB : Hid (∀ o, Below w.heap.size w (w.alloc o)) := fun o => (Below.refl _ _).alloc (Nat.le_refl _) o
  have hr := rea_lt r x h hx
  obtain ⟨hf, hj1, hj2, -, -⟩ := h
  have hre : Hid (r.rea x = (x - r.f + r.j - 1) / r.j) := (rfl : _ = _)
  generalize r.rea x = A at hr hre ⊢
  unfold rv rva
  generalize r.f = f at hf hre ⊢
  generalize r.j = j at hj1 hj2 hre ⊢
  generalize r.c = c
  obtain ⟨D, hD⟩ : ∃ D : Int, Hid ((x : Int) - (f : Int) = D) := ⟨_, (rfl : _ = _)⟩
  obtain ⟨N, hN⟩ : ∃ N : Int, Hid ((x : Int) - (f : Int) + (j : Int) - 1 = N) := ⟨_, (rfl : _ = _)⟩
  obtain ⟨M, hM⟩ : ∃ M : Int, Hid (D + (j : Int) = M) := ⟨_, (rfl : _ = _)⟩
  have e1 : wrap64 ((x : Int) - (f : Int)) = D := by rw [← hD.out]; unfold wrap64; omega
  have e2 : wrap64 (D + (j : Int)) = M := by rw [← hM.out, ← hD.out]; unfold wrap64; omega
  have e3 : wrap64 (M - 1) = N := by rw [← hN.out, ← hM.out, ← hD.out]; unfold wrap64; omega
  obtain ⟨T, hT⟩ : ∃ T : Int, Hid (N.tdiv (j : Int) = T) := ⟨_, (rfl : _ = _)⟩
  have hmx : Hid ((A : Int) = max 0 T) := by
    have hN' := hN.out
    have hT' := hT.out
    have hre' := hre.out
    show (A : Int) = max 0 T
    rw [← hT', hre']
    rcases Int.lt_or_le N 0 with hn | hn
    · have h1 : x - f + j - 1 < j := by omega
      rw [Nat.div_eq_of_lt h1]
      have h2 : N.tdiv (j : Int) ≤ 0 := by
        obtain ⟨m, rfl⟩ : ∃ m : Nat, N = -(m : Int) := ⟨N.natAbs, by omega⟩
        rw [Int.neg_tdiv]
        have := Int.tdiv_nonneg (a := (m : Int)) (b := (j : Int)) (by omega) (by omega)
        omega
      simp only [Int.natCast_zero]
      omega
    · obtain ⟨m, rfl⟩ : ∃ m : Nat, N = (m : Int) := ⟨N.toNat, by omega⟩
      rw [← Int.ofNat_tdiv]
      by_cases hxf : f ≤ x
      · have : x - f + j - 1 = m := by omega
        rw [this]
        generalize m / j = Z
        omega
      · have h3 : x - f + j - 1 = j - 1 := by omega
        rw [h3, Nat.div_eq_of_lt (by omega), Nat.div_eq_of_lt (by omega)]; rfl
  have e4 : wrap64 (N.tdiv (j : Int)) = T := by
    have h1 := hmx.out
    have hT' := hT.out
    have hN' := hN.out
    have : -(1099511627776 : Int) ≤ T := by
      rw [← hT']
      rcases Int.lt_or_le N 0 with hn | hn
      · obtain ⟨m, rfl⟩ : ∃ m : Nat, N = -(m : Int) := ⟨N.natAbs, by omega⟩
        rw [Int.neg_tdiv, ← Int.ofNat_tdiv]
        have := Nat.div_le_self m j
        omega
      · have := Int.tdiv_nonneg (a := N) (b := (j : Int)) hn (by omega)
        omega
    rw [hT']; unfold wrap64; omega
  clear hr hf hj2 hx hD hN hM hT
  go_enter Tryd.func53, Tryd.ntmps53
  go_wp2
  · have hT : (A : Int) = T := by have := hmx.out; omega
    rw [hT]
    go_ret
    exact ⟨rfl, hB.out _⟩
  · have hT : (A : Int) = 0 := by have := hmx.out; omega
    rw [hT]
    go_ret
    exact ⟨rfl, hB.out _⟩
set_option maxHeartbeats 1000000 in
theorem kmeets_c (r v : Kc.Rw) (h : Rok r) (h2 : Rok v) (w : World) :
    Calls Tryd.prog 44 #[rv r, rv v] w fun e w' => e = .returned (.bool (Kc.meets r v)) ∧ Below w.heap.size w w' := by
  obtain ⟨g, hg⟩ : ∃ g, Hid (w.heap.size = g) := ⟨_, (rfl : _ = _)⟩
  obtain ⟨wa, ewa⟩ : ∃ wa, Hid ((w.alloc (.cells #[.int .i64 r.f, .int .i64 r.j, .int .i64 r.c] 72)).alloc (.cells #[.int .i64 v.f, .int .i64 v.j, .int .i64 v.c] 72) = wa) := ⟨_, (rfl : _ = _)⟩
  have Ba : Hid (Below w.heap.size w wa) := by rw [← ewa.out]; exact ((Below.refl _ _).alloc (Nat.le_refl _) _).alloc (by simp) _
  have X1 : Hid (Brw wa g r.f r.j r.c) := by rw [← ewa.out, ← hg.out]; exact (Brw.new w r.f r.j r.c).below ((Below.refl _ _).alloc (Nat.le_refl _) _)
  have X2 : Hid (Brw wa (g + 1) v.f v.j v.c) := by
    show Brw _ _ _ _ _
    rw [← ewa.out, ← hg.out]
    have := Brw.new (w.alloc (.cells #[.int .i64 r.f, .int .i64 r.j, .int .i64 r.c] 72)) v.f v.j v.c
    simpa using this
  have c1 : Hid (∀ W, Below wa.heap.size wa W → Calls Tryd.prog 53 #[rv r, .int .i64 (v.f : Int)] W fun e w' => e = .returned (.int .i64 (r.rea v.f : Nat)) ∧ Below wa.heap.size wa w') := fun W hW => (kreach_c r h v.f h2.f W).mono fun e w' ⟨e1, e2⟩ => ⟨e1, hW.trans (e2.mono hW.size)⟩
  have c2 : Hid (∀ W, Below wa.heap.size wa W → Calls Tryd.prog 38 #[rv r, .int .i64 (r.rea v.f : Nat)] W fun e w' => e = .returned (.int .i64 (r.at (r.rea v.f) : Nat)) ∧ Below wa.heap.size wa w') := fun W hW => (kat_c r h _ (by have := rea_lt r v.f h h2.f; omega) W).mono fun e w' ⟨e1, e2⟩ => ⟨e1, hW.trans (e2.mono hW.size)⟩
  have c3 : Hid (∀ W, Below wa.heap.size wa W → Calls Tryd.prog 42 #[rv v] W fun e w' => e = .returned (.int .i64 (v.last : Nat)) ∧ Below wa.heap.size wa w') := fun W hW => (klast_c v h2 W).mono fun e w' ⟨e1, e2⟩ => ⟨e1, hW.trans (e2.mono hW.size)⟩
  have hm : Hid (Kc.meets r v = (decide (r.rea v.f < r.c) && decide (r.at (r.rea v.f) ≤ v.last))) := (rfl : _ = _)
  obtain ⟨b, hb⟩ : ∃ b, Hid (Kc.meets r v = b) := ⟨_, (rfl : _ = _)⟩
  rw [hb.out] at hm ⊢
  clear h h2 hb
  generalize r.at (r.rea v.f) = A at *
  generalize r.rea v.f = R at *
  generalize v.last = L at *
  unfold rv rva at *
  go_enter Tryd.func44, Tryd.ntmps44
  go_upto_region 1 with fail
  rw [ewa.out, hg.out]
  obtain ⟨x0, x1, x2⟩ := X1.out
  obtain ⟨y0, y1, y2⟩ := X2.out
  go_wp2_with fail
  refine (c1.out wa (Below.refl _ _)).mono ?_
  rintro e w1 ⟨rfl, B1⟩
  have B1H : Hid (Below wa.heap.size wa w1) := B1
  have Z1 := X1.out.below B1
  have Z2 := X2.out.below B1
  clear x0 x1 x2 y0 y1 y2 B1 c1
  obtain ⟨x0, x1, x2⟩ := Z1
  obtain ⟨y0, y1, y2⟩ := Z2
  by_cases hlt : R < r.c
  · have hlt' : (R : Int) < (r.c : Int) := by omega
    have hq2 : decide (A ≤ L) = b := by rw [hm.out, decide_eq_true hlt, Bool.true_and]
    go_upto_region 2 with fail
    go_region_held3 (fun Z => Z.cell? ⟨g, 0, none⟩ = some (.int .i64 (r.f : Int)) ∧ Z.cell? ⟨g, 1, none⟩ = some (.int .i64 (r.j : Int)) ∧ Z.cell? ⟨g, 2, none⟩ = some (.int .i64 (r.c : Int)) ∧ Z.cell? ⟨g + 1, 0, none⟩ = some (.int .i64 (v.f : Int)) ∧ Z.cell? ⟨g + 1, 1, none⟩ = some (.int .i64 (v.j : Int)) ∧ Z.cell? ⟨g + 1, 2, none⟩ = some (.int .i64 (v.c : Int))) (go_keep) ((first
      | (go_at_call 38; refine (c2.out _ ?_).mono ?_; (first | assumption | exact B1H.out | exact B1H.out.drew | exact Below.drew (by assumption)); rintro e w5 ⟨rfl, B5⟩; obtain ⟨x0, x1, x2⟩ := X1.out.below B5; obtain ⟨y0, y1, y2⟩ := X2.out.below B5)
      | (go_at_call 42; refine (c3.out _ ?_).mono ?_; (first | assumption | exact B1H.out | exact B1H.out.drew | exact Below.drew (by assumption)); rintro e w5 ⟨rfl, B5⟩; obtain ⟨x0, x1, x2⟩ := X1.out.below B5; obtain ⟨y0, y1, y2⟩ := X2.out.below B5)))
    all_goals (
      go_wp2
      go_ret
      exact ⟨rfl, Ba.out.trans (Below.mono (by assumption) Ba.out.size)⟩)
  · have hlt' : decide ((R : Int) < (r.c : Int)) = false := decide_eq_false (by omega)
    have hbf : b = false := by rw [hm.out, decide_eq_false hlt, Bool.false_and]
    subst hbf
    have hB : Hid (Below w.heap.size w w1.drew) := (Ba.out.trans (Below.mono B1H.out Ba.out.size)).drew
    go_upto_region 2 with fail
    go_region
    all_goals (
      go_wp2
      go_ret
      exact ⟨rfl, hB.out⟩)
theorem crx_def (r v : Kc.Rw) : Kc.crx r v = (bif r.rea v.f == r.at (r.rea v.f) - v.f then !(r.rea v.f + 1 == r.at (r.rea v.f) - v.f + r.j) && (decide (r.rea v.f + 1 < r.c) && decide (r.at (r.rea v.f) - v.f + r.j < v.c))
    else decide (r.rea v.f < r.c) && decide (r.at (r.rea v.f) - v.f < v.c)) := rfl
/-- what crossed reckons behind the exchange, the rows at two blocks -/
structure Cx (r v : Kc.Rw) (R K : Nat) (b : Bool) (wb : World) : Prop where
  c1 : ∀ W, Below wb.heap.size wb W → Calls Tryd.prog 53 #[rv r, .int .i64 (v.f : Int)] W fun e w' => e = .returned (.int .i64 (R : Int)) ∧ Below wb.heap.size wb w'
  c2 : ∀ W, Below wb.heap.size wb W → Calls Tryd.prog 38 #[rv r, .int .i64 (R : Int)] W fun e w' => e = .returned (.int .i64 ((K + v.f : Nat) : Int)) ∧ Below wb.heap.size wb w'
  hb : b = (bif R == K then !(R + 1 == K + r.j) && (decide (R + 1 < r.c) && decide (K + r.j < v.c)) else decide (R < r.c) && decide (K < v.c))
  hR : R ≤ 2199023255552
  hK : K ≤ 1152922604118474752
theorem cx_mk (r v : Kc.Rw) (h : Rok r) (h2 : Rok v) (wb : World) : ∃ R K, Cx r v R K (Kc.crx r v) wb := by
  have h3 := rea_lt r v.f h h2.f
  have h4 := Kc.rea_ge r v.f h.j1
  refine ⟨r.rea v.f, r.at (r.rea v.f) - v.f, fun W hW => (kreach_c r h v.f h2.f W).mono fun e w' ⟨e1, e2⟩ => ⟨e1, hW.trans (e2.mono hW.size)⟩,
    fun W hW => (kat_c r h _ (by omega) W).mono fun e w' ⟨e1, e2⟩ => ⟨?_, hW.trans (e2.mono hW.size)⟩, crx_def r v, h3, ?_⟩
  · rw [e1, show r.at (r.rea v.f) - v.f + v.f = r.at (r.rea v.f) by omega]
  · have := (at_le r h (r.rea v.f) (by omega)).2
    omega
theorem frz_a (w : World) (c d : Array Value) {t u : TypeId} {g : Nat} (hg : w.heap.size = g) (i : Nat) : ((w.alloc (.cells c t)).alloc (.cells d u)).frozen? ⟨g, i, none⟩ = false := by
  subst hg
  rw [World.frozen?_alloc_past _ _ _ (by simp), World.frozen?_alloc_at _ _ _ _ rfl]
theorem frz_b (w : World) (c d : Array Value) {t u : TypeId} {g : Nat} (hg : w.heap.size = g) (i : Nat) : ((w.alloc (.cells c t)).alloc (.cells d u)).frozen? ⟨g + 1, i, none⟩ = false := by
  subst hg
  rw [World.frozen?_alloc_at _ _ _ _ (by simp)]
def sw6 (w : World) (g : Nat) (a b c d e f : Int) : World := (((((w.setCell ⟨g, 0, none⟩ (.int .i64 a)).setCell ⟨g, 1, none⟩ (.int .i64 b)).setCell ⟨g, 2, none⟩ (.int .i64 c)).setCell ⟨g + 1, 0, none⟩ (.int .i64 d)).setCell ⟨g + 1, 1, none⟩ (.int .i64 e)).setCell ⟨g + 1, 2, none⟩ (.int .i64 f)
theorem sw6_below {m : Nat} {w W : World} (h : Below m w W) {g : Nat} (hb : m ≤ g) {a b c d e f : Int} : Below m w (sw6 W g a b c d e f) :=
  (((((h.setCell (p := ⟨g, 0, none⟩) hb _).setCell (p := ⟨g, 1, none⟩) hb _).setCell (p := ⟨g, 2, none⟩) hb _).setCell (p := ⟨g + 1, 0, none⟩) (Nat.le_succ_of_le hb) _).setCell (p := ⟨g + 1, 1, none⟩) (Nat.le_succ_of_le hb) _).setCell (p := ⟨g + 1, 2, none⟩) (Nat.le_succ_of_le hb) _
theorem sw6_1 {w : World} {g : Nat} {a b c d e f : Int} {p q r : Int} (h : Brw w g p q r) : Brw (sw6 w g a b c d e f) g a b c := by
  obtain ⟨c0, c1, c2⟩ := h
  unfold sw6
  constructor <;> simp [World.cell?_setCell_other, World.cell?_setCell_same', c0, c1, c2]
theorem sw6_2 {w : World} {g : Nat} {a b c d e f : Int} {p q r : Int} (h : Brw w (g + 1) p q r) : Brw (sw6 w g a b c d e f) (g + 1) d e f := by
  obtain ⟨c0, c1, c2⟩ := h
  unfold sw6
  constructor <;> simp [World.cell?_setCell_other, World.cell?_setCell_same', c0, c1, c2]
set_option maxHeartbeats 2000000 in
theorem kcrossed_n (r v : Kc.Rw) (h : Rok r) (h2 : Rok v) (w : World) (hj : v.j = 1) :
    Calls Tryd.prog 45 #[rv r, rv v] w fun e w' => e = .returned (.bool (Kc.crx r v)) ∧ Below w.heap.size w w' := by
  obtain ⟨g, hg⟩ : ∃ g, Hid (w.heap.size = g) := ⟨_, (rfl : _ = _)⟩
  obtain ⟨wa, ewa⟩ : ∃ wa, Hid ((w.alloc (.cells #[.int .i64 r.f, .int .i64 r.j, .int .i64 r.c] 72)).alloc (.cells #[.int .i64 v.f, .int .i64 v.j, .int .i64 v.c] 72) = wa) := ⟨_, (rfl : _ = _)⟩
  have Ba0 : Hid (Below w.heap.size w wa) := by rw [← ewa.out]; exact ((Below.refl _ _).alloc (Nat.le_refl _) _).alloc (by simp) _
  have A1 : Hid (Brw wa g r.f r.j r.c) := by rw [← ewa.out, ← hg.out]; exact (Brw.new w r.f r.j r.c).below ((Below.refl _ _).alloc (Nat.le_refl _) _)
  have A2 : Hid (Brw wa (g + 1) v.f v.j v.c) := by
    show Brw _ _ _ _ _
    rw [← ewa.out, ← hg.out]
    have := Brw.new (w.alloc (.cells #[.int .i64 r.f, .int .i64 r.j, .int .i64 r.c] 72)) v.f v.j v.c
    simpa using this
  obtain ⟨b, hb⟩ : ∃ b, Hid (Kc.crx r v = b) := ⟨_, (rfl : _ = _)⟩
  have hJ : Hid (r.j ≤ 262144) := h.j2
  have hcx : Hid (∀ wb, ∃ R K, Cx r v R K b wb) := fun wb => by rw [← hb.out]; exact cx_mk r v h h2 wb
  rw [hb.out]
  have q1 : ((v.j : Int) != 1) = false := by rw [hj]; rfl
  clear h h2 hb hj
  unfold rv rva at *
  go_enter Tryd.func45, Tryd.ntmps45
  go_upto_region 1 with fail
  rw [ewa.out, hg.out]
  obtain ⟨x0, x1, x2⟩ := A1.out
  obtain ⟨y0, y1, y2⟩ := A2.out
  obtain ⟨wb, ewb⟩ : ∃ wb, Hid (wa = wb) := ⟨_, (rfl : _ = _)⟩
  have Ba : Hid (Below w.heap.size w wb) := by rw [← ewb.out]; exact Ba0.out
  have X1 : Hid (Brw wb g r.f r.j r.c) := by rw [← ewb.out]; exact A1.out
  have X2 : Hid (Brw wb (g + 1) v.f v.j v.c) := by rw [← ewb.out]; exact A2.out
  obtain ⟨R, K, hX⟩ := hcx.out wb
  have HX : Hid (Cx r v R K b wb) := hX
  have c1 : Hid _ := hX.c1
  have c2 : Hid _ := hX.c2
  clear hX hcx
  unfold rv rva at c1 c2
  rw [ewb.out] at x0 x1 x2 y0 y1 y2 ⊢
  go_wp2_with fail
  refine (c1.out wb (Below.refl _ _)).mono ?_
  rintro e w1 ⟨rfl, B1⟩
  have B1H : Hid (Below wb.heap.size wb w1) := B1
  clear x0 x1 x2 y0 y1 y2
  obtain ⟨x0, x1, x2⟩ := X1.out.below B1
  obtain ⟨y0, y1, y2⟩ := X2.out.below B1
  clear B1 c1
  go_upto_region 4 with fail
  have e1 : IntKind.i64.wrap (K : Int) = (K : Int) := by have := HX.out.hK; rw [IntKind.wrap_i64]; omega
  go_region_held3 (fun Z => Z.cell? ⟨g, 0, none⟩ = some (.int .i64 (r.f : Int)) ∧ Z.cell? ⟨g, 1, none⟩ = some (.int .i64 (r.j : Int)) ∧ Z.cell? ⟨g, 2, none⟩ = some (.int .i64 (r.c : Int)) ∧ Z.cell? ⟨g + 1, 0, none⟩ = some (.int .i64 (v.f : Int)) ∧ Z.cell? ⟨g + 1, 1, none⟩ = some (.int .i64 (v.j : Int)) ∧ Z.cell? ⟨g + 1, 2, none⟩ = some (.int .i64 (v.c : Int))) (go_keep) ((first
    | (go_at_call 38; refine (c2.out _ ?_).mono ?_; (first | assumption | exact B1H.out | exact B1H.out.drew | exact Below.drew (by assumption)); rintro e w5 ⟨rfl, B5⟩; obtain ⟨x0, x1, x2⟩ := X1.out.below B5; obtain ⟨y0, y1, y2⟩ := X2.out.below B5)))
  clear c2 e1
  have hB5 : Hid (Below w.heap.size w w5) := Ba.out.trans (Below.mono B5 Ba.out.size)
  clear x0 x1 x2 y0 y1 y2
  obtain ⟨x0, x1, x2⟩ := X1.out.below B5
  obtain ⟨y0, y1, y2⟩ := X2.out.below B5
  have z1 := HX.out.hR
  have z2 := HX.out.hK
  clear B5 B1H
  by_cases hRK : R = K
  · obtain ⟨i1, hi1⟩ : ∃ n, Hid (R + 1 = n) := ⟨_, (rfl : _ = _)⟩
    obtain ⟨k1, hk1⟩ : ∃ n, Hid (K + r.j = n) := ⟨_, (rfl : _ = _)⟩
    have hb1 : Hid (b = (!(i1 == k1) && (decide (i1 < r.c) && decide (k1 < v.c)))) := by
      show _ = _
      rw [HX.out.hb, beq_iff_eq.2 hRK, cond_true, hi1.out, hk1.out]
    have e1 : wrap64 ((R : Int) + 1) = (i1 : Int) := by have := hi1.out; unfold wrap64; omega
    have e2 : wrap64 ((K : Int) + (r.j : Int)) = (k1 : Int) := by have := hk1.out; have := hJ.out; unfold wrap64; omega
    have f0 : ((R : Int) == (K : Int)) = true := by rw [hRK]; simp
    clear z1 z2 hRK hi1 hk1 HX
    by_cases n1 : i1 = k1
    · have f1 : ((i1 : Int) != (k1 : Int)) = false := by rw [n1]; simp
      have hbv : b = false := by rw [hb1.out]; simp [n1]
      subst hbv
      clear n1
      go_wp2
      go_ret
      exact ⟨rfl, hB5.out⟩
    · have f1 : ((i1 : Int) != (k1 : Int)) = true := by rw [bne_iff_ne]; omega
      by_cases n2 : i1 < r.c
      · have f2 : (i1 : Int) < (r.c : Int) := by omega
        by_cases n3 : k1 < v.c
        · have f3 : (k1 : Int) < (v.c : Int) := by omega
          have hbv : b = true := by rw [hb1.out]; simp [n1, n2, n3]
          subst hbv
          clear n1 n2 n3
          go_wp2
          go_ret
          exact ⟨rfl, hB5.out⟩
        · have f3 : decide ((k1 : Int) < (v.c : Int)) = false := decide_eq_false (by omega)
          have hbv : b = false := by rw [hb1.out]; simp [n3]
          subst hbv
          clear n1 n2
          go_wp2
          go_ret
          exact ⟨rfl, hB5.out⟩
      · have f2 : decide ((i1 : Int) < (r.c : Int)) = false := decide_eq_false (by omega)
        have hbv : b = false := by rw [hb1.out]; simp [n2]
        subst hbv
        clear n1
        go_wp2
        go_ret
        exact ⟨rfl, hB5.out⟩
  · have hb1 : Hid (b = (!(R == K) && (decide (R < r.c) && decide (K < v.c)))) := by
      show _ = _
      rw [HX.out.hb, beq_eq_false_iff_ne.2 hRK, cond_false]; rfl
    have f0 : ((R : Int) == (K : Int)) = false := by rw [beq_eq_false_iff_ne]; omega
    clear z1 z2 hRK HX
    by_cases n1 : R = K
    · have f1 : ((R : Int) != (K : Int)) = false := by rw [n1]; simp
      have hbv : b = false := by rw [hb1.out]; simp [n1]
      subst hbv
      clear n1
      go_wp2
      go_ret
      exact ⟨rfl, hB5.out⟩
    · have f1 : ((R : Int) != (K : Int)) = true := by rw [bne_iff_ne]; omega
      by_cases n2 : R < r.c
      · have f2 : (R : Int) < (r.c : Int) := by omega
        by_cases n3 : K < v.c
        · have f3 : (K : Int) < (v.c : Int) := by omega
          have hbv : b = true := by rw [hb1.out]; simp [n1, n2, n3]
          subst hbv
          clear n1 n2 n3
          go_wp2
          go_ret
          exact ⟨rfl, hB5.out⟩
        · have f3 : decide ((K : Int) < (v.c : Int)) = false := decide_eq_false (by omega)
          have hbv : b = false := by rw [hb1.out]; simp [n3]
          subst hbv
          clear n1 n2
          go_wp2
          go_ret
          exact ⟨rfl, hB5.out⟩
      · have f2 : decide ((R : Int) < (r.c : Int)) = false := decide_eq_false (by omega)
        have hbv : b = false := by rw [hb1.out]; simp [n2]
        subst hbv
        clear n1
        go_wp2
        go_ret
        exact ⟨rfl, hB5.out⟩
set_option maxHeartbeats 2000000 in
theorem kcrossed_s (r v : Kc.Rw) (h : Rok r) (h2 : Rok v) (w : World) (hj : r.j ≠ 1) :
    Calls Tryd.prog 45 #[rv v, rv r] w fun e w' => e = .returned (.bool (Kc.crx r v)) ∧ Below w.heap.size w w' := by
  obtain ⟨g, hg⟩ : ∃ g, Hid (w.heap.size = g) := ⟨_, (rfl : _ = _)⟩
  obtain ⟨wa, ewa⟩ : ∃ wa, Hid ((w.alloc (.cells #[.int .i64 v.f, .int .i64 v.j, .int .i64 v.c] 72)).alloc (.cells #[.int .i64 r.f, .int .i64 r.j, .int .i64 r.c] 72) = wa) := ⟨_, (rfl : _ = _)⟩
  have Ba0 : Hid (Below w.heap.size w wa) := by rw [← ewa.out]; exact ((Below.refl _ _).alloc (Nat.le_refl _) _).alloc (by simp) _
  have A1 : Hid (Brw wa g v.f v.j v.c) := by rw [← ewa.out, ← hg.out]; exact (Brw.new w v.f v.j v.c).below ((Below.refl _ _).alloc (Nat.le_refl _) _)
  have A2 : Hid (Brw wa (g + 1) r.f r.j r.c) := by
    show Brw _ _ _ _ _
    rw [← ewa.out, ← hg.out]
    have := Brw.new (w.alloc (.cells #[.int .i64 v.f, .int .i64 v.j, .int .i64 v.c] 72)) r.f r.j r.c
    simpa using this
  obtain ⟨b, hb⟩ : ∃ b, Hid (Kc.crx r v = b) := ⟨_, (rfl : _ = _)⟩
  have hJ : Hid (r.j ≤ 262144) := h.j2
  have hcx : Hid (∀ wb, ∃ R K, Cx r v R K b wb) := fun wb => by rw [← hb.out]; exact cx_mk r v h h2 wb
  rw [hb.out]
  have q1 : ((r.j : Int) != 1) = true := by rw [bne_iff_ne]; omega
  clear h h2 hb hj
  unfold rv rva at *
  go_enter Tryd.func45, Tryd.ntmps45
  go_upto_region 1 with fail
  rw [ewa.out, hg.out]
  obtain ⟨x0, x1, x2⟩ := A1.out
  obtain ⟨y0, y1, y2⟩ := A2.out
  have F1 : ∀ i, wa.frozen? ⟨g, i, none⟩ = false := fun i => by rw [← ewa.out]; exact frz_a _ _ _ hg.out i
  have F2 : ∀ i, wa.frozen? ⟨g + 1, i, none⟩ = false := fun i => by rw [← ewa.out]; exact frz_b _ _ _ hg.out i
  have f0 := F1 0
  have f1 := F1 1
  have f2 := F1 2
  have f3 := F2 0
  have f4 := F2 1
  have f5 := F2 2
  clear F1 F2
  go_upto_region 3 with fail
  obtain ⟨wb, ewb⟩ : ∃ wb, Hid (sw6 wa g r.f r.j r.c v.f v.j v.c = wb) := ⟨_, (rfl : _ = _)⟩
  rw [show ((((((wa.setCell ⟨g, 0, none⟩ (.int .i64 r.f)).setCell ⟨g, 1, none⟩ (.int .i64 r.j)).setCell ⟨g, 2, none⟩ (.int .i64 r.c)).setCell ⟨g + 1, 0, none⟩ (.int .i64 v.f)).setCell ⟨g + 1, 1, none⟩ (.int .i64 v.j)).setCell ⟨g + 1, 2, none⟩ (.int .i64 v.c)) = wb from ewb.out]
  have Ba : Hid (Below w.heap.size w wb) := by rw [← ewb.out]; exact sw6_below Ba0.out (Nat.le_of_eq hg.out)
  have X1 : Hid (Brw wb g r.f r.j r.c) := by rw [← ewb.out]; exact sw6_1 A1.out
  have X2 : Hid (Brw wb (g + 1) v.f v.j v.c) := by rw [← ewb.out]; exact sw6_2 A2.out
  obtain ⟨R, K, hX⟩ := hcx.out wb
  have HX : Hid (Cx r v R K b wb) := hX
  have c1 : Hid _ := hX.c1
  have c2 : Hid _ := hX.c2
  clear hX hcx f0 f1 f2 f3 f4 f5 x0 x1 x2 y0 y1 y2 ewb ewa Ba0 A1 A2 q1
  obtain ⟨x0, x1, x2⟩ := X1.out
  obtain ⟨y0, y1, y2⟩ := X2.out
  unfold rv rva at c1 c2
  go_wp2_with fail
  refine (c1.out wb (Below.refl _ _)).mono ?_
  rintro e w1 ⟨rfl, B1⟩
  have B1H : Hid (Below wb.heap.size wb w1) := B1
  clear x0 x1 x2 y0 y1 y2
  obtain ⟨x0, x1, x2⟩ := X1.out.below B1
  obtain ⟨y0, y1, y2⟩ := X2.out.below B1
  clear B1 c1
  go_upto_region 4 with fail
  have e1 : IntKind.i64.wrap (K : Int) = (K : Int) := by have := HX.out.hK; rw [IntKind.wrap_i64]; omega
  go_region_held3 (fun Z => Z.cell? ⟨g, 0, none⟩ = some (.int .i64 (r.f : Int)) ∧ Z.cell? ⟨g, 1, none⟩ = some (.int .i64 (r.j : Int)) ∧ Z.cell? ⟨g, 2, none⟩ = some (.int .i64 (r.c : Int)) ∧ Z.cell? ⟨g + 1, 0, none⟩ = some (.int .i64 (v.f : Int)) ∧ Z.cell? ⟨g + 1, 1, none⟩ = some (.int .i64 (v.j : Int)) ∧ Z.cell? ⟨g + 1, 2, none⟩ = some (.int .i64 (v.c : Int))) (go_keep) ((first
    | (go_at_call 38; refine (c2.out _ ?_).mono ?_; (first | assumption | exact B1H.out | exact B1H.out.drew | exact Below.drew (by assumption)); rintro e w5 ⟨rfl, B5⟩; obtain ⟨x0, x1, x2⟩ := X1.out.below B5; obtain ⟨y0, y1, y2⟩ := X2.out.below B5)))
  clear c2 e1
  have hB5 : Hid (Below w.heap.size w w5) := Ba.out.trans (Below.mono B5 Ba.out.size)
  clear x0 x1 x2 y0 y1 y2
  obtain ⟨x0, x1, x2⟩ := X1.out.below B5
  obtain ⟨y0, y1, y2⟩ := X2.out.below B5
  have z1 := HX.out.hR
  have z2 := HX.out.hK
  clear B5 B1H
  by_cases hRK : R = K
  · obtain ⟨i1, hi1⟩ : ∃ n, Hid (R + 1 = n) := ⟨_, (rfl : _ = _)⟩
    obtain ⟨k1, hk1⟩ : ∃ n, Hid (K + r.j = n) := ⟨_, (rfl : _ = _)⟩
    have hb1 : Hid (b = (!(i1 == k1) && (decide (i1 < r.c) && decide (k1 < v.c)))) := by
      show _ = _
      rw [HX.out.hb, beq_iff_eq.2 hRK, cond_true, hi1.out, hk1.out]
    have e1 : wrap64 ((R : Int) + 1) = (i1 : Int) := by have := hi1.out; unfold wrap64; omega
    have e2 : wrap64 ((K : Int) + (r.j : Int)) = (k1 : Int) := by have := hk1.out; have := hJ.out; unfold wrap64; omega
    have f0 : ((R : Int) == (K : Int)) = true := by rw [hRK]; simp
    clear z1 z2 hRK hi1 hk1 HX
    by_cases n1 : i1 = k1
    · have f1 : ((i1 : Int) != (k1 : Int)) = false := by rw [n1]; simp
      have hbv : b = false := by rw [hb1.out]; simp [n1]
      subst hbv
      clear n1
      go_wp2
      go_ret
      exact ⟨rfl, hB5.out⟩
    · have f1 : ((i1 : Int) != (k1 : Int)) = true := by rw [bne_iff_ne]; omega
      by_cases n2 : i1 < r.c
      · have f2 : (i1 : Int) < (r.c : Int) := by omega
        by_cases n3 : k1 < v.c
        · have f3 : (k1 : Int) < (v.c : Int) := by omega
          have hbv : b = true := by rw [hb1.out]; simp [n1, n2, n3]
          subst hbv
          clear n1 n2 n3
          go_wp2
          go_ret
          exact ⟨rfl, hB5.out⟩
        · have f3 : decide ((k1 : Int) < (v.c : Int)) = false := decide_eq_false (by omega)
          have hbv : b = false := by rw [hb1.out]; simp [n3]
          subst hbv
          clear n1 n2
          go_wp2
          go_ret
          exact ⟨rfl, hB5.out⟩
      · have f2 : decide ((i1 : Int) < (r.c : Int)) = false := decide_eq_false (by omega)
        have hbv : b = false := by rw [hb1.out]; simp [n2]
        subst hbv
        clear n1
        go_wp2
        go_ret
        exact ⟨rfl, hB5.out⟩
  · have hb1 : Hid (b = (!(R == K) && (decide (R < r.c) && decide (K < v.c)))) := by
      show _ = _
      rw [HX.out.hb, beq_eq_false_iff_ne.2 hRK, cond_false]; rfl
    have f0 : ((R : Int) == (K : Int)) = false := by rw [beq_eq_false_iff_ne]; omega
    clear z1 z2 hRK HX
    by_cases n1 : R = K
    · have f1 : ((R : Int) != (K : Int)) = false := by rw [n1]; simp
      have hbv : b = false := by rw [hb1.out]; simp [n1]
      subst hbv
      clear n1
      go_wp2
      go_ret
      exact ⟨rfl, hB5.out⟩
    · have f1 : ((R : Int) != (K : Int)) = true := by rw [bne_iff_ne]; omega
      by_cases n2 : R < r.c
      · have f2 : (R : Int) < (r.c : Int) := by omega
        by_cases n3 : K < v.c
        · have f3 : (K : Int) < (v.c : Int) := by omega
          have hbv : b = true := by rw [hb1.out]; simp [n1, n2, n3]
          subst hbv
          clear n1 n2 n3
          go_wp2
          go_ret
          exact ⟨rfl, hB5.out⟩
        · have f3 : decide ((K : Int) < (v.c : Int)) = false := decide_eq_false (by omega)
          have hbv : b = false := by rw [hb1.out]; simp [n3]
          subst hbv
          clear n1 n2
          go_wp2
          go_ret
          exact ⟨rfl, hB5.out⟩
      · have f2 : decide ((R : Int) < (r.c : Int)) = false := decide_eq_false (by omega)
        have hbv : b = false := by rw [hb1.out]; simp [n2]
        subst hbv
        clear n1
        go_wp2
        go_ret
        exact ⟨rfl, hB5.out⟩
theorem kcrossed_c (r v : Kc.Rw) (h : Rok r) (h2 : Rok v) (w : World) :
    Calls Tryd.prog 45 #[rv r, rv v] w fun e w' => e = .returned (.bool (Kc.crossed r v)) ∧ Below w.heap.size w w' := by
  unfold Kc.crossed
  by_cases q : v.j = 1
  · rw [beq_iff_eq.2 q]; exact kcrossed_n r v h h2 w q
  · rw [beq_eq_false_iff_ne.2 q]; exact kcrossed_s v r h2 h w q
end Go.Proofs.YtedfjedmapimnaaDoor
