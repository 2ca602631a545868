/-
  Layer 10, plain: a pair twisted, the sum k of elements, each operation said; all of it hangs on the operands up to which NaN they are alone. Sums and differences of complex numbers in the walk.
-/
import Derived.Test.YtgfmimmiaalhcaaDoorCpx
import Derived.Test.YtgfmimmiaalhcaaDoorRts
import Derived.Laws.ComplexArith
namespace Go.Proofs.YtgfmimmiaalhcaaDoor
open Flo Go.RowKit Ieee

/-- alike -/
def Lk (z u : Nat × Nat) : Prop := bt z.1 = bt u.1 ∧ bt z.2 = bt u.2
theorem Lk.refl (z : Nat × Nat) : Lk z z := ⟨rfl, rfl⟩
theorem Lk.symm {z u : Nat × Nat} (h : Lk z u) : Lk u z := ⟨h.1.symm, h.2.symm⟩
theorem Lk.trans {z u v : Nat × Nat} (h : Lk z u) (k : Lk u v) : Lk z v := ⟨h.1.trans k.1, h.2.trans k.2⟩
theorem Lk.of_eq {z u : Nat × Nat} (h : z = u) : Lk z u := h ▸ Lk.refl _
theorem mulRe_of {a b u v : Nat} (c d : Nat) (h1 : bt a = bt u) (h2 : bt b = bt v) : mulRe a b c d = mulRe u v c d := by
  unfold mulRe; rw [co_of (op := .mul) h1 (rfl : bt c = bt c), co_of (op := .mul) h2 (rfl : bt d = bt d)]
theorem mulIm_of {a b u v : Nat} (c d : Nat) (h1 : bt a = bt u) (h2 : bt b = bt v) : mulIm a b c d = mulIm u v c d := by
  unfold mulIm; rw [co_of (op := .mul) h1 (rfl : bt d = bt d), co_of (op := .mul) h2 (rfl : bt c = bt c)]
theorem bt_mulRe (a b c d : Nat) : bt (mulRe a b c d) = mulRe a b c d := bt_co ..
theorem bt_mulIm (a b c d : Nat) : bt (mulIm a b c d) = mulIm a b c d := bt_co ..
/-- a pair times another -/
def mlc (z u : Nat × Nat) : Nat × Nat := (mulRe z.1 z.2 u.1 u.2, mulIm z.1 z.2 u.1 u.2)
/-- a pair twisted by the root m of n -/
def tws (n m : Nat) (z : Nat × Nat) : Nat × Nat := if m = 0 then z else mlc z (Rp.pc n m, Rp.pim n m)
theorem Lk.mlc {z u : Nat × Nat} (h : Lk z u) (r : Nat × Nat) : mlc z r = mlc u r := by
  unfold Go.Proofs.YtgfmimmiaalhcaaDoor.mlc; rw [mulRe_of _ _ h.1 h.2, mulIm_of _ _ h.1 h.2]
theorem Lk.tws {n m : Nat} {z u : Nat × Nat} (h : Lk z u) : Lk (tws n m z) (tws n m u) := by
  unfold Go.Proofs.YtgfmimmiaalhcaaDoor.tws
  split
  · exact h
  · rw [h.mlc]; exact Lk.refl _
def adc (z u : Nat × Nat) : Nat × Nat := (co .add z.1 u.1, co .add z.2 u.2)
def sbc (z u : Nat × Nat) : Nat × Nat := (co .sub z.1 u.1, co .sub z.2 u.2)
theorem adc_of {z u z' u' : Nat × Nat} (h : Lk z z') (k : Lk u u') : adc z u = adc z' u' := by
  unfold adc; rw [co_of h.1 k.1, co_of h.2 k.2]
theorem sbc_of {z u z' u' : Nat × Nat} (h : Lk z z') (k : Lk u u') : sbc z u = sbc z' u' := by
  unfold sbc; rw [co_of h.1 k.1, co_of h.2 k.2]
/-- the sum k of n elements, as far as element j -/
def dst (n k : Nat) (f : Nat → Nat × Nat) : Nat → Nat × Nat
  | 0 => f 0
  | j + 1 => adc (dst n k f j) (tws n ((j + 1) * k % n) (f (j + 1)))
def dsm (n k : Nat) (f : Nat → Nat × Nat) : Nat × Nat := dst n k f (n - 1)
theorem dst_lk {n k : Nat} {f g : Nat → Nat × Nat} : ∀ {j : Nat}, (∀ i, i ≤ j → Lk (f i) (g i)) → Lk (dst n k f j) (dst n k g j)
  | 0, h => h 0 (Nat.le_refl _)
  | j + 1, h => Lk.of_eq (adc_of (dst_lk fun i hi => h i (by omega)) (Lk.tws (h (j + 1) (Nat.le_refl _))))
theorem dsm_lk {n k : Nat} {f g : Nat → Nat × Nat} (hn : 0 < n) (h : ∀ i, i < n → Lk (f i) (g i)) : Lk (dsm n k f) (dsm n k g) := dst_lk fun i hi => h i (by omega)
theorem turn_step (n k j : Nat) : (j * k % n + k) % n = (j + 1) * k % n := by
  rw [Nat.mod_add_mod, Nat.succ_mul]
/-- the list of the sums -/
def fwd (zs : List (Nat × Nat)) : List (Nat × Nat) := (List.range zs.length).map fun k => dsm zs.length k fun j => zs.getD j (0, 0)
theorem fwd_len (zs : List (Nat × Nat)) : (fwd zs).length = zs.length := by simp [fwd]
/-- lists alike -/
def Lks (zs us : List (Nat × Nat)) : Prop := zs.length = us.length ∧ ∀ i, i < zs.length → Lk (zs.getD i (0, 0)) (us.getD i (0, 0))
theorem Lks.refl (zs : List (Nat × Nat)) : Lks zs zs := ⟨rfl, fun _ _ => Lk.refl _⟩
theorem Lks.symm {zs us : List (Nat × Nat)} (h : Lks zs us) : Lks us zs := ⟨h.1.symm, fun i hi => (h.2 i (by rw [h.1]; exact hi)).symm⟩
theorem Lks.trans {zs us vs : List (Nat × Nat)} (h : Lks zs us) (k : Lks us vs) : Lks zs vs := ⟨h.1.trans k.1, fun i hi => (h.2 i hi).trans (k.2 i (by rw [← h.1]; exact hi))⟩
theorem getD_map_range {α : Type} (n i : Nat) (f : Nat → α) (d : α) (h : i < n) : ((List.range n).map f).getD i d = f i := by
  simp [List.getD, h]
theorem fwd_at {zs : List (Nat × Nat)} {k : Nat} (h : k < zs.length) : (fwd zs).getD k (0, 0) = dsm zs.length k fun j => zs.getD j (0, 0) := getD_map_range _ _ _ _ h
theorem Lks.fwd {zs us : List (Nat × Nat)} (h : Lks zs us) : Lks (fwd zs) (fwd us) := by
  refine ⟨by rw [fwd_len, fwd_len, h.1], fun i hi => ?_⟩
  rw [fwd_len] at hi
  rw [fwd_at hi, fwd_at (by rw [← h.1]; exact hi), ← h.1]
  exact dsm_lk (by omega) h.2
theorem bt_ng_of {x u : Nat} (hx : x < 18446744073709551616) (hu : u < 18446744073709551616) (h : bt x = bt u) : bt (Ari.ng x) = bt (Ari.ng u) := by
  have hn : nanB x = nanB u := by rw [← nan_bt x, h, nan_bt]
  rw [bt_ng hx, bt_ng hu, hn]
  cases h2 : nanB u
  · rw [h2] at hn
    rw [bt_fin hn, bt_fin h2] at h
    rw [h]
  · rw [if_pos rfl, if_pos rfl]
/-- conjugate -/
def cjp (z : Nat × Nat) : Nat × Nat := (z.1, Ari.ng z.2)
/-- part by part over n -/
def ovp (n : Nat) (z : Nat × Nat) : Nat × Nat := (co .quo z.1 (intF n), co .quo z.2 (intF n))
theorem Lk.cjp {z u : Nat × Nat} (h : Lk z u) (h1 : z.2 < 18446744073709551616) (h2 : u.2 < 18446744073709551616) : Lk (cjp z) (cjp u) := ⟨h.1, bt_ng_of h1 h2 h.2⟩
theorem Lk.ovp {z u : Nat × Nat} (n : Nat) (h : Lk z u) : ovp n z = ovp n u := by
  unfold Go.Proofs.YtgfmimmiaalhcaaDoor.ovp; rw [co_of_left h.1, co_of_left h.2]
theorem adc_lt (z u : Nat × Nat) : (adc z u).1 < 18446744073709551616 ∧ (adc z u).2 < 18446744073709551616 := ⟨co_lt .., co_lt ..⟩
theorem dst_lt {n k : Nat} {f : Nat → Nat × Nat} (h : (f 0).1 < 18446744073709551616 ∧ (f 0).2 < 18446744073709551616) : ∀ j, (dst n k f j).1 < 18446744073709551616 ∧ (dst n k f j).2 < 18446744073709551616
  | 0 => h
  | _ + 1 => adc_lt ..
/-- the inverse transform's element k -/
def ivk (n k : Nat) (f : Nat → Nat × Nat) : Nat × Nat := ovp n (cjp (dsm n k fun j => cjp (f j)))
/-- the list one element on -/
def sld (n : Nat) (g v : Nat × Nat) (f : Nat → Nat × Nat) (k : Nat) : Nat × Nat := tws n ((n - k) % n) (adc (sbc (f k) g) v)
/-- all parts are words -/
def Lim (zs : List (Nat × Nat)) : Prop := ∀ i, i < zs.length → (zs.getD i (0, 0)).1 < 18446744073709551616 ∧ (zs.getD i (0, 0)).2 < 18446744073709551616

section
variable {P : Program}
theorem run_carith' {op : BinOp} (h : arith op = true) (x y : Nat) (w : World) : (Op.Complex.arith op .f64 x y).run P w = .ok (fr op x y w) (w.drewN (fk op x y)) := by
  have e : (Op.floatArith op .f64 x y).run P w = .ok (.float .f64 (fr op x y w)) (w.drewN (fk op x y)) := by
    have := run_fop (P := P) h 0 x y w
    cases op <;> simp only [arith, Bool.false_eq_true] at h <;> simpa [binOp] using this
  simp [Op.Complex.arith, e]
theorem run_cadd (t : TypeId) (a b c d : Nat) (w : World) : (binOp .add t (.complex .f64 a b) (.complex .f64 c d)).run P w = .ok (.complex .f64 (fr .add a c w) (fr .add b d (w.drewN (fk .add a c)))) ((w.drewN (fk .add a c)).drewN (fk .add b d)) := by
  simp [binOp, Op.complexOp, run_carith' (P := P) (op := .add) rfl]
theorem run_csub (t : TypeId) (a b c d : Nat) (w : World) : (binOp .sub t (.complex .f64 a b) (.complex .f64 c d)).run P w = .ok (.complex .f64 (fr .sub a c w) (fr .sub b d (w.drewN (fk .sub a c)))) ((w.drewN (fk .sub a c)).drewN (fk .sub b d)) := by
  simp [binOp, Op.complexOp, run_carith' (P := P) (op := .sub) rfl]
end
/-- a complex number comes back that is alike to z; the world has drawn, if anything -/
def RZ (w : World) (z : Nat × Nat) (e : Ending) (w' : World) : Prop :=
  ∃ x y k, e = .returned (.complex .f64 x y) ∧ w' = w.drewN k ∧ x < 18446744073709551616 ∧ y < 18446744073709551616 ∧ Lk (x, y) z
theorem RC.z {w w' : World} {a b : Nat} {e : Ending} (h : RC w a b e w') (ha : bt a = a) (hb : bt b = b) : RZ w (a, b) e w' := by
  obtain ⟨x, y, k, h1, h2, h3, h4, h5, h6⟩ := h
  exact ⟨x, y, k, h1, h2, h3, h4, h5.trans ha.symm, h6.trans hb.symm⟩
end Go.Proofs.YtgfmimmiaalhcaaDoor
