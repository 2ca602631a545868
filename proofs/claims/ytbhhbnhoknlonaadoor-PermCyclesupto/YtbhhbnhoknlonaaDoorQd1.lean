/-
  Plain: numbers by their digits to given radices, turned round.
-/
import Derived.Test.YtbhhbnhoknlonaaDoorIlz
namespace Go.Proofs.YtbhhbnhoknlonaaDoor
open Flo Go.RowKit
namespace Dgx

/-- radix j, as a natural number -/
def rx (rs : List Int) (j : Nat) : Nat := (rs.getD j 0).toNat
/-- the product of the first i radices -/
def pn (rs : List Int) : Nat → Nat
  | 0 => 1
  | i + 1 => pn rs i * rx rs i
/-- x turned round by the first j radices -/
def tn (rs : List Int) (x : Nat) : Nat → Nat
  | 0 => 0
  | j + 1 => tn rs x j * rx rs j + (x / pn rs j) % rx rs j
def ok (rs : List Int) : Prop := ∀ j, j < rs.length → 1 ≤ rs.getD j 0
theorem ok.rx {rs : List Int} (h : ok rs) {j : Nat} (hj : j < rs.length) : 1 ≤ rx rs j := by
  have := h j hj; unfold Dgx.rx; omega
theorem pn_pos {rs : List Int} (h : ok rs) : ∀ {j : Nat}, j ≤ rs.length → 1 ≤ pn rs j
  | 0, _ => Nat.le_refl _
  | j + 1, hj => Nat.mul_le_mul (pn_pos h (by omega)) (h.rx (by omega))
theorem pn_mono {rs : List Int} (h : ok rs) {i : Nat} : ∀ {j : Nat}, i ≤ j → j ≤ rs.length → pn rs i ≤ pn rs j
  | 0, hij, _ => by rw [show i = 0 by omega]; exact Nat.le_refl _
  | j + 1, hij, hj => by
    by_cases e : i = j + 1
    · rw [e]; exact Nat.le_refl _
    · have h1 := pn_mono h (show i ≤ j by omega) (by omega)
      have h2 := Nat.mul_le_mul h1 (h.rx (show j < rs.length by omega))
      rw [Nat.mul_one] at h2
      exact h2
theorem pn_fac {rs : List Int} {i : Nat} : ∀ {j : Nat}, i ≤ j → ∃ c, pn rs j = pn rs i * c
  | 0, hij => ⟨1, by rw [show i = 0 by omega, Nat.mul_one]⟩
  | j + 1, hij => by
    by_cases e : i = j + 1
    · exact ⟨1, by rw [e, Nat.mul_one]⟩
    · obtain ⟨c, hc⟩ := pn_fac (rs := rs) (show i ≤ j by omega)
      exact ⟨c * rx rs j, by show pn rs j * rx rs j = _; rw [hc, Nat.mul_assoc]⟩
theorem tn_lt {rs : List Int} (h : ok rs) (x : Nat) : ∀ {j : Nat}, j ≤ rs.length → tn rs x j < pn rs j
  | 0, _ => Nat.zero_lt_one
  | j + 1, hj => by
    have h1 := tn_lt h x (show j ≤ rs.length by omega)
    have h2 := h.rx (show j < rs.length by omega)
    have h3 : (x / pn rs j) % rx rs j < rx rs j := Nat.mod_lt _ h2
    have h4 := Nat.mul_le_mul_right (rx rs j) (show tn rs x j + 1 ≤ pn rs j by omega)
    rw [Nat.add_mul, Nat.one_mul] at h4
    show tn rs x j * rx rs j + (x / pn rs j) % rx rs j < pn rs j * rx rs j
    omega
theorem tn_add {rs : List Int} (h : ok rs) (x d : Nat) {j : Nat} (hj : j ≤ rs.length) : ∀ {i : Nat}, i ≤ j → tn rs (x + d * pn rs j) i = tn rs x i
  | 0, _ => rfl
  | i + 1, hi => by
    have h1 := tn_add h x d hj (show i ≤ j by omega)
    obtain ⟨c, hc⟩ := pn_fac (rs := rs) (show i + 1 ≤ j by omega)
    have hp : 0 < pn rs i := pn_pos h (by omega)
    have e1 : (x + d * pn rs j) / pn rs i = x / pn rs i + rx rs i * (d * c) := by
      rw [hc, show pn rs (i + 1) = pn rs i * rx rs i from rfl, show d * (pn rs i * rx rs i * c) = pn rs i * (rx rs i * (d * c)) by
        rw [Nat.mul_assoc, Nat.mul_left_comm, Nat.mul_left_comm d (rx rs i) c], Nat.add_mul_div_left _ _ hp]
    show tn rs (x + d * pn rs j) i * rx rs i + ((x + d * pn rs j) / pn rs i) % rx rs i = tn rs x i * rx rs i + (x / pn rs i) % rx rs i
    rw [h1, e1, Nat.add_mul_mod_self_left]
theorem tn_step {rs : List Int} (h : ok rs) {k j : Nat} (hj : j < rs.length) (hk : k / pn rs j < rx rs j) : tn rs k (j + 1) = tn rs (k % pn rs j) j * rx rs j + k / pn rs j := by
  have e := tn_add h (k % pn rs j) (k / pn rs j) (Nat.le_of_lt hj) (Nat.le_refl j)
  rw [show k % pn rs j + k / pn rs j * pn rs j = k by rw [Nat.mul_comm]; exact Nat.mod_add_div k _] at e
  show tn rs k j * rx rs j + (k / pn rs j) % rx rs j = _
  rw [e, Nat.mod_eq_of_lt hk]
theorem div_step (rs : List Int) (x j : Nat) : x / pn rs j / rx rs j = x / pn rs (j + 1) := Nat.div_div_eq_div_mul _ _ _
end Dgx
/-- is every radix at least 1? -/
def rsOk (rs : List Int) : Bool := rs.all fun r => decide (1 ≤ r)
theorem rsOk_iff {rs : List Int} : rsOk rs = true ↔ Dgx.ok rs := by
  unfold rsOk Dgx.ok
  rw [List.all_eq_true]
  constructor
  · intro h j hj
    have := of_decide_eq_true (h rs[j] (List.getElem_mem hj))
    simpa [List.getD, hj] using this
  · intro h x hx
    obtain ⟨j, hj, rfl⟩ := List.getElem_of_mem hx
    have := h j hj
    refine decide_eq_true ?_
    simpa [List.getD, hj] using this
/-- Digits' error, as a number -/
def dgE (rs : List Int) : Nat := if rsOk rs then (if Dgx.pn rs rs.length ≤ 16384 then 0 else 7) else 5
/-- Digits' answer -/
def dgL (rs : List Int) : List Int := if dgE rs = 0 then (List.range (Dgx.pn rs rs.length)).map fun x => ((Dgx.tn rs x rs.length : Nat) : Int) else []
theorem dgE_5 {rs : List Int} {j : Nat} (hj : j < rs.length) (h : rs.getD j 0 < 1) : dgE rs = 5 := by
  unfold dgE
  rw [if_neg]
  intro c
  have := rsOk_iff.1 c j hj
  omega
theorem dgE_7 {rs : List Int} (h : Dgx.ok rs) {i : Nat} (hi : i ≤ rs.length) (hp : 16384 < Dgx.pn rs i) : dgE rs = 7 := by
  have := Dgx.pn_mono h hi (Nat.le_refl _)
  unfold dgE
  rw [if_pos (rsOk_iff.2 h), if_neg (by omega)]
theorem dgE_0 {rs : List Int} (h : Dgx.ok rs) (hp : Dgx.pn rs rs.length ≤ 16384) : dgE rs = 0 := by
  unfold dgE
  rw [if_pos (rsOk_iff.2 h), if_pos hp]
theorem dgE_0' {rs : List Int} (h : dgE rs = 0) : Dgx.ok rs ∧ Dgx.pn rs rs.length ≤ 16384 := by
  unfold dgE at h
  split at h
  · rename_i h1
    split at h
    · rename_i h2; exact ⟨rsOk_iff.1 h1, h2⟩
    · cases h
  · cases h
/-- a row of numbers -/
def fl (h : Nat → Nat) (n : Nat) : List Value := (List.range n).map fun k => Value.int .i64 ((h k : Nat) : Int)
theorem fl_len (h : Nat → Nat) (n : Nat) : (fl h n).length = n := by simp [fl]
theorem fl_get (h : Nat → Nat) {n i : Nat} (hi : i < n) : (fl h n)[i]? = some (.int .i64 ((h i : Nat) : Int)) := by simp [fl, hi]
theorem fl_snoc (h : Nat → Nat) (n : Nat) : fl h (n + 1) = fl h n ++ [.int .i64 ((h n : Nat) : Int)] := by simp [fl, List.range_succ]
theorem fl_congr {h k : Nat → Nat} {n : Nat} (e : ∀ i, i < n → h i = k i) : fl h n = fl k n := by
  unfold fl
  apply List.map_congr_left
  intro a ha
  rw [e a (List.mem_range.1 ha)]
theorem fl_set {h : Nat → Nat} {n i z : Nat} : (fl h n).set i (.int .i64 ((z : Nat) : Int)) = fl (fun k => if k = i then z else h k) n := by
  apply List.ext_getElem
  · simp [fl]
  · intro k h1 h2
    rw [List.getElem_set]
    simp only [fl, List.getElem_map, List.getElem_range]
    by_cases c : i = k
    · subst c; simp
    · rw [if_neg c, if_neg (fun e => c e.symm)]
theorem dgL_iz {rs : List Int} (h : dgE rs = 0) : iz (dgL rs) = fl (fun x => Dgx.tn rs x rs.length) (Dgx.pn rs rs.length) := by
  unfold dgL; rw [if_pos h]; simp [iz, fl]
theorem dgL_len {rs : List Int} (h : dgE rs = 0) : (dgL rs).length = Dgx.pn rs rs.length := by
  unfold dgL; rw [if_pos h]; simp
theorem dgL_no {rs : List Int} (h : dgE rs ≠ 0) : dgL rs = [] := by unfold dgL; rw [if_neg h]
end Go.Proofs.YtbhhbnhoknlonaaDoor
