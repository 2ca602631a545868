/-
  Contracts of the document's series and eighth of layer 7.
-/
import Derived.Test.YtoaccmblaifnmaaDoorAa1
import Derived.Test.YtoaccmblaifnmaaDoorAb6
import Derived.WalkKit
import Derived.WalkLawsBesides
import Derived.Outline
import Derived.Laws.CopyOwn
import Derived.Test.YtoaccmblaifnmaaDoorProg
import Derived.Test.YtoaccmblaifnmaaDoorWrd
import Derived.Laws.MakeOwn
import Derived.OwnWalk
import Derived.Deep.QuietTactic
import Derived.BigQuiet
namespace Go.Proofs.YtoaccmblaifnmaaDoor
open Flo Go.RowKit

theorem bt_ser (y odd i : Nat) : bt (Rp.ser y odd i) = Rp.ser y odd i := by
  cases i with
  | zero => exact bt_co ..
  | succ i => exact bt_co ..
theorem bt_ffac (n : Nat) : bt (Rp.ffac n) = Rp.ffac n := by
  match n with
  | 0 => decide
  | 1 => decide
  | n + 2 => exact bt_co ..
theorem ffac_step {m : Nat} (h : 2 ≤ m) : Rp.ffac m = co .mul (Rp.ffac (m - 1)) (Rp.fl (m : Int)) := by
  obtain ⟨k, rfl⟩ : ∃ k, m = k + 2 := ⟨m - 2, by omega⟩
  rfl
end Go.Proofs.YtoaccmblaifnmaaDoor
/-
  The contract of the document's eighth of layer 7.
-/
namespace Go.Proofs.YtoaccmblaifnmaaDoor
open Flo Go.RowKit

theorem eq_of_bt {x v : Nat} (h : bt x = v) (hv : nanB v = false) : x = v := by
  cases hn : nanB x
  · rw [← h, bt_fin hn]
  · have : nanB (bt x) = true := by rw [nan_bt]; exact hn
    rw [h, hv] at this; cases this
theorem bd_nan {x A : Nat} (h : Rp.bd x A) : nanB x = false := Ari.nan_fin h.1
theorem ret_ff {a b c d : Nat} (h : a = b) (h' : c = d) : Ending.returned (.tuple #[.float .f64 a, .float .f64 c]) = .returned (.tuple #[.float .f64 b, .float .f64 d]) := by rw [h, h']
theorem ser_of {y z : Nat} (odd : Nat) (h : bt y = bt z) : ∀ i, Rp.ser y odd i = Rp.ser z odd i := by
  intro i
  induction i with
  | zero => rfl
  | succ i ih =>
    show co .sub _ (co .mul y (Rp.ser y odd i)) = co .sub _ (co .mul z (Rp.ser z odd i))
    rw [ih, co_of_left h]
end Go.Proofs.YtoaccmblaifnmaaDoor
/-
  Contracts of package roots: the terms of the series, the series, the eighth.
-/
namespace Go.Proofs.YtoaccmblaifnmaaDoor
open Flo Go.RowKit

def cosA : Array Value := #[.float .f64 4607182418800017408, .float .f64 4602678819172646912, .float .f64 4586165620538955093, .float .f64 4564047942368979991, .float .f64 4537941361671905306, .float .f64 4508805057796939612, .float .f64 4477122120089393304, .float .f64 4443145680587881629, .float .f64 4407590220077447199]
def sinA : Array Value := #[.float .f64 4607182418800017408, .float .f64 4595172819793696085, .float .f64 4575957461383581969, .float .f64 4551452160554016794, .float .f64 4523617214285662004, .float .f64 4493156764026750180, .float .f64 4460272573143870729, .float .f64 4425604618586929183, .float .f64 4389130328383466826]
theorem cosA_cf (k : Nat) (h : k < 9) : cosA[k]? = some (.float .f64 (Rp.cf 0 k)) := by
  exact match k, h with
    | 0, _ => by kernel_rfl
    | 1, _ => by kernel_rfl
    | 2, _ => by kernel_rfl
    | 3, _ => by kernel_rfl
    | 4, _ => by kernel_rfl
    | 5, _ => by kernel_rfl
    | 6, _ => by kernel_rfl
    | 7, _ => by kernel_rfl
    | 8, _ => by kernel_rfl
    | n + 9, h => absurd h (by omega)
theorem sinA_cf (k : Nat) (h : k < 9) : sinA[k]? = some (.float .f64 (Rp.cf 1 k)) := by
  exact match k, h with
    | 0, _ => by kernel_rfl
    | 1, _ => by kernel_rfl
    | 2, _ => by kernel_rfl
    | 3, _ => by kernel_rfl
    | 4, _ => by kernel_rfl
    | 5, _ => by kernel_rfl
    | 6, _ => by kernel_rfl
    | 7, _ => by kernel_rfl
    | 8, _ => by kernel_rfl
    | n + 9, h => absurd h (by omega)
/-- nine floats, which are the coefficients -/
def Nine (odd : Nat) (A : Array Value) : Prop := ∃ c0 c1 c2 c3 c4 c5 c6 c7 c8 : Nat, A = #[.float .f64 c0, .float .f64 c1, .float .f64 c2, .float .f64 c3, .float .f64 c4, .float .f64 c5, .float .f64 c6, .float .f64 c7, .float .f64 c8] ∧ ∀ k, k < 9 → A[k]? = some (.float .f64 (Rp.cf odd k))
theorem nineC : Nine 0 cosA := ⟨_, _, _, _, _, _, _, _, _, rfl, cosA_cf⟩
theorem nineS : Nine 1 sinA := ⟨_, _, _, _, _, _, _, _, _, rfl, sinA_cf⟩
end Go.Proofs.YtoaccmblaifnmaaDoor
/-
  Contracts of the document's Mod, length and pair of layer 7.
-/
namespace Go.Proofs.YtoaccmblaifnmaaDoor
open Flo Go.RowKit

theorem tmod_md {n : Nat} (h : 0 < n) (k : Int) : (k.tmod n + n).tmod n = ((Rp.md n k : Nat) : Int) := by
  have hn : (0 : Int) < n := by omega
  have h1 : 0 ≤ k.tmod n + n := by
    have := Int.lt_tmod_of_pos k hn
    omega
  rw [Int.tmod_eq_emod_of_nonneg h1, Rp.md_eq h, Int.add_emod_right]
  by_cases hk : 0 ≤ k
  · rw [Int.tmod_eq_emod_of_nonneg hk, Int.emod_emod]
  · have e := Int.mul_tdiv_add_tmod k n
    have e2 : (n * k.tdiv n + k.tmod n) % n = k.tmod n % n := by rw [Int.add_comm, Int.add_mul_emod_self_left]
    rw [e] at e2
    exact e2.symm
theorem order0 {x : Nat} (h : Ari.fin x) : (Ieee.double.order x 0 == some .eq) = decide (x % 9223372036854775808 = 0) := by
  have f0 : Ari.fin 0 := ⟨by decide, by decide⟩
  rw [Ari.eq_fin h f0]
  congr 1
  apply propext
  have e0 : Ari.fz 0 = 0 := by decide
  rw [e0, ← Int.natAbs_eq_zero, Ari.vl_abs]
  unfold Ari.vl
  rw [← Ari.vr_zero]
  exact Ari.vr_inj
theorem zp_of (x : Nat) (h : Ari.fin x) : Rp.zp x = if (Ieee.double.order x 0 == some .eq) = true then 0 else x := by
  unfold Rp.zp
  rw [order0 h]
  by_cases h0 : x % 9223372036854775808 = 0
  · rw [if_pos h0, if_pos (decide_eq_true h0)]
  · rw [if_neg h0, if_neg (by rw [decide_eq_false h0]; decide)]
theorem zp_t {x : Nat} (h : Ari.fin x) (e : (Ieee.double.order x 0 == some .eq) = true) : 0 = Rp.zp x := by rw [zp_of x h, if_pos e]
theorem zp_f {x : Nat} (h : Ari.fin x) (e : (Ieee.double.order x 0 == some .eq) = false) : x = Rp.zp x := by rw [zp_of x h, if_neg (by rw [e]; decide)]
theorem div4 {n m q r : Nat} (h : 4 * m = q * n + r) (hr : r < n) : (4 * (m : Int)).tdiv n = q ∧ (4 * (m : Int)).tmod n = r := by
  obtain ⟨d1, d2⟩ := Rp.qr_of h hr
  have e : (4 * (m : Int)) = ((4 * m : Nat) : Int) := by omega
  rw [e, Int.tdiv_eq_ediv_of_nonneg (by omega), Int.tmod_eq_emod_of_nonneg (by omega), ← Int.natCast_ediv, ← Int.natCast_emod, d1, d2]
  exact ⟨rfl, rfl⟩
end Go.Proofs.YtoaccmblaifnmaaDoor
/-
  Contracts of package roots: the eighth, the quarter, the turn, the root.
-/
namespace Go.Proofs.YtoaccmblaifnmaaDoor
open Flo Go.RowKit

theorem below_tr {w a b : World} (h : Below w.heap.size w a) (k : Below a.heap.size a b) : Below w.heap.size w b := h.trans (k.mono h.size)
theorem tmod_pos {n : Nat} (h : 0 < n) {k : Int} (hk : 0 ≤ k.tmod n) : k.tmod n = ((Rp.md n k : Nat) : Int) := by
  have e := tmod_md h k
  have hl := Int.tmod_lt_of_pos k (show (0 : Int) < n by omega)
  rw [Int.tmod_eq_emod_of_nonneg (by omega), Int.add_emod_right, Int.emod_eq_of_lt hk hl] at e
  exact e
theorem tmod_neg {n : Nat} (h : 0 < n) {k : Int} (hk : k.tmod n < 0) : k.tmod n + n = ((Rp.md n k : Nat) : Int) := by
  have e := tmod_md h k
  have hl := Int.lt_tmod_of_pos k (show (0 : Int) < n by omega)
  rw [Int.tmod_eq_emod_of_nonneg (by omega), Int.emod_eq_of_lt (by omega) (by omega)] at e
  exact e
end Go.Proofs.YtoaccmblaifnmaaDoor
/-
  Lists of complex numbers in memory: made, written, the call's own, and to be read.
-/
namespace Go.Proofs.YtoaccmblaifnmaaDoor
open Flo Go.RowKit
theorem store_cx (a : Addr) (x y : Nat) (w : World) (m : Mode) : (store a (.complex .f64 x y) m).run Tryd.prog w = stored Tryd.prog w a (.complex .f64 x y) m := run_store Tryd.prog w a _ m rfl
/-- complex numbers as values -/
def cz (zs : List (Nat × Nat)) : List Value := zs.map fun z => Value.complex .f64 z.1 z.2
theorem cz_len (zs : List (Nat × Nat)) : (cz zs).length = zs.length := by simp [cz]
theorem cz_get (zs : List (Nat × Nat)) (i : Nat) (h : i < zs.length) : (cz zs)[i]? = some (.complex .f64 (zs.getD i (0, 0)).1 (zs.getD i (0, 0)).2) := by
  simp [cz, List.getD, h]
theorem cz_snoc (zs : List (Nat × Nat)) (z : Nat × Nat) : cz (zs ++ [z]) = cz zs ++ [.complex .f64 z.1 z.2] := by simp [cz]
/-- a list that can be read -/
def RdC (w : World) (v : Value) (zs : List (Nat × Nat)) : Prop :=
  ∃ ao cap, v = .slice ao zs.length cap ∧ (zs ≠ [] → ∃ b off, ao = some ⟨b, off, none⟩ ∧ b < w.heap.size ∧ ∀ i, i < zs.length → w.cell? ⟨b, off + i, none⟩ = some (.complex .f64 (zs.getD i (0, 0)).1 (zs.getD i (0, 0)).2))
theorem RdC.slice {w : World} {v : Value} {zs : List (Nat × Nat)} (h : RdC w v zs) {n : Nat} (hn : zs.length = n) : ∃ ao cap, v = .slice ao n cap := by
  obtain ⟨ao, cap, rfl, _⟩ := h
  exact ⟨ao, cap, by rw [hn]⟩
theorem RdC.below {w w' : World} {v : Value} {zs : List (Nat × Nat)} (h : RdC w v zs) (hb : Below w.heap.size w w') : RdC w' v zs := by
  obtain ⟨ao, cap, rfl, h2⟩ := h
  refine ⟨ao, cap, rfl, fun hz => ?_⟩
  obtain ⟨b, off, rfl, h3, h4⟩ := h2 hz
  exact ⟨b, off, rfl, Nat.lt_of_lt_of_le h3 hb.size, fun i hi => (hb.cell (p := ⟨b, off + i, none⟩) h3).trans (h4 i hi)⟩
theorem RdC.drewN {w : World} {v : Value} {zs : List (Nat × Nat)} (h : RdC w v zs) (k : Nat) : RdC (w.drewN k) v zs := h
theorem own_blw {B : Nat} {e : TypeId} {k : Nat} {v : Value} {n : Nat} {xs : List Value} {w w' : World} (h : w.ownsRow B e k v n xs) (hb : Below w.heap.size w w') : w'.ownsRow B e k v n xs :=
  h.kept (row := none) ⟨hb.os, hb.tape, hb.output, hb.size, fun j hj _ => hb.block j hj⟩ (by cases hv : v.ownBlock <;> simp)
theorem own_base {B C : Nat} {e : TypeId} {k : Nat} {v : Value} {n : Nat} {xs : List Value} {w : World} (h : w.ownsRow B e k v n xs) (hC : C ≤ B) : w.ownsRow C e k v n xs := by
  obtain ⟨x1, x2⟩ := h
  exact ⟨x1, x2.imp id (fun ⟨g, c, cu, y1, y2, y3⟩ => ⟨g, c, cu, y1, Nat.le_trans hC y2, y3⟩)⟩
end Go.Proofs.YtoaccmblaifnmaaDoor
/-
  Contracts of package roots: the calls that are told outside, where they are not refused.
-/
namespace Go.Proofs.YtoaccmblaifnmaaDoor
open Flo Go.RowKit

/-- may n be the length of a turn -/
def cu (n : Int) : Bool := decide (1 ≤ n ∧ n ≤ 4194304)
theorem cu_t {n : Int} (h : cu n = true) : 1 ≤ n ∧ n ≤ 4194304 := of_decide_eq_true h
theorem ret_fff {a b c d : Nat} {v : Value} (h : a = b) (h' : c = d) : Ending.returned (.tuple #[.float .f64 a, .float .f64 c, v]) = .returned (.tuple #[.float .f64 b, .float .f64 d, v]) := by rw [h, h']
end Go.Proofs.YtoaccmblaifnmaaDoor
/-
  The contract of the document's pair of layer 7.
-/
namespace Go.Proofs.YtoaccmblaifnmaaDoor
open Flo Go.RowKit

end Go.Proofs.YtoaccmblaifnmaaDoor
/-
  Contracts of package roots' All and of the document's Root.
-/
namespace Go.Proofs.YtoaccmblaifnmaaDoor
open Flo Go.RowKit

/-- the roots of n, as far as place j; noughts behind -/
def rlv (n k : Nat) : Nat × Nat := (Rp.pc n k, Rp.pim n k)
def rlu (n j : Nat) : List Value := (List.range n).map fun k => if k < j then .complex .f64 (Rp.pc n k) (Rp.pim n k) else .complex .f64 0 0
def rl (n : Nat) : List (Nat × Nat) := (List.range n).map (rlv n)
theorem rl_len (n : Nat) : (rl n).length = n := by simp [rl]
theorem rlu_0 (n : Nat) : rlu n 0 = List.replicate n (.complex .f64 0 0) := by
  apply List.ext_getElem
  · simp [rlu]
  · intro k h1 h2; simp [rlu]
theorem rlu_n (n : Nat) : rlu n n = cz (rl n) := by
  apply List.ext_getElem
  · simp [rlu, rl, cz]
  · intro k h1 h2
    have hk : k < n := by simpa [rlu] using h1
    simp [rlu, rl, cz, rlv, hk]
theorem rlu_step {n i : Nat} : (rlu n i).set i (.complex .f64 (Rp.pc n i) (Rp.pim n i)) = rlu n (i + 1) := by
  apply List.ext_getElem
  · simp [rlu]
  · intro k h1 h2
    rw [List.getElem_set]
    simp only [rlu, List.getElem_map, List.getElem_range]
    by_cases c : i = k
    · subst c; simp
    · rw [if_neg c]
      by_cases hk : k < i
      · rw [if_pos hk, if_pos (by omega)]
      · rw [if_neg hk, if_neg (by omega)]
theorem md_self {n k : Nat} (h : k < n) : Rp.md n (k : Int) = k := by
  unfold Rp.md
  rw [Int.emod_eq_of_lt (by omega) (by omega)]; omega
def inn (n : Int) : Bool := decide (1 ≤ n ∧ n ≤ 16384)
theorem ret_cx {a b c d : Nat} (h : a = b) (h' : c = d) : Ending.returned (.complex .f64 a c) = .returned (.complex .f64 b d) := by rw [h, h']
end Go.Proofs.YtoaccmblaifnmaaDoor
/-
  Contracts of package direct: a pair twisted by a table's root; the sum k.
-/
namespace Go.Proofs.YtoaccmblaifnmaaDoor
open Flo Go.RowKit

theorem drn (w : World) (a b : Nat) : (w.drewN a).drewN b = w.drewN (a + b) := by unfold World.drewN; simp [Nat.add_assoc]
/-- the roots of n lie at block G -/
structure Tab (w : World) (G n : Nat) : Prop where
  lt : G < w.heap.size
  at_ : ∀ j, j < n → w.cell? ⟨G, j, none⟩ = some (.complex .f64 (Rp.pc n j) (Rp.pim n j))
theorem Tab.below {w w' : World} {G n : Nat} (h : Tab w G n) (hb : Below w.heap.size w w') : Tab w' G n :=
  ⟨Nat.lt_of_lt_of_le h.lt hb.size, fun j hj => (hb.cell (p := ⟨G, j, none⟩) h.lt).trans (h.at_ j hj)⟩
theorem Tab.drewN {w : World} {G n : Nat} (h : Tab w G n) (k : Nat) : Tab (w.drewN k) G n := ⟨h.lt, h.at_⟩
theorem rl_at' {n j : Nat} (h : j < n) : (cz (rl n))[j]? = some (.complex .f64 (Rp.pc n j) (Rp.pim n j)) := by
  simp [cz, rl, rlv, h]
theorem cz_set (zs : List (Nat × Nat)) (i : Nat) (z : Nat × Nat) : (cz zs).set i (.complex .f64 z.1 z.2) = cz (zs.set i z) := by simp [cz, List.map_set]
theorem cz_rep (n : Nat) : List.replicate n (Value.complex .f64 0 0) = cz (List.replicate n (0, 0)) := by simp [cz]
theorem getD_set_ne {zs : List (Nat × Nat)} {i j : Nat} (z : Nat × Nat) (h : i ≠ j) : (zs.set i z).getD j (0, 0) = zs.getD j (0, 0) := by simp [List.getD, h]
theorem getD_set_eq {zs : List (Nat × Nat)} {i : Nat} (z : Nat × Nat) (h : i < zs.length) : (zs.set i z).getD i (0, 0) = z := by simp [List.getD, h]
theorem Lim.set {zs : List (Nat × Nat)} (h : Lim zs) (i : Nat) {z : Nat × Nat} (h1 : z.1 < 18446744073709551616) (h2 : z.2 < 18446744073709551616) : Lim (zs.set i z) := by
  intro j hj
  rw [List.length_set] at hj
  by_cases c : i = j
  · subst c; rw [getD_set_eq z hj]; exact ⟨h1, h2⟩
  · rw [getD_set_ne z c]; exact h j hj
theorem Lim.rep (n : Nat) : Lim (List.replicate n (0, 0)) := by
  intro j hj
  rw [List.length_replicate] at hj
  simp [List.getD, hj]
/-- the first i of us are alike to what f tells -/
def Upl (us : List (Nat × Nat)) (f : Nat → Nat × Nat) (i : Nat) : Prop := ∀ k, k < i → Lk (us.getD k (0, 0)) (f k)
theorem Upl.step {us : List (Nat × Nat)} {f : Nat → Nat × Nat} {i : Nat} {z : Nat × Nat} (h : Upl us f i) (hi : i < us.length) (hz : Lk z (f i)) : Upl (us.set i z) f (i + 1) := by
  intro k hk
  by_cases c : i = k
  · subst c; rw [getD_set_eq z hi]; exact hz
  · rw [getD_set_ne z c]; exact h k (by omega)
end Go.Proofs.YtoaccmblaifnmaaDoor
namespace Go.Proofs.YtoaccmblaifnmaaDoor
open Flo Go.RowKit

/-- the function that a list is, as far as it goes -/
def ix (zs : List (Nat × Nat)) (j : Nat) : Nat × Nat := zs.getD j (0, 0)
end Go.Proofs.YtoaccmblaifnmaaDoor
namespace Go.Proofs.YtoaccmblaifnmaaDoor
open Flo Go.RowKit

end Go.Proofs.YtoaccmblaifnmaaDoor
/-
  Contracts of package chirp: chirps, At, List, Least, Size, where nothing is refused.
-/
namespace Go.Proofs.YtoaccmblaifnmaaDoor
open Flo Go.RowKit

theorem chirps_c (n : Int) (w : World) : Calls Tryd.prog 121 #[.int .i64 n] w fun e w' => e = .returned (.bool (inn n)) ∧ w' = w := by
  by_cases h1 : 1 ≤ n
  · by_cases h2 : n ≤ 16384
    · have hv : Hid (true = inn n) := ((decide_eq_true ⟨h1, h2⟩ : inn n = true).symm : true = inn n)
      go_enter Tryd.func121, Tryd.ntmps121
      go_wp2
      go_ret
      exact ⟨ret_bool hv.out, rfl⟩
    · have hv : Hid (false = inn n) := ((decide_eq_false (fun h => h2 h.2) : inn n = false).symm : false = inn n)
      have h2' : decide (n ≤ 16384) = false := decide_eq_false h2
      go_enter Tryd.func121, Tryd.ntmps121
      go_wp2
      go_ret
      exact ⟨ret_bool hv.out, rfl⟩
  · have hv : Hid (false = inn n) := ((decide_eq_false (fun h => h1 h.1) : inn n = false).symm : false = inn n)
    have h1' : decide (1 ≤ n) = false := decide_eq_false h1
    have h1'' : decide (n ≥ 1) = false := decide_eq_false h1
    go_enter Tryd.func121, Tryd.ntmps121
    go_wp2
    go_ret
    exact ⟨ret_bool hv.out, rfl⟩
theorem inn_nat {n : Nat} (h : 0 < n) (hn : n ≤ 16384) : inn (n : Int) = true := decide_eq_true ⟨by omega, by omega⟩
theorem tm_lt {M : Nat} (j : Int) (h : 0 < M) : -(M : Int) < j.tmod M ∧ j.tmod M < (M : Int) := by
  have h2 := Int.tmod_lt_of_pos j (b := (M : Int)) (by omega)
  refine ⟨?_, h2⟩
  have h3 := Int.tmod_lt_of_pos (-j) (b := (M : Int)) (by omega)
  rw [Int.neg_tmod] at h3
  omega
theorem sq_lt {M r : Int} (h1 : -M < r) (h2 : r < M) (hM : M ≤ 32768) : -1073741824 ≤ r * r ∧ r * r ≤ 1073741824 := by
  have h4 : r.natAbs ≤ 32768 := by omega
  have h5 : r.natAbs * r.natAbs ≤ 32768 * 32768 := Nat.mul_le_mul h4 h4
  have h6 : ((r.natAbs * r.natAbs : Nat) : Int) = r * r := Int.natAbs_mul_self
  omega
theorem leastOk_c (n : Nat) (w : World) (h : 0 < n) (hn : n ≤ 16384) :
    Calls Tryd.prog 116 #[.int .i64 n] w fun e w' => e = .returned (.int .i64 ((2 * n - 1 : Nat) : Int)) ∧ w' = w := by
  have hc := chirps_c (n : Int) w
  rw [inn_nat h hn] at hc
  obtain ⟨K, hK, hK1⟩ : ∃ K : Nat, Hid (2 * n - 1 = K) ∧ (2 : Int) * (n : Int) - 1 = (K : Int) := ⟨2 * n - 1, (rfl : _ = _), by omega⟩
  rw [hK.out]
  go_enter Tryd.func116, Tryd.ntmps116
  go_wp2_with fail
  refine hc.mono ?_
  rintro e w1 ⟨rfl, rfl⟩
  go_wp2_with fail
  go_ret
  exact ⟨rfl, rfl⟩
theorem leastNo_c (n : Int) (w : World) (h : inn n = false) :
    Calls Tryd.prog 116 #[.int .i64 n] w fun e w' => e = .returned (.int .i64 0) ∧ w' = w := by
  have hc := chirps_c n w
  rw [h] at hc
  clear h
  go_enter Tryd.func116, Tryd.ntmps116
  go_wp2_with fail
  refine hc.mono ?_
  rintro e w1 ⟨rfl, rfl⟩
  go_wp2_with fail
  go_ret
  exact ⟨rfl, rfl⟩
end Go.Proofs.YtoaccmblaifnmaaDoor
/-
  Contracts of package chirp: Other, Size, where nothing is refused; the other list and the power of two as plain things.
-/
namespace Go.Proofs.YtoaccmblaifnmaaDoor
open Flo Go.RowKit

/-- the other list, as far as chirp j is laid -/
def oul (M m j : Nat) : List (Nat × Nat) := (List.range m).map (otu M m j)
theorem oul_len (M m j : Nat) : (oul M m j).length = m := by simp [oul]
theorem oul_at {M m j i : Nat} (h : i < m) : (oul M m j).getD i (0, 0) = otu M m j i := getD_map_range _ _ _ _ h
theorem oul_zero (M m : Nat) : oul M m 0 = List.replicate m (0, 0) := by
  apply List.ext_getElem
  · simp [oul]
  · intro k h1 h2; simp [oul, otu]
theorem oul_first (M m : Nat) : (oul M m 0).set 0 (cjp (chp M 0)) = oul M m 1 := by
  apply List.ext_getElem
  · simp [oul]
  · intro k h1 h2
    have hk : k < m := by simpa [oul] using h2
    rw [List.getElem_set]
    simp only [oul, List.getElem_map, List.getElem_range, otu]
    by_cases c : 0 = k
    · subst c; simp
    · rw [if_neg c, if_neg (by omega), if_neg (by omega), if_neg (by omega), if_neg (by omega)]
theorem oul_step {M m n j : Nat} (h0 : 0 < j) (hj : j < n) (hm : 2 * n - 1 ≤ m) : ((oul M m j).set j (cjp (chp M (j : Int)))).set (m - j) (cjp (chp M (j : Int))) = oul M m (j + 1) := by
  apply List.ext_getElem
  · simp [oul]
  · intro k h1 h2
    have hk : k < m := by simpa [oul] using h2
    rw [List.getElem_set, List.getElem_set]
    simp only [oul, List.getElem_map, List.getElem_range, otu]
    by_cases c : m - j = k
    · rw [if_pos c, if_neg (by omega), if_pos (by omega)]
      have e : m - k = j := by omega
      rw [e]
    · rw [if_neg c]
      by_cases c2 : j = k
      · subst c2; simp
      · rw [if_neg c2]
        by_cases c3 : k < j
        · rw [if_pos c3, if_pos (by omega)]
        · rw [if_neg c3, if_neg (by omega : ¬ k < j + 1)]
          by_cases c4 : 0 < k ∧ m - k < j
          · rw [if_pos c4, if_pos (by omega)]
          · rw [if_neg c4, if_neg (by omega)]
theorem otu_lim {M : Nat} (h : 0 < M) (hM : M ≤ 4194304) (m j i : Nat) : (otu M m j i).1 < 18446744073709551616 ∧ (otu M m j i).2 < 18446744073709551616 := by
  have key : ∀ k : Int, (cjp (chp M k)).1 < 18446744073709551616 ∧ (cjp (chp M k)).2 < 18446744073709551616 := fun k => by
    have := chp_fin h hM k
    exact ⟨this.1.1, Ari.ng_lt this.2.1⟩
  unfold otu
  split
  · exact key _
  · split
    · exact key _
    · exact ⟨by decide, by decide⟩
theorem oul_lim {M : Nat} (h : 0 < M) (hM : M ≤ 4194304) (m j : Nat) : Lim (oul M m j) := by
  intro i hi
  rw [oul_len] at hi
  rw [oul_at hi]
  exact otu_lim h hM m j i
/-- the least power of two that is at least K -/
def Sz (K s : Nat) : Prop := ∃ t, s = 2 ^ t ∧ K ≤ s ∧ (t = 0 ∨ s < 2 * K)
theorem Sz.uniq {K s s' : Nat} (h : Sz K s) (h' : Sz K s') : s = s' := by
  obtain ⟨t, rfl, h1, h2⟩ := h
  obtain ⟨t', rfl, h3, h4⟩ := h'
  have key : ∀ a b : Nat, K ≤ 2 ^ a → (b = 0 ∨ 2 ^ b < 2 * K) → ¬ a < b := fun a b ha hb hab => by
    rcases hb with rfl | hb
    · omega
    · have : 2 ^ (a + 1) ≤ 2 ^ b := Nat.pow_le_pow_right (by decide) hab
      rw [Nat.pow_succ] at this
      omega
  have k1 := key t t' h1 h4
  have k2 := key t' t h3 h2
  rw [show t = t' by omega]
theorem sz_small {K t : Nat} (h : t = 0 ∨ 2 ^ t < 2 * K) (hK : K ≤ 16383) : 2 ^ t ≤ 16384 := by
  rcases h with rfl | h
  · decide
  · have h1 : ¬ 15 ≤ t := fun h15 => by
      have : 2 ^ 15 ≤ 2 ^ t := Nat.pow_le_pow_right (by decide) h15
      omega
    have : 2 ^ t ≤ 2 ^ 14 := Nat.pow_le_pow_right (by decide) (by omega)
    exact this
set_option maxHeartbeats 1000000 in
theorem sizeOk_c (n : Nat) (w : World) (h : 0 < n) (hn : n ≤ 8192) :
    Calls Tryd.prog 112 #[.int .i64 n] w fun e w' => ∃ s : Nat, e = .returned (.tuple #[.int .i64 (s : Int), .nilIface]) ∧ Sz (2 * n - 1) s ∧ s ≤ 16384 ∧ w' = w := by
  have hc := leastOk_c n w h (by omega)
  obtain ⟨K, hK⟩ : ∃ K, 2 * n - 1 = K := ⟨_, rfl⟩
  rw [hK] at hc ⊢
  have hK1 : K ≤ 16383 := by omega
  have q1 : ((K : Int) == 0) = false := beq_eq_false_iff_ne.2 (by omega)
  clear hK
  go_enter Tryd.func112, Tryd.ntmps112
  go_wp2_with fail
  refine hc.mono ?_
  rintro e w0 ⟨rfl, rfl⟩
  clear hc
  go_wp2_with fail
  go_loopw [5] (fun ss wx => ∃ s : Nat, ss = .int .i64 (s : Int) ∧ s ≤ 32766 ∧ 0 < s ∧ Hid (∃ t, s = 2 ^ t ∧ (t = 0 ∨ 2 ^ t < 2 * K)) ∧ wx = w0) (fun ss _ => K - (intOf ss).toNat)
  case atStart => exact ⟨1, rfl, by decide, by decide, ⟨0, rfl, .inl rfl⟩, rfl⟩
  case round =>
    obtain ⟨s, rfl, hs1, hs0, hs, rfl⟩ := hrel
    by_cases hlt : s < K
    · have hlt' : (s : Int) < (K : Int) := by omega
      obtain ⟨s2, hs2, hs3⟩ : ∃ s2 : Nat, Hid (s2 = 2 * s) ∧ (s : Int) * 2 = (s2 : Int) := ⟨2 * s, (rfl : _ = _), by omega⟩
      have hs4 : s2 ≤ 32766 := by have := hs2.out; omega
      have hs5 : 0 < s2 := by have := hs2.out; omega
      have hH : Hid (∃ t, s2 = 2 ^ t ∧ (t = 0 ∨ 2 ^ t < 2 * K)) := by
        obtain ⟨t, e, _⟩ := hs.out
        exact ⟨t + 1, by rw [hs2.out, e, Nat.pow_succ]; omega, .inr (by rw [Nat.pow_succ]; omega)⟩
      clear hs
      go_wp2_with fail
      go_roundw
      case rel => exact ⟨s2, rfl, hs4, hs5, hH, by trivial⟩
      case measure => simp [intOf]; have := hs2.out; omega
    · have hlt' : decide ((s : Int) < (K : Int)) = false := decide_eq_false (by omega)
      have hE : Hid (Sz K s ∧ s ≤ 16384) := by
        obtain ⟨t, e, h2⟩ := hs.out
        exact ⟨⟨t, e, by omega, by rw [e]; exact h2⟩, by rw [e]; exact sz_small h2 hK1⟩
      have q2 : decide ((s : Int) > 16384) = false := decide_eq_false (by have := hE.out.2; omega)
      clear hs
      go_wp2_with fail
      go_ret2
      exact ⟨s, rfl, hE.out.1, hE.out.2, rfl⟩
end Go.Proofs.YtoaccmblaifnmaaDoor
