/-
  The program's naturals: length, timesPlus.
-/
import Derived.Test.YtmfnjmgdindlaaaNop
import Derived.Test.YtmfnjmgdindlaaaApf
import Derived.Test.YtmfnjmgdindlaaaDig
import Derived.Test.YtmfnjmgdindlaaaMod
import Derived.Laws.Externs
namespace Go.Proofs.Ytmfnjmgdindlaaa
open Flo Go.RowKit
theorem add64_r (x y c : Nat) (hc : c ≤ 1) (w : World) : (callFunc 56 #[.int .u64 (x : Int), .int .u64 (y : Int), .int .u64 (c : Int)]).run Try.prog w =
    .ok (.value (.tuple #[.int .u64 (((x + y + c) % 18446744073709551616 : Nat) : Int), .int .u64 (((x + y + c) / 18446744073709551616 : Nat) : Int)])) w := by
  rw [run_callFunc_extern (P := Try.prog) (f := 56) (fn := Try.f56) (by kernel_rfl) (by kernel_rfl) (by kernel_rfl) (by kernel_rfl) (e := add64Entry) (by kernel_rfl), run_add64 x y c (by omega) (by omega) (by omega) (by omega)]
  simp only [Result.andThen]
  congr 5 <;> omega
theorem add64_0 (x y : Nat) (w : World) : (callFunc 56 #[.int .u64 (x : Int), .int .u64 (y : Int), .int .u64 0]).run Try.prog w =
    .ok (.value (.tuple #[.int .u64 (((x + y) % 18446744073709551616 : Nat) : Int), .int .u64 (((x + y) / 18446744073709551616 : Nat) : Int)])) w := add64_r x y 0 (by omega) w
theorem add64_v (x y : Nat) (w : World) : ∃ hi lo : Nat, (callFunc 56 #[.int .u64 (x : Int), .int .u64 (y : Int), .int .u64 0]).run Try.prog w = .ok (.value (.tuple #[.int .u64 (lo : Int), .int .u64 (hi : Int)])) w ∧ Hid (x + y = hi * 18446744073709551616 + lo ∧ lo < 18446744073709551616) := ⟨_, _, add64_0 x y w, (by constructor <;> omega)⟩
theorem infoU64 : (Try.prog.info? 39).map (fun i => (i.zero, i.size, i.bytes)) = some (some (.int .u64 0), 1, 8) := by kernel_rfl
theorem tp_step {n fz c i x hi lo h2 sm cc : Nat} (hX : Wd.wd W64 n i = x) (hC : Wd.cm W64 n fz c i = cc)
    (hmul : x * fz = hi * 18446744073709551616 + lo ∧ lo < 18446744073709551616 ∧ hi < 18446744073709551616) (hs : lo + cc = h2 * 18446744073709551616 + sm ∧ sm < 18446744073709551616) (hf : fz < 18446744073709551616) (hc : c < 18446744073709551616) :
    Wd.cm W64 n fz c (i + 1) = hi + h2 ∧ Wd.wd W64 (n * fz + c) i = sm ∧ hi + h2 < 18446744073709551616 := by
  have e1 := Wd.cm_succ W64_0 n fz c i
  have e2 := Wd.cm_word W64_0 n fz c i
  have e3 : Wd.cm W64 n fz c (i + 1) < W64 := Wd.cm_lt W64_0 hf hc (i + 1)
  rw [hX, hC] at e1 e2
  have e4 : x * fz + cc = (hi + h2) * W64 + sm := by unfold W64; omega
  have hsm : sm < W64 := hs.2
  rw [e4] at e1 e2
  have e5 : ((hi + h2) * W64 + sm) / W64 = hi + h2 := by
    rw [Nat.mul_comm, Nat.mul_add_div W64_0, Nat.div_eq_of_lt hsm, Nat.add_zero]
  have e6 : ((hi + h2) * W64 + sm) % W64 = sm := by
    rw [Nat.mul_comm, Nat.mul_add_mod, Nat.mod_eq_of_lt hsm]
  rw [e5] at e1
  rw [e6] at e2
  exact ⟨e1, e2, by rw [← e1]; exact e3⟩
/-- a natural -/
def Nl (w : World) (B : Nat) (v : Value) (n : Nat) : Prop := Row 39 .u64 w B v (Wd.nw W64 n) (Wd.wd W64 n)
theorem nw1 {c : Nat} (h0 : c ≠ 0) (h : c < W64) : Wd.nw W64 c = 1 := Wd.nw_eq W64_2 (by rw [Nat.pow_one]; exact h) (.inr (by simp; omega))
theorem wd0 {c : Nat} (h : c < W64) : Wd.wd W64 c 0 = c := by unfold Wd.wd; rw [Nat.pow_zero, Nat.div_one, Nat.mod_eq_of_lt h]
end Go.Proofs.Ytmfnjmgdindlaaa
