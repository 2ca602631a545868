/-
  timbrenat: whole numbers of 32-bit words: trim, Of.
-/
import Derived.Test.YtmfnjmgdindlaaaNvm
import Derived.Test.YtmfnjmgdindlaaaApf
namespace Go.Proofs.Ytmfnjmgdindlaaa
open Flo Go.RowKit
/-- the base of timbrenat's numbers -/
def W32 : Nat := 4294967296
theorem W32_2 : 2 ≤ W32 := by decide
theorem W32_0 : 0 < W32 := by decide
theorem wd32 (n i : Nat) : Wd.wd W32 n i < 4294967296 := Wd.wd_lt W32_0 n i
/-- a number in memory -/
def Nm (w : World) (B : Nat) (v : Value) (n : Nat) : Prop := Row 64 .u32 w B v (Wd.nw W32 n) (Wd.wd W32 n)
theorem Nm.under {w w' : World} {B n : Nat} {v : Value} (h : Nm w B v n) (hb : Below w.heap.size w w') : Nm w' B v n := Row.under h hb
theorem Nm.mono {w : World} {B C n : Nat} {v : Value} (h : Nm w B v n) (hC : C ≤ B) : Nm w C v n := Row.mono h hC
theorem infoU32 : (Try.prog.info? 64).map (fun i => (i.zero, i.size, i.bytes)) = some (some (.int .u32 0), 1, 4) := by kernel_rfl
set_option maxHeartbeats 1000000 in
theorem ntrim_0 (ao : Option Addr) (cap : Nat) (w : World) :
    Calls Try.prog 50 #[.slice ao 0 cap] w fun e w' => e = .returned (.slice ao 0 cap) ∧ w = w' := by
  go_enter Try.func50, Try.ntmps50
  go_wp2
  refine wp_loop_rounds 1 ?_
  rw [rounds_succ]
  go_wp2
  go_ret
  exact ⟨rfl, rfl⟩
theorem Row.take {T : TypeId} {κ : IntKind} {w : World} {B g cap : Nat} {f : Nat → Nat} (j : Nat) : ∀ k, Row T κ w B (.slice (some ⟨g, 0, none⟩) (j + k) cap) (j + k) f → Row T κ w B (.slice (some ⟨g, 0, none⟩) j cap) j f
  | 0, h => h
  | k + 1, h => Row.take j k (Row.pop (by rw [Nat.add_assoc]; exact h))
set_option maxHeartbeats 1000000 in
theorem ntrim_n (B g k cap n : Nat) (w : World) (hr : Hid (Row 64 .u32 w B (.slice (some ⟨g, 0, none⟩) k cap) k (Wd.wd W32 n))) (hkm : k ≤ 1000000) (hcap : k ≤ cap) (hn : Hid (n < W32 ^ k)) :
    Calls Try.prog 50 #[.slice (some ⟨g, 0, none⟩) k cap] w fun e w' => e = .returned (.slice (some ⟨g, 0, none⟩) (Wd.nw W32 n) cap) ∧ w = w' := by
  go_enter Try.func50, Try.ntmps50
  go_wp2
  go_loop [3] (fun s => ∃ j : Nat, j ≤ k ∧ s = .int .i64 j ∧ Hid (n < W32 ^ j)) (fun s => (intOf s).toNat)
  case atStart => exact ⟨k, Nat.le_refl _, rfl, hn⟩
  case round =>
    obtain ⟨j, hj, rfl, hnj⟩ := hrel
    by_cases h0 : j = 0
    · subst h0
      have hz : Hid (Wd.nw W32 n = 0) := by
        have h1 : n < 1 := by have := hnj.out; rwa [Nat.pow_zero] at this
        rw [show n = 0 by omega]; exact Wd.nw_zero _
      go_wp2
      go_ret
      rw [hz.out]
      exact ⟨rfl, rfl⟩
    · obtain ⟨i, rfl⟩ : ∃ i, j = i + 1 := ⟨j - 1, by omega⟩
      have hc := hr.out.cell i (by omega)
      by_cases hz : Wd.wd W32 n i = 0
      · have hn' : Hid (n < W32 ^ i) := Wd.nw_lt_of_top W32_2 hnj.out hz
        rw [hz] at hc
        go_wp2
        go_round
        case rel => exact ⟨i, by omega, by go_num, hn'⟩
        case measure => simp [intOf]
      · have hw : Hid (Wd.nw W32 n = i + 1) := Wd.nw_of_top W32_2 hnj.out hz
        generalize Wd.wd W32 n i = x at hc hz
        have hz' : ((x : Int) == 0) = false := beq_eq_false_iff_ne.2 (by omega)
        clear hz
        go_wp2
        go_ret
        rw [hw.out]
        exact ⟨rfl, rfl⟩
theorem ntrim_c (B k n : Nat) (v : Value) (w : World) (hr : Row 64 .u32 w B v k (Wd.wd W32 n)) (hn : n < W32 ^ k) (hk : k ≤ 1000000) :
    Calls Try.prog 50 #[v] w fun e w' => ∃ v', e = .returned v' ∧ Nm w B v' n ∧ w = w' := by
  rcases hr.cases with ⟨rfl, rfl⟩ | ⟨g, cap, rfl, _⟩
  · have hz : Wd.nw W32 n = 0 := by
      have h1 : n < 1 := by rwa [Nat.pow_zero] at hn
      rw [show n = 0 by omega]; exact Wd.nw_zero _
    refine (ntrim_0 _ _ w).mono ?_
    rintro e w' ⟨rfl, rfl⟩
    exact ⟨_, rfl, by unfold Nm; rw [hz]; exact hr, rfl⟩
  · have hcap : k ≤ cap := by
      rcases hr.2 with ⟨h, _⟩ | ⟨g', cap', cur, h, _, _, h2, _⟩
      · cases h
      · cases h; exact h2
    refine (ntrim_n B g k cap n w hr hk hcap hn).mono ?_
    rintro e w' ⟨rfl, rfl⟩
    have hle := Wd.nw_le W32_2 hn
    obtain ⟨d, hd⟩ : ∃ d, k = Wd.nw W32 n + d := ⟨k - Wd.nw W32 n, by omega⟩
    refine ⟨_, rfl, ?_, rfl⟩
    unfold Nm
    rw [hd] at hr
    exact Row.take _ d hr
theorem wd32_0 {x : Nat} : Wd.wd W32 x 0 = x % 4294967296 := by unfold Wd.wd; rw [Nat.pow_zero, Nat.div_one]; rfl
theorem wd32_1 {x : Nat} (h : x < 18446744073709551616) : Wd.wd W32 x 1 = x / 4294967296 := by
  unfold Wd.wd
  rw [Nat.pow_one]
  show x / 4294967296 % 4294967296 = _
  omega
set_option maxRecDepth 100000 in
set_option maxHeartbeats 1000000 in
theorem nof_c (x : Nat) (w : World) (hx : x < 18446744073709551616) :
    Calls Try.prog 35 #[.int .u64 x] w fun e w' => ∃ v', e = .returned v' ∧ Nm w' w.heap.size v' x ∧ Below w.heap.size w w' := by
  have hrow : Hid (Row 64 .u32 (w.alloc (.cells #[.int .u32 ((x % 4294967296 : Nat) : Int), .int .u32 ((x / 4294967296 : Nat) : Int)] 64)) w.heap.size (.slice (some ⟨w.heap.size, 0, none⟩) 2 2) 2 (Wd.wd W32 x)) := by
    have h2 : Row 64 .u32 (w.alloc (.cells #[.int .u32 ((x % 4294967296 : Nat) : Int), .int .u32 ((x / 4294967296 : Nat) : Int)] 64)) w.heap.size (.slice (some ⟨w.heap.size, 0, none⟩) 2 2) 2 (fun j => if j = 0 then x % 4294967296 else x / 4294967296) := World.ownsRow_lit (base := w.heap.size) (e := 64) (size := 1) w #[.int .u32 ((x % 4294967296 : Nat) : Int), .int .u32 ((x / 4294967296 : Nat) : Int)] 2 (Nat.le_refl _) (by decide) rfl
    exact h2.congr fun j hj => by
      by_cases h : j = 0
      · rw [if_pos h, h, wd32_0]
      · rw [if_neg h, show j = 1 by omega, wd32_1 hx]
  have e1 : IntKind.u32.wrap (x : Int) = ((x % 4294967296 : Nat) : Int) := by simp only [IntKind.wrap_u32]; omega
  have e2 : IntKind.u32.wrap ((x : Int) / 4294967296) = ((x / 4294967296 : Nat) : Int) := by simp only [IntKind.wrap_u32]; omega
  have hlt : Hid (x < W32 ^ 2) := hx
  clear hx
  go_enter Try.func35, Try.ntmps35
  go_wp2_with fail
  refine (ntrim_c w.heap.size 2 x _ _ hrow.out hlt.out (by decide)).mono ?_
  rintro e w' ⟨v', rfl, hv, rfl⟩
  have hvH : Hid (Nm _ w.heap.size v' x) := hv
  clear hv
  go_wp2
  go_ret
  exact ⟨_, rfl, hvH.out, (Below.refl _ _).alloc (Nat.le_refl _) _⟩
end Go.Proofs.Ytmfnjmgdindlaaa
