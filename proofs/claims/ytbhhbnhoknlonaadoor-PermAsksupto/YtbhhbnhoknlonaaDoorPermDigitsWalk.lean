/-
  The walk of PermDigits: true at every list of radices.
-/
import Derived.Test.YtbhhbnhoknlonaaDoorQd4
import Derived.Test.YtbhhbnhoknlonaaDoorQd5
import Derived.Test.YtbhhbnhoknlonaaDoorPq5
namespace Go.Proofs.YtbhhbnhoknlonaaDoor
open Flo Go.RowKit

theorem num_er (al : List Addr) (n : Nat) (hn : n < 20) (w : World) (he : Errs w al) :
    Calls Tryd.prog 8 #[er al n] w fun e w' => e = .returned (.int .i64 ((n : Nat) : Int)) ∧ Below w.heap.size w w' := by
  cases n with
  | zero => exact (num_nil w).mono fun _ _ ⟨h1, h2⟩ => ⟨h1, by rw [← h2]; exact Below.refl _ _⟩
  | succ j => exact (num_err al j (by omega) w he).mono fun _ _ ⟨h1, h2⟩ => ⟨h1, h2⟩
theorem dgE_lt (rs : List Int) : dgE rs < 20 := by unfold dgE; split <;> (try split) <;> omega
/-- the marks still stand -/
theorem kept_own {W W' : World} {B F C : Nat} {p : List Int} {vb : Value} (ho : W.ownsRow B 3 1 (.slice (some ⟨F, 0, none⟩) (p.length + 80) C) (p.length + 80) (iz (p ++ mk7 80))) (hb : Below W.heap.size W W') (hR : RdZ W' vb p) (hn : p.length ≤ 17592186043904) :
    Calls Tryd.prog 21 #[.slice (some ⟨F, 0, none⟩) (p.length + 80) C, vb] W' fun e w' => e = .returned (.bool true) ∧ ∃ k, w' = W'.drewN k := by
  refine kept_m F 0 C vb p (mk7 80) W' (fun j hj => mk7_getD 80 j hj) (fun i hi => ?_) hR hn
  have c := ho.cellAt i (by omega)
  rw [iz_get _ i (by simp [mk7_len]; omega)] at c
  rw [Nat.zero_add, hb.cell (p := ⟨F, i, none⟩) (ho.lt F rfl).2, c]
set_option maxHeartbeats 4000000 in
theorem permDigits.walk (v : Value) (rs : List Int) (w : World) (al : List Addr) (he : Errs w al) (hR : InZ w v rs) (hn : rs.length ≤ 17592186043904) :
    Calls Tryd.prog 4 #[v] w fun e w' => e = .returned (.bool true) ∧ Below w.heap.size w w' := by
  have heH : Hid (Errs w al) := he
  have hRH : Hid (InZ w v rs) := hR
  clear he hR
  go_enter Tryd.func4, Tryd.ntmps4
  go_wp2_with fail
  refine (lives6_c w al heH.out).mono ?_
  rintro e w1 ⟨rfl, b1⟩
  have B1 : Hid (Below w.heap.size w w1) := b1
  clear b1
  go_wp2_with fail
  refine (spare_c v rs w1 (hRH.out.below B1.out) hn).mono ?_
  rintro e w2 ⟨F, C, rfl, ho, b2⟩
  have ho2 : Hid (w2.ownsRow w1.heap.size 3 1 (.slice (some ⟨F, 0, none⟩) (rs.length + 80) C) (rs.length + 80) (iz (rs ++ mk7 80))) := ho
  have B2 : Hid (Below w.heap.size w w2) := B1.out.trans (b2.mono B1.out.size)
  have R2 : Hid (RdZ w2 (.slice (some ⟨F, 0, none⟩) rs.length C) rs) := RdZ.mine ho
  clear ho b2 B1
  go_wp2_with fail
  refine (pDigits_c _ rs w2 al (heH.out.below B2.out) R2.out hn).mono ?_
  rintro e w3 ⟨va, rfl, ho, b3⟩
  have Ra : Hid (RdZ w3 va (dgL rs)) := RdZ.of_own ho
  have B3 : Hid (Below w.heap.size w w3) := B2.out.trans (b3.mono B2.out.size)
  have K3 : Hid (Below w2.heap.size w2 w3) := b3
  clear ho b3
  go_wp2_with fail
  refine (r6Digits_c v rs w3 (hRH.out.rd.below B3.out) hn).mono ?_
  rintro e w4 ⟨vb, rfl, ho, b4⟩
  have Rb : Hid (RdZ w4 vb (dgL rs)) := RdZ.of_own ho
  have Ra4 : Hid (RdZ w4 va (dgL rs)) := Ra.out.below b4
  have B4 : Hid (Below w.heap.size w w4) := B3.out.trans (b4.mono B3.out.size)
  have K4 : Hid (Below w2.heap.size w2 w4) := K3.out.trans (b4.mono K3.out.size)
  have hlen : Hid ((dgL rs).length < 9223372036854775807) := (by
    unfold dgL
    split
    · rename_i h; simp; have := (dgE_0' h).2; omega
    · simp : (dgL rs).length < 9223372036854775807)
  clear ho b4 B3 K3 Ra
  go_wp2_with fail
  refine (sameZ_c va vb (dgL rs) (dgL rs) w4 Ra4.out Rb.out hlen.out).mono ?_
  rintro e w5 ⟨rfl, q, rfl⟩
  rw [show decide (dgL rs = dgL rs) = true from decide_eq_true rfl]
  have B5 : Hid (Below w.heap.size w (w4.drewN q)) := below_drewN B4.out q
  have K5 : Hid (Below w2.heap.size w2 (w4.drewN q)) := below_drewN K4.out q
  generalize w4.drewN q = w5 at B5 K5 ⊢
  clear Ra4 Rb B4 K4 hlen
  go_wp2_with fail
  refine (num_er al (dgE rs) (dgE_lt rs) w5 (heH.out.below B5.out)).mono ?_
  rintro e w6 ⟨rfl, b6⟩
  have B6 : Hid (Below w.heap.size w w6) := B5.out.trans (b6.mono B5.out.size)
  have K6 : Hid (Below w2.heap.size w2 w6) := K5.out.trans (b6.mono K5.out.size)
  clear b6 B5 K5
  generalize dgE rs = en
  go_wp2_with fail
  refine (kept_own ho2.out K6.out (hRH.out.rd.below B6.out) hn).mono ?_
  rintro e w7 ⟨rfl, q, rfl⟩
  go_wp2
  go_ret
  exact ⟨rfl, below_drewN B6.out q⟩
end Go.Proofs.YtbhhbnhoknlonaaDoor
