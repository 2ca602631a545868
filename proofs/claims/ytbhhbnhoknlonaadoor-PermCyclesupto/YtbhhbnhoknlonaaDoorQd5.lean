/-
  The contract of package perm's Check; the statements' own 'lives' of layer 6.
-/
import Derived.Test.YtbhhbnhoknlonaaDoorQd3
import Derived.Test.YtbhhbnhoknlonaaDoorPq2
import Derived.Deep.RegionWith
namespace Go.Proofs.YtbhhbnhoknlonaaDoor
open Flo Go.RowKit

/-- the sentinel that Check answers -/
def ErP (w : World) (al : List Addr) : Prop := w.cell? ⟨0, 0, none⟩ = some (ek al 11)
theorem ErP.below {w w' : World} {al : List Addr} (h : ErP w al) (hb : Below w.heap.size w w') : ErP w' al := (hb.cell (p := ⟨0, 0, none⟩) (cell_lt h)).trans h
theorem Errs.perm {w : World} {al : List Addr} (h : Errs w al) : ErP w al := errPerm_cell h
theorem E3.perm {w : World} {al : List Addr} (h : E3 w al) : ErP w al := h.perm3
/-- Check's answer, by its number -/
def ckN (p : List Int) : Nat := if ckB p then 0 else 12
theorem ckN_true {p : List Int} (h : ckB p = true) : ckN p = 0 := by unfold ckN; rw [if_pos h]
theorem ckN_false {p : List Int} (h : ckB p = false) : ckN p = 12 := by unfold ckN; rw [if_neg (by rw [h]; decide)]
theorem ckE_N (p : List Int) : ckE p = (ckN p : Nat) := by unfold ckE ckN; split <;> rfl
theorem ckN_no {p : List Int} {j : Nat} (hj : j < p.length) (h : ¬ okAt p j) : ckN p = 12 := by
  have := ckB_no hj h; rw [ckE_N] at this; omega
theorem ckN_yes {p : List Int} (h : ∀ j, j < p.length → okAt p j) : ckN p = 0 := by
  have := ckB_yes h; rw [ckE_N] at this; omega
theorem ret_er {al : List Addr} {v : Value} {n m : Nat} (h : n = m) (e : v = er al m) : Ending.returned v = .returned (er al n) := by rw [h, e]
set_option maxHeartbeats 2000000 in
theorem pCheck_c (v : Value) (p : List Int) (w : World) (al : List Addr) (he : ErP w al) (hR : RdZ w v p) (hn : p.length ≤ 1099511627776) :
    Calls Tryd.prog 9 #[v] w fun e w' => e = .returned (er al (ckN p)) ∧ Below w.heap.size w w' := by
  have heH : Hid (ErP w al) := he
  clear he
  obtain ⟨ao, cap, rfl, hrd⟩ := hR
  have hRH : Hid (p ≠ [] → ∃ b off, ao = some ⟨b, off, none⟩ ∧ b < w.heap.size ∧ ∀ i, i < p.length → w.cell? ⟨b, off + i, none⟩ = some (.int .i64 (p.getD i 0))) := hrd
  obtain ⟨n, hnn⟩ : ∃ n, p.length = n := ⟨_, rfl⟩
  have hnH : Hid (p.length = n) := hnn
  rw [hnn] at hn ⊢
  obtain ⟨w1, hmk, hrow, hb1⟩ := makeB w n hn
  clear hrd hnn
  go_enter Tryd.func9, Tryd.ntmps9
  go_wp2
  clear hmk
  go_loopw [5, 11] (fun _ si wx => ∃ i : Nat, i ≤ n ∧ si = .int .i64 (i : Int) ∧ Hid (wx.ownsRow w.heap.size 4 1 (.slice (some ⟨w.heap.size, 0, none⟩) n n) n (sn p n i)) ∧ Hid (∀ j, j < i → okAt p j) ∧ Hid (Below w.heap.size w wx)) (fun _ si _ => n - (intOf si).toNat)
  case atStart => exact ⟨0, Nat.zero_le _, rfl, (by rw [sn_0]; exact hrow.out), fun j hj => absurd hj (by omega), hb1⟩
  case round =>
    clear hrow hb1
    obtain ⟨i, hi, rfl, hrow, hok, hb⟩ := hrel
    by_cases hlt : i < n
    · have hlt' : (i : Int) < (n : Int) := by omega
      have hil : i < p.length := by rw [hnH.out]; exact hlt
      obtain ⟨b, off, rfl, hbw, hcell⟩ := hRH.out (fun e => by rw [e] at hil; simp at hil)
      have c1 : wr.cell? ⟨b, off + i, none⟩ = some (.int .i64 (p.getD i 0)) := (hb.out.cell (p := ⟨b, off + i, none⟩) hbw).trans (hcell i hil)
      have hokI : Hid (okAt p i ↔ 0 ≤ p.getD i 0 ∧ p.getD i 0 < n ∧ p.getD i 0 ∉ p.take i) := (by unfold okAt; rw [hnH.out] : okAt p i ↔ 0 ≤ p.getD i 0 ∧ p.getD i 0 < n ∧ p.getD i 0 ∉ p.take i)
      have hbad : Hid (¬ okAt p i → ckN p = 12) := fun h => ckN_no hil h
      have hv : wr.cell? ⟨0, 0, none⟩ = some (ek al 11) := heH.out.below hb.out
      obtain ⟨x, hx⟩ : ∃ x, p.getD i 0 = x := ⟨_, rfl⟩
      have hxH : Hid (p.getD i 0 = x) := hx
      rw [hx] at c1 hokI
      clear hcell hx
      by_cases x0 : x < 0
      · have hf : Hid (ckN p = 12) := hbad.out (fun h => by have := (hokI.out.1 h).1; omega)
        clear hokI hbad hok
        go_wp2
        go_ret
        exact ⟨ret_er hf.out rfl, hb.out⟩
      · have d0 : decide (x < 0) = false := decide_eq_false x0
        by_cases x1 : (n : Int) ≤ x
        · have hf : Hid (ckN p = 12) := hbad.out (fun h => by have := (hokI.out.1 h).2.1; omega)
          clear hokI hbad hok x0
          go_wp2
          go_ret
          exact ⟨ret_er hf.out rfl, hb.out⟩
        · have d1 : decide ((n : Int) ≤ x) = false := decide_eq_false x1
          obtain ⟨y, rfl⟩ : ∃ y : Nat, x = (y : Int) := ⟨x.toNat, by omega⟩
          have hy : y < n := by omega
          have hy' : (y : Int) < (n : Int) := by omega
          have c2 := hrow.out.cellAt y (by omega)
          rw [sn_get p hy] at c2
          have f2 := hrow.out.frozenAt y
          by_cases hin : (y : Int) ∈ p.take i
          · rw [decide_eq_true hin] at c2
            have hf : Hid (ckN p = 12) := hbad.out (fun h => (hokI.out.1 h).2.2 hin)
            clear hokI hbad hok hin x0 x1
            go_wp2
            go_ret
            exact ⟨ret_er hf.out rfl, hb.out⟩
          · rw [decide_eq_false hin] at c2
            have hok2 : Hid (∀ j, j < i + 1 → okAt p j) := fun j hj => if e : j = i then by rw [e]; exact hokI.out.2 ⟨by omega, by omega, hin⟩ else hok.out j (by omega)
            have hst := hrow.out.stored y (.bool true)
            rw [sn_step hil hxH.out] at hst
            have hst1 : Hid ((wr.setCell ⟨w.heap.size, y, none⟩ (.bool true)).ownsRow w.heap.size 4 1 (.slice (some ⟨w.heap.size, 0, none⟩) n n) n (sn p n (i + 1))) := hst.1
            have hb2 : Hid (Below w.heap.size w (wr.setCell ⟨w.heap.size, y, none⟩ (.bool true))) := hb.out.setCell (p := ⟨w.heap.size, y, none⟩) (Nat.le_refl _) _
            clear hokI hbad hok hin x0 x1 hst hv
            go_wp2
            go_roundw
            case rel => exact ⟨i + 1, by omega, by go_num, hst1, hok2, hb2⟩
            case measure => simp [intOf]; omega
    · have hlt' : decide ((i : Int) < (n : Int)) = false := decide_eq_false (by omega)
      have hf : Hid (ckN p = 0) := (ckN_yes (fun j hj => hok.out j (by rw [hnH.out] at hj; omega)))
      go_wp2
      go_ret
      exact ⟨ret_er hf.out rfl, hb.out⟩
/-- a list of ints that was just written out -/
theorem RdZ.made (w : World) (zs : List Int) (cap : Nat) : RdZ (w.alloc (.cells (iz zs).toArray 3)) (.slice (some ⟨w.heap.size, 0, none⟩) zs.length cap) zs := by
  refine ⟨_, cap, rfl, fun _ => ⟨w.heap.size, 0, rfl, by simp, fun i hi => ?_⟩⟩
  rw [Nat.zero_add, ← iz_get zs i hi]
  simp
theorem dg23 : dgE [2, 3] = 0 ∧ dgL [2, 3] = [0, 3, 1, 4, 2, 5] := by decide +kernel
theorem ck00 : ckN [0, 0] = 12 := by decide +kernel
set_option maxHeartbeats 4000000 in
theorem lives6_c (w : World) (al : List Addr) (he : E3 w al) :
    Calls Tryd.prog 6 #[] w fun e w' => e = .returned (.bool true) ∧ Below w.heap.size w w' := by
  have heH : Hid (E3 w al) := he
  clear he
  go_enter Tryd.func6, Tryd.ntmps6
  go_wp2_with fail
  have b0 : Below w.heap.size w (w.alloc (.cells (iz [2, 3]).toArray 3)) := (Below.refl _ _).alloc (Nat.le_refl _) _
  refine (pDigits_c _ [2, 3] _ al (heH.out.below b0) (RdZ.made w [2, 3] 2) (by decide)).mono ?_
  rintro e w1 ⟨v1, rfl, ho, b1⟩
  rw [dg23.1, dg23.2] at *
  have r1 : Hid (RdZ w1 v1 [0, 3, 1, 4, 2, 5]) := RdZ.of_own ho
  have B1 : Hid (Below w.heap.size w w1) := b0.trans (b1.mono b0.size)
  have E1 : Hid (E3 w1 al) := heH.out.below B1.out
  have en : er al 0 = .nilIface := rfl
  rw [en]
  clear b0 b1 ho en
  have hv : w1.cell? ⟨0, 0, none⟩ = some (ek al 11) := E1.out.perm
  have hva := fun o => cell_alloc hv o
  have b5 : Below w1.heap.size w1 ((w1.alloc (.cells (iz [0, 3, 1, 4, 2, 5]).toArray 3)).drew) := ((Below.refl _ _).alloc (Nat.le_refl _) _).drew
  have hs : Hid (∀ v (P : Ending → World → Prop), (∀ W, Below w1.heap.size w1 W → P (.returned (.bool true)) W) → v = Value.slice (some ⟨w1.heap.size, 0, none⟩) 6 6 → Calls Tryd.prog 13 #[v1, v] ((w1.alloc (.cells (iz [0, 3, 1, 4, 2, 5]).toArray 3)).drew) P) := by
    intro v P hP hv
    subst hv
    refine (sameZ_c v1 _ [0, 3, 1, 4, 2, 5] [0, 3, 1, 4, 2, 5] _ (r1.out.below b5) (RdZ.made w1 [0, 3, 1, 4, 2, 5] 6) (by decide)).mono ?_
    rintro e w2 ⟨rfl, q, rfl⟩
    rw [show decide (([0, 3, 1, 4, 2, 5] : List Int) = [0, 3, 1, 4, 2, 5]) = true from by decide]
    exact hP _ (below_drewN b5 q)
  clear b5
  go_wp2
  go_region_with (first
    | (go_at_call 13; refine hs.out _ _ ?_ rfl; intro w2 b2; have E2 : Hid (E3 w2 al) := E1.out.below b2; have hv2 : w2.cell? ⟨0, 0, none⟩ = some (ek al 11) := E2.out.perm; have hva2 := fun o => cell_alloc hv2 o; have B2 : Hid (Below w.heap.size w w2) := B1.out.trans (b2.mono B1.out.size); clear b2)
    | (go_at_call 9; refine (pCheck_c _ [0, 0] _ al (hva2 _) (RdZ.made w2 [0, 0] 2) (by decide)).mono ?_; rintro e w3 ⟨rfl, b3⟩; rw [ck00]; have Ez : Hid (E3 w3 al) := E2.out.below (((Below.refl _ _).alloc (Nat.le_refl _) _).trans (b3.mono (by simp))); have hv3 : w3.cell? ⟨0, 0, none⟩ = some (ek al 11) := Ez.out.perm; have B3 : Hid (Below w.heap.size w w3) := (B2.out.alloc B2.out.size _).trans (b3.mono (by have := B2.out.size; simp; omega)); clear b3; have en : er al 12 = ek al 11 := rfl; rw [en]; have hq := eql_self al 11 w3; have hgd := guard_c al 11))
  all_goals go_wp2
  all_goals go_ret
  all_goals exact ⟨rfl, B3.out⟩
end Go.Proofs.YtbhhbnhoknlonaaDoor
