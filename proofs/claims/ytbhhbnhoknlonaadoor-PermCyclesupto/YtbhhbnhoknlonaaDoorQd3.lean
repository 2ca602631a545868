/-
  The contract of package perm's Digits.
-/
import Derived.Test.YtbhhbnhoknlonaaDoorQd2
namespace Go.Proofs.YtbhhbnhoknlonaaDoor
open Flo Go.RowKit

/-- an error by its number, 0: nil -/
def er (al : List Addr) (n : Nat) : Value := if n = 0 then .nilIface else ek al (n - 1)
theorem make1 (w : World) (n : Nat) (h1 : 1 ≤ n) (hn : n ≤ 16384) :
    ∃ w', (Instr.makeSlice 22 (.int .i64 1) (.int .i64 (n : Int))).run Tryd.prog w = .ok (.slice (some ⟨w.heap.size, 0, none⟩) 1 n) w' ∧
      Hid (w'.ownsRow w.heap.size 3 1 (.slice (some ⟨w.heap.size, 0, none⟩) 1 n) 1 [.int .i64 0]) ∧ Hid (Below w.heap.size w w') := by
  obtain ⟨i0, hi0, hz0, hz1, hz2⟩ := info_parts infoInt
  have h := run_make (P := Tryd.prog) w 22 3 i0 (.int .i64 0) Tryd.underlying22 hi0 hz0 .i64 .i64 1 (n : Int) (by omega) (by omega) (by rw [hz2]; omega) (by omega)
  rw [hz1, Int.toNat_natCast, Nat.mul_one] at h
  refine ⟨_, h, ⟨rfl, .inr ⟨w.heap.size, n, madeCells #[.int .i64 0] n, rfl, Nat.le_refl _, heap_alloc_new w _, h1, by unfold maxLen; omega, by rw [Nat.mul_one]; exact size_madeCells _ _, ?_⟩⟩, (Below.refl _ w).alloc (Nat.le_refl _) _⟩
  rw [toList_madeCells_one, List.take_replicate, Nat.min_eq_left (by omega)]
  rfl
theorem tn_one {rs : List Int} {j : Nat} (h : Dgx.rx rs j = 1) (x : Nat) : Dgx.tn rs x (j + 1) = Dgx.tn rs x j := by
  show Dgx.tn rs x j * Dgx.rx rs j + (x / Dgx.pn rs j) % Dgx.rx rs j = _
  rw [h, Nat.mul_one, Nat.mod_one, Nat.add_zero]
theorem pn_one {rs : List Int} {j : Nat} (h : Dgx.rx rs j = 1) : Dgx.pn rs (j + 1) = Dgx.pn rs j := by
  show Dgx.pn rs j * Dgx.rx rs j = _
  rw [h, Nat.mul_one]
theorem fl_one {rs : List Int} {j : Nat} (h : Dgx.rx rs j = 1) : fl (fun x => Dgx.tn rs x (j + 1)) (Dgx.pn rs (j + 1)) = fl (fun x => Dgx.tn rs x j) (Dgx.pn rs j) := by
  rw [pn_one h]; exact fl_congr fun i _ => tn_one h i
theorem fl_more {rs : List Int} (hok : Dgx.ok rs) {j r : Nat} (hj : j < rs.length) (h : Dgx.rx rs j = r) : fl (hdf (fun x => Dgx.tn rs x j) r (Dgx.pn rs j)) (Dgx.pn rs j * r) = fl (fun x => Dgx.tn rs x (j + 1)) (Dgx.pn rs (j + 1)) := by
  subst h
  refine fl_congr fun k hk => ?_
  unfold hdf
  exact (Dgx.tn_step hok hj (Nat.div_lt_of_lt_mul hk)).symm
set_option maxHeartbeats 2000000 in
theorem pDigits_c (v : Value) (rs : List Int) (w : World) (al : List Addr) (he : E3 w al) (hR : RdZ w v rs) (hn : rs.length ≤ 17592186043904) :
    Calls Tryd.prog 22 #[v] w fun e w' => ∃ v', e = .returned (.tuple #[v', er al (dgE rs)]) ∧ w'.ownsRow w.heap.size 3 1 v' (dgL rs).length (iz (dgL rs)) ∧ Below w.heap.size w w' := by
  have hR0 : Hid (RdZ w v rs) := hR
  obtain ⟨ao, cap, rfl, hrd⟩ := hR
  have hRH : Hid (rs ≠ [] → ∃ b off, ao = some ⟨b, off, none⟩ ∧ b < w.heap.size ∧ ∀ i, i < rs.length → w.cell? ⟨b, off + i, none⟩ = some (.int .i64 (rs.getD i 0))) := hrd
  have heH : Hid (E3 w al) := he
  have n4 := nnil_c al 4
  have n6 := nnil_c al 6
  have g4 := guard_c al 4
  have g6 := guard_c al 6
  clear he hrd
  go_enter Tryd.func22, Tryd.ntmps22
  go_wp2_with fail
  refine (product_c _ rs _ al heH.out hR0.out hn).mono ?_
  rintro e w0 ⟨⟨k, rfl⟩, (⟨hE, rfl⟩ | ⟨hE, rfl⟩ | ⟨hE, rfl⟩)⟩
  · have hok : Hid (Dgx.ok rs) := (dgE_0' hE).1
    have hp := (dgE_0' hE).2
    have hp1 := Dgx.pn_pos hok.out (Nat.le_refl rs.length)
    have hEH : Hid (dgE rs = 0) := hE
    obtain ⟨N, hN⟩ : ∃ N : Nat, Dgx.pn rs rs.length = N := ⟨_, rfl⟩
    have hNH : Hid (Dgx.pn rs rs.length = N) := hN
    rw [hN] at hp hp1 ⊢
    obtain ⟨n, hnn⟩ : ∃ n, rs.length = n := ⟨_, rfl⟩
    have hnH : Hid (rs.length = n) := hnn
    rw [hnn] at hn ⊢
    generalize hw1 : w.drewN k = w1
    have hw : Hid (w.drewN k = w1) := hw1
    have hsz : Hid (w1.heap.size = w.heap.size) := (by rw [← hw1]; rfl : w1.heap.size = w.heap.size)
    obtain ⟨w2, hmk, hrow, hb1⟩ := make1 w1 N hp1 hp
    have hB1 : Hid (Below w.heap.size w w2) := (by
      have h1 : Below w.heap.size w w1 := by rw [← hw1]; exact below_drewN (Below.refl _ _) k
      exact h1.trans (by rw [← hsz.out]; exact hb1.out) : Below w.heap.size w w2)
    have hrow1 : Hid (w2.ownsRow w.heap.size 3 1 (.slice (some ⟨w1.heap.size, 0, none⟩) 1 N) (Dgx.pn rs 0) (fl (fun x => Dgx.tn rs x 0) (Dgx.pn rs 0))) := (by
      rw [← hsz.out]; exact hrow.out : w2.ownsRow w.heap.size 3 1 (.slice (some ⟨w1.heap.size, 0, none⟩) 1 N) (Dgx.pn rs 0) (fl (fun x => Dgx.tn rs x 0) (Dgx.pn rs 0)))
    clear hE hN hnn hw1 n4 n6 g4 g6 hrow hb1
    go_wp2
    clear hmk hp hp1
    go_loopw [6, 8, 21] (fun sv _ si wx => ∃ i : Nat, i ≤ n ∧ si = .int .i64 (i : Int) ∧ Hid (wx.ownsRow w.heap.size 3 1 sv (Dgx.pn rs i) (fl (fun x => Dgx.tn rs x i) (Dgx.pn rs i))) ∧ Hid (Below w.heap.size w wx)) (fun _ _ si _ => n - (intOf si).toNat)
    case atStart => exact ⟨0, Nat.zero_le _, rfl, hrow1, hB1⟩
    case round =>
      clear hrow1 hB1
      obtain ⟨i, hi, rfl, hrow, hb⟩ := hrel
      by_cases hlt : i < n
      · have hlt' : (i : Int) < (n : Int) := by omega
        have hil : i < rs.length := by rw [hnH.out]; exact hlt
        obtain ⟨b, off, rfl, hbw, hcell⟩ := hRH.out (fun e => by rw [e] at hil; simp at hil)
        obtain ⟨y, hy⟩ : ∃ y : Nat, rs.getD i 0 = (y : Int) := ⟨(rs.getD i 0).toNat, by have := hok.out i hil; omega⟩
        have hy1 : 1 ≤ y := by have := hok.out i hil; omega
        have c1 : wr.cell? ⟨b, off + i, none⟩ = some (.int .i64 (y : Int)) := by
          rw [← hy]; exact (hb.out.cell (p := ⟨b, off + i, none⟩) hbw).trans (hcell i hil)
        have hrx : Dgx.rx rs i = y := by unfold Dgx.rx; rw [hy, Int.toNat_natCast]
        have hpn2 : Dgx.pn rs (i + 1) ≤ 16384 := Nat.le_trans (Dgx.pn_mono hok.out (show i + 1 ≤ rs.length by omega) (Nat.le_refl _)) (dgE_0' hEH.out).2
        have hpn0 : Dgx.pn rs i ≤ 16384 := Nat.le_trans (Dgx.pn_mono hok.out (show i ≤ rs.length by omega) (Nat.le_refl _)) (dgE_0' hEH.out).2
        have hpn1 : 1 ≤ Dgx.pn rs i := Dgx.pn_pos hok.out (by omega)
        have hlt2 : ∀ x, Dgx.tn rs x i < 16384 := fun x => Nat.lt_of_lt_of_le (Dgx.tn_lt hok.out x (by omega)) hpn0
        clear hcell hy
        by_cases y1 : y = 1
        · subst y1
          have hrow2 : Hid (wr.ownsRow w.heap.size 3 1 u6 (Dgx.pn rs (i + 1)) (fl (fun x => Dgx.tn rs x (i + 1)) (Dgx.pn rs (i + 1)))) := (by
            rw [fl_one hrx, pn_one hrx]; exact hrow.out : wr.ownsRow w.heap.size 3 1 u6 (Dgx.pn rs (i + 1)) (fl (fun x => Dgx.tn rs x (i + 1)) (Dgx.pn rs (i + 1))))
          clear hrow hpn2 hpn0 hpn1 hlt2 hrx
          go_wp2_with fail
          refine (withDigit_1 _ _).mono ?_
          rintro e w3 ⟨rfl, rfl⟩
          go_wp2
          go_roundw
          case rel => exact ⟨i + 1, by omega, by go_num, hrow2, hb⟩
          case measure => simp [intOf]; omega
        · have hy2 : 2 ≤ y := by omega
          have hrow0 := hrow.out
          have hp0 : Dgx.pn rs i * y ≤ 16384 := by rw [← hrx]; exact hpn2
          have hrxH : Hid (Dgx.rx rs i = y) := hrx
          have hsz2 := hb.out.size
          obtain ⟨P, hP⟩ : ∃ P, Dgx.pn rs i = P := ⟨_, rfl⟩
          have hPH : Hid (Dgx.pn rs i = P) := hP
          obtain ⟨f, hf⟩ : ∃ f : Nat → Nat, (fun x => Dgx.tn rs x i) = f := ⟨_, rfl⟩
          have hfH : Hid ((fun x => Dgx.tn rs x i) = f) := hf
          have hlt3 : Hid (∀ x, f x < 16384) := (by rw [← hf]; exact hlt2 : ∀ x, f x < 16384)
          rw [hf, hP] at hrow0
          rw [hP] at hpn1 hp0
          have hrow0H : Hid (wr.ownsRow w.heap.size 3 1 u6 P (fl f P)) := hrow0
          have hp0H : Hid (P * y ≤ 16384) := hp0
          clear hrow hpn2 hpn0 hlt2 hrx hP hf hrow0 hp0
          go_wp2_with fail
          refine (withDigit_c w.heap.size _ P y f _ hrow0H.out hsz2 hpn1 hy2 hp0H.out hlt3.out).mono ?_
          rintro e w3 ⟨v3, rfl, ho3, hb3⟩
          have hrow2 : Hid (w3.ownsRow w.heap.size 3 1 v3 (Dgx.pn rs (i + 1)) (fl (fun x => Dgx.tn rs x (i + 1)) (Dgx.pn rs (i + 1)))) := (by
            rw [← fl_more hok.out hil hrxH.out, hfH.out, hPH.out, show Dgx.pn rs (i + 1) = P * y by rw [← hPH.out, ← hrxH.out]; rfl]; exact ho3 : w3.ownsRow w.heap.size 3 1 v3 (Dgx.pn rs (i + 1)) (fl (fun x => Dgx.tn rs x (i + 1)) (Dgx.pn rs (i + 1))))
          have hb4 : Hid (Below w.heap.size w w3) := hb.out.trans hb3
          clear ho3 hb3 hb
          go_wp2
          go_roundw
          case rel => exact ⟨i + 1, by omega, by go_num, hrow2, hb4⟩
          case measure => simp [intOf]; omega
      · have hlt' : decide ((i : Int) < (n : Int)) = false := decide_eq_false (by omega)
        have ei : i = n := by omega
        subst ei
        go_wp2
        go_ret2
        refine ⟨u6, by rw [hEH.out]; rfl, ?_, hb.out⟩
        rw [dgL_iz hEH.out, dgL_len hEH.out, hnH.out]
        exact hrow.out
  · have hf : Hid (dgL rs = [] ∧ er al (dgE rs) = ek al 4) := ⟨dgL_no (by omega), by rw [hE]; rfl⟩
    clear hE n6 g6
    go_wp2
    go_ret2
    exact ⟨_, by rw [hf.out.2]; rfl, by rw [hf.out.1]; exact World.ownsRow_nil _ _ _ _, below_drewN (Below.refl _ _) k⟩
  · have hf : Hid (dgL rs = [] ∧ er al (dgE rs) = ek al 6) := ⟨dgL_no (by omega), by rw [hE]; rfl⟩
    clear hE n4 g4
    go_wp2
    go_ret2
    exact ⟨_, by rw [hf.out.2]; rfl, by rw [hf.out.1]; exact World.ownsRow_nil _ _ _ _, below_drewN (Below.refl _ _) k⟩
end Go.Proofs.YtbhhbnhoknlonaaDoor
