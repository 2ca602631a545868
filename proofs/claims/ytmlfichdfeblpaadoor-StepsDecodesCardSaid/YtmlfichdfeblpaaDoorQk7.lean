/-
  Package pack: a Reader's Upto, Int, fixed.
-/
import Derived.Test.YtmlfichdfeblpaaDoorQk6
namespace Go.Proofs.YtmlfichdfeblpaaDoor
open Flo Go.RowKit
/-- a number of at most so much -/
def upr (most : Int) (r : Except Nat (Nat × Nat)) : Except Nat (Nat × Nat) := match r with | .ok (x, n) => if most < 0 ∨ most < (x : Int) then .error 2 else .ok (x, n) | .error c => .error c
theorem upr_err (most : Int) (c : Nat) : upr most (.error c) = .error c := rfl
theorem upr_lim {most : Int} {x n : Nat} (h : most < 0 ∨ most < (x : Int)) : upr most (.ok (x, n)) = .error 2 := if_pos h
theorem upr_ok {most : Int} {x n : Nat} (h : ¬ (most < 0 ∨ most < (x : Int))) : upr most (.ok (x, n)) = .ok (x, n) := if_neg h
theorem upr_bd {bs : List Nat} (h : ∀ b ∈ bs, b < 256) (k : Nat) (hk : k ≤ bs.length) (most : Int) : k + Pk.ud (upr most (Pk.rv 0 0 (bs.drop k))) ≤ bs.length := by
  have h1 := (Pk.rv_bd h k hk).2
  cases hr : Pk.rv 0 0 (bs.drop k) with
  | error c => exact hk
  | ok p =>
    obtain ⟨x, n⟩ := p
    rw [hr] at h1
    by_cases hl : most < 0 ∨ most < (x : Int)
    · rw [upr_lim hl]; exact hk
    · rw [upr_ok hl]; exact h1
set_option maxRecDepth 100000 in
set_option maxHeartbeats 4000000 in
theorem rupto_c (R : Nat → Prop) (g k : Nat) (most : Int) (bs : List Nat) (al : List Addr) (w : World) (h : Rr R w g bs k) (he : E4 w al) (hg : ¬ 4 = g) (hm : most ≤ 9223372036854775807) :
    Calls Tryd.prog 32 #[.pointer (some ⟨g, 0, none⟩), .int .i64 most] w fun e w' => e = .returned (.tuple #[.int .i64 (Pk.ux (upr most (Pk.rv 0 0 (bs.drop k))) : Nat), ue al (upr most (Pk.rv 0 0 (bs.drop k)))]) ∧ Rr R w' g bs (k + Pk.ud (upr most (Pk.rv 0 0 (bs.drop k)))) ∧ Fr (fun k => k = g) w w' := by
  have hH : Hid (Rr R w g bs k) := h
  have heH : Hid (E4 w al) := he
  have hc1 : w.cell? ⟨g, 1, none⟩ = some (.int .i64 (k : Int)) := by obtain ⟨v, h⟩ := h; exact h.c1
  have hbd : Hid (Pk.ux (Pk.rv 0 0 (bs.drop k)) < 18446744073709551616) := (Pk.rv_bd h.byt k h.le).1
  have hmore : Hid (∀ w', Fr (fun k => k = g) w w' → Rr R w' g bs (k + Pk.ud (Pk.rv 0 0 (bs.drop k))) → (w'.setCell ⟨g, 1, none⟩ (.int .i64 (k : Int))).cell? ⟨4, 0, none⟩ = some (ek al 2) ∧ (∃ u, w'.cell? ⟨g, 1, none⟩ = some u) ∧ w'.frozen? ⟨g, 1, none⟩ = false ∧ Rr R (w'.setCell ⟨g, 1, none⟩ (.int .i64 (k : Int))) g bs k) := by
    intro w' hf ⟨v, hv⟩
    refine ⟨?_, ⟨_, hv.c1⟩, hv.free, ⟨v, hv.move h.le⟩⟩
    rw [World.cell?_setCell_other _ _ _ _ (by simp)]
    exact hf.cell he.limit hg
  have hru := ruint_c R g k bs al w h he
  have hruH : Hid (Calls Tryd.prog 43 #[.pointer (some ⟨g, 0, none⟩)] w fun e w' => e = .returned (.tuple #[.int .u64 (Pk.ux (Pk.rv 0 0 (bs.drop k)) : Nat), ue al (Pk.rv 0 0 (bs.drop k))]) ∧ Rr R w' g bs (k + Pk.ud (Pk.rv 0 0 (bs.drop k))) ∧ Fr (fun k => k = g) w w') := hru
  clear hru h he
  generalize Pk.rv 0 0 (bs.drop k) = r at hbd hmore hruH ⊢
  go_enter Tryd.func32, Tryd.ntmps32
  go_wp2_with fail
  refine hruH.out.mono ?_
  rintro e w1 ⟨rfl, h1, h2⟩
  have h1H : Hid (Rr R w1 g bs (k + Pk.ud r)) := h1
  have h2H : Hid (Fr (fun k => k = g) w w1) := h2
  obtain ⟨c4, ⟨u, cu⟩, fz, hback⟩ := hmore.out w1 h2 h1
  have hbackH : Hid (Rr R (w1.setCell ⟨g, 1, none⟩ (.int .i64 (k : Int))) g bs k) := hback
  clear h1 h2 hback hmore hruH
  cases r with
  | error c =>
    have hq := nnil_c al c
    have hgd := guard_c al c
    have hue : ue al (Except.error c : Except Nat (Nat × Nat)) = ek al c := rfl
    go_wp2
    go_ret2
    exact ⟨rfl, h1H.out, h2H.out⟩
  | ok p =>
    obtain ⟨x, n⟩ := p
    have hbx : x < 18446744073709551616 := hbd.out
    have hue : ue al (Except.ok (x, n) : Except Nat (Nat × Nat)) = .nilIface := rfl
    have hux : Pk.ux (Except.ok (x, n)) = x := rfl
    by_cases hm0 : most < 0
    · have hfin : Hid (upr most (.ok (x, n)) = .error 2) := upr_lim (.inl hm0)
      clear hbd
      go_wp2
      go_region
      go_wp2
      go_ret2
      rw [hfin.out]
      exact ⟨rfl, hbackH.out.qt (Qt.drew _), (h2H.out.setCell rfl _).drew⟩
    · obtain ⟨M, rfl⟩ := Int.eq_ofNat_of_zero_le (show 0 ≤ most by omega)
      have hm0' : decide ((M : Int) < 0) = false := decide_eq_false (by omega)
      have hwr : IntKind.u64.wrap (M : Int) = (M : Int) := wrapId _ (by omega)
      by_cases hx : M < x
      · have hfin : Hid (upr (M : Int) (.ok (x, n)) = .error 2) := upr_lim (.inr (by omega))
        have hx' : (M : Int) < (x : Int) := by omega
        clear hbd
        go_wp2
        go_region
        go_wp2
        go_ret2
        rw [hfin.out]
        exact ⟨rfl, hbackH.out.qt (Qt.drew _), (h2H.out.setCell rfl _).drew⟩
      · have hfin : Hid (upr (M : Int) (.ok (x, n)) = .ok (x, n)) := upr_ok (by omega)
        have hx' : decide ((M : Int) < (x : Int)) = false := decide_eq_false (by omega)
        have hx2 : ¬ M < x := hx
        have hxb : x ≤ 9223372036854775807 := by omega
        clear hbd
        go_wp2
        go_ret2
        rw [hfin.out]
        exact ⟨rfl, h1H.out, h2H.out⟩
end Go.Proofs.YtmlfichdfeblpaaDoor
