/-
  Layer 10: Forward, Inverse and Slide of every list, the program's and the document's, refused or not.
-/
import Derived.Test.YtehaokdjdhejlaaDoorDd6
import Derived.Test.YtehaokdjdhejlaaDoorDp6
import Derived.Test.YtehaokdjdhejlaaDoorFrm
namespace Go.Proofs.YtehaokdjdhejlaaDoor
open Flo Go.RowKit
/-- is a length refused -/
def bad (n : Nat) : Bool := decide (n < 1 ∨ 1024 < n)
def lnN (n : Nat) : Nat := if bad n = true then 0 else n
def lnE (n : Nat) : Nat := if bad n = true then 7 else 0
theorem bad_t {n : Nat} (h : bad n = true) : (n < 1 ∨ 1024 < n) ∧ lnN n = 0 ∧ lnE n = 7 := ⟨of_decide_eq_true h, if_pos h, if_pos h⟩
theorem bad_f {n : Nat} (h : bad n = false) : 0 < n ∧ n ≤ 1024 ∧ lnN n = n ∧ lnE n = 0 := by
  have h1 := of_decide_eq_false h
  exact ⟨by omega, by omega, if_neg (by rw [h]; decide), if_neg (by rw [h]; decide)⟩
theorem Gro.nil (w : World) (B : Nat) (F : Nat → Nat × Nat) : Gro w B 0 (.slice none 0 0) F [] :=
  ⟨World.ownsRow_nil w B _ _, rfl, fun i hi => absurd hi (Nat.not_lt_zero i), fun i hi => absurd hi (Nat.not_lt_zero i)⟩
theorem Row.gro {w : World} {B g n : Nat} {F : Nat → Nat × Nat} {us : List (Nat × Nat)} (h : Row w g g n F n us) (hB : B ≤ g) : Gro w B n (.slice (some ⟨g, 0, none⟩) n n) F us := ⟨own_base h.own hB, h.len, h.lim, h.up⟩
/-- what a call of the program answers -/
def Pa (al : List Addr) (w : World) (n : Nat) (F : Nat → Nat × Nat) (e : Ending) (w' : World) : Prop :=
  ∃ vy er us, e = .returned (.tuple #[vy, er]) ∧ Er al er (lnE n) ∧ Gro w' w.heap.size (lnN n) vy F us ∧ Below w.heap.size w w'
/-- what a call of the document's answers -/
def Ra (w : World) (n : Nat) (F : Nat → Nat × Nat) (e : Ending) (w' : World) : Prop :=
  ∃ vz us, e = .returned (.tuple #[vz, .int .i64 (lnE n : Nat)]) ∧ Gro w' w.heap.size (lnN n) vz F us ∧ Below w.heap.size w w'
theorem pF_c (v : Value) (zs : List (Nat × Nat)) (n : Nat) (w : World) (al : List Addr) (he : Errs w al) (hx : RdC w v zs) (hl : Lim zs) (hz : zs.length = n) :
    Calls Tryd.prog 12 #[v] w (Pa al w n (fun k => dsm n k fun j => zs.getD j (0, 0))) := by
  cases hb : bad n
  · obtain ⟨h1, h2, h3, h4⟩ := bad_f hb
    refine (forwardOk_c v zs n w hx hl hz h1 h2).mono ?_
    rintro e w' ⟨g, us, rfl, hg, R, B⟩
    exact ⟨_, _, us, rfl, by rw [h4]; exact Er.nil al, by rw [h3]; exact R.gro hg, B⟩
  · obtain ⟨h1, h3, h4⟩ := bad_t hb
    obtain ⟨ao, cap, rfl⟩ := hx.slice hz
    refine (forwardNo_c ao n cap w al he h1).mono ?_
    rintro e w' ⟨rfl, B⟩
    exact ⟨_, _, [], rfl, by rw [h4]; exact Er.mk al 6 (by decide), by rw [h3]; exact Gro.nil _ _ _, B⟩
theorem pI_c (v : Value) (zs : List (Nat × Nat)) (n : Nat) (w : World) (al : List Addr) (he : Errs w al) (hx : RdC w v zs) (hl : Lim zs) (hz : zs.length = n) :
    Calls Tryd.prog 17 #[v] w (Pa al w n (fun k => ivk n k fun j => zs.getD j (0, 0))) := by
  cases hb : bad n
  · obtain ⟨h1, h2, h3, h4⟩ := bad_f hb
    refine (inverseOk_c v zs n w hx hl hz h1 h2).mono ?_
    rintro e w' ⟨g, us, rfl, hg, R, B⟩
    exact ⟨_, _, us, rfl, by rw [h4]; exact Er.nil al, by rw [h3]; exact R.gro hg, B⟩
  · obtain ⟨h1, h3, h4⟩ := bad_t hb
    obtain ⟨ao, cap, rfl⟩ := hx.slice hz
    refine (inverseNo_c ao n cap w al he h1).mono ?_
    rintro e w' ⟨rfl, B⟩
    exact ⟨_, _, [], rfl, by rw [h4]; exact Er.mk al 6 (by decide), by rw [h3]; exact Gro.nil _ _ _, B⟩
theorem pS_c (v : Value) (g1 g2 v1 v2 : Nat) (zs : List (Nat × Nat)) (n : Nat) (w : World) (al : List Addr) (he : Errs w al) (hx : RdC w v zs) (hz : zs.length = n) :
    Calls Tryd.prog 19 #[v, .complex .f64 g1 g2, .complex .f64 v1 v2] w (Pa al w n (sld n (g1, g2) (v1, v2) fun j => zs.getD j (0, 0))) := by
  cases hb : bad n
  · obtain ⟨h1, h2, h3, h4⟩ := bad_f hb
    refine (slideOk_c v g1 g2 v1 v2 zs n w hx hz h1 h2).mono ?_
    rintro e w' ⟨g, us, rfl, hg, R, B⟩
    exact ⟨_, _, us, rfl, by rw [h4]; exact Er.nil al, by rw [h3]; exact R.gro hg, B⟩
  · obtain ⟨h1, h3, h4⟩ := bad_t hb
    obtain ⟨ao, cap, rfl⟩ := hx.slice hz
    refine (slideNo_c ao n cap g1 g2 v1 v2 w al he h1).mono ?_
    rintro e w' ⟨rfl, B⟩
    exact ⟨_, _, [], rfl, by rw [h4]; exact Er.mk al 6 (by decide), by rw [h3]; exact Gro.nil _ _ _, B⟩
theorem rF_c (v : Value) (zs : List (Nat × Nat)) (n : Nat) (w : World) (hx : RdC w v zs) (hl : Lim zs) (hz : zs.length = n) :
    Calls Tryd.prog 13 #[v] w (Ra w n (fun k => dsm n k fun j => zs.getD j (0, 0))) := by
  cases hb : bad n
  · obtain ⟨h1, h2, h3, h4⟩ := bad_f hb
    refine (fwOk_c v zs n w hx hl hz h1 h2).mono ?_
    rintro e w' ⟨v', us, rfl, R, B⟩
    exact ⟨_, us, by rw [h4]; rfl, by rw [h3]; exact R, B⟩
  · obtain ⟨h1, h3, h4⟩ := bad_t hb
    obtain ⟨ao, cap, rfl⟩ := hx.slice hz
    refine (fwNo_c ao n cap w h1).mono ?_
    rintro e w' ⟨rfl, rfl⟩
    exact ⟨_, [], by rw [h4]; rfl, by rw [h3]; exact Gro.nil _ _ _, Below.refl _ _⟩
theorem rI_c (v : Value) (zs : List (Nat × Nat)) (n : Nat) (w : World) (hx : RdC w v zs) (hl : Lim zs) (hz : zs.length = n) (hn : n ≤ 8796093022000) :
    Calls Tryd.prog 18 #[v] w (Ra w n (fun k => ivk n k fun j => zs.getD j (0, 0))) := by
  cases hb : bad n
  · obtain ⟨h1, h2, h3, h4⟩ := bad_f hb
    refine (ivOk_c v zs n w hx hl hz h1 h2).mono ?_
    rintro e w' ⟨v', us, rfl, R, B⟩
    exact ⟨_, us, by rw [h4]; rfl, by rw [h3]; exact R, B⟩
  · obtain ⟨h1, h3, h4⟩ := bad_t hb
    refine (ivNo_c v zs n w hx hl hz hn h1).mono ?_
    rintro e w' ⟨rfl, B⟩
    exact ⟨_, [], by rw [h4]; rfl, by rw [h3]; exact Gro.nil _ _ _, B⟩
theorem rS_c (v : Value) (g1 g2 v1 v2 : Nat) (zs : List (Nat × Nat)) (n : Nat) (w : World) (hx : RdC w v zs) (hz : zs.length = n) :
    Calls Tryd.prog 20 #[v, .complex .f64 g1 g2, .complex .f64 v1 v2] w (Ra w n (sld n (g1, g2) (v1, v2) fun j => zs.getD j (0, 0))) := by
  cases hb : bad n
  · obtain ⟨h1, h2, h3, h4⟩ := bad_f hb
    refine (slOk_c v g1 g2 v1 v2 zs n w hx hz h1 h2).mono ?_
    rintro e w' ⟨v', us, rfl, R, B⟩
    exact ⟨_, us, by rw [h4]; rfl, by rw [h3]; exact R, B⟩
  · obtain ⟨h1, h3, h4⟩ := bad_t hb
    obtain ⟨ao, cap, rfl⟩ := hx.slice hz
    refine (slNo_c ao n cap g1 g2 v1 v2 w h1).mono ?_
    rintro e w' ⟨rfl, rfl⟩
    exact ⟨_, [], by rw [h4]; rfl, by rw [h3]; exact Gro.nil _ _ _, Below.refl _ _⟩
theorem Gro.alike {w w' : World} {B B' i : Nat} {v v' : Value} {F : Nat → Nat × Nat} {us us' : List (Nat × Nat)} (h : Gro w B i v F us) (h' : Gro w' B' i v' F us') : Lks us us' :=
  ⟨by rw [h.len, h'.len], fun k hk => (h.up k (by rw [← h.len]; exact hk)).trans (h'.up k (by rw [← h.len]; exact hk)).symm⟩
theorem lnN_le (n : Nat) : lnN n ≤ 1024 := by
  cases hb : bad n
  · obtain ⟨_, h2, h3, _⟩ := bad_f hb; omega
  · obtain ⟨_, h3, _⟩ := bad_t hb; omega
end Go.Proofs.YtehaokdjdhejlaaDoor
