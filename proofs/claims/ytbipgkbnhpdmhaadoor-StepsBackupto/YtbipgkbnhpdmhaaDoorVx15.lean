/-
  Arguments in the second form: a program, a list of bytes.
-/
import Derived.Test.YtbipgkbnhpdmhaaDoorVw15
import Derived.Test.YtbipgkbnhpdmhaaDoorQkg
import Derived.Test.YtbipgkbnhpdmhaaDoorBku
import Derived.LaidMore
import Derived.SizedLaws
import Derived.Stop.Joined
namespace Go.Proofs.YtbipgkbnhpdmhaaDoor
open Flo Go.ChangeShapes Go.WideShapes Go.ChangeAt Go.RowKit Go.Deep
theorem spotN' {w : World} {a : Addr} {v : Value} (h : w.cell? a = some v) : a.spot = none := by
  unfold World.cell? at h
  split at h
  · split at h
    · cases h
    · rename_i hs; simpa using hs
  · cases h
theorem addr_add (b off i : Nat) : (⟨b, off, none⟩ : Addr).add i = ⟨b, off + i, none⟩ := by
  unfold Addr.add
  by_cases h : i = 0
  · subst h; simp
  · simp [h]
theorem cells8 : Tryd.prog.cellsOf 5 = 1 := by kernel_rfl
/-- A list of bytes that came in, opened once, nil or not. -/
theorem view8 {H : Type} {enc : TypeId × Value → H} {W : World} {fuel : Nat} {a0 : Option Addr} {len cap : Nat} {d : DataW H} {p : List MemPlace}
    (hf : DataW.trod enc Tryd.prog W 0 (fun _ => true) true fuel 41 (Value.slice a0 len cap).cells.toList = some (d, p)) :
    ∃ bs : List Nat, bs.length = len ∧ (bs.length ≤ 140737488351232 → InB W (.slice a0 len cap) bs) ∧ (len = 0 ∨ ∃ el sp, d = .slice el sp ∧ el.length = len) := by
  rcases open_ints Tryd.underlying41 Tryd.underlying5 cells8 hf with ⟨hcs, hx⟩ | ⟨a, len', cap', Z, hcs, _, hl, hm, hz, hx, hcell, hwz⟩
  · simp [Value.cells] at hcs
    obtain ⟨rfl, rfl, rfl⟩ := hcs
    exact ⟨[], rfl, fun _ => ⟨.inl ⟨rfl, rfl⟩, fun h => absurd rfl h, fun x hx => (by cases hx), by simp⟩, Or.inl rfl⟩
  · simp [Value.cells] at hcs
    obtain ⟨rfl, rfl, rfl⟩ := hcs
    simp only [Prod.mk.injEq] at hx
    obtain ⟨rfl, rfl⟩ := hx
    simp only [if_true] at hz
    have bd : ∀ i, i < len → (0 : Int) ≤ Z.getD i 0 ∧ Z.getD i 0 ≤ 255 := fun i hi => by
      have e : Z.getD i 0 = Z[i] := by simp [List.getD, show i < Z.length by omega]
      rw [e]; exact bounds_u8 (hwz _ (List.getElem_mem _))
    have ln : ((Z.take len).map Int.toNat).length = len := by simp; omega
    have gt : ∀ i, i < len → (((Z.take len).map Int.toNat).getD i 0 : Int) = Z.getD i 0 := fun i hi => by
      have e : Z.getD i 0 = Z[i] := by simp [List.getD, show i < Z.length by omega]
      have b := bd i hi
      rw [e] at b ⊢
      simp [List.getD, hi, show i < Z.length by omega]
      omega
    have hby : ∀ x ∈ (Z.take len).map Int.toNat, x < 256 := fun x hx => by
      obtain ⟨y, hy, rfl⟩ := List.mem_map.1 hx
      have := bounds_u8 (hwz y (List.mem_of_mem_take hy))
      omega
    refine ⟨(Z.take len).map Int.toNat, ln, fun hb => ⟨.inr ⟨a, cap, by rw [ln], fun j u hj => ?_⟩, fun hne => ?_, hby, hb⟩, Or.inr ⟨_, _, rfl, by simp [lits]; omega⟩⟩
    · have hj2 : j < len := by
        have := (List.getElem?_eq_some_iff.1 hj).1
        rw [bc_len, ln] at this; exact this
      have e : (bc ((Z.take len).map Int.toNat))[j]? = some (.int .u8 (((Z.take len).map Int.toNat).getD j 0 : Nat)) := by
        have hj3 : j < ((Z.take len).map Int.toNat).length := by rw [ln]; exact hj2
        unfold bc
        rw [List.getElem?_map, List.getElem?_eq_getElem hj3]
        simp only [Option.map_some, List.getD, List.getElem?_eq_getElem hj3, Option.getD_some]
      rw [e] at hj
      cases hj
      rw [gt j hj2]
      exact hcell j (by omega)
    · have h0 : 0 < len := by
        rcases Nat.eq_zero_or_pos len with h | h
        · exact absurd (List.eq_nil_of_length_eq_zero (by rw [ln, h])) hne
        · exact h
      have c0 := hcell 0 (by omega)
      obtain ⟨b, off, sp⟩ := a
      obtain rfl : sp = none := spotN' c0
      refine ⟨b, off, cap, by rw [ln], by rw [ln]; exact hl, cell_lt c0, fun i hi => ?_⟩
      rw [ln] at hi
      rw [gt i hi, ← addr_add]
      exact hcell i (by omega)
theorem viewB {H : Type} {enc : TypeId × Value → H} {W : World} {fuel : Nat} {a0 : Option Addr} {len cap : Nat} {d : DataW H} {p : List MemPlace}
    (hf : DataW.trod enc Tryd.prog W 0 (fun _ => true) true fuel 41 (Value.slice a0 len cap).cells.toList = some (d, p)) (hb : Rows.uptoBulk d ≤ 1048576) :
    ∃ bs : List Nat, bs.length = len ∧ (SrcB W (.slice a0 len cap) bs ∧ ∀ b ∈ bs, b < 256) ∧ len ≤ 1048576 := by
  obtain ⟨bs, h1, h2, h3⟩ := view8 hf
  have hl : len ≤ 1048576 := by
    rcases h3 with h3 | ⟨el, sp, rfl, h4⟩
    · omega
    · have h5 := bulk_len el
      simp only [Rows.uptoBulk] at hb
      omega
  have h6 := h2 (by omega)
  exact ⟨bs, h1, ⟨h6.src, h6.byt⟩, hl⟩
set_option maxRecDepth 100000 in
theorem viewPb {H : Type} {enc : TypeId × Value → H} {W : World} {base : Nat} {v : Value} {d : DataW H} {p : List MemPlace} (hv : Value.okWide Tryd.prog W .any base 38 v) (h : DataW.Trod enc Tryd.prog W 0 (fun _ => true) true 38 v d p) (hb : Rows.uptoBulk d ≤ 1048576) :
    ∃ (pg : Sp.Pg) (a : Option Addr) (cap : Nat), v = pv pg (.slice a pg.steps.length cap) ∧ (Ss W a pg.steps ∧ (a = none → cap = 0)) ∧ pg.steps.length * 56 ≤ 140737488351232 :=
  viewPg hv h fun l el sp e h4 => by
    subst e
    have h1 := bulk_mem (List.mem_of_getElem? h4)
    simp only [Rows.uptoBulk] at hb h1
    have h2 := bulk_len el
    have h3 := bulk_len sp
    omega
end Go.Proofs.YtbipgkbnhpdmhaaDoor
