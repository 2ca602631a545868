/-
  What the bound of the second form gives.
-/
import Derived.Test.YtmlfichdfeblpaaDoorProg
import Derived.Test.YtmlfichdfeblpaaDoorRows
import Derived.Test.YtmlfichdfeblpaaDoorVwg
import Derived.Test.YtmlfichdfeblpaaDoorQkg
import Derived.LaidMore
import Derived.SizedLaws
import Derived.Stop.Joined
namespace Go.Proofs.YtmlfichdfeblpaaDoor
open Go
theorem bulk_one {H : Type} (d : DataW H) : 1 ≤ Rows.uptoBulk d := by
  cases d with
  | lit l => cases l <;> simp [Rows.uptoBulk]
  | nil => simp [Rows.uptoBulk]
  | ptr d => simp [Rows.uptoBulk]
  | slice elems spare => simp [Rows.uptoBulk]
  | agg parts => simp [Rows.uptoBulk]
  | iface t d => simp [Rows.uptoBulk]
  | map entries => simp [Rows.uptoBulk]
  | held h => simp [Rows.uptoBulk]
theorem bulk_len {H : Type} : ∀ l : List (DataW H), l.length ≤ Rows.uptoBulkAll l
  | [] => by simp [Rows.uptoBulkAll]
  | x :: r => by have := bulk_one x; have := bulk_len r; simp only [Rows.uptoBulkAll, List.length_cons]; omega
theorem bulk_mem {H : Type} {d : DataW H} : ∀ {l : List (DataW H)}, d ∈ l → Rows.uptoBulk d ≤ Rows.uptoBulkAll l
  | [], h => absurd h (by simp)
  | x :: r, h => by
    simp only [Rows.uptoBulkAll]
    rcases List.mem_cons.1 h with e | e
    · subst e; omega
    · have := bulk_mem e; omega
theorem bulk_of {H : Type} {ds : List (DataW H)} {d : DataW H} (hk : Rows.uptoSmall H ds = true) (hm : d ∈ ds) : Rows.uptoBulk d ≤ 1048576 :=
  Nat.le_trans (bulk_mem hm) (of_decide_eq_true hk)
theorem bulk_slice {H : Type} {ds : List (DataW H)} {el sp : List (DataW H)} (hk : Rows.uptoSmall H ds = true) (hm : DataW.slice el sp ∈ ds) : el.length ≤ 1048576 := by
  have h2 := bulk_of hk hm
  have h3 := bulk_len el
  simp only [Rows.uptoBulk] at h2
  omega
end Go.Proofs.YtmlfichdfeblpaaDoor
/-
  Arguments in the second form: a program, a list of bytes.
-/
namespace Go.Proofs.YtmlfichdfeblpaaDoor
open Flo Go.ChangeShapes Go.WideShapes Go.ChangeAt Go.RowKit Go.Deep
theorem spotN' {w : World} {a : Addr} {v : Value} (h : w.cell? a = some v) : a.spot = none := by
  unfold World.cell? at h
  split at h
  · split at h
    · cases h
    · rename_i hs; simpa using hs
  · cases h
theorem addr_add (b off i : Nat) : (⟨b, off, none⟩ : Addr).add i = ⟨b, off + i, none⟩ := by
  unfold Addr.add
  by_cases h : i = 0
  · subst h; simp
  · simp [h]
theorem cells8 : Tryd.prog.cellsOf 5 = 1 := by kernel_rfl
/-- A list of bytes that came in, opened once, nil or not. -/
theorem view8 {H : Type} {enc : TypeId × Value → H} {W : World} {fuel : Nat} {a0 : Option Addr} {len cap : Nat} {d : DataW H} {p : List MemPlace}
    (hf : DataW.trod enc Tryd.prog W 0 (fun _ => true) true fuel 22 (Value.slice a0 len cap).cells.toList = some (d, p)) :
    ∃ bs : List Nat, bs.length = len ∧ (bs.length ≤ 140737488351232 → InB W (.slice a0 len cap) bs) ∧ (len = 0 ∨ ∃ el sp, d = .slice el sp ∧ el.length = len) := by
  rcases open_ints Tryd.underlying22 Tryd.underlying5 cells8 hf with ⟨hcs, hx⟩ | ⟨a, len', cap', Z, hcs, _, hl, hm, hz, hx, hcell, hwz⟩
  · simp [Value.cells] at hcs
    obtain ⟨rfl, rfl, rfl⟩ := hcs
    exact ⟨[], rfl, fun _ => ⟨.inl ⟨rfl, rfl⟩, fun h => absurd rfl h, fun x hx => (by cases hx), by simp⟩, Or.inl rfl⟩
  · simp [Value.cells] at hcs
    obtain ⟨rfl, rfl, rfl⟩ := hcs
    simp only [Prod.mk.injEq] at hx
    obtain ⟨rfl, rfl⟩ := hx
    simp only [if_true] at hz
    have bd : ∀ i, i < len → (0 : Int) ≤ Z.getD i 0 ∧ Z.getD i 0 ≤ 255 := fun i hi => by
      have e : Z.getD i 0 = Z[i] := by simp [List.getD, show i < Z.length by omega]
      rw [e]; exact bounds_u8 (hwz _ (List.getElem_mem _))
    have ln : ((Z.take len).map Int.toNat).length = len := by simp; omega
    have gt : ∀ i, i < len → (((Z.take len).map Int.toNat).getD i 0 : Int) = Z.getD i 0 := fun i hi => by
      have e : Z.getD i 0 = Z[i] := by simp [List.getD, show i < Z.length by omega]
      have b := bd i hi
      rw [e] at b ⊢
      simp [List.getD, hi, show i < Z.length by omega]
      omega
    have hby : ∀ x ∈ (Z.take len).map Int.toNat, x < 256 := fun x hx => by
      obtain ⟨y, hy, rfl⟩ := List.mem_map.1 hx
      have := bounds_u8 (hwz y (List.mem_of_mem_take hy))
      omega
    refine ⟨(Z.take len).map Int.toNat, ln, fun hb => ⟨.inr ⟨a, cap, by rw [ln], fun j u hj => ?_⟩, fun hne => ?_, hby, hb⟩, Or.inr ⟨_, _, rfl, by simp [lits]; omega⟩⟩
    · have hj2 : j < len := by
        have := (List.getElem?_eq_some_iff.1 hj).1
        rw [bc_len, ln] at this; exact this
      have e : (bc ((Z.take len).map Int.toNat))[j]? = some (.int .u8 (((Z.take len).map Int.toNat).getD j 0 : Nat)) := by
        have hj3 : j < ((Z.take len).map Int.toNat).length := by rw [ln]; exact hj2
        unfold bc
        rw [List.getElem?_map, List.getElem?_eq_getElem hj3]
        simp only [Option.map_some, List.getD, List.getElem?_eq_getElem hj3, Option.getD_some]
      rw [e] at hj
      cases hj
      rw [gt j hj2]
      exact hcell j (by omega)
    · have h0 : 0 < len := by
        rcases Nat.eq_zero_or_pos len with h | h
        · exact absurd (List.eq_nil_of_length_eq_zero (by rw [ln, h])) hne
        · exact h
      have c0 := hcell 0 (by omega)
      obtain ⟨b, off, sp⟩ := a
      obtain rfl : sp = none := spotN' c0
      refine ⟨b, off, cap, by rw [ln], by rw [ln]; exact hl, cell_lt c0, fun i hi => ?_⟩
      rw [ln] at hi
      rw [gt i hi, ← addr_add]
      exact hcell i (by omega)
theorem viewB {H : Type} {enc : TypeId × Value → H} {W : World} {fuel : Nat} {a0 : Option Addr} {len cap : Nat} {d : DataW H} {p : List MemPlace}
    (hf : DataW.trod enc Tryd.prog W 0 (fun _ => true) true fuel 22 (Value.slice a0 len cap).cells.toList = some (d, p)) (hb : Rows.uptoBulk d ≤ 1048576) :
    ∃ bs : List Nat, bs.length = len ∧ (SrcB W (.slice a0 len cap) bs ∧ ∀ b ∈ bs, b < 256) ∧ len ≤ 1048576 := by
  obtain ⟨bs, h1, h2, h3⟩ := view8 hf
  have hl : len ≤ 1048576 := by
    rcases h3 with h3 | ⟨el, sp, rfl, h4⟩
    · omega
    · have h5 := bulk_len el
      simp only [Rows.uptoBulk] at hb
      omega
  have h6 := h2 (by omega)
  exact ⟨bs, h1, ⟨h6.src, h6.byt⟩, hl⟩
set_option maxRecDepth 100000 in
theorem viewPb {H : Type} {enc : TypeId × Value → H} {W : World} {base : Nat} {v : Value} {d : DataW H} {p : List MemPlace} (hv : Value.okWide Tryd.prog W .any base 26 v) (h : DataW.Trod enc Tryd.prog W 0 (fun _ => true) true 26 v d p) (hb : Rows.uptoBulk d ≤ 1048576) :
    ∃ (pg : Sp.Pg) (a : Option Addr) (cap : Nat), v = pv pg (.slice a pg.steps.length cap) ∧ (Ss W a pg.steps ∧ (a = none → cap = 0)) ∧ pg.steps.length * 56 ≤ 140737488351232 :=
  viewPg hv h fun l el sp e h4 => by
    subst e
    have h1 := bulk_mem (List.mem_of_getElem? h4)
    simp only [Rows.uptoBulk] at hb h1
    have h2 := bulk_len el
    have h3 := bulk_len sp
    omega
end Go.Proofs.YtmlfichdfeblpaaDoor
/-
  Arguments in the first form: a list of bytes.
-/
namespace Go.Proofs.YtmlfichdfeblpaaDoor
open Flo Go.ChangeShapes Go.WideShapes Go.ChangeAt Go.RowKit Go.Deep
theorem bytes8 : Tryd.prog.bytesOf 5 = 1 := by kernel_rfl
set_option maxRecDepth 100000 in
theorem viewB15 {H : Type} {enc : TypeId × Value → H} {W : World} {base : Nat} {v : Value} {d : DataW H} {p : List MemPlace} (hv : Value.okWide Tryd.prog W .any base 22 v) (h : DataW.Trod enc Tryd.prog W 0 (fun _ => true) true 22 v d p) (hw : ∀ n ∈ d.weights Tryd.prog 22, n ≤ reachBytes) :
    ∃ bs : List Nat, InB W v bs := by
  obtain ⟨a, n, c, rfl⟩ := okWide_slice Tryd.underlying22 hv
  obtain ⟨fuel, hf⟩ := h
  obtain ⟨bs, h1, h2, h3⟩ := view8 hf
  refine ⟨bs, h2 ?_⟩
  rw [h1]
  rcases h3 with h3 | ⟨el, sp, rfl, h4⟩
  · omega
  · have := hw _ (by rw [DataW.weights, Tryd.underlying22]; exact List.mem_cons_self)
    rw [bytes8] at this
    simp only [reachBytes] at this
    omega
end Go.Proofs.YtmlfichdfeblpaaDoor
