/-
  Lists of bools, lists of calls that came in.
-/
import Derived.Test.YtljopkmpcolgfaaDoorVg6
import Derived.Test.YtljopkmpcolgfaaDoorTh8
import Derived.Deep.Grids
import Derived.Deep.Slices
namespace Go.Proofs.YtljopkmpcolgfaaDoor
open Go.ChangeShapes Go.WideShapes Go.ChangeAt Go.RowKit Go.Deep
theorem cellsB8 : Tryd.prog.cellsOf 4 = 1 := by kernel_rfl
theorem bytesB8 : Tryd.prog.bytesOf 4 = 1 := by kernel_rfl
theorem addr_add (b off i : Nat) : (⟨b, off, none⟩ : Addr).add i = ⟨b, off + i, none⟩ := by
  unfold Addr.add
  by_cases h : i = 0
  · subst h; simp
  · simp [h]
theorem viewB8 {H : Type} {enc : TypeId × Value → H} {W : World} {fuel : Nat} {a0 : Option Addr} {len cap : Nat} {d : DataW H} {p : List MemPlace}
    (hf : DataW.trod enc Tryd.prog W 0 (fun _ => true) true fuel 49 (Value.slice a0 len cap).cells.toList = some (d, p)) :
    ∃ zs : List Bool, zs.length = len ∧ RdB W (.slice a0 len cap) zs ∧ True ∧ (len = 0 ∨ ∃ el sp, d = .slice el sp ∧ el.length = len) := by
  rcases open_bools Tryd.underlying49 Tryd.underlying4 cellsB8 hf with ⟨hcs, hx⟩ | ⟨a, len', cap', B, hcs, _, hl, hm, hx, hcell⟩
  · simp [Value.cells] at hcs
    obtain ⟨rfl, rfl, rfl⟩ := hcs
    exact ⟨[], rfl, ⟨_, _, rfl, fun h => absurd rfl h⟩, trivial, Or.inl rfl⟩
  · simp [Value.cells] at hcs
    obtain ⟨rfl, rfl, rfl⟩ := hcs
    simp only [Prod.mk.injEq] at hx
    obtain ⟨rfl, rfl⟩ := hx
    have ln : ((List.range len).map B).length = len := by simp
    refine ⟨(List.range len).map B, ln, ⟨some a, cap, by rw [ln], fun hne => ?_⟩, trivial, ?_⟩
    · have h0 : 0 < len := by
        rcases Nat.eq_zero_or_pos len with h | h
        · exact absurd (List.eq_nil_of_length_eq_zero (by rw [ln, h])) hne
        · exact h
      have c0 := hcell 0 (by omega)
      obtain ⟨b, off, sp⟩ := a
      obtain rfl : sp = none := spotN c0
      refine ⟨b, off, rfl, cell_lt c0, fun i hi => ?_⟩
      rw [ln] at hi
      have e : ((List.range len).map B).getD i false = B i := by simp [List.getD, hi]
      rw [e, ← addr_add]
      exact hcell i (by omega)
    · exact Or.inr ⟨_, _, rfl, by simp⟩
theorem cellsO8 : Tryd.prog.cellsOf 32 = 4 := by kernel_rfl
theorem bytesO8 : Tryd.prog.bytesOf 32 = 32 := by kernel_rfl
/-- a call's cells, from p on -/
structure OpAt (w : World) (q p : Nat) (k : Int) (s : Bool) (n m : Int) : Prop where
  c0 : w.cell? ⟨q, p, none⟩ = some (.int .i64 k)
  c1 : w.cell? ⟨q, p + 1, none⟩ = some (.bool s)
  c2 : w.cell? ⟨q, p + 2, none⟩ = some (.int .i64 n)
  c3 : w.cell? ⟨q, p + 3, none⟩ = some (.int .i64 m)
  b0 : -9223372036854775808 ≤ k ∧ k ≤ 9223372036854775807
  b2 : -9223372036854775808 ≤ n ∧ n ≤ 9223372036854775807
  b3 : -9223372036854775808 ≤ m ∧ m ≤ 9223372036854775807
/-- a list of calls -/
def InO (w : World) (ao : Option Addr) (len : Nat) : Prop :=
  ∀ i, i < len → ∃ q o k s n m, ao = some ⟨q, o, none⟩ ∧ q < w.heap.size ∧ OpAt w q (o + i * 4) k s n m
set_option maxRecDepth 100000 in
theorem viewO8 {H : Type} {enc : TypeId × Value → H} {W : World} {fuel : Nat} {a0 : Option Addr} {len cap : Nat} {d : DataW H} {p : List MemPlace}
    (hf : DataW.trod enc Tryd.prog W 0 (fun _ => true) true fuel 22 (Value.slice a0 len cap).cells.toList = some (d, p)) :
    ∃ zs : List Unit, zs.length = len ∧ InO W a0 len ∧ True ∧ (len = 0 ∨ ∃ el sp, d = .slice el sp ∧ el.length = len) := by
  rcases open_slice Tryd.underlying22 hf with ⟨hcs, hx⟩ | ⟨a, len', cap', m, n, D, Pl, hcs, _, hl, hm, hmm, hx, hel⟩
  · simp [Value.cells] at hcs
    obtain ⟨rfl, rfl, rfl⟩ := hcs
    exact ⟨[], rfl, fun i hi => absurd hi (Nat.not_lt_zero _), trivial, Or.inl rfl⟩
  · simp [Value.cells] at hcs
    obtain ⟨rfl, rfl, rfl⟩ := hcs
    simp only [Prod.mk.injEq] at hx
    obtain ⟨rfl, rfl⟩ := hx
    simp only [if_true] at hmm
    refine ⟨List.replicate len (), by simp, fun i hi => ?_, trivial, Or.inr ⟨_, _, rfl, by simp⟩⟩
    obtain ⟨cs', h1, h2⟩ := hel i (by omega)
    rw [cellsO8] at h1
    obtain ⟨_, h3, h4⟩ := World.cells?_some h1
    obtain ⟨xs, n', _, hd, _, hxl, hfs⟩ := DataW.trod_struct Tryd.underlying32 h2
    have hxl' : xs.length = 4 := hxl
    match cs', h3, xs, hxl' with
    | [x0, x1, x2, x3], _, [y0, y1, y2, y3], _ =>
      have f0 : DataW.trod enc Tryd.prog W 0 (fun _ => true) true n' 3 [x0] = some y0 := hfs 0 _ rfl
      have f1 : DataW.trod enc Tryd.prog W 0 (fun _ => true) true n' 4 [x1] = some y1 := hfs 1 _ rfl
      have f2 : DataW.trod enc Tryd.prog W 0 (fun _ => true) true n' 3 [x2] = some y2 := hfs 2 _ rfl
      have f3 : DataW.trod enc Tryd.prog W 0 (fun _ => true) true n' 3 [x3] = some y3 := hfs 3 _ rfl
      obtain ⟨k, e0, _, w0⟩ := DataW.trod_int Tryd.underlying3 f0
      obtain ⟨s, e1, _⟩ := DataW.trod_bool Tryd.underlying4 f1
      obtain ⟨nn, e2, _, w2⟩ := DataW.trod_int Tryd.underlying3 f2
      obtain ⟨mm, e3, _, w3⟩ := DataW.trod_int Tryd.underlying3 f3
      cases e0; cases e1; cases e2; cases e3
      obtain ⟨b, off, sp⟩ := a
      obtain rfl : sp = none := by
        obtain ⟨cs0, g1, _⟩ := hel 0 (by omega)
        rw [cellsO8] at g1
        obtain ⟨_, g3, g4⟩ := World.cells?_some g1
        have g5 := g4 0 (by decide)
        rw [List.getElem?_eq_getElem (by omega)] at g5
        have := spotN g5
        simpa [Addr.add] using this
      have hc : ∀ j, j < 4 → W.cell? ⟨b, off + i * 4 + j, none⟩ = [Value.int .i64 k, .bool s, .int .i64 nn, .int .i64 mm][j]? := fun j hj => by
        have := h4 j hj
        rw [addr_add, addr_add] at this
        exact this
      exact ⟨b, off, k, s, nn, mm, rfl, cell_lt (hc 0 (by decide)), ⟨hc 0 (by decide), hc 1 (by decide), hc 2 (by decide), hc 3 (by decide), bounds_i64 w0, bounds_i64 w2, bounds_i64 w3⟩⟩
end Go.Proofs.YtljopkmpcolgfaaDoor
