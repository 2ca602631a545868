/-
  Lists of bits, of whole numbers, of places that came in, opened once, nil or not.
-/
import Derived.Test.YtehaokdjdhejlaaDoorVg6
import Derived.Test.YtehaokdjdhejlaaDoorInw
import Derived.Deep.Grids
import Derived.Deep.Slices
namespace Go.Proofs.YtehaokdjdhejlaaDoor
open Go.ChangeShapes Go.WideShapes Go.ChangeAt Go.RowKit Go.Deep
theorem cellsU : Tryd.prog.cellsOf 63 = 1 := by kernel_rfl
theorem bytesU : Tryd.prog.bytesOf 63 = 8 := by kernel_rfl
theorem cellsS : Tryd.prog.cellsOf 2 = 1 := by kernel_rfl
theorem bytesS : Tryd.prog.bytesOf 2 = 8 := by kernel_rfl
theorem add_at (b off i : Nat) : (⟨b, off, none⟩ : Addr).add i = ⟨b, off + i, none⟩ := by
  unfold Addr.add
  by_cases h : i = 0
  · subst h; simp
  · simp [h]
theorem getD_at10 {zs : List Nat} {i : Nat} (h : i < zs.length) : zs.getD i 0 = zs[i] := by simp [List.getD, h]
theorem viewU {H : Type} {enc : TypeId × Value → H} {W : World} {fuel : Nat} {a0 : Option Addr} {len cap : Nat} {d : DataW H} {p : List MemPlace}
    (hf : DataW.trod enc Tryd.prog W 0 (fun _ => true) true fuel 22 (Value.slice a0 len cap).cells.toList = some (d, p)) :
    ∃ zs : List Nat, zs.length = len ∧ InU W (.slice a0 len cap) zs ∧ (∀ x ∈ zs, x < 18446744073709551616) ∧ (len = 0 ∨ ∃ el sp, d = .slice el sp ∧ el.length = len) := by
  rcases open_ints Tryd.underlying22 Tryd.underlying63 cellsU hf with ⟨hcs, hx⟩ | ⟨a, len', cap', Z, hcs, _, hl, hm, hz, hx, hcell, hwz⟩
  · simp [Value.cells] at hcs
    obtain ⟨rfl, rfl, rfl⟩ := hcs
    exact ⟨[], rfl, ⟨_, _, rfl, fun i h => absurd h (by simp), fun i h => absurd h (by simp)⟩, fun x hx => (by cases hx), Or.inl rfl⟩
  · simp [Value.cells] at hcs
    obtain ⟨rfl, rfl, rfl⟩ := hcs
    simp only [Prod.mk.injEq] at hx
    obtain ⟨rfl, rfl⟩ := hx
    simp only [if_true] at hz
    have bd : ∀ i, i < len → (0 : Int) ≤ Z.getD i 0 ∧ Z.getD i 0 ≤ 18446744073709551615 := fun i hi => by
      have e : Z.getD i 0 = Z[i] := by simp [List.getD, show i < Z.length by omega]
      rw [e]; exact bounds_u64 (hwz _ (List.getElem_mem _))
    have gt : ∀ i, i < len → (((Z.take len).map Int.toNat).getD i 0 : Int) = Z.getD i 0 := fun i hi => by
      have e : Z.getD i 0 = Z[i] := by simp [List.getD, show i < Z.length by omega]
      have b := bd i hi
      rw [e] at b ⊢
      simp [List.getD, hi, show i < Z.length by omega]
      omega
    have ln : ((Z.take len).map Int.toNat).length = len := by simp; omega
    have hlim : ∀ i, i < len → ((Z.take len).map Int.toNat).getD i 0 < 18446744073709551616 := fun i hi => by
      have h1 := gt i hi
      have h2 := bd i hi
      omega
    refine ⟨(Z.take len).map Int.toNat, ln, ⟨some a, cap, by rw [ln], fun i hi => ?_, fun i hi => hlim i (by rw [← ln]; exact hi)⟩, fun x hx => ?_, Or.inr ⟨_, _, rfl, by simp [lits]; omega⟩⟩
    · rw [ln] at hi
      have c0 := hcell i (by omega)
      obtain ⟨b, off, sp⟩ := a
      obtain rfl : sp = none := by
        have := spotN (hcell 0 (by omega))
        simpa [Addr.add] using this
      rw [add_at] at c0
      exact ⟨b, off, rfl, block_lt_of_cell c0, by rw [gt i hi]; exact c0⟩
    · obtain ⟨i, hi, rfl⟩ := List.getElem_of_mem hx
      have h1 := hlim i (by rw [← ln]; exact hi)
      rw [getD_at10 hi] at h1
      exact h1

theorem viewS {H : Type} {enc : TypeId × Value → H} {W : World} {fuel : Nat} {a0 : Option Addr} {len cap : Nat} {d : DataW H} {p : List MemPlace}
    (hf : DataW.trod enc Tryd.prog W 0 (fun _ => true) true fuel 56 (Value.slice a0 len cap).cells.toList = some (d, p)) :
    ∃ zs : List Int, zs.length = len ∧ InS W (.slice a0 len cap) zs ∧ (∀ z ∈ zs, -9223372036854775808 ≤ z ∧ z ≤ 9223372036854775807) ∧ (len = 0 ∨ ∃ el sp, d = .slice el sp ∧ el.length = len) := by
  rcases open_ints Tryd.underlying56 Tryd.underlying2 cellsS hf with ⟨hcs, hx⟩ | ⟨a, len', cap', Z, hcs, _, hl, hm, hz, hx, hcell, hwz⟩
  · simp [Value.cells] at hcs
    obtain ⟨rfl, rfl, rfl⟩ := hcs
    exact ⟨[], rfl, ⟨_, _, rfl, fun i h => absurd h (by simp)⟩, fun z hz => absurd hz (by simp), Or.inl rfl⟩
  · simp [Value.cells] at hcs
    obtain ⟨rfl, rfl, rfl⟩ := hcs
    simp only [Prod.mk.injEq] at hx
    obtain ⟨rfl, rfl⟩ := hx
    simp only [if_true] at hz
    have ln : (Z.take len).length = len := by simp; omega
    refine ⟨Z.take len, ln, ⟨some a, cap, by rw [ln], fun i hi => ?_⟩, fun z hz => bounds_i64 (hwz z (List.mem_of_mem_take hz)), Or.inr ⟨_, _, rfl, by simp [lits]; omega⟩⟩
    rw [ln] at hi
    have c0 := hcell i (by omega)
    obtain ⟨b, off, sp⟩ := a
    obtain rfl : sp = none := by
      have := spotN (hcell 0 (by omega))
      simpa [Addr.add] using this
    have e : (Z.take len).getD i 0 = Z.getD i 0 := by simp [List.getD, hi]
    rw [add_at] at c0
    exact ⟨b, off, rfl, block_lt_of_cell c0, by rw [e]; exact c0⟩
theorem cellsP : Tryd.prog.cellsOf 43 = 4 := by kernel_rfl
theorem bytesP : Tryd.prog.bytesOf 43 = 32 := by kernel_rfl
set_option maxRecDepth 100000 in
theorem viewP {H : Type} {enc : TypeId × Value → H} {W : World} {fuel : Nat} {a0 : Option Addr} {len cap : Nat} {d : DataW H} {p : List MemPlace}
    (hf : DataW.trod enc Tryd.prog W 0 (fun _ => true) true fuel 41 (Value.slice a0 len cap).cells.toList = some (d, p)) :
    ∃ zs : List Unit, zs.length = len ∧ InP W a0 len ∧ True ∧ (len = 0 ∨ ∃ el sp, d = .slice el sp ∧ el.length = len) := by
  rcases open_slice Tryd.underlying41 hf with ⟨hcs, hx⟩ | ⟨a, len', cap', m, n, D, Pl, hcs, _, hl, hm, hmm, hx, hel⟩
  · simp [Value.cells] at hcs
    obtain ⟨rfl, rfl, rfl⟩ := hcs
    exact ⟨[], rfl, fun i hi => absurd hi (Nat.not_lt_zero _), trivial, Or.inl rfl⟩
  · simp [Value.cells] at hcs
    obtain ⟨rfl, rfl, rfl⟩ := hcs
    simp only [Prod.mk.injEq] at hx
    obtain ⟨rfl, rfl⟩ := hx
    simp only [if_true] at hmm
    refine ⟨List.replicate len (), by simp, fun i hi => ?_, trivial, Or.inr ⟨_, _, rfl, by simp⟩⟩
    obtain ⟨cs', h1, h2⟩ := hel i (by omega)
    rw [cellsP] at h1
    obtain ⟨_, h3, h4⟩ := World.cells?_some h1
    obtain ⟨xs, n', _, hd, _, hxl, hfs⟩ := DataW.trod_struct Tryd.underlying43 h2
    have hxl' : xs.length = 4 := hxl
    match cs', h3, xs, hxl' with
    | [x0, x1, x2, x3], _, [y0, y1, y2, y3], _ =>
      have f0 : DataW.trod enc Tryd.prog W 0 (fun _ => true) true n' 3 [x0] = some y0 := hfs 0 _ rfl
      have f1 : DataW.trod enc Tryd.prog W 0 (fun _ => true) true n' 3 [x1] = some y1 := hfs 1 _ rfl
      have f2 : DataW.trod enc Tryd.prog W 0 (fun _ => true) true n' 3 [x2] = some y2 := hfs 2 _ rfl
      have f3 : DataW.trod enc Tryd.prog W 0 (fun _ => true) true n' 3 [x3] = some y3 := hfs 3 _ rfl
      obtain ⟨k, e0, _, w0⟩ := DataW.trod_int Tryd.underlying3 f0
      obtain ⟨s, e1, _, w1⟩ := DataW.trod_int Tryd.underlying3 f1
      obtain ⟨nn, e2, _, w2⟩ := DataW.trod_int Tryd.underlying3 f2
      obtain ⟨mm, e3, _, w3⟩ := DataW.trod_int Tryd.underlying3 f3
      cases e0; cases e1; cases e2; cases e3
      obtain ⟨b, off, sp⟩ := a
      obtain rfl : sp = none := by
        obtain ⟨cs0, g1, _⟩ := hel 0 (by omega)
        rw [cellsP] at g1
        obtain ⟨_, g3, g4⟩ := World.cells?_some g1
        have g5 := g4 0 (by decide)
        rw [List.getElem?_eq_getElem (by omega)] at g5
        have := spotN g5
        simpa [Addr.add] using this
      have hc : ∀ j, j < 4 → W.cell? ⟨b, off + i * 4 + j, none⟩ = [Value.int .i64 k, .int .i64 s, .int .i64 nn, .int .i64 mm][j]? := fun j hj => by
        have := h4 j hj
        rw [add_at, add_at] at this
        exact this
      exact ⟨b, off, k, s, nn, mm, rfl, block_lt_of_cell (hc 0 (by decide)), ⟨hc 0 (by decide), hc 1 (by decide), hc 2 (by decide), hc 3 (by decide), bounds_i64 w0, bounds_i64 w1, bounds_i64 w2, bounds_i64 w3⟩⟩
end Go.Proofs.YtehaokdjdhejlaaDoor
