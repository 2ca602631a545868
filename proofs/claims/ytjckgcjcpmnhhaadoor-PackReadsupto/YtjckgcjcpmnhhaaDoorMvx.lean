/-
  What the bound of the second form gives.
-/
import Derived.Test.YtjckgcjcpmnhhaaDoorProg
import Derived.Test.YtjckgcjcpmnhhaaDoorRows
import Derived.Test.YtjckgcjcpmnhhaaDoorPw5
import Derived.Deep.Slices
import Derived.OpenShut
import Derived.ProofKit
import Derived.Test.YtjckgcjcpmnhhaaDoorPkg
import Derived.LaidMore
import Derived.SizedLaws
import Derived.Stop.Joined
import Derived.Test.YtjckgcjcpmnhhaaDoorErr
namespace Go.Proofs.YtjckgcjcpmnhhaaDoor
open Go
theorem bulk_one {H : Type} (d : DataW H) : 1 ≤ Rows.uptoBulk d := by
  cases d with
  | lit l => cases l <;> simp [Rows.uptoBulk]
  | nil => simp [Rows.uptoBulk]
  | ptr d => simp [Rows.uptoBulk]
  | slice elems spare => simp [Rows.uptoBulk]
  | agg parts => simp [Rows.uptoBulk]
  | iface t d => simp [Rows.uptoBulk]
  | map entries => simp [Rows.uptoBulk]
  | held h => simp [Rows.uptoBulk]
theorem bulk_len {H : Type} : ∀ l : List (DataW H), l.length ≤ Rows.uptoBulkAll l
  | [] => by simp [Rows.uptoBulkAll]
  | x :: r => by have := bulk_one x; have := bulk_len r; simp only [Rows.uptoBulkAll, List.length_cons]; omega
theorem bulk_mem {H : Type} {d : DataW H} : ∀ {l : List (DataW H)}, d ∈ l → Rows.uptoBulk d ≤ Rows.uptoBulkAll l
  | [], h => absurd h (by simp)
  | x :: r, h => by
    simp only [Rows.uptoBulkAll]
    rcases List.mem_cons.1 h with e | e
    · subst e; omega
    · have := bulk_mem e; omega
theorem bulk_of {H : Type} {ds : List (DataW H)} {d : DataW H} (hk : Rows.uptoSmall H ds = true) (hm : d ∈ ds) : Rows.uptoBulk d ≤ 1048576 :=
  Nat.le_trans (bulk_mem hm) (of_decide_eq_true hk)
theorem bulk_slice {H : Type} {ds : List (DataW H)} {el sp : List (DataW H)} (hk : Rows.uptoSmall H ds = true) (hm : DataW.slice el sp ∈ ds) : el.length ≤ 1048576 := by
  have h2 := bulk_of hk hm
  have h3 := bulk_len el
  simp only [Rows.uptoBulk] at h2
  omega
end Go.Proofs.YtjckgcjcpmnhhaaDoor
/-
  A list of Values that came in.
-/
namespace Go.Proofs.YtjckgcjcpmnhhaaDoor
open Flo Go.ChangeShapes Go.WideShapes Go.ChangeAt Go.RowKit Go.Deep
/-- a Value's cells, from p on -/
structure VAt (w : World) (q p : Nat) (k n : Int) (u v : Nat) (s : ByteArray) (l : Value) : Prop where
  c0 : w.cell? ⟨q, p, none⟩ = some (.int .i64 k)
  c1 : w.cell? ⟨q, p + 1, none⟩ = some (.int .u64 (u : Int))
  c2 : w.cell? ⟨q, p + 2, none⟩ = some (.int .u64 (v : Int))
  c3 : w.cell? ⟨q, p + 3, none⟩ = some (.string s)
  c4 : w.cell? ⟨q, p + 4, none⟩ = some l
  c5 : w.cell? ⟨q, p + 5, none⟩ = some (.int .i64 n)
/-- a list of Values -/
def InV (w : World) (ao : Option Addr) (m : Nat) : Prop :=
  ∀ i, i < m → ∃ q o k n u v s l zs, ao = some ⟨q, o, none⟩ ∧ q < w.heap.size ∧ VAt w q (o + i * 6) k n u v s l ∧ Vok w u v s l zs
theorem cellsV : Tryd.prog.cellsOf 30 = 6 := by kernel_rfl
theorem cellsU : Tryd.prog.cellsOf 27 = 1 := by kernel_rfl
theorem spotN' {w : World} {a : Addr} {v : Value} (h : w.cell? a = some v) : a.spot = none := by
  unfold World.cell? at h
  split at h
  · split at h
    · cases h
    · rename_i hs; simpa using hs
  · cases h
theorem addr_add (b off i : Nat) : (⟨b, off, none⟩ : Addr).add i = ⟨b, off + i, none⟩ := by
  unfold Addr.add
  by_cases h : i = 0
  · subst h; simp
  · simp [h]
theorem viewU {H : Type} {enc : TypeId × Value → H} {W : World} {fuel : Nat} {l : Value} {d : DataW H × List MemPlace}
    (hf : DataW.trod enc Tryd.prog W 0 (fun _ => true) true fuel 28 [l] = some d) (hb : Rows.uptoBulk d.1 ≤ 1048576) :
    ∃ zs : List Nat, SrcN W l zs ∧ zs.length ≤ 1048576 ∧ ∀ z ∈ zs, z < 18446744073709551616 := by
  rcases open_ints Tryd.underlying28 Tryd.underlying27 cellsU hf with ⟨hcs, hx⟩ | ⟨a, len, cap, Z, hcs, _, hl, hm, hz, rfl, hcell, hwz⟩
  · cases hcs
    exact ⟨[], ⟨none, 0, rfl, .inl rfl⟩, by simp, fun z hz => by cases hz⟩
  · cases hcs
    simp only [if_true] at hz
    have bd : ∀ i, i < len → (0 : Int) ≤ Z.getD i 0 ∧ Z.getD i 0 ≤ 18446744073709551615 := fun i hi => by
      have e : Z.getD i 0 = Z[i] := by simp [List.getD, show i < Z.length by omega]
      rw [e]; exact bounds_u64 (hwz _ (List.getElem_mem _))
    have ln : ((Z.take len).map Int.toNat).length = len := by simp; omega
    have gt : ∀ i, i < len → (((Z.take len).map Int.toNat).getD i 0 : Int) = Z.getD i 0 := fun i hi => by
      have e : Z.getD i 0 = Z[i] := by simp [List.getD, show i < Z.length by omega]
      have b := bd i hi
      rw [e] at b ⊢
      simp [List.getD, hi, show i < Z.length by omega]
      omega
    have hby : ∀ x ∈ (Z.take len).map Int.toNat, x < 18446744073709551616 := fun x hx => by
      obtain ⟨y, hy, rfl⟩ := List.mem_map.1 hx
      have := bounds_u64 (hwz y (List.mem_of_mem_take hy))
      omega
    have hlb : len ≤ 1048576 := by
      have h1 := bulk_len (lits (H := H) .u64 (Z.take len))
      simp only [Rows.uptoBulk] at hb
      have h2 : (lits (H := H) .u64 (Z.take len)).length = len := by simp [lits]; omega
      omega
    refine ⟨(Z.take len).map Int.toNat, ⟨some a, cap, by rw [ln], ?_⟩, by rw [ln]; exact hlb, hby⟩
    by_cases h0 : len = 0
    · left; exact List.eq_nil_of_length_eq_zero (by rw [ln, h0])
    · right
      have c0 := hcell 0 (by omega)
      obtain ⟨b, off, sp⟩ := a
      obtain rfl : sp = none := spotN' c0
      refine ⟨b, off, rfl, fun i hi => ?_⟩
      rw [ln] at hi
      rw [gt i hi, ← addr_add]
      exact hcell i (by omega)
theorem bulk_str {H : Type} (s : ByteArray) : Rows.uptoBulk (H := H) (.lit (.string s.data.toList)) = s.size + 1 := by
  simp [Rows.uptoBulk]
set_option maxRecDepth 100000 in
theorem viewV {H : Type} {enc : TypeId × Value → H} {W : World} {fuel : Nat} {a0 : Option Addr} {len cap : Nat} {d : DataW H} {p : List MemPlace}
    (hf : DataW.trod enc Tryd.prog W 0 (fun _ => true) true fuel 22 (Value.slice a0 len cap).cells.toList = some (d, p)) (hb : Rows.uptoBulk d ≤ 1048576) :
    InV W a0 len ∧ len ≤ 1048576 := by
  rcases open_slice Tryd.underlying22 hf with ⟨hcs, hx⟩ | ⟨a, len', cap', m, n, D, Pl, hcs, _, hl, hm, hmm, hx, hel⟩
  · simp [Value.cells] at hcs
    obtain ⟨rfl, rfl, rfl⟩ := hcs
    exact ⟨fun i hi => absurd hi (Nat.not_lt_zero _), by simp⟩
  · simp [Value.cells] at hcs
    obtain ⟨rfl, rfl, rfl⟩ := hcs
    simp only [Prod.mk.injEq] at hx
    obtain ⟨rfl, rfl⟩ := hx
    simp only [if_true] at hmm
    simp only [Rows.uptoBulk] at hb
    have hlen : len ≤ 1048576 := by
      have := bulk_len ((List.range len).map D)
      simp only [List.length_map, List.length_range] at this
      omega
    refine ⟨fun i hi => ?_, hlen⟩
    have hbD : Rows.uptoBulk (D i) ≤ 1048576 := by
      have := bulk_mem (List.mem_map_of_mem (f := D) (List.mem_range.2 hi))
      omega
    obtain ⟨cs', h1, h2⟩ := hel i (by omega)
    rw [cellsV] at h1
    obtain ⟨_, h3, h4⟩ := World.cells?_some h1
    obtain ⟨xs, n', _, hd, _, hxl, hfs⟩ := DataW.trod_struct Tryd.underlying30 h2
    have hxl' : xs.length = 6 := hxl
    match cs', h3, xs, hxl' with
    | [x0, x1, x2, x3, x4, x5], _, [y0, y1, y2, y3, y4, y5], _ =>
      have f0 : DataW.trod enc Tryd.prog W 0 (fun _ => true) true n' 3 [x0] = some y0 := hfs 0 _ rfl
      have f1 : DataW.trod enc Tryd.prog W 0 (fun _ => true) true n' 27 [x1] = some y1 := hfs 1 _ rfl
      have f2 : DataW.trod enc Tryd.prog W 0 (fun _ => true) true n' 27 [x2] = some y2 := hfs 2 _ rfl
      have f3 : DataW.trod enc Tryd.prog W 0 (fun _ => true) true n' 9 [x3] = some y3 := hfs 3 _ rfl
      have f4 : DataW.trod enc Tryd.prog W 0 (fun _ => true) true n' 28 [x4] = some y4 := hfs 4 _ rfl
      have f5 : DataW.trod enc Tryd.prog W 0 (fun _ => true) true n' 3 [x5] = some y5 := hfs 5 _ rfl
      obtain ⟨k, e0, _, _⟩ := DataW.trod_int Tryd.underlying3 f0
      obtain ⟨u, e1, _, wu⟩ := DataW.trod_int Tryd.underlying27 f1
      obtain ⟨v, e2, _, wv⟩ := DataW.trod_int Tryd.underlying27 f2
      obtain ⟨s, e3, g3, _⟩ := DataW.trod_string Tryd.underlying9 f3
      obtain ⟨nn, e5, _, _⟩ := DataW.trod_int Tryd.underlying3 f5
      cases e0; cases e1; cases e2; cases e3; cases e5
      subst g3
      have hd' := (Prod.mk.inj hd).1
      rw [hd'] at hbD
      simp only [List.map_cons, List.map_nil, Rows.uptoBulk, Rows.uptoBulkAll] at hbD
      have := bulk_str (H := H) s
      simp only [Rows.uptoBulk] at this
      obtain ⟨zs, z1, z2, z3⟩ := viewU f4 (by omega)
      have bu := bounds_u64 wu
      have bv := bounds_u64 wv
      obtain ⟨b, off, sp⟩ := a
      obtain rfl : sp = none := by
        obtain ⟨cs0, g1, _⟩ := hel 0 (by omega)
        rw [cellsV] at g1
        obtain ⟨_, g3, g4⟩ := World.cells?_some g1
        have g5 := g4 0 (by decide)
        rw [List.getElem?_eq_getElem (by omega)] at g5
        have := spotN' g5
        simpa [Addr.add] using this
      have hc : ∀ j, j < 6 → W.cell? ⟨b, off + i * 6 + j, none⟩ = [Value.int .i64 k, .int .u64 u, .int .u64 v, .string s, x4, .int .i64 nn][j]? := fun j hj => by
        have := h4 j hj
        rw [addr_add, addr_add] at this
        exact this
      refine ⟨b, off, k, nn, u.toNat, v.toNat, s, x4, zs, rfl, cell_lt (hc 0 (by decide)), ⟨hc 0 (by decide), ?_, ?_, hc 3 (by decide), hc 4 (by decide), hc 5 (by decide)⟩, ⟨by omega, by omega, by omega, z1, z2, z3⟩⟩
      · rw [Int.toNat_of_nonneg bu.1]; exact hc 1 (by decide)
      · rw [Int.toNat_of_nonneg bv.1]; exact hc 2 (by decide)
end Go.Proofs.YtjckgcjcpmnhhaaDoor
/-
  A list of Values that came in, with their limits; bytes that came in.
-/
namespace Go.Proofs.YtjckgcjcpmnhhaaDoor
open Flo Go.ChangeShapes Go.WideShapes Go.ChangeAt Go.RowKit Go.Deep
/-- a list of Values, and their limits -/
def InN (w : World) (ao : Option Addr) (m : Nat) : Prop :=
  ∀ i, i < m → ∃ q o k n u v s lo ln lc, ao = some ⟨q, o, none⟩ ∧ q < w.heap.size ∧ VAt w q (o + i * 6) k n u v s (.slice lo ln lc) ∧ n ≤ 9223372036854775807
theorem cells8 : Tryd.prog.cellsOf 5 = 1 := by kernel_rfl
/-- A list of bytes that came in, opened once, nil or not. -/
theorem view8 {H : Type} {enc : TypeId × Value → H} {W : World} {fuel : Nat} {a0 : Option Addr} {len cap : Nat} {d : DataW H} {p : List MemPlace}
    (hf : DataW.trod enc Tryd.prog W 0 (fun _ => true) true fuel 26 (Value.slice a0 len cap).cells.toList = some (d, p)) :
    ∃ bs : List Nat, bs.length = len ∧ (bs.length ≤ 140737488351232 → InB W (.slice a0 len cap) bs) ∧ (len = 0 ∨ ∃ el sp, d = .slice el sp ∧ el.length = len) := by
  rcases open_ints Tryd.underlying26 Tryd.underlying5 cells8 hf with ⟨hcs, hx⟩ | ⟨a, len', cap', Z, hcs, _, hl, hm, hz, hx, hcell, hwz⟩
  · simp [Value.cells] at hcs
    obtain ⟨rfl, rfl, rfl⟩ := hcs
    exact ⟨[], rfl, fun _ => ⟨.inl ⟨rfl, rfl⟩, fun h => absurd rfl h, fun x hx => (by cases hx), by simp⟩, Or.inl rfl⟩
  · simp [Value.cells] at hcs
    obtain ⟨rfl, rfl, rfl⟩ := hcs
    simp only [Prod.mk.injEq] at hx
    obtain ⟨rfl, rfl⟩ := hx
    simp only [if_true] at hz
    have bd : ∀ i, i < len → (0 : Int) ≤ Z.getD i 0 ∧ Z.getD i 0 ≤ 255 := fun i hi => by
      have e : Z.getD i 0 = Z[i] := by simp [List.getD, show i < Z.length by omega]
      rw [e]; exact bounds_u8 (hwz _ (List.getElem_mem _))
    have ln : ((Z.take len).map Int.toNat).length = len := by simp; omega
    have gt : ∀ i, i < len → (((Z.take len).map Int.toNat).getD i 0 : Int) = Z.getD i 0 := fun i hi => by
      have e : Z.getD i 0 = Z[i] := by simp [List.getD, show i < Z.length by omega]
      have b := bd i hi
      rw [e] at b ⊢
      simp [List.getD, hi, show i < Z.length by omega]
      omega
    have hby : ∀ x ∈ (Z.take len).map Int.toNat, x < 256 := fun x hx => by
      obtain ⟨y, hy, rfl⟩ := List.mem_map.1 hx
      have := bounds_u8 (hwz y (List.mem_of_mem_take hy))
      omega
    refine ⟨(Z.take len).map Int.toNat, ln, fun hb => ⟨.inr ⟨a, cap, by rw [ln], fun j u hj => ?_⟩, fun hne => ?_, hby, hb⟩, Or.inr ⟨_, _, rfl, by simp [lits]; omega⟩⟩
    · have hj2 : j < len := by
        have := (List.getElem?_eq_some_iff.1 hj).1
        rw [bc_len, ln] at this; exact this
      have e : (bc ((Z.take len).map Int.toNat))[j]? = some (.int .u8 (((Z.take len).map Int.toNat).getD j 0 : Nat)) := by
        have hj3 : j < ((Z.take len).map Int.toNat).length := by rw [ln]; exact hj2
        unfold bc
        rw [List.getElem?_map, List.getElem?_eq_getElem hj3]
        simp only [Option.map_some, List.getD, List.getElem?_eq_getElem hj3, Option.getD_some]
      rw [e] at hj
      cases hj
      rw [gt j hj2]
      exact hcell j (by omega)
    · have h0 : 0 < len := by
        rcases Nat.eq_zero_or_pos len with h | h
        · exact absurd (List.eq_nil_of_length_eq_zero (by rw [ln, h])) hne
        · exact h
      have c0 := hcell 0 (by omega)
      obtain ⟨b, off, sp⟩ := a
      obtain rfl : sp = none := spotN' c0
      refine ⟨b, off, cap, by rw [ln], by rw [ln]; exact hl, cell_lt c0, fun i hi => ?_⟩
      rw [ln] at hi
      rw [gt i hi, ← addr_add]
      exact hcell i (by omega)
theorem viewB {H : Type} {enc : TypeId × Value → H} {W : World} {fuel : Nat} {a0 : Option Addr} {len cap : Nat} {d : DataW H} {p : List MemPlace}
    (hf : DataW.trod enc Tryd.prog W 0 (fun _ => true) true fuel 26 (Value.slice a0 len cap).cells.toList = some (d, p)) (hb : Rows.uptoBulk d ≤ 1048576) :
    ∃ bs : List Nat, bs.length = len ∧ (SrcB W (.slice a0 len cap) bs ∧ ∀ b ∈ bs, b < 256) ∧ len ≤ 1048576 := by
  obtain ⟨bs, h1, h2, h3⟩ := view8 hf
  have hl : len ≤ 1048576 := by
    rcases h3 with h3 | ⟨el, sp, rfl, h4⟩
    · omega
    · have h5 := bulk_len el
      simp only [Rows.uptoBulk] at hb
      omega
  have h6 := h2 (by omega)
  exact ⟨bs, h1, ⟨h6.src, h6.byt⟩, hl⟩
set_option maxRecDepth 100000 in
theorem viewN {H : Type} {enc : TypeId × Value → H} {W : World} {fuel : Nat} {a0 : Option Addr} {len cap : Nat} {d : DataW H} {p : List MemPlace}
    (hf : DataW.trod enc Tryd.prog W 0 (fun _ => true) true fuel 22 (Value.slice a0 len cap).cells.toList = some (d, p)) (hb : Rows.uptoBulk d ≤ 1048576) :
    InN W a0 len ∧ len ≤ 1048576 := by
  rcases open_slice Tryd.underlying22 hf with ⟨hcs, hx⟩ | ⟨a, len', cap', m, n, D, Pl, hcs, _, hl, hm, hmm, hx, hel⟩
  · simp [Value.cells] at hcs
    obtain ⟨rfl, rfl, rfl⟩ := hcs
    exact ⟨fun i hi => absurd hi (Nat.not_lt_zero _), by simp⟩
  · simp [Value.cells] at hcs
    obtain ⟨rfl, rfl, rfl⟩ := hcs
    simp only [Prod.mk.injEq] at hx
    obtain ⟨rfl, rfl⟩ := hx
    simp only [if_true] at hmm
    simp only [Rows.uptoBulk] at hb
    have hlen : len ≤ 1048576 := by
      have := bulk_len ((List.range len).map D)
      simp only [List.length_map, List.length_range] at this
      omega
    refine ⟨fun i hi => ?_, hlen⟩
    have hbD : Rows.uptoBulk (D i) ≤ 1048576 := by
      have := bulk_mem (List.mem_map_of_mem (f := D) (List.mem_range.2 hi))
      omega
    obtain ⟨cs', h1, h2⟩ := hel i (by omega)
    rw [cellsV] at h1
    obtain ⟨_, h3, h4⟩ := World.cells?_some h1
    obtain ⟨xs, n', _, hd, _, hxl, hfs⟩ := DataW.trod_struct Tryd.underlying30 h2
    have hxl' : xs.length = 6 := hxl
    match cs', h3, xs, hxl' with
    | [x0, x1, x2, x3, x4, x5], _, [y0, y1, y2, y3, y4, y5], _ =>
      have f0 : DataW.trod enc Tryd.prog W 0 (fun _ => true) true n' 3 [x0] = some y0 := hfs 0 _ rfl
      have f1 : DataW.trod enc Tryd.prog W 0 (fun _ => true) true n' 27 [x1] = some y1 := hfs 1 _ rfl
      have f2 : DataW.trod enc Tryd.prog W 0 (fun _ => true) true n' 27 [x2] = some y2 := hfs 2 _ rfl
      have f3 : DataW.trod enc Tryd.prog W 0 (fun _ => true) true n' 9 [x3] = some y3 := hfs 3 _ rfl
      have f4 : DataW.trod enc Tryd.prog W 0 (fun _ => true) true n' 28 [x4] = some y4 := hfs 4 _ rfl
      have f5 : DataW.trod enc Tryd.prog W 0 (fun _ => true) true n' 3 [x5] = some y5 := hfs 5 _ rfl
      obtain ⟨k, e0, _, _⟩ := DataW.trod_int Tryd.underlying3 f0
      obtain ⟨u, e1, _, wu⟩ := DataW.trod_int Tryd.underlying27 f1
      obtain ⟨v, e2, _, wv⟩ := DataW.trod_int Tryd.underlying27 f2
      obtain ⟨s, e3, g3, _⟩ := DataW.trod_string Tryd.underlying9 f3
      obtain ⟨nn, e5, _, wn⟩ := DataW.trod_int Tryd.underlying3 f5
      cases e0; cases e1; cases e2; cases e3; cases e5
      subst g3
      have hd' := (Prod.mk.inj hd).1
      rw [hd'] at hbD
      simp only [List.map_cons, List.map_nil, Rows.uptoBulk, Rows.uptoBulkAll] at hbD
      have := bulk_str (H := H) s
      simp only [Rows.uptoBulk] at this
      obtain ⟨zs, z1, z2, z3⟩ := viewU f4 (by omega)
      obtain ⟨lo, lc, rfl, _⟩ := z1
      have bn := bounds_i64 wn
      have bu := bounds_u64 wu
      have bv := bounds_u64 wv
      obtain ⟨b, off, sp⟩ := a
      obtain rfl : sp = none := by
        obtain ⟨cs0, g1, _⟩ := hel 0 (by omega)
        rw [cellsV] at g1
        obtain ⟨_, g3, g4⟩ := World.cells?_some g1
        have g5 := g4 0 (by decide)
        rw [List.getElem?_eq_getElem (by omega)] at g5
        have := spotN' g5
        simpa [Addr.add] using this
      have hc : ∀ j, j < 6 → W.cell? ⟨b, off + i * 6 + j, none⟩ = [Value.int .i64 k, .int .u64 u, .int .u64 v, .string s, .slice lo zs.length lc, .int .i64 nn][j]? := fun j hj => by
        have := h4 j hj
        rw [addr_add, addr_add] at this
        exact this
      refine ⟨b, off, k, nn, u.toNat, v.toNat, s, lo, zs.length, lc, rfl, cell_lt (hc 0 (by decide)), ⟨hc 0 (by decide), ?_, ?_, hc 3 (by decide), hc 4 (by decide), hc 5 (by decide)⟩, by omega⟩
      · rw [Int.toNat_of_nonneg bu.1]; exact hc 1 (by decide)
      · rw [Int.toNat_of_nonneg bv.1]; exact hc 2 (by decide)
end Go.Proofs.YtjckgcjcpmnhhaaDoor
/-
  From what the rows list (the nineteen sentinels read as their texts lay them) to what the walks ask: 'Errs'.
-/
namespace Go.Proofs.YtjckgcjcpmnhhaaDoor
open Go.RowKit
def errNames : List (String × List UInt8) := [("timbre/api.ErrShort", [116, 105, 109, 98, 114, 101, 58, 32, 116, 111, 111, 32, 115, 104, 111, 114, 116]), ("timbre/api.ErrVarint", [116, 105, 109, 98, 114, 101, 58, 32, 118, 97, 114, 105, 110, 116]), ("timbre/api.ErrLimit", [116, 105, 109, 98, 114, 101, 58, 32, 108, 105, 109, 105, 116]), ("timbre/api.ErrTail", [116, 105, 109, 98, 114, 101, 58, 32, 116, 97, 105, 108]), ("timbre/api.ErrRange", [116, 105, 109, 98, 114, 101, 58, 32, 114, 97, 110, 103, 101]), ("timbre/api.ErrText", [116, 105, 109, 98, 114, 101, 58, 32, 116, 101, 120, 116]), ("timbre/api.ErrLength", [116, 105, 109, 98, 114, 101, 58, 32, 108, 101, 110, 103, 116, 104]), ("timbre/api.ErrOrder", [116, 105, 109, 98, 114, 101, 58, 32, 111, 114, 100, 101, 114]), ("timbre/api.ErrProgram", [116, 105, 109, 98, 114, 101, 58, 32, 112, 114, 111, 103, 114, 97, 109]), ("timbre/api.ErrState", [116, 105, 109, 98, 114, 101, 58, 32, 115, 116, 97, 116, 101]), ("timbre/api.ErrRoot", [116, 105, 109, 98, 114, 101, 58, 32, 114, 111, 111, 116]), ("timbre/api.ErrPerm", [116, 105, 109, 98, 114, 101, 58, 32, 112, 101, 114, 109, 117, 116, 97, 116, 105, 111, 110]), ("timbre/api.ErrNumber", [116, 105, 109, 98, 114, 101, 58, 32, 110, 117, 109, 98, 101, 114]), ("timbre/api.ErrWorkers", [116, 105, 109, 98, 114, 101, 58, 32, 119, 111, 114, 107, 101, 114, 115]), ("timbre/api.ErrDone", [116, 105, 109, 98, 114, 101, 58, 32, 100, 111, 110, 101]), ("timbre/api.ErrUnknown", [116, 105, 109, 98, 114, 101, 58, 32, 117, 110, 107, 110, 111, 119, 110]), ("timbre/api.ErrMode", [116, 105, 109, 98, 114, 101, 58, 32, 109, 111, 100, 101]), ("timbre/api.ErrCommand", [116, 105, 109, 98, 114, 101, 58, 32, 99, 111, 109, 109, 97, 110, 100]), ("timbre/api.ErrExact", [116, 105, 109, 98, 114, 101, 58, 32, 101, 120, 97, 99, 116])]
theorem errs_of {W : World} (h : laidMetH Tryd.prog (errNames.map fun x => (x.1, errD x.2)) W) : ∃ al, Errs W al := by
  rw [MakeChecks.laidMetH_plain _ _ _ (by kernel_rfl)] at h
  obtain ⟨ps, hv, hnd, hr⟩ := h
  obtain ⟨al, h1, h2, h3⟩ := sents errNames [2, 1, 4, 0, 5, 6, 7, 8, 9, 10, 11, 12, 3, 13, 14, 15, 16, 17, 18] ps (by kernel_rfl) (by decide +kernel) hv hr
  exact ⟨al, h1, h3 hnd, fun a ha => (hr _ _ (h2 a ha)).1⟩
end Go.Proofs.YtjckgcjcpmnhhaaDoor
