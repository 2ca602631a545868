/-
  The statements of layer 18: arrays of marks, and told.
-/
import Derived.Test.YtedfjedmapimnaaDoorKa7
import Derived.Test.YtedfjedmapimnaaDoorKap
import Derived.Test.YtedfjedmapimnaaDoorKcr
namespace Go.Proofs.YtedfjedmapimnaaDoor
open Flo Go.RowKit
/-- cells of a block of one's own, told by a function -/
structure Arr (w : World) (g n : Nat) (f : Nat → Value) : Prop where
  c : ∀ x, x < n → w.cell? ⟨g, x, none⟩ = some (f x)
  z : ∀ x, w.frozen? ⟨g, x, none⟩ = false
  l : g < w.heap.size
theorem Arr.below {w w' : World} {g n : Nat} {f : Nat → Value} (h : Arr w g n f) (hb : Below w.heap.size w w') : Arr w' g n f :=
  ⟨fun x hx => (hb.cell (p := ⟨g, x, none⟩) h.l).trans (h.c x hx), fun x => (World.frozen?_of_block (hb.block g h.l)).trans (h.z x), Nat.lt_of_lt_of_le h.l hb.size⟩
theorem Arr.far {w : World} {g n : Nat} {f : Nat → Value} (h : Arr w g n f) {b x : Nat} (hb : b ≠ g) (v : Value) : Arr (w.setCell ⟨b, x, none⟩ v) g n f :=
  ⟨fun y hy => by rw [World.cell?_setCell_far _ _ _ _ (by simpa using hb)]; exact h.c y hy, fun y => by rw [World.frozen?_setCell]; exact h.z y, by simpa using h.l⟩
theorem Arr.set {w : World} {g n : Nat} {f f' : Nat → Value} (h : Arr w g n f) {x : Nat} (hx : x < n) (v : Value) (h1 : f' x = v) (h2 : ∀ y, y ≠ x → f' y = f y) : Arr (w.setCell ⟨g, x, none⟩ v) g n f' :=
  ⟨fun y hy => by
    by_cases e : y = x
    · subst e
      rw [h1]
      have := h.c y hx
      simp [World.cell?_setCell_same', this]
    · rw [h2 y e, World.cell?_setCell_other _ _ _ _ (by simp <;> omega)]
      exact h.c y hy, fun y => by rw [World.frozen?_setCell]; exact h.z y, by simpa using h.l⟩
theorem Arr.eq {w : World} {g n : Nat} {f f' : Nat → Value} (h : Arr w g n f) (e : ∀ x, x < n → f' x = f x) : Arr w g n f' := ⟨fun x hx => by rw [e x hx]; exact h.c x hx, h.z, h.l⟩
theorem infoB8 : (Tryd.prog.info? 4).map (fun i => (i.zero, i.size, i.bytes)) = some (some (.bool false), 1, 1) := by kernel_rfl
theorem makeB8 (w : World) (n : Nat) (hn : n ≤ 262144) :
    ∃ w', (Instr.makeSlice 42 (.int .i64 (n : Int)) (.int .i64 (n : Int))).run Tryd.prog w = .ok (.slice (some ⟨w.heap.size, 0, none⟩) n n) w' ∧
      Hid (Arr w' w.heap.size n fun _ => .bool false) ∧ Hid (Below w.heap.size w w') := by
  obtain ⟨i0, hi0, hz0, hz1, hz2⟩ := info_parts infoB8
  have h := run_make (P := Tryd.prog) w 42 4 i0 _ Tryd.underlying42 hi0 hz0 .i64 .i64 (n : Int) (n : Int) (by omega) (by omega) (by rw [hz2]; omega) (by omega)
  rw [hz1, Int.toNat_natCast] at h
  have hb := heap_alloc_new w (.cells (madeCells (Value.cells (.bool false)) (n * 1)) 4)
  refine ⟨_, h, ⟨fun x hx => ?_, fun x => frozen_of_row _ _ x _ _ hb, by simp⟩, (Below.refl _ w).alloc (Nat.le_refl _) _⟩
  have e := Joins.cell_of_block hb x
  rw [e]
  simp [madeCells, hx]
  show (#[Value.bool false] : Array Value)[x % 1]! = _
  rw [Nat.mod_one]
  rfl
theorem makeI8 (w : World) (n : Nat) (hn : n ≤ 262144) :
    ∃ w', (Instr.makeSlice 41 (.int .i64 (n : Int)) (.int .i64 (n : Int))).run Tryd.prog w = .ok (.slice (some ⟨w.heap.size, 0, none⟩) n n) w' ∧
      Hid (Arr w' w.heap.size n fun _ => .int .i64 0) ∧ Hid (Below w.heap.size w w') := by
  obtain ⟨i0, hi0, hz0, hz1, hz2⟩ := info_parts infoI9
  have h := run_make (P := Tryd.prog) w 41 3 i0 _ Tryd.underlying41 hi0 hz0 .i64 .i64 (n : Int) (n : Int) (by omega) (by omega) (by rw [hz2]; omega) (by omega)
  rw [hz1, Int.toNat_natCast] at h
  have hb := heap_alloc_new w (.cells (madeCells (Value.cells (.int .i64 0)) (n * 1)) 3)
  refine ⟨_, h, ⟨fun x hx => ?_, fun x => frozen_of_row _ _ x _ _ hb, by simp⟩, (Below.refl _ w).alloc (Nat.le_refl _) _⟩
  have e := Joins.cell_of_block hb x
  rw [e]
  simp [madeCells, hx]
  show (#[Value.int .i64 0] : Array Value)[x % 1]! = _
  rw [Nat.mod_one]
  rfl
theorem told_in {L : List Nat} {x q : Nat} (hS : Kc.SS L) (h1 : ∀ y ∈ L.take q, y < x) (h2 : ∀ y ∈ L.drop q, x ≤ y) (hx : x ∈ L) : q < L.length ∧ L.getD q 0 = x ∧ (∀ y ∈ L.take (q + 1), y < x + 1) ∧ ∀ y ∈ L.drop (q + 1), x + 1 ≤ y := by
  have hd : x ∈ L.drop q := by
    have := List.take_append_drop q L
    rw [← this] at hx
    rcases List.mem_append.1 hx with h | h
    · exact absurd (h1 x h) (Nat.lt_irrefl x)
    · exact h
  have hq : q < L.length := by
    refine Classical.byContradiction fun c => ?_
    rw [List.drop_eq_nil_of_le (by omega)] at hd
    simp at hd
  have e : L.drop q = L[q] :: L.drop (q + 1) := List.drop_eq_getElem_cons hq
  have hS2 : Kc.SS (L.drop q) := hS.drop
  rw [e] at hS2
  have hp := List.pairwise_cons.1 hS2
  have hge := h2 L[q] (by rw [e]; exact List.mem_cons_self)
  have heq : L[q] = x := by
    rw [e] at hd
    rcases List.mem_cons.1 hd with h | h
    · exact h.symm
    · have := hp.1 x h; omega
  have eg : L.getD q 0 = L[q] := by rw [List.getD_eq_getElem?_getD, List.getElem?_eq_getElem hq]; rfl
  refine ⟨hq, eg.trans heq, fun y hy => ?_, fun y hy => ?_⟩
  · rcases (Kc.mem_tk hq).1 hy with h | h
    · have := h1 y h; omega
    · rw [h, eg, heq]; omega
  · have := hp.1 y hy
    omega
theorem told_out {L : List Nat} {x q : Nat} (h1 : ∀ y ∈ L.take q, y < x) (h2 : ∀ y ∈ L.drop q, x ≤ y) (hx : x ∉ L) : (∀ y ∈ L.take q, y < x + 1) ∧ ∀ y ∈ L.drop q, x + 1 ≤ y := by
  refine ⟨fun y hy => by have := h1 y hy; omega, fun y hy => ?_⟩
  have h3 := h2 y hy
  have : y ≠ x := fun e => hx (e ▸ List.mem_of_mem_drop hy)
  omega
theorem told_end {L : List Nat} {n q : Nat} (hn : ∀ y ∈ L, y < n) (h2 : ∀ y ∈ L.drop q, n ≤ y) (hq : q ≤ L.length) : q = L.length := by
  refine Classical.byContradiction fun c => ?_
  have hl : q < L.length := by omega
  have hm : L[q] ∈ L.drop q := by rw [List.drop_eq_getElem_cons hl]; exact List.mem_cons_self
  have := h2 _ hm
  have := hn _ (List.mem_of_mem_drop hm)
  omega
set_option maxHeartbeats 2000000 in
set_option maxRecDepth 100000 in
theorem told_c (v : Value) (L : List Nat) (g n : Nat) (w : World) (f : Nat → Bool) (hv : RdI w v L) (hA : Arr w g n fun x => .bool (f x)) (hf : ∀ x, f x = true ↔ x ∈ L) (hS : Kc.SS L) (hL : ∀ y ∈ L, y < n) (hl : L.length ≤ 16777216) (hn : n ≤ 262144) :
    Calls Tryd.prog 18 #[v, .slice (some ⟨g, 0, none⟩) n n] w fun e w' => e = .returned (.bool true) ∧ w = w' := by
  obtain ⟨ao, cp, rfl, hr⟩ := hv
  have hrH : Hid (L ≠ [] → ∃ b off, ao = some ⟨b, off, none⟩ ∧ b < w.heap.size ∧ ∀ i, i < L.length → w.cell? ⟨b, off + i, none⟩ = some (.int .i64 ((L.getD i 0 : Nat) : Int))) := hr
  obtain ⟨m, hm⟩ : ∃ n, Hid (L.length = n) := ⟨_, (rfl : _ = _)⟩
  have hcl : Hid (∀ x, x < n → w.cell? ⟨g, x, none⟩ = some (.bool (f x))) := hA.c
  have hfH : Hid (∀ x, f x = true ↔ x ∈ L) := hf
  have hSH : Hid (Kc.SS L) := hS
  have hLH : Hid (∀ y ∈ L, y < n) := hL
  rw [hm.out] at hl ⊢
  clear hr hA hf hS hL
  go_enter Tryd.func18, Tryd.ntmps18
  go_wp2
  go_loopw [5, 10] (fun a i wr => ∃ (q x : Nat), x ≤ n ∧ q ≤ m ∧ i = .int .i64 x ∧ a = .int .i64 q ∧ w = wr ∧ Hid ((∀ y ∈ L.take q, y < x) ∧ ∀ y ∈ L.drop q, x ≤ y)) (fun _ i _ => n - (intOf i).toNat)
  case atStart => exact ⟨0, 0, Nat.zero_le _, Nat.zero_le _, rfl, rfl, rfl, ⟨by simp, by simp⟩⟩
  case round =>
    obtain ⟨q, x, hx, hq, rfl, rfl, rfl, hI⟩ := hrel
    by_cases hlt : x < n
    · have hlt' : (x : Int) < (n : Int) := by omega
      have z1 := hcl.out x hlt
      obtain ⟨b, hb⟩ : ∃ b, Hid (f x = b) := ⟨_, (rfl : _ = _)⟩
      rw [hb.out] at z1
      cases b with
      | false =>
        have hI2 : Hid ((∀ y ∈ L.take q, y < x + 1) ∧ ∀ y ∈ L.drop q, x + 1 ≤ y) := told_out hI.out.1 hI.out.2 (fun h => by have := (hfH.out x).2 h; rw [hb.out] at this; cases this)
        clear hI hb
        go_wp2
        go_roundw
        case rel => exact ⟨q, x + 1, by omega, hq, by go_num, rfl, by first | rfl | trivial, hI2⟩
        case measure => simp [intOf]; omega
      | true =>
        obtain ⟨h1, h2, h3, h4⟩ := told_in hSH.out hI.out.1 hI.out.2 ((hfH.out x).1 hb.out)
        have hI2 : Hid ((∀ y ∈ L.take (q + 1), y < x + 1) ∧ ∀ y ∈ L.drop (q + 1), x + 1 ≤ y) := ⟨h3, h4⟩
        obtain ⟨bb, off, rfl, -, hc⟩ := hrH.out (fun e => by rw [e] at h1; simp at h1)
        have z2 := hc q h1
        rw [h2] at z2
        rw [hm.out] at h1
        have h1' : decide ((m : Int) ≤ (q : Int)) = false := decide_eq_false (by omega)
        have h1'' : (q : Int) < (m : Int) := by omega
        have h1z : ¬ m ≤ q := by omega
        clear hI hb h2 h3 h4 hc
        go_wp2
        go_roundw
        case rel => exact ⟨q + 1, x + 1, by omega, by omega, by go_num, by go_num, by first | rfl | trivial, hI2⟩
        case measure => simp [intOf]; omega
    · have hlt' : decide ((x : Int) < (n : Int)) = false := decide_eq_false (by omega)
      have hx2 : x = n := by omega
      have he := hI.out.2
      rw [hx2] at he
      obtain rfl : q = m := by
        have := told_end hLH.out he (by rw [hm.out]; exact hq)
        rw [hm.out] at this
        exact this
      clear hI he hx2
      go_wp2
      go_ret
      exact ⟨by simp, rfl⟩
end Go.Proofs.YtedfjedmapimnaaDoor
