/-
  Contracts of the document's answers of layer 6: Inverse, After.
-/
import Derived.Test.YtbhhbnhoknlonaaDoorPq1
namespace Go.Proofs.YtbhhbnhoknlonaaDoor
open Flo Go.RowKit

theorem ckB_iff {p : List Int} : ckB p = true ↔ ∀ j, j < p.length → okAt p j := by
  unfold ckB
  rw [List.all_eq_true]
  constructor
  · intro h j hj; exact of_decide_eq_true (h j (List.mem_range.2 hj))
  · intro h j hj; exact decide_eq_true (h j (List.mem_range.1 hj))
theorem ckE_true {p : List Int} (h : ckB p = true) : ckE p = 0 := by unfold ckE; rw [if_pos h]
theorem ckE_false {p : List Int} (h : ckB p = false) : ckE p = 12 := by unfold ckE; rw [if_neg (by rw [h]; decide)]
/-- where a number stands, as far as the first i places tell -/
def io (p : List Int) (i x : Nat) : Int := if (x : Int) ∈ p.take i then ((p.idxOf (x : Int) : Nat) : Int) else 0
def ioL (p : List Int) (n i : Nat) : List Value := (List.range n).map fun (x : Nat) => Value.int .i64 (io p i x)
/-- the inverse; nothing, if it is no permutation -/
def invZ (p : List Int) : List Int := if ckB p then (List.range p.length).map fun (x : Nat) => io p p.length x else []
theorem ioL_len (p : List Int) (n i : Nat) : (ioL p n i).length = n := by simp [ioL]
theorem ioL_0 (p : List Int) (n : Nat) : ioL p n 0 = List.replicate n (.int .i64 0) := by
  apply List.ext_getElem
  · simp [ioL]
  · intro k h1 h2; simp [ioL, io]
theorem ioL_step {p : List Int} {n i x : Nat} (hi : i < p.length) (hx : p.getD i 0 = (x : Int)) (hn : (x : Int) ∉ p.take i) : (ioL p n i).set x (.int .i64 (i : Int)) = ioL p n (i + 1) := by
  have e : p.take (i + 1) = p.take i ++ [(x : Int)] := by
    rw [List.take_succ_eq_append_getElem hi, ← hx]; simp [List.getD, hi]
  have hidx : p.idxOf (x : Int) = i := by
    have hpi : p[i] = (x : Int) := by rw [← hx]; simp [List.getD, hi]
    have h1 : (p.take i ++ p.drop i).idxOf (x : Int) = i := by
      rw [List.idxOf_append, if_neg hn, List.drop_eq_getElem_cons hi, hpi]
      simp
      omega
    rwa [List.take_append_drop] at h1
  apply List.ext_getElem
  · simp [ioL]
  · intro k h1 h2
    rw [List.getElem_set]
    simp only [ioL, List.getElem_map, List.getElem_range, io, e]
    by_cases c : x = k
    · subst c; simp [hidx]
    · rw [if_neg c]
      congr 1
      by_cases hk : (k : Int) ∈ p.take i
      · rw [if_pos hk, if_pos (by simp [hk])]
      · rw [if_neg hk, if_neg]
        simp only [List.mem_append, List.mem_singleton]
        rintro (h | h)
        · exact hk h
        · omega
theorem makeI (w : World) (n : Nat) (hn : n ≤ 1099511627776) :
    ∃ w', (Instr.makeSlice 22 (.int .i64 (n : Int)) (.int .i64 (n : Int))).run Tryd.prog w = .ok (.slice (some ⟨w.heap.size, 0, none⟩) n n) w' ∧
      Hid (w'.ownsRow w.heap.size 3 1 (.slice (some ⟨w.heap.size, 0, none⟩) n n) n (List.replicate n (.int .i64 0))) ∧ Hid (Below w.heap.size w w') := by
  obtain ⟨i0, hi0, hz0, hz1, hz2⟩ := info_parts infoInt
  obtain ⟨w', h1, h2, h3⟩ := run_make_full (P := Tryd.prog) w w.heap.size 22 3 i0 (.int .i64 0) 1 Tryd.underlying22 hi0 hz0 hz1 .i64 .i64 n (by rw [hz2]; omega) (by unfold maxLen; omega) (Nat.le_refl _)
  refine ⟨w', h1, ?_, (Below.refl _ w).grown h3 (Nat.le_refl _) (fun b e => by cases e)⟩
  have e : (Value.int .i64 0).cells = #[.int .i64 0] := rfl
  rw [e, Nat.mul_one, toList_madeCells_one] at h2
  exact h2
theorem emptyI (w : World) (B : Nat) (hB : B ≤ w.heap.size) : (w.alloc (.cells #[] 3)).ownsRow B 3 1 (.slice (some ⟨w.heap.size, 0, none⟩) 0 0) 0 [] :=
  ⟨rfl, .inr ⟨w.heap.size, 0, #[], rfl, hB, heap_alloc_new w _, Nat.le_refl _, Nat.zero_le _, rfl, rfl⟩⟩
theorem ret_vi {v : Value} {a b : Int} (h : a = b) : Ending.returned (.tuple #[v, .int .i64 a]) = .returned (.tuple #[v, .int .i64 b]) := by rw [h]
set_option maxHeartbeats 2000000 in
theorem r6Inverse_c (v : Value) (p : List Int) (w : World) (hR : RdZ w v p) (hn : p.length ≤ 1099511627776) :
    Calls Tryd.prog 12 #[v] w fun e w' => ∃ v', e = .returned (.tuple #[v', .int .i64 (ckE p)]) ∧ w'.ownsRow w.heap.size 3 1 v' (invZ p).length (iz (invZ p)) ∧ Below w.heap.size w w' := by
  have hRH0 : Hid (RdZ w v p) := hR
  obtain ⟨ao, cap, rfl, hrd⟩ := hR
  have hRH : Hid (p ≠ [] → ∃ b off, ao = some ⟨b, off, none⟩ ∧ b < w.heap.size ∧ ∀ i, i < p.length → w.cell? ⟨b, off + i, none⟩ = some (.int .i64 (p.getD i 0))) := hrd
  clear hrd
  go_enter Tryd.func12, Tryd.ntmps12
  go_wp2_with fail
  refine (r6Check_c _ p _ hRH0.out hn).mono ?_
  rintro e w0 ⟨rfl, b0⟩
  have B0 : Hid (Below w.heap.size w w0) := b0
  clear b0 hRH0
  cases hck : ckB p
  · have hce : Hid ((12 : Int) = ckE p) := (ckE_false hck).symm
    rw [ckE_false hck]
    have hinv : Hid (invZ p = []) := (by unfold invZ; rw [if_neg (by rw [hck]; decide)] : invZ p = [])
    clear hck
    go_wp2
    go_ret2
    exact ⟨_, ret_vi hce.out, by rw [hinv.out]; exact emptyI w0 _ B0.out.size, B0.out.alloc B0.out.size _⟩
  · have hce : Hid ((0 : Int) = ckE p) := (ckE_true hck).symm
    rw [ckE_true hck]
    have hok : Hid (∀ j, j < p.length → okAt p j) := ckB_iff.1 hck
    have hinv : Hid (iz (invZ p) = ioL p p.length p.length ∧ (invZ p).length = p.length) := (by
      unfold invZ; rw [if_pos hck]; exact ⟨by simp [iz, ioL], by simp⟩ : iz (invZ p) = ioL p p.length p.length ∧ (invZ p).length = p.length)
    clear hck
    obtain ⟨n, hnn⟩ : ∃ n, p.length = n := ⟨_, rfl⟩
    have hnH : Hid (p.length = n) := hnn
    rw [hnn] at hn hinv ⊢
    obtain ⟨w1, hmk, hrow, hb1⟩ := makeI w0 n hn
    clear hnn
    go_wp2
    clear hmk
    go_loopw [6, 7, 19] (fun _ _ si wx => ∃ i : Nat, i ≤ n ∧ si = .int .i64 (i : Int) ∧ Hid (wx.ownsRow w0.heap.size 3 1 (.slice (some ⟨w0.heap.size, 0, none⟩) n n) n (ioL p n i)) ∧ Hid (Below w0.heap.size w0 wx)) (fun _ _ si _ => n - (intOf si).toNat)
    case atStart => exact ⟨0, Nat.zero_le _, rfl, (by rw [ioL_0]; exact hrow.out), hb1⟩
    case round =>
      clear hrow hb1
      obtain ⟨i, hi, rfl, hrow, hb⟩ := hrel
      by_cases hlt : i < n
      · have hlt' : (i : Int) < (n : Int) := by omega
        have hil : i < p.length := by rw [hnH.out]; exact hlt
        obtain ⟨b, off, rfl, hbw, hcell⟩ := hRH.out (fun e => by rw [e] at hil; simp at hil)
        obtain ⟨o1, o2, o3⟩ := hok.out i hil
        rw [hnH.out] at o2
        obtain ⟨y, hy⟩ : ∃ y : Nat, p.getD i 0 = (y : Int) := ⟨(p.getD i 0).toNat, by omega⟩
        have c1 : wr.cell? ⟨b, off + i, none⟩ = some (.int .i64 (y : Int)) := by
          rw [← hy]
          exact (hb.out.cell (p := ⟨b, off + i, none⟩) (Nat.lt_of_lt_of_le hbw B0.out.size)).trans ((B0.out.cell (p := ⟨b, off + i, none⟩) hbw).trans (hcell i hil))
        have hyn : y < n := by omega
        have hy' : (y : Int) < (n : Int) := by omega
        have c2 := hrow.out.cellAt y (by omega)
        have c3 : wr.cell? ⟨w0.heap.size, y, none⟩ = some (.int .i64 (io p i y)) := by rw [c2]; simp [ioL, hyn]
        have f2 := hrow.out.frozenAt y
        have hst := hrow.out.stored y (.int .i64 (i : Int))
        rw [ioL_step hil hy (by rw [← hy]; exact o3)] at hst
        have hst1 : Hid ((wr.setCell ⟨w0.heap.size, y, none⟩ (.int .i64 (i : Int))).ownsRow w0.heap.size 3 1 (.slice (some ⟨w0.heap.size, 0, none⟩) n n) n (ioL p n (i + 1))) := hst.1
        have hb2 : Hid (Below w0.heap.size w0 (wr.setCell ⟨w0.heap.size, y, none⟩ (.int .i64 (i : Int)))) := hb.out.setCell (p := ⟨w0.heap.size, y, none⟩) (Nat.le_refl _) _
        generalize io p i y = old at c3
        clear hcell hy o1 o2 o3 hst c2
        go_wp2
        go_roundw
        case rel => exact ⟨i + 1, by omega, by go_num, hst1, hb2⟩
        case measure => simp [intOf]; omega
      · have hlt' : decide ((i : Int) < (n : Int)) = false := decide_eq_false (by omega)
        have ei : i = n := by omega
        subst ei
        have hfin : Hid (wr.ownsRow w.heap.size 3 1 (.slice (some ⟨w0.heap.size, 0, none⟩) i i) (invZ p).length (iz (invZ p))) := (by
          rw [hinv.out.1, hinv.out.2]
          obtain ⟨x1, x2⟩ := hrow.out
          exact ⟨x1, x2.imp id (fun ⟨g, c, cu, y1, y2, y3⟩ => ⟨g, c, cu, y1, by have := B0.out.size; omega, y3⟩)⟩ : wr.ownsRow w.heap.size 3 1 (.slice (some ⟨w0.heap.size, 0, none⟩) i i) (invZ p).length (iz (invZ p)))
        go_wp2
        go_ret2
        exact ⟨_, ret_vi hce.out, hfin.out, B0.out.trans (hb.out.mono B0.out.size)⟩
end Go.Proofs.YtbhhbnhoknlonaaDoor
