/-
  Contracts of the document's answers of layer 6: Check, Inverse, After.
-/
import Derived.Test.YtbhhbnhoknlonaaDoorSmz
import Derived.Test.YtbhhbnhoknlonaaDoorMod
import Derived.Laws.OwnMore
import Derived.OwnWalk
namespace Go.Proofs.YtbhhbnhoknlonaaDoor
open Flo Go.RowKit

theorem infoBool : (Tryd.prog.info? 4).map (fun i => (i.zero, i.size, i.bytes)) = some (some (.bool false), 1, 1) := by kernel_rfl
/-- place j of a permutation: within, and not there before -/
def okAt (p : List Int) (j : Nat) : Prop := 0 ≤ p.getD j 0 ∧ p.getD j 0 < p.length ∧ p.getD j 0 ∉ p.take j
instance (p : List Int) (j : Nat) : Decidable (okAt p j) := by unfold okAt; infer_instance
/-- is it a permutation? -/
def ckB (p : List Int) : Bool := (List.range p.length).all fun j => decide (okAt p j)
/-- Check's answer, as a number -/
def ckE (p : List Int) : Int := if ckB p then 0 else 12
theorem ckB_no {p : List Int} {j : Nat} (hj : j < p.length) (h : ¬ okAt p j) : ckE p = 12 := by
  unfold ckE
  rw [if_neg]
  intro c
  have := List.all_eq_true.1 c j (List.mem_range.2 hj)
  exact h (of_decide_eq_true this)
theorem ckB_yes {p : List Int} (h : ∀ j, j < p.length → okAt p j) : ckE p = 0 := by
  unfold ckE
  rw [if_pos]
  exact List.all_eq_true.2 fun j hj => decide_eq_true (h j (List.mem_range.1 hj))
/-- what has been seen -/
def sn (p : List Int) (n i : Nat) : List Value := (List.range n).map fun (x : Nat) => Value.bool (decide ((x : Int) ∈ p.take i))
theorem sn_len (p : List Int) (n i : Nat) : (sn p n i).length = n := by simp [sn]
theorem sn_get (p : List Int) {n i x : Nat} (h : x < n) : (sn p n i)[x]? = some (.bool (decide ((x : Int) ∈ p.take i))) := by simp [sn, h]
theorem sn_0 (p : List Int) (n : Nat) : sn p n 0 = List.replicate n (.bool false) := by
  apply List.ext_getElem
  · simp [sn]
  · intro k h1 h2; simp [sn]
theorem sn_step {p : List Int} {n i x : Nat} (hi : i < p.length) (hx : p.getD i 0 = (x : Int)) : (sn p n i).set x (.bool true) = sn p n (i + 1) := by
  have e : p.take (i + 1) = p.take i ++ [(x : Int)] := by
    rw [List.take_succ_eq_append_getElem hi, ← hx]; simp [List.getD, hi]
  apply List.ext_getElem
  · simp [sn]
  · intro k h1 h2
    rw [List.getElem_set]
    simp only [sn, List.getElem_map, List.getElem_range, e]
    by_cases c : x = k
    · subst c; simp
    · rw [if_neg c]
      congr 1
      rw [decide_eq_decide]
      simp only [List.mem_append, List.mem_singleton]
      constructor
      · exact Or.inl
      · rintro (h | h)
        · exact h
        · omega
theorem makeB (w : World) (n : Nat) (hn : n ≤ 1099511627776) :
    ∃ w', (Instr.makeSlice 48 (.int .i64 (n : Int)) (.int .i64 (n : Int))).run Tryd.prog w = .ok (.slice (some ⟨w.heap.size, 0, none⟩) n n) w' ∧
      Hid (w'.ownsRow w.heap.size 4 1 (.slice (some ⟨w.heap.size, 0, none⟩) n n) n (List.replicate n (.bool false))) ∧ Hid (Below w.heap.size w w') := by
  obtain ⟨i0, hi0, hz0, hz1, hz2⟩ := info_parts infoBool
  obtain ⟨w', h1, h2, h3⟩ := run_make_full (P := Tryd.prog) w w.heap.size 48 4 i0 (.bool false) 1 Tryd.underlying48 hi0 hz0 hz1 .i64 .i64 n (by rw [hz2]; omega) (by unfold maxLen; omega) (Nat.le_refl _)
  refine ⟨w', h1, ?_, (Below.refl _ w).grown h3 (Nat.le_refl _) (fun b e => by cases e)⟩
  have e : (Value.bool false).cells = #[.bool false] := rfl
  rw [e, Nat.mul_one, toList_madeCells_one] at h2
  exact h2
set_option maxHeartbeats 2000000 in
theorem r6Check_c (v : Value) (p : List Int) (w : World) (hR : RdZ w v p) (hn : p.length ≤ 1099511627776) :
    Calls Tryd.prog 10 #[v] w fun e w' => e = .returned (.int .i64 (ckE p)) ∧ Below w.heap.size w w' := by
  obtain ⟨ao, cap, rfl, hrd⟩ := hR
  have hRH : Hid (p ≠ [] → ∃ b off, ao = some ⟨b, off, none⟩ ∧ b < w.heap.size ∧ ∀ i, i < p.length → w.cell? ⟨b, off + i, none⟩ = some (.int .i64 (p.getD i 0))) := hrd
  obtain ⟨n, hnn⟩ : ∃ n, p.length = n := ⟨_, rfl⟩
  have hnH : Hid (p.length = n) := hnn
  rw [hnn] at hn ⊢
  obtain ⟨w1, hmk, hrow, hb1⟩ := makeB w n hn
  clear hrd hnn
  go_enter Tryd.func10, Tryd.ntmps10
  go_wp2
  clear hmk
  go_loopw [5, 11] (fun _ si wx => ∃ i : Nat, i ≤ n ∧ si = .int .i64 (i : Int) ∧ Hid (wx.ownsRow w.heap.size 4 1 (.slice (some ⟨w.heap.size, 0, none⟩) n n) n (sn p n i)) ∧ Hid (∀ j, j < i → okAt p j) ∧ Hid (Below w.heap.size w wx)) (fun _ si _ => n - (intOf si).toNat)
  case atStart => exact ⟨0, Nat.zero_le _, rfl, (by rw [sn_0]; exact hrow.out), fun j hj => absurd hj (by omega), hb1⟩
  case round =>
    clear hrow hb1
    obtain ⟨i, hi, rfl, hrow, hok, hb⟩ := hrel
    by_cases hlt : i < n
    · have hlt' : (i : Int) < (n : Int) := by omega
      have hil : i < p.length := by rw [hnH.out]; exact hlt
      obtain ⟨b, off, rfl, hbw, hcell⟩ := hRH.out (fun e => by rw [e] at hil; simp at hil)
      have c1 : wr.cell? ⟨b, off + i, none⟩ = some (.int .i64 (p.getD i 0)) := (hb.out.cell (p := ⟨b, off + i, none⟩) hbw).trans (hcell i hil)
      have hokI : Hid (okAt p i ↔ 0 ≤ p.getD i 0 ∧ p.getD i 0 < n ∧ p.getD i 0 ∉ p.take i) := (by unfold okAt; rw [hnH.out] : okAt p i ↔ 0 ≤ p.getD i 0 ∧ p.getD i 0 < n ∧ p.getD i 0 ∉ p.take i)
      have hbad : Hid (¬ okAt p i → (12 : Int) = ckE p) := fun h => (ckB_no hil h).symm
      obtain ⟨x, hx⟩ : ∃ x, p.getD i 0 = x := ⟨_, rfl⟩
      have hxH : Hid (p.getD i 0 = x) := hx
      rw [hx] at c1 hokI
      clear hcell hx
      by_cases x0 : x < 0
      · have hf : Hid ((12 : Int) = ckE p) := hbad.out (fun h => by have := (hokI.out.1 h).1; omega)
        clear hokI hbad hok
        go_wp2
        go_ret
        exact ⟨ret_int hf.out, hb.out⟩
      · have d0 : decide (x < 0) = false := decide_eq_false x0
        by_cases x1 : (n : Int) ≤ x
        · have hf : Hid ((12 : Int) = ckE p) := hbad.out (fun h => by have := (hokI.out.1 h).2.1; omega)
          clear hokI hbad hok x0
          go_wp2
          go_ret
          exact ⟨ret_int hf.out, hb.out⟩
        · have d1 : decide ((n : Int) ≤ x) = false := decide_eq_false x1
          obtain ⟨y, rfl⟩ : ∃ y : Nat, x = (y : Int) := ⟨x.toNat, by omega⟩
          have hy : y < n := by omega
          have hy' : (y : Int) < (n : Int) := by omega
          have c2 := hrow.out.cellAt y (by omega)
          rw [sn_get p hy] at c2
          have f2 := hrow.out.frozenAt y
          by_cases hin : (y : Int) ∈ p.take i
          · rw [decide_eq_true hin] at c2
            have hf : Hid ((12 : Int) = ckE p) := hbad.out (fun h => (hokI.out.1 h).2.2 hin)
            clear hokI hbad hok hin x0 x1
            go_wp2
            go_ret
            exact ⟨ret_int hf.out, hb.out⟩
          · rw [decide_eq_false hin] at c2
            have hok2 : Hid (∀ j, j < i + 1 → okAt p j) := fun j hj => if e : j = i then by rw [e]; exact hokI.out.2 ⟨by omega, by omega, hin⟩ else hok.out j (by omega)
            have hst := hrow.out.stored y (.bool true)
            rw [sn_step hil hxH.out] at hst
            have hst1 : Hid ((wr.setCell ⟨w.heap.size, y, none⟩ (.bool true)).ownsRow w.heap.size 4 1 (.slice (some ⟨w.heap.size, 0, none⟩) n n) n (sn p n (i + 1))) := hst.1
            have hb2 : Hid (Below w.heap.size w (wr.setCell ⟨w.heap.size, y, none⟩ (.bool true))) := hb.out.setCell (p := ⟨w.heap.size, y, none⟩) (Nat.le_refl _) _
            clear hokI hbad hok hin x0 x1 hst
            go_wp2
            go_roundw
            case rel => exact ⟨i + 1, by omega, by go_num, hst1, hok2, hb2⟩
            case measure => simp [intOf]; omega
    · have hlt' : decide ((i : Int) < (n : Int)) = false := decide_eq_false (by omega)
      have hf : Hid ((0 : Int) = ckE p) := (ckB_yes (fun j hj => hok.out j (by rw [hnH.out] at hj; omega))).symm
      go_wp2
      go_ret
      exact ⟨ret_int hf.out, hb.out⟩
end Go.Proofs.YtbhhbnhoknlonaaDoor
