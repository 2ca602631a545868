/-
  Contracts of timbrenum.list and timbrenum.Num over a world that holds the nineteen sentinels.
-/
import Derived.Test.YtedfjedmapimnaaDoorErr
import Derived.Outline
import Derived.Laws.CopyOwn
namespace Go.Proofs.YtedfjedmapimnaaDoor
open Go.RowKit
theorem ret_intN {k : IntKind} {a b : Int} (h : a = b) : Ending.returned (.int k a) = .returned (.int k b) := by rw [h]
/-- The k-th error's value. -/
def ek (al : List Addr) (k : Nat) : Value := ev (al.getD k ⟨0, 0, none⟩)
/-- The array that timbrenum.list makes. -/
def earr (al : List Addr) : Value := .agg (al.map ev).toArray
theorem cell_alloc {w : World} {a : Addr} {v : Value} (h : w.cell? a = some v) (o : Obj) : (w.alloc o).cell? a = some v := by
  rw [((Below.refl w.heap.size w).alloc (Nat.le_refl _) o).cell (cell_lt h)]; exact h
set_option maxHeartbeats 1000000 in
theorem list_c (al : List Addr) (w : World) (he : Errs w al) :
    Calls Tryd.prog 20 #[] w fun e w' => e = .returned (earr al) ∧ Below w.heap.size w w' := by
  obtain ⟨a0, a1, a2, a3, a4, a5, a6, a7, a8, a9, a10, a11, a12, a13, a14, a15, a16, a17, a18, rfl⟩ := he.len
  obtain ⟨h0, h1, h2, h3, h4, h5, h6, h7, h8, h9, h10, h11, h12, h13, h14, h15, h16, h17, h18, _⟩ := he.sent
  have hz : Hid (Errs w [a0, a1, a2, a3, a4, a5, a6, a7, a8, a9, a10, a11, a12, a13, a14, a15, a16, a17, a18]) := he
  clear he
  replace h0 := fun o => cell_alloc h0 o
  replace h1 := fun o => cell_alloc h1 o
  replace h2 := fun o => cell_alloc h2 o
  replace h3 := fun o => cell_alloc h3 o
  replace h4 := fun o => cell_alloc h4 o
  replace h5 := fun o => cell_alloc h5 o
  replace h6 := fun o => cell_alloc h6 o
  replace h7 := fun o => cell_alloc h7 o
  replace h8 := fun o => cell_alloc h8 o
  replace h9 := fun o => cell_alloc h9 o
  replace h10 := fun o => cell_alloc h10 o
  replace h11 := fun o => cell_alloc h11 o
  replace h12 := fun o => cell_alloc h12 o
  replace h13 := fun o => cell_alloc h13 o
  replace h14 := fun o => cell_alloc h14 o
  replace h15 := fun o => cell_alloc h15 o
  replace h16 := fun o => cell_alloc h16 o
  replace h17 := fun o => cell_alloc h17 o
  replace h18 := fun o => cell_alloc h18 o
  have hg : Hid (∀ c : Array Value, (w.alloc (.cells c 49)).heap[w.heap.size]? = some (.cells c 49 (0, 0))) := fun c => (MapKept.heap_alloc w _).1
  go_enter Tryd.func20, Tryd.ntmps20
  go_wp2_with (first
    | (refine wpList_build rfl 49 _ rfl (by kernel_rfl) ?_)
    | (refine wpList_store_row rfl 49 _ _ rfl w.heap.size #[ev a0, ev a1, ev a2, ev a3, ev a4, ev a5, ev a6, ev a7, ev a8, ev a9, ev a10, ev a11, ev a12, ev a13, ev a14, ev a15, ev a16, ev a17, ev a18] rfl (by kernel_rfl) 49 #[.nilIface, .nilIface, .nilIface, .nilIface, .nilIface, .nilIface, .nilIface, .nilIface, .nilIface, .nilIface, .nilIface, .nilIface, .nilIface, .nilIface, .nilIface, .nilIface, .nilIface, .nilIface, .nilIface] (hg.out _) (by kernel_rfl) rfl (by kernel_rfl) ?_))
  refine bodyPost_ret (v := .agg #[ev a0, ev a1, ev a2, ev a3, ev a4, ev a5, ev a6, ev a7, ev a8, ev a9, ev a10, ev a11, ev a12, ev a13, ev a14, ev a15, ev a16, ev a17, ev a18]) ?_ rfl ⟨rfl, ?_⟩
  · exact results_cell_row Tryd.results20 _ _ w.heap.size 49 #[ev a0, ev a1, ev a2, ev a3, ev a4, ev a5, ev a6, ev a7, ev a8, ev a9, ev a10, ev a11, ev a12, ev a13, ev a14, ev a15, ev a16, ev a17, ev a18] (0, 0) _ rfl (setRow_heap _ _ _ _ _ _ (hg.out _)) Tryd.underlying49 rfl (by kernel_rfl)
  · exact below_setRow ((Below.refl _ _).alloc (Nat.le_refl _) _) (Nat.le_refl _) _
theorem index_c {w0 : World} {al : List Addr} (he : Errs w0 al) (k : Nat) (hk : k < 19) (w : World) :
    (Instr.index 49 (earr al) (.int .i64 (k : Nat))).run Tryd.prog w = .ok (ek al k) w := by
  obtain ⟨a0, a1, a2, a3, a4, a5, a6, a7, a8, a9, a10, a11, a12, a13, a14, a15, a16, a17, a18, rfl⟩ := he.len
  exact match k, hk with
    | 0, _ => by kernel_rfl
    | 1, _ => by kernel_rfl
    | 2, _ => by kernel_rfl
    | 3, _ => by kernel_rfl
    | 4, _ => by kernel_rfl
    | 5, _ => by kernel_rfl
    | 6, _ => by kernel_rfl
    | 7, _ => by kernel_rfl
    | 8, _ => by kernel_rfl
    | 9, _ => by kernel_rfl
    | 10, _ => by kernel_rfl
    | 11, _ => by kernel_rfl
    | 12, _ => by kernel_rfl
    | 13, _ => by kernel_rfl
    | 14, _ => by kernel_rfl
    | 15, _ => by kernel_rfl
    | 16, _ => by kernel_rfl
    | 17, _ => by kernel_rfl
    | 18, _ => by kernel_rfl
    | n + 19, h => absurd h (by omega)
theorem err_info : ∃ i j, Tryd.prog.info? 109 = some i ∧ i.comparable = true ∧ Tryd.prog.info? 126 = some j ∧ j.size ≠ 0 := by
  have h1 : (Tryd.prog.info? 109).map (·.comparable) = some true := by kernel_rfl
  have h2 : (Tryd.prog.info? 126).map (fun j => j.size != 0) = some true := by kernel_rfl
  obtain ⟨i, hi, ci⟩ := Option.map_eq_some_iff.1 h1
  obtain ⟨j, hj, cj⟩ := Option.map_eq_some_iff.1 h2
  exact ⟨i, j, hi, ci, hj, by simpa using cj⟩
theorem eql_c {w : World} {al : List Addr} (he : Errs w al) (j k : Nat) (hj : j < 19) (hk : k < 19) :
    (binOp .eql 30 (ek al j) (ek al k)).run Tryd.prog w = .ok (.bool (decide (j = k))) w := by
  obtain ⟨i, d, hi, ci, hd, sd⟩ := err_info
  have hl : al.length = 19 := by obtain ⟨a0, a1, a2, a3, a4, a5, a6, a7, a8, a9, a10, a11, a12, a13, a14, a15, a16, a17, a18, rfl⟩ := he.len; rfl
  have gj : al.getD j ⟨0, 0, none⟩ = al[j] := by simp [List.getD, hl, hj]
  have gk : al.getD k ⟨0, 0, none⟩ = al[k] := by simp [List.getD, hl, hk]
  unfold ek ev
  rw [gj, gk]
  by_cases h : j = k
  · subst h
    rw [decide_eq_true rfl]
    exact run_eql_iface_ptr_same w _ Tryd.underlying30 Tryd.underlying109 hi ci hd
  · rw [decide_eq_false h]
    obtain ⟨c1, t1, r1⟩ := he.row al[j] (List.getElem_mem _)
    obtain ⟨c2, t2, r2⟩ := he.row al[k] (List.getElem_mem _)
    refine run_eql_iface_ptr_other w Tryd.underlying30 Tryd.underlying109 hi ci hd sd (fun e => h ?_) r1 r2
    exact (List.getElem_inj he.nd).1 e
theorem nil_c (al : List Addr) (j : Nat) (w : World) : (binOp .eql 30 (ek al j) .nilIface).run Tryd.prog w = .ok (.bool false) w := by
  unfold ek ev; kernel_rfl
theorem nnil_c (al : List Addr) (j : Nat) (w : World) : (binOp .neq 30 (ek al j) .nilIface).run Tryd.prog w = .ok (.bool true) w := by
  unfold ek ev; kernel_rfl
theorem guard_c (al : List Addr) (j : Nat) (op : BinOp) (t : TypeId) (x y : Operand) (b : Value) (w : World) : (eqGuard op t x y (ek al j) b).run Tryd.prog w = .ok () w := by
  unfold ek ev
  cases op <;> cases b <;> rfl
set_option maxHeartbeats 400000 in
theorem num_nil (w : World) :
    Calls Tryd.prog 10 #[.nilIface] w fun e w' => e = .returned (.int .i64 0) ∧ w = w' := by
  go_enter Tryd.func10, Tryd.ntmps10
  go_wp2
  go_ret
  exact ⟨rfl, rfl⟩
set_option maxHeartbeats 1000000 in
theorem num_err (al : List Addr) (j : Nat) (hj : j < 19) (w : World) (he : Errs w al) :
    Calls Tryd.prog 10 #[ek al j] w fun e w' => e = .returned (.int .i64 ((j : Int) + 1)) ∧ Below w.heap.size w w' := by
  have hn := nil_c al j
  have hgd := guard_c al j
  have hz : Hid (Errs w al) := he
  clear he
  go_enter Tryd.func10, Tryd.ntmps10
  go_wp2_with (go_at_call 20; refine (list_c al _ hz.out).mono ?_; rintro e w1 ⟨rfl, hb⟩)
  have he1 : Hid (Errs w1 al) := hz.out.below hb
  go_loop [8] (fun i => ∃ k : Nat, k ≤ j ∧ i = .int .i64 k) (fun i => j - (intOf i).toNat)
  case atStart => exact ⟨0, Nat.zero_le _, rfl⟩
  case round =>
    obtain ⟨k, hk, rfl⟩ := hrel
    have hx := index_c hz.out k (by omega)
    have hq := eql_c he1.out j k hj (by omega)
    have hlt : (k : Int) < 19 := by omega
    by_cases h : j = k
    · rw [decide_eq_true h] at hq
      have hjk : Hid (j = k) := h
      clear h
      go_wp2
      go_ret
      exact ⟨ret_intN (by rw [hjk.out]), hb⟩
    · rw [decide_eq_false h] at hq
      go_wp2
      go_round
      case rel => exact ⟨k + 1, by omega, by go_num⟩
      case measure => simp [intOf]; omega
theorem errNumber_cell {w : World} {al : List Addr} (he : Errs w al) : w.cell? ⟨12, 0, none⟩ = some (ek al 12) := by
  obtain ⟨a0, a1, a2, a3, a4, a5, a6, a7, a8, a9, a10, a11, a12, a13, a14, a15, a16, a17, a18, rfl⟩ := he.len
  obtain ⟨_, _, _, _, _, _, _, _, _, _, _, _, h, _⟩ := he.sent
  exact h
theorem errRange_cell {w : World} {al : List Addr} (he : Errs w al) : w.cell? ⟨5, 0, none⟩ = some (ek al 4) := by
  obtain ⟨a0, a1, a2, a3, a4, a5, a6, a7, a8, a9, a10, a11, a12, a13, a14, a15, a16, a17, a18, rfl⟩ := he.len
  obtain ⟨_, _, _, _, h, _⟩ := he.sent
  exact h
theorem errRoot_cell {w : World} {al : List Addr} (he : Errs w al) : w.cell? ⟨10, 0, none⟩ = some (ek al 10) := by
  obtain ⟨a0, a1, a2, a3, a4, a5, a6, a7, a8, a9, a10, a11, a12, a13, a14, a15, a16, a17, a18, rfl⟩ := he.len
  obtain ⟨_, _, _, _, _, _, _, _, _, _, h, _⟩ := he.sent
  exact h
end Go.Proofs.YtedfjedmapimnaaDoor
