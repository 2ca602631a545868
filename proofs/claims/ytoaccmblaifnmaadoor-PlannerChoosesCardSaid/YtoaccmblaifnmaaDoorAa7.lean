/-
  Contracts of timbrenum.list and timbrenum.Num over a world that holds the nineteen sentinels.
-/
import Derived.Test.YtoaccmblaifnmaaDoorErr
import Derived.Outline
import Derived.Laws.CopyOwn
import Derived.Test.YtoaccmblaifnmaaDoorOq3
import Derived.Lib.AppendIntMem
import Derived.Test.YtoaccmblaifnmaaDoorOd3
import Derived.Deep.RegionHeld3
import Derived.Laws.AppendOwn
import Derived.OwnWalk
namespace Go.Proofs.YtoaccmblaifnmaaDoor
open Go.RowKit
theorem ret_intN {k : IntKind} {a b : Int} (h : a = b) : Ending.returned (.int k a) = .returned (.int k b) := by rw [h]
/-- The k-th error's value. -/
def ek (al : List Addr) (k : Nat) : Value := ev (al.getD k ⟨0, 0, none⟩)
/-- The array that timbrenum.list makes. -/
def earr (al : List Addr) : Value := .agg (al.map ev).toArray
theorem cell_alloc {w : World} {a : Addr} {v : Value} (h : w.cell? a = some v) (o : Obj) : (w.alloc o).cell? a = some v := by
  rw [((Below.refl w.heap.size w).alloc (Nat.le_refl _) o).cell (cell_lt h)]; exact h
set_option maxHeartbeats 1000000 in
theorem list_c (al : List Addr) (w : World) (he : Errs w al) :
    Calls Tryd.prog 49 #[] w fun e w' => e = .returned (earr al) ∧ Below w.heap.size w w' := by
  obtain ⟨a0, a1, a2, a3, a4, a5, a6, a7, a8, a9, a10, a11, a12, a13, a14, a15, a16, a17, a18, rfl⟩ := he.len
  obtain ⟨h0, h1, h2, h3, h4, h5, h6, h7, h8, h9, h10, h11, h12, h13, h14, h15, h16, h17, h18, _⟩ := he.sent
  have hz : Hid (Errs w [a0, a1, a2, a3, a4, a5, a6, a7, a8, a9, a10, a11, a12, a13, a14, a15, a16, a17, a18]) := he
  clear he
  replace h0 := fun o => cell_alloc h0 o
  replace h1 := fun o => cell_alloc h1 o
  replace h2 := fun o => cell_alloc h2 o
  replace h3 := fun o => cell_alloc h3 o
  replace h4 := fun o => cell_alloc h4 o
  replace h5 := fun o => cell_alloc h5 o
  replace h6 := fun o => cell_alloc h6 o
  replace h7 := fun o => cell_alloc h7 o
  replace h8 := fun o => cell_alloc h8 o
  replace h9 := fun o => cell_alloc h9 o
  replace h10 := fun o => cell_alloc h10 o
  replace h11 := fun o => cell_alloc h11 o
  replace h12 := fun o => cell_alloc h12 o
  replace h13 := fun o => cell_alloc h13 o
  replace h14 := fun o => cell_alloc h14 o
  replace h15 := fun o => cell_alloc h15 o
  replace h16 := fun o => cell_alloc h16 o
  replace h17 := fun o => cell_alloc h17 o
  replace h18 := fun o => cell_alloc h18 o
  have hg : Hid (∀ c : Array Value, (w.alloc (.cells c 80)).heap[w.heap.size]? = some (.cells c 80 (0, 0))) := fun c => (MapKept.heap_alloc w _).1
  go_enter Tryd.func49, Tryd.ntmps49
  go_wp2_with (first
    | (refine wpList_build rfl 80 _ rfl (by kernel_rfl) ?_)
    | (refine wpList_store_row rfl 80 _ _ rfl w.heap.size #[ev a0, ev a1, ev a2, ev a3, ev a4, ev a5, ev a6, ev a7, ev a8, ev a9, ev a10, ev a11, ev a12, ev a13, ev a14, ev a15, ev a16, ev a17, ev a18] rfl (by kernel_rfl) 80 #[.nilIface, .nilIface, .nilIface, .nilIface, .nilIface, .nilIface, .nilIface, .nilIface, .nilIface, .nilIface, .nilIface, .nilIface, .nilIface, .nilIface, .nilIface, .nilIface, .nilIface, .nilIface, .nilIface] (hg.out _) (by kernel_rfl) rfl (by kernel_rfl) ?_))
  refine bodyPost_ret (v := .agg #[ev a0, ev a1, ev a2, ev a3, ev a4, ev a5, ev a6, ev a7, ev a8, ev a9, ev a10, ev a11, ev a12, ev a13, ev a14, ev a15, ev a16, ev a17, ev a18]) ?_ rfl ⟨rfl, ?_⟩
  · exact results_cell_row Tryd.results49 _ _ w.heap.size 80 #[ev a0, ev a1, ev a2, ev a3, ev a4, ev a5, ev a6, ev a7, ev a8, ev a9, ev a10, ev a11, ev a12, ev a13, ev a14, ev a15, ev a16, ev a17, ev a18] (0, 0) _ rfl (setRow_heap _ _ _ _ _ _ (hg.out _)) Tryd.underlying80 rfl (by kernel_rfl)
  · exact below_setRow ((Below.refl _ _).alloc (Nat.le_refl _) _) (Nat.le_refl _) _
theorem index_c {w0 : World} {al : List Addr} (he : Errs w0 al) (k : Nat) (hk : k < 19) (w : World) :
    (Instr.index 80 (earr al) (.int .i64 (k : Nat))).run Tryd.prog w = .ok (ek al k) w := by
  obtain ⟨a0, a1, a2, a3, a4, a5, a6, a7, a8, a9, a10, a11, a12, a13, a14, a15, a16, a17, a18, rfl⟩ := he.len
  exact match k, hk with
    | 0, _ => by kernel_rfl
    | 1, _ => by kernel_rfl
    | 2, _ => by kernel_rfl
    | 3, _ => by kernel_rfl
    | 4, _ => by kernel_rfl
    | 5, _ => by kernel_rfl
    | 6, _ => by kernel_rfl
    | 7, _ => by kernel_rfl
    | 8, _ => by kernel_rfl
    | 9, _ => by kernel_rfl
    | 10, _ => by kernel_rfl
    | 11, _ => by kernel_rfl
    | 12, _ => by kernel_rfl
    | 13, _ => by kernel_rfl
    | 14, _ => by kernel_rfl
    | 15, _ => by kernel_rfl
    | 16, _ => by kernel_rfl
    | 17, _ => by kernel_rfl
    | 18, _ => by kernel_rfl
    | n + 19, h => absurd h (by omega)
theorem err_info : ∃ i j, Tryd.prog.info? 160 = some i ∧ i.comparable = true ∧ Tryd.prog.info? 176 = some j ∧ j.size ≠ 0 := by
  have h1 : (Tryd.prog.info? 160).map (·.comparable) = some true := by kernel_rfl
  have h2 : (Tryd.prog.info? 176).map (fun j => j.size != 0) = some true := by kernel_rfl
  obtain ⟨i, hi, ci⟩ := Option.map_eq_some_iff.1 h1
  obtain ⟨j, hj, cj⟩ := Option.map_eq_some_iff.1 h2
  exact ⟨i, j, hi, ci, hj, by simpa using cj⟩
theorem eql_c {w : World} {al : List Addr} (he : Errs w al) (j k : Nat) (hj : j < 19) (hk : k < 19) :
    (binOp .eql 31 (ek al j) (ek al k)).run Tryd.prog w = .ok (.bool (decide (j = k))) w := by
  obtain ⟨i, d, hi, ci, hd, sd⟩ := err_info
  have hl : al.length = 19 := by obtain ⟨a0, a1, a2, a3, a4, a5, a6, a7, a8, a9, a10, a11, a12, a13, a14, a15, a16, a17, a18, rfl⟩ := he.len; rfl
  have gj : al.getD j ⟨0, 0, none⟩ = al[j] := by simp [List.getD, hl, hj]
  have gk : al.getD k ⟨0, 0, none⟩ = al[k] := by simp [List.getD, hl, hk]
  unfold ek ev
  rw [gj, gk]
  by_cases h : j = k
  · subst h
    rw [decide_eq_true rfl]
    exact run_eql_iface_ptr_same w _ Tryd.underlying31 Tryd.underlying160 hi ci hd
  · rw [decide_eq_false h]
    obtain ⟨c1, t1, r1⟩ := he.row al[j] (List.getElem_mem _)
    obtain ⟨c2, t2, r2⟩ := he.row al[k] (List.getElem_mem _)
    refine run_eql_iface_ptr_other w Tryd.underlying31 Tryd.underlying160 hi ci hd sd (fun e => h ?_) r1 r2
    exact (List.getElem_inj he.nd).1 e
theorem nil_c (al : List Addr) (j : Nat) (w : World) : (binOp .eql 31 (ek al j) .nilIface).run Tryd.prog w = .ok (.bool false) w := by
  unfold ek ev; kernel_rfl
theorem nnil_c (al : List Addr) (j : Nat) (w : World) : (binOp .neq 31 (ek al j) .nilIface).run Tryd.prog w = .ok (.bool true) w := by
  unfold ek ev; kernel_rfl
theorem guard_c (al : List Addr) (j : Nat) (op : BinOp) (t : TypeId) (x y : Operand) (b : Value) (w : World) : (eqGuard op t x y (ek al j) b).run Tryd.prog w = .ok () w := by
  unfold ek ev
  cases op <;> cases b <;> rfl
set_option maxHeartbeats 400000 in
theorem num_nil (w : World) :
    Calls Tryd.prog 23 #[.nilIface] w fun e w' => e = .returned (.int .i64 0) ∧ w = w' := by
  go_enter Tryd.func23, Tryd.ntmps23
  go_wp2
  go_ret
  exact ⟨rfl, rfl⟩
set_option maxHeartbeats 1000000 in
theorem num_err (al : List Addr) (j : Nat) (hj : j < 19) (w : World) (he : Errs w al) :
    Calls Tryd.prog 23 #[ek al j] w fun e w' => e = .returned (.int .i64 ((j : Int) + 1)) ∧ Below w.heap.size w w' := by
  have hn := nil_c al j
  have hgd := guard_c al j
  have hz : Hid (Errs w al) := he
  clear he
  go_enter Tryd.func23, Tryd.ntmps23
  go_wp2_with (go_at_call 49; refine (list_c al _ hz.out).mono ?_; rintro e w1 ⟨rfl, hb⟩)
  have he1 : Hid (Errs w1 al) := hz.out.below hb
  go_loop [8] (fun i => ∃ k : Nat, k ≤ j ∧ i = .int .i64 k) (fun i => j - (intOf i).toNat)
  case atStart => exact ⟨0, Nat.zero_le _, rfl⟩
  case round =>
    obtain ⟨k, hk, rfl⟩ := hrel
    have hx := index_c hz.out k (by omega)
    have hq := eql_c he1.out j k hj (by omega)
    have hlt : (k : Int) < 19 := by omega
    by_cases h : j = k
    · rw [decide_eq_true h] at hq
      have hjk : Hid (j = k) := h
      clear h
      go_wp2
      go_ret
      exact ⟨ret_intN (by rw [hjk.out]), hb⟩
    · rw [decide_eq_false h] at hq
      go_wp2
      go_round
      case rel => exact ⟨k + 1, by omega, by go_num⟩
      case measure => simp [intOf]; omega
theorem errNumber_cell {w : World} {al : List Addr} (he : Errs w al) : w.cell? ⟨12, 0, none⟩ = some (ek al 12) := by
  obtain ⟨a0, a1, a2, a3, a4, a5, a6, a7, a8, a9, a10, a11, a12, a13, a14, a15, a16, a17, a18, rfl⟩ := he.len
  obtain ⟨_, _, _, _, _, _, _, _, _, _, _, _, h, _⟩ := he.sent
  exact h
theorem errRange_cell {w : World} {al : List Addr} (he : Errs w al) : w.cell? ⟨2, 0, none⟩ = some (ek al 4) := by
  obtain ⟨a0, a1, a2, a3, a4, a5, a6, a7, a8, a9, a10, a11, a12, a13, a14, a15, a16, a17, a18, rfl⟩ := he.len
  obtain ⟨_, _, _, _, h, _⟩ := he.sent
  exact h
theorem errRoot_cell {w : World} {al : List Addr} (he : Errs w al) : w.cell? ⟨10, 0, none⟩ = some (ek al 10) := by
  obtain ⟨a0, a1, a2, a3, a4, a5, a6, a7, a8, a9, a10, a11, a12, a13, a14, a15, a16, a17, a18, rfl⟩ := he.len
  obtain ⟨_, _, _, _, _, _, _, _, _, _, h, _⟩ := he.sent
  exact h
end Go.Proofs.YtoaccmblaifnmaaDoor
/-
  The three sentinels that package order answers, and the table of the powers of ten; the program's Check.
-/
namespace Go.Proofs.YtoaccmblaifnmaaDoor
open Flo Go.RowKit Tr
/-- ErrLimit, ErrText, ErrOrder of a world -/
structure Eo (w : World) (aL aT aO : Addr) : Prop where
  cL : w.cell? ⟨1, 0, none⟩ = some (ev aL)
  cT : w.cell? ⟨3, 0, none⟩ = some (ev aT)
  cO : w.cell? ⟨0, 0, none⟩ = some (ev aO)
  nLT : aL ≠ aT
  nLO : aL ≠ aO
  nTO : aT ≠ aO
  row : ∀ a, a = aL ∨ a = aT ∨ a = aO → ∃ c t, w.heap[a.block]? = some (.cells c t (0, 0))
  tab : Lib.TabIs Tryd.prog w "internal/strconv.uint64pow10" .u64 Lib.pow10Tab
theorem Eo.below {w w' : World} {aL aT aO : Addr} (h : Eo w aL aT aO) (hb : Below w.heap.size w w') : Eo w' aL aT aO :=
  ⟨(hb.cell (p := ⟨1, 0, none⟩) (cell_lt h.cL)).trans h.cL, (hb.cell (p := ⟨3, 0, none⟩) (cell_lt h.cT)).trans h.cT, (hb.cell (p := ⟨0, 0, none⟩) (cell_lt h.cO)).trans h.cO, h.nLT, h.nLO, h.nTO,
   fun a ha => by
    obtain ⟨c, t, e⟩ := h.row a ha
    exact ⟨c, t, by rw [hb.block a.block (blk_lt e)]; exact e⟩, (Lib.tabBelow_of_tabIs h.tab) w' hb⟩
theorem Eo.et {w : World} {aL aT aO : Addr} (h : Eo w aL aT aO) : Et w aT := h.cT
theorem Eo.lt {w : World} {aL aT aO : Addr} (h : Eo w aL aT aO) : 3 < w.heap.size := cell_lt h.cT
/-- '==' of two error values -/
theorem eqv_self (a : Addr) (w : World) : (binOp .eql 31 (ev a) (ev a)).run Tryd.prog w = .ok (.bool true) w := by
  obtain ⟨i, d, hi, ci, hd, _⟩ := err_info
  unfold ev
  exact run_eql_iface_ptr_same w _ Tryd.underlying31 Tryd.underlying160 hi ci hd
/-- an error's value by its number -/
def er (aL aT aO : Addr) (n : Nat) : Value := if n = 0 then .nilIface else if n = 3 then ev aL else if n = 6 then ev aT else ev aO
/-- Check's answer -/
def cke (aO : Addr) (t : Tr) : Value := if len t = 0 then ev aO else .nilIface
set_option maxRecDepth 100000 in
theorem check_c (t : Tr) (v : Value) (w : World) (aO : Addr) (ho : Od w t v) (hE : w.cell? ⟨0, 0, none⟩ = some (ev aO)) : Calls Tryd.prog 13 #[v] w fun e w' => e = .returned (cke aO t) ∧ Below w.heap.size w w' := by
  obtain ⟨k, n, ks⟩ := t
  obtain ⟨ao, cap, rfl, _, _⟩ := ho.kds
  obtain ⟨L, hL⟩ : ∃ L, Hid (ks.length = L) := ⟨_, (rfl : _ = _)⟩
  obtain ⟨t, ht⟩ : ∃ t, Hid (Tr.mk k n ks = t) := ⟨_, (rfl : _ = _)⟩
  rw [hL.out, ht.out] at ho
  rw [hL.out, ht.out]
  obtain ⟨wa, ewa⟩ : ∃ wa, Hid (w.alloc (.cells #[.int .i64 k, .int .i64 n, .slice ao L cap] 24) = wa) := ⟨_, (rfl : _ = _)⟩
  have Ba : Below w.heap.size w wa := by rw [← ewa.out]; exact (Below.refl _ _).alloc (Nat.le_refl _) _
  have Xa : Hid (Bo wa w.heap.size k n (.slice ao L cap)) := by show Bo _ _ _ _ _; rw [← ewa.out]; exact Bo.new _ _ _ _
  have hoa : Hid (Od wa t (.agg #[.int .i64 k, .int .i64 n, .slice ao L cap])) := Od.below Ba _ _ ho
  have hEa : Hid (wa.cell? ⟨0, 0, none⟩ = some (ev aO)) := (Ba.cell (p := ⟨0, 0, none⟩) (cell_lt hE)).trans hE
  have BaH : Hid (Below w.heap.size w wa) := Ba
  clear ho hE Ba
  go_enter Tryd.func13, Tryd.ntmps13
  go_upto_region 1 with fail
  rw [ewa.out]
  have x0 := Xa.out.c0
  have x1 := Xa.out.c1
  have x2 := Xa.out.c2
  go_wp2_with fail
  refine (length_c t _ wa hoa.out).mono ?_
  rintro e w1 ⟨rfl, B1⟩
  have hB : Hid (Below w.heap.size w w1) := btr BaH.out B1
  have hE1 : w1.cell? ⟨0, 0, none⟩ = some (ev aO) := (B1.cell (p := ⟨0, 0, none⟩) (cell_lt hEa.out)).trans hEa.out
  unfold ev at hE1
  obtain ⟨N, hN⟩ : ∃ N : Nat, Hid (len t = N) := ⟨_, (rfl : _ = _)⟩
  rw [hN.out]
  clear B1 x0 x1 x2
  by_cases h0 : N = 0
  · have q1 : ((N : Int) == 0) = true := by rw [h0]; rfl
    have hfin : Hid (ev aO = cke aO t) := by show _ = _; unfold cke; rw [if_pos (hN.out.trans h0)]
    clear h0
    go_wp2_with fail
    go_ret
    exact ⟨by rw [← hfin.out]; rfl, hB.out⟩
  · have q1 : ((N : Int) == 0) = false := beq_eq_false_iff_ne.2 (by omega)
    have hfin : Hid (.nilIface = cke aO t) := by show _ = _; unfold cke; rw [if_neg (by rw [hN.out]; exact h0)]
    go_wp2_with fail
    go_ret
    exact ⟨by rw [← hfin.out]; rfl, hB.out⟩
end Go.Proofs.YtoaccmblaifnmaaDoor
/-
  The document's Same: alike is equal.
-/
namespace Go.Proofs.YtoaccmblaifnmaaDoor
open Flo Go.RowKit Tr
/-- a bool comes back that tells whether a is b -/
def RE (w : World) (a b : Tr) (e : Ending) (w' : World) : Prop := ∃ r : Bool, e = .returned (.bool r) ∧ (r = true ↔ a = b) ∧ Below w.heap.size w w'
theorem tr_ne {k n k' n' : Int} {ks ks' : List Tr} (h : ¬ (k = k' ∧ n = n' ∧ ks.length = ks'.length)) : Tr.mk k n ks ≠ Tr.mk k' n' ks' := fun e => by
  simp only [Tr.mk.injEq] at e
  exact h ⟨e.1, e.2.1, by rw [e.2.2]⟩
theorem re_false {w w' : World} {a b : Tr} (h : a ≠ b) (hb : Below w.heap.size w w') : RE w a b (.returned (.bool false)) w' := ⟨false, rfl, ⟨(fun e => absurd e (by decide)), (fun e => absurd e h)⟩, hb⟩
theorem take_all {ks ks' : List Tr} {i : Nat} (h : ks.take i = ks'.take i) (h1 : ks.length = i) (h2 : ks'.length = i) : ks = ks' := by
  rw [List.take_of_length_le (by omega), List.take_of_length_le (by omega)] at h; exact h
theorem take_succ {ks ks' : List Tr} {i : Nat} {t : Tr} (h : ks.take i = ks'.take i) (h1 : ks[i]? = some t) (h2 : ks'[i]? = some t) : ks.take (i + 1) = ks'.take (i + 1) := by
  rw [List.take_add_one, List.take_add_one, h, h1, h2]
set_option maxHeartbeats 2000000 in
theorem rSame_c (a : Tr) : ∀ (b : Tr) (v u : Value) (w : World), Od w a v → Od w b u → Calls Tryd.prog 16 #[v, u] w (RE w a b) := by
  refine Tr.ind (P := fun a => ∀ (b : Tr) (v u : Value) (w : World), Od w a v → Od w b u → Calls Tryd.prog 16 #[v, u] w (RE w a b)) (fun k n ks ih0 b v u w ha hb => ?_) a
  obtain ⟨k', n', ks'⟩ := b
  obtain ⟨ao, cap, rfl, hl0, hk0⟩ := ha.kds
  obtain ⟨ao', cap', rfl, hl0', hk0'⟩ := hb.kds
  obtain ⟨L, hL⟩ : ∃ L, Hid (ks.length = L) := ⟨_, (rfl : _ = _)⟩
  obtain ⟨L', hL'⟩ : ∃ L, Hid (ks'.length = L) := ⟨_, (rfl : _ = _)⟩
  have hk : Hid (Kds w ao L ks) := by show Kds _ _ _ _; rw [← hL.out]; exact hk0
  have hk' : Hid (Kds w ao' L' ks') := by show Kds _ _ _ _; rw [← hL'.out]; exact hk0'
  have hl : L ≤ 9223372036854775807 := by rw [← hL.out]; exact hl0
  have hl' : L' ≤ 9223372036854775807 := by rw [← hL'.out]; exact hl0'
  have ih : Hid (∀ t ∈ ks, ∀ (b : Tr) (v u : Value) (w : World), Od w t v → Od w b u → Calls Tryd.prog 16 #[v, u] w (RE w t b)) := ih0
  rw [hL.out, hL'.out]
  clear hk0 hl0 ih0 ha hb hk0' hl0'
  obtain ⟨w0, hw0⟩ : ∃ w0, Hid ((w.alloc (.cells #[.int .i64 k, .int .i64 n, .slice ao L cap] 24)).alloc (.cells #[.int .i64 k', .int .i64 n', .slice ao' L' cap'] 24) = w0) := ⟨_, (rfl : _ = _)⟩
  have B0 : Hid (Below w.heap.size w w0) := by show Below _ _ _; rw [← hw0.out]; exact ((Below.refl _ _).alloc (Nat.le_refl _) _).alloc (by simp) _
  have X0 : Hid (Bx3 w0 w.heap.size k n (.slice ao L cap)) := by show Bx3 _ _ _ _ _; rw [← hw0.out]; exact (Bx3.new _ _ _ _ _).below ((Below.refl _ _).alloc (Nat.le_refl _) _)
  have Y0 : Hid (Bx3 w0 (w.heap.size + 1) k' n' (.slice ao' L' cap')) := by
    show Bx3 _ _ _ _ _; rw [← hw0.out]
    have := Bx3.new (w.alloc (.cells #[.int .i64 k, .int .i64 n, .slice ao L cap] 24)) k' n' (.slice ao' L' cap') 24
    simpa using this
  obtain ⟨g, hg⟩ : ∃ g, Hid (w.heap.size = g) := ⟨_, (rfl : _ = _)⟩
  obtain ⟨h, hh⟩ : ∃ h, Hid (w.heap.size + 1 = h) := ⟨_, (rfl : _ = _)⟩
  go_enter Tryd.func16, Tryd.ntmps16
  go_upto_region 1 with fail
  rw [hw0.out]
  rw [hh.out] at Y0 ⊢
  rw [hg.out] at X0 ⊢
  clear hw0
  have c0 := X0.out.c0
  have c1 := X0.out.c1
  have c2 := X0.out.c2
  have d0 := Y0.out.c0
  have d1 := Y0.out.c1
  have d2 := Y0.out.c2
  by_cases h1 : k = k'
  · have q1 : (k != k') = false := by rw [h1]; exact bne_self_eq_false _
    by_cases h2 : n = n'
    · have q2 : (n != n') = false := by rw [h2]; exact bne_self_eq_false _
      by_cases h3 : L = L'
      · subst h3
        have q3 : ((L : Int) != (L : Int)) = false := bne_self_eq_false _
        have hfin : Hid (∀ r : Bool, (r = true ↔ ks = ks') → (r = true ↔ Tr.mk k n ks = Tr.mk k' n' ks')) := fun r hr => by
          rw [hr, h1, h2]; simp
        have hL2 : Hid (ks'.length = L) := hL'.out
        have hk2 : Hid (Kds w ao' L ks') := hk'.out
        clear h1 h2 hk'
        go_wp2_with fail
        go_loopw [31] (fun si wx => ∃ (i : Nat), i ≤ L ∧ si = .int .i64 (i : Int) ∧ Hid (ks.take i = ks'.take i) ∧ Hid (Below w0.heap.size w0 wx)) (fun si _ => L - (intOf si).toNat)
        case atStart => exact ⟨0, Nat.zero_le _, rfl, (rfl : _ = _), Below.refl _ _⟩
        case round =>
          clear c0 c1 c2 d0 d1 d2
          obtain ⟨i, hi, rfl, hall, hb⟩ := hrel
          by_cases hlt : i < L
          · have hlt' : (i : Int) < (L : Int) := by omega
            have hbw : Hid (Below w.heap.size w wr) := btr B0.out hb.out
            obtain ⟨b1, off1, s1, t, et, K0⟩ := hk.out i hlt
            obtain ⟨b2, off2, s2, t2, et2, M0⟩ := hk2.out i hlt
            have K := K0.below hbw.out
            have M := M0.below hbw.out
            obtain rfl := K.at0
            obtain rfl := M.at0
            obtain ⟨a1, l1, p1, rfl⟩ := K.slc
            obtain ⟨a2, l2, p2, rfl⟩ := M.slc
            have e0 := K.c0
            have e1 := K.c1
            have e2 := K.c2
            have f0 := M.c0
            have f1 := M.c1
            have f2 := M.c2
            have hod : Hid (Od wr t (.agg #[.int .i64 t.k, .int .i64 t.n, .slice a1 l1 p1])) := K.od
            have hod2 : Hid (Od wr t2 (.agg #[.int .i64 t2.k, .int .i64 t2.n, .slice a2 l2 p2])) := M.od
            have c2 := (X0.out.below hb.out).c2
            have d2 := (Y0.out.below hb.out).c2
            have hcall : Hid (∀ W, Below wr.heap.size wr W → Calls Tryd.prog 16 #[.agg #[.int .i64 t.k, .int .i64 t.n, .slice a1 l1 p1], .agg #[.int .i64 t2.k, .int .i64 t2.n, .slice a2 l2 p2]] W (RE W t t2)) := fun W hW => ih.out t (List.mem_of_getElem? et) t2 _ _ W (Od.below hW _ _ hod.out) (Od.below hW _ _ hod2.out)
            have etH : Hid (ks[i]? = some t) := et
            have etH2 : Hid (ks'[i]? = some t2) := et2
            clear K K0 M M0 et et2 hod hod2
            generalize t.k = tk at *
            generalize t.n = tn at *
            generalize t2.k = tk2 at *
            generalize t2.n = tn2 at *
            go_upto_region 6 with fail
            go_cut [6] (fun st wx => ∃ r : Bool, st = .bool r ∧ Hid (r = true ↔ t = t2) ∧ Hid (Below wr.heap.size wr wx))
            case first =>
              go_region_with (first | (go_at_call 16; refine (hcall.out _ (below_drewN (Below.refl _ _) 1)).mono ?_; rintro e w1 ⟨r, rfl, hr, W1⟩; have hW1 : Hid (Below wr.heap.size wr w1) := (below_drewN (Below.refl _ _) 1).trans W1; have hrH : Hid (r = true ↔ t = t2) := hr; clear W1 hr))
              all_goals (go_wp2_with fail; go_meet; exact ⟨r, rfl, hrH, hW1⟩)
            case rest =>
              obtain ⟨r, rfl, hr, hW1⟩ := hcut
              have hB1 : Hid (Below w0.heap.size w0 wc) := btr hb.out hW1.out
              clear e0 e1 e2 f0 f1 f2 c2 d2 hcall
              cases r
              · have hne : Hid (Tr.mk k n ks ≠ Tr.mk k' n' ks') := fun e => by
                  simp only [Tr.mk.injEq] at e
                  have := etH.out
                  rw [e.2.2, etH2.out] at this
                  exact absurd (hr.out.2 (Option.some.inj this).symm) (by decide)
                go_wp2_with fail
                go_ret
                exact re_false hne.out (btr B0.out hB1.out)
              · have hnew : Hid (ks.take (i + 1) = ks'.take (i + 1)) := take_succ hall.out etH.out (by rw [etH2.out, hr.out.1 rfl])
                go_wp2_with fail
                exact ⟨⟨i + 1, by omega, by go_num, hnew, hB1⟩, by simp [intOf]; omega⟩
          · have hlt' : decide ((i : Int) < (L : Int)) = false := decide_eq_false (by omega)
            have ei : i = L := by omega
            subst ei
            have heq : Hid (Tr.mk k n ks = Tr.mk k' n' ks') := (hfin.out true ⟨(fun _ => take_all hall.out hL.out hL2.out), (fun _ => rfl)⟩).1 rfl
            go_wp2_with fail
            go_ret
            exact ⟨true, rfl, ⟨(fun _ => heq.out), (fun _ => rfl)⟩, btr B0.out hb.out⟩
      · have q3 : ((L : Int) != (L' : Int)) = true := bne_iff_ne.2 (by omega)
        have hne : Hid (Tr.mk k n ks ≠ Tr.mk k' n' ks') := tr_ne (fun h => h3 (by rw [← hL.out, ← hL'.out]; exact h.2.2))
        clear h1 h2
        go_wp2_with fail
        go_ret
        exact re_false hne.out B0.out
    · have q2 : (n != n') = true := bne_iff_ne.2 h2
      have hne : Hid (Tr.mk k n ks ≠ Tr.mk k' n' ks') := tr_ne (fun h => h2 h.2.1)
      clear h1
      go_wp2_with fail
      go_ret
      exact re_false hne.out B0.out
  · have q1 : (k != k') = true := bne_iff_ne.2 h1
    have hne : Hid (Tr.mk k n ks ≠ Tr.mk k' n' ks') := tr_ne (fun h => h1 h.1)
    go_wp2_with fail
    go_ret
    exact re_false hne.out B0.out
end Go.Proofs.YtoaccmblaifnmaaDoor
/-
  The document's Leaves.
-/
namespace Go.Proofs.YtoaccmblaifnmaaDoor
open Flo Go.RowKit Tr
/-- a leaf in memory: its kind, its number, its (empty) list -/
abbrev Lf : Type := Int × Int × Option Addr × Nat
def lfc (p : Lf) : List Value := [.int .i64 p.1, .int .i64 p.2.1, .slice p.2.2.1 0 p.2.2.2]
def lfs (ps : List Lf) : List Value := ps.flatMap lfc
def lft (p : Lf) : Tr := ⟨p.1, p.2.1, []⟩
def lfok (p : Lf) : Prop := fit p.1 p.2.1
theorem lfs_len (ps : List Lf) : (lfs ps).length = ps.length * 3 := by
  induction ps with
  | nil => rfl
  | cons p r ih => rw [lfs, List.flatMap_cons, List.length_append, show (r.flatMap lfc) = lfs r from rfl, ih, List.length_cons]; simp [lfc]; omega
theorem lfs_app (ps qs : List Lf) : lfs (ps ++ qs) = lfs ps ++ lfs qs := by simp [lfs]
theorem lfs_at {ps : List Lf} {i j : Nat} {p : Lf} (h : ps[i]? = some p) (hj : j < 3) : (lfs ps)[i * 3 + j]? = (lfc p)[j]? := by
  induction ps generalizing i with
  | nil => simp at h
  | cons q r ih =>
    have e : lfs (q :: r) = lfc q ++ lfs r := rfl
    have l3 : (lfc q).length = 3 := rfl
    rw [e]
    cases i with
    | zero =>
      obtain rfl : q = p := by simpa using h
      rw [Nat.zero_mul, Nat.zero_add, List.getElem?_append_left (by omega)]
    | succ i =>
      rw [List.getElem?_append_right (by omega), l3, show (i + 1) * 3 + j - 3 = i * 3 + j by omega]
      exact ih (by simpa using h)
theorem lfs_one (ps : List Lf) : ∀ u ∈ lfs ps, u.oneCell' = true := by
  intro u hu
  unfold lfs at hu
  obtain ⟨p, _, hp⟩ := List.mem_flatMap.1 hu
  simp only [lfc, List.mem_cons, List.not_mem_nil, or_false] at hp
  rcases hp with rfl | rfl | rfl <;> rfl
/-- a row of leaves of one's own -/
structure Lo (w : World) (B : Nat) (u : Value) (ts : List Tr) (ps : List Lf) : Prop where
  own : w.ownsRow B 24 3 u ps.length (lfs ps)
  map : ps.map lft = ts
  ok : ∀ p ∈ ps, lfok p
theorem Lo.len {w : World} {B : Nat} {u : Value} {ts : List Tr} {ps : List Lf} (h : Lo w B u ts ps) : ps.length = ts.length := by rw [← h.map, List.length_map]
theorem Lo.below {w w' : World} {B : Nat} {u : Value} {ts : List Tr} {ps : List Lf} (h : Lo w B u ts ps) (hb : Below w.heap.size w w') : Lo w' B u ts ps :=
  ⟨h.own.kept (row := none) ⟨hb.os, hb.tape, hb.output, hb.size, fun j hj _ => hb.block j hj⟩ (by cases hv : u.ownBlock <;> simp), h.map, h.ok⟩
theorem od_leaf {w : World} {p : Lf} (h : lfok p) : Od w (lft p) (.agg #[.int .i64 p.1, .int .i64 p.2.1, .slice p.2.2.1 0 p.2.2.2]) := by
  unfold lft
  rw [od_eq]
  exact ⟨p.2.2.1, p.2.2.2, rfl, ⟨Nat.zero_le _, h⟩, fun i hi => absurd hi (Nat.not_lt_zero _)⟩
theorem Lo.kds {w : World} {B : Nat} {u : Value} {ts : List Tr} {ps : List Lf} (h : Lo w B u ts ps) (hne : ts ≠ []) : ∃ g cap, u = .slice (some ⟨g, 0, none⟩) ts.length cap ∧ B ≤ g ∧ g < w.heap.size ∧ Kds w (some ⟨g, 0, none⟩) ts.length ts ∧ ∀ j v, (lfs ps)[j]? = some v → w.cell? ⟨g, j, none⟩ = some v := by
  have hl := h.len
  obtain ⟨h1, h2⟩ := h.own
  rcases h2 with ⟨e1, e2⟩ | ⟨g, cap, cur, rfl, hB, hr, hn, hc, hcs, htk⟩
  · exact absurd (List.length_eq_zero_iff.1 (by omega)) hne
  · have hcell : ∀ j v, (lfs ps)[j]? = some v → w.cell? ⟨g, j, none⟩ = some v := fun j v hv => by
      rw [← htk] at hv
      rw [cell_of_row _ _ _ _ _ _ hr]
      rw [List.getElem?_take] at hv
      split at hv
      · simpa using hv
      · cases hv
    refine ⟨g, cap, by rw [hl], hB, (Array.getElem?_eq_some_iff.1 hr).1, fun i hi => ?_, hcell⟩
    obtain ⟨p, hp⟩ : ∃ p, ps[i]? = some p := ⟨ps[i], List.getElem?_eq_getElem (by omega)⟩
    have hm := List.mem_of_getElem? hp
    refine ⟨g, 0, .slice p.2.2.1 0 p.2.2.2, lft p, by rw [← h.map, List.getElem?_map, hp]; rfl, rfl, (Array.getElem?_eq_some_iff.1 hr).1, ?_, ?_, ?_, od_leaf (h.ok p hm)⟩
    · rw [Nat.zero_add]
      exact hcell _ _ ((lfs_at (j := 0) hp (by decide)).trans rfl)
    · rw [Nat.zero_add]
      exact hcell _ _ ((lfs_at (j := 1) hp (by decide)).trans rfl)
    · rw [Nat.zero_add]
      exact hcell _ _ ((lfs_at (j := 2) hp (by decide)).trans rfl)
theorem lv_ne (t : Tr) : lv t ≠ [] := by
  refine ind (P := fun t => lv t ≠ []) (fun k n ks ih => ?_) t
  rw [lv_eq]
  split
  · simp
  · rename_i h
    obtain ⟨x, r, rfl⟩ := List.exists_cons_of_ne_nil h
    have := ih x (by simp)
    simp [this]
theorem lv_len (t : Tr) : (lv t).length ≤ pt t := by
  refine ind (P := fun t => (lv t).length ≤ pt t) (fun k n ks ih => ?_) t
  rw [lv_eq, pt_eq]
  split
  · simp
  · have key : ∀ l : List Tr, (∀ t ∈ l, (lv t).length ≤ pt t) → ((l.map lv).flatten).length ≤ (l.map pt).sum := by
      intro l
      induction l with
      | nil => intro _; simp
      | cons a r ihr =>
        intro h
        have h1 := h a (by simp)
        have h2 := ihr (fun t ht => h t (by simp [ht]))
        simp only [List.map_cons, List.flatten_cons, List.length_append, List.sum_cons]
        omega
    have := key ks ih
    omega
theorem infoO : (Tryd.prog.info? 24).map (fun i => (i.zero, i.size, i.bytes)) = some (some (.agg #[.int .i64 0, .int .i64 0, .slice none 0 0]), 3, 40) := by kernel_rfl
theorem info_o : ∃ i, Tryd.prog.info? 24 = some i ∧ i.zero = some (.agg #[.int .i64 0, .int .i64 0, .slice none 0 0]) ∧ i.size = 3 ∧ i.bytes = 40 := by
  obtain ⟨i, hi, h⟩ := Option.map_eq_some_iff.1 infoO
  simp only [Prod.mk.injEq] at h
  exact ⟨i, hi, h.1, h.2.1, h.2.2⟩
/-- the leaves of the first i Kids -/
def lvi (ks : List Tr) (i : Nat) : List Tr := ((ks.take i).map lv).flatten
theorem lvi_succ {ks : List Tr} {i : Nat} {t : Tr} (h : ks[i]? = some t) : lvi ks (i + 1) = lvi ks i ++ lv t := by
  unfold lvi
  rw [List.take_add_one, h]
  simp
theorem lvi_all {k n : Int} {ks : List Tr} (h : ks ≠ []) : lvi ks ks.length = lv ⟨k, n, ks⟩ := by
  rw [lv_eq, if_neg h]
  unfold lvi
  rw [List.take_of_length_le (Nat.le_refl _)]
theorem lvi_len (k n : Int) (ks : List Tr) (i : Nat) : (lvi ks i).length ≤ pt ⟨k, n, ks⟩ := by
  have h1 := lv_len ⟨0, 0, ks.take i⟩
  have h2 := pti_le k n ks i
  by_cases h : ks.take i = []
  · unfold lvi; rw [h]; simp
  · rw [lv_eq, if_neg h, pt_eq] at h1
    unfold pti at h2
    unfold lvi
    omega
set_option maxHeartbeats 2000000 in
theorem rLeaves_c (t : Tr) : ∀ (v : Value) (w : World), Od w t v → pt t ≤ 4500 → Calls Tryd.prog 18 #[v] w fun e w' => ∃ u ps, e = .returned u ∧ Lo w' w.heap.size u (lv t) ps ∧ Below w.heap.size w w' := by
  refine Tr.ind (P := fun t => ∀ (v : Value) (w : World), Od w t v → pt t ≤ 4500 → Calls Tryd.prog 18 #[v] w fun e w' => ∃ u ps, e = .returned u ∧ Lo w' w.heap.size u (lv t) ps ∧ Below w.heap.size w w') (fun k n ks ih0 v w ho hpt0 => ?_) t
  have hfit : Hid (fit k n) := ho.fits
  obtain ⟨ao, cap, rfl, hl0, hk0⟩ := ho.kds
  obtain ⟨L, hL⟩ : ∃ L, Hid (ks.length = L) := ⟨_, (rfl : _ = _)⟩
  have hk : Hid (Kds w ao L ks) := by show Kds _ _ _ _; rw [← hL.out]; exact hk0
  have hl : L ≤ 9223372036854775807 := by rw [← hL.out]; exact hl0
  have ih : Hid (∀ t ∈ ks, ∀ (v : Value) (w : World), Od w t v → Calls Tryd.prog 18 #[v] w fun e w' => ∃ u ps, e = .returned u ∧ Lo w' w.heap.size u (lv t) ps ∧ Below w.heap.size w w') := fun t ht v w h => ih0 t ht v w h (by have := pt_kid (k := k) (n := n) ht; omega)
  have hpt : Hid (∀ i, (lvi ks i).length ≤ 4500) := fun i => Nat.le_trans (lvi_len k n ks i) hpt0
  obtain ⟨R, hR⟩ : ∃ R, Hid (lv ⟨k, n, ks⟩ = R) := ⟨_, (rfl : _ = _)⟩
  rw [hL.out]
  rw [hR.out]
  clear hk0 hl0 ih0 ho hpt0
  obtain ⟨w0, hw0⟩ : ∃ w0, Hid (w.alloc (.cells #[.int .i64 k, .int .i64 n, .slice ao L cap] 24) = w0) := ⟨_, (rfl : _ = _)⟩
  have B0 : Hid (Below w.heap.size w w0) := by show Below _ _ _; rw [← hw0.out]; exact (Below.refl _ _).alloc (Nat.le_refl _) _
  have X0 : Hid (Bx3 w0 w.heap.size k n (.slice ao L cap)) := by show Bx3 _ _ _ _ _; rw [← hw0.out]; exact Bx3.new _ _ _ _ _
  obtain ⟨g, hg⟩ : ∃ g, Hid (w.heap.size = g) := ⟨_, (rfl : _ = _)⟩
  have hg0 : Hid (g ≤ w0.heap.size) := by show _ ≤ _; rw [← hg.out]; exact B0.out.size
  go_enter Tryd.func18, Tryd.ntmps18
  go_upto_region 1 with fail
  rw [hw0.out]
  rw [hg.out] at X0 B0 ⊢
  clear hw0
  have c0 := X0.out.c0
  have c1 := X0.out.c1
  have c2 := X0.out.c2
  by_cases h0 : L = 0
  · have q0 : ((L : Int) == 0) = true := by rw [h0]; rfl
    have hks : ks = [] := List.length_eq_zero_iff.1 (hL.out.trans h0)
    have hR2 : Hid ([lft (k, n, ao, cap)] = R) := by show _ = _; rw [← hR.out, lv_eq, if_pos hks, hks]; rfl
    subst h0
    have O1 : Hid (Lo (w0.alloc (.cells #[.int .i64 k, .int .i64 n, .slice ao 0 cap] 24)) g (.slice (some ⟨w0.heap.size, 0, none⟩) 1 1) R [(k, n, ao, cap)]) := by
      refine ⟨⟨rfl, .inr ⟨w0.heap.size, 1, _, rfl, hg0.out, heap_alloc_new _ _, Nat.le_refl _, by decide, rfl, rfl⟩⟩, by rw [← hR2.out]; rfl, fun p hp => ?_⟩
      obtain rfl : p = (k, n, ao, cap) := by simpa using hp
      exact hfit.out
    have B1 : Hid (Below g w (w0.alloc (.cells #[.int .i64 k, .int .i64 n, .slice ao 0 cap] 24))) := B0.out.alloc hg0.out _
    go_wp2_with fail
    go_ret
    exact ⟨_, _, rfl, by rw [hg.out]; exact O1.out, by rw [hg.out]; exact B1.out⟩
  · have q0 : ((L : Int) == 0) = false := beq_eq_false_iff_ne.2 (by omega)
    have hks : ks ≠ [] := fun e => h0 (by rw [← hL.out, e]; rfl)
    have hRL : Hid (lvi ks L = R) := by show _ = _; rw [← hR.out, ← hL.out]; exact lvi_all hks
    obtain ⟨i0, hi0, hz0, hz1, hz2⟩ := info_o
    have O1 : Hid (Lo (w0.alloc (.cells #[] 24)) g (.slice (some ⟨w0.heap.size, 0, none⟩) 0 0) (lvi ks 0) []) :=
      ⟨⟨rfl, .inr ⟨w0.heap.size, 0, #[], rfl, hg0.out, heap_alloc_new _ _, Nat.le_refl _, Nat.zero_le _, rfl, rfl⟩⟩, by unfold lvi; simp, fun p hp => by cases hp⟩
    have B1 : Hid (Below g w (w0.alloc (.cells #[] 24))) := B0.out.alloc hg0.out _
    have hgw : Hid (w.heap.size = g) := hg
    clear hks
    have c2' : (w0.alloc (.cells #[] 24)).cell? ⟨g, 2, none⟩ = some (.slice ao L cap) := (X0.out.below ((Below.refl _ _).alloc (Nat.le_refl _) _)).c2
    go_wp2_with fail
    clear c0 c1 c2 c2'
    go_loopw [3, 16] (fun so si wx => ∃ (i : Nat) (ps : List Lf), i ≤ L ∧ si = .int .i64 (i : Int) ∧ Hid (Lo wx g so (lvi ks i) ps) ∧ Hid (Below g w wx)) (fun _ si _ => L - (intOf si).toNat)
    case atStart => exact ⟨0, [], Nat.zero_le _, rfl, O1, B1⟩
    case round =>
      clear O1 B1
      obtain ⟨i, ps, hi, rfl, O, hb⟩ := hrel
      by_cases hlt : i < L
      · have hlt' : (i : Int) < (L : Int) := by omega
        have hbw : Hid (Below w.heap.size w wr) := by show Below _ _ _; rw [hgw.out]; exact hb.out
        obtain ⟨b, off, s, t', et, K0⟩ := hk.out i hlt
        have K := K0.below hbw.out
        obtain rfl := K.at0
        obtain ⟨a1, l1, p1, rfl⟩ := K.slc
        have c0 := K.c0
        have c1 := K.c1
        have c2 := K.c2
        have hod : Hid (Od wr t' (.agg #[.int .i64 t'.k, .int .i64 t'.n, .slice a1 l1 p1])) := K.od
        have hmem : Hid (t' ∈ ks) := List.mem_of_getElem? et
        have hst : Hid (lvi ks (i + 1) = lvi ks i ++ lv t') := lvi_succ et
        clear K K0 et
        generalize t'.k = k1 at *
        generalize t'.n = n1 at *
        have hal : Hid (Below wr.heap.size wr (wr.alloc (.cells #[.int .i64 k1, .int .i64 n1, .slice a1 l1 p1] 24))) := (Below.refl _ _).alloc (Nat.le_refl _) _
        go_wp2_with fail
        refine (ih.out t' hmem.out _ _ (Od.below hal.out _ _ hod.out)).mono ?_
        rintro e w1 ⟨u, qs, rfl, U1, W1⟩
        have hW1 : Hid (Below wr.heap.size wr w1) := btr hal.out W1
        have hgr : Hid (g ≤ wr.heap.size) := by show _ ≤ _; rw [← hgw.out]; exact hbw.out.size
        have hB1 : Hid (Below g w w1) := hb.out.trans (hW1.out.mono hgr.out)
        have O2 : Hid (Lo w1 g u3 (lvi ks i) ps) := O.out.below hW1.out
        obtain ⟨g2, cap2, rfl, _, hg2, _, hcell⟩ := U1.kds (lv_ne t')
        have hql : Hid (qs.length = (lv t').length) := U1.len
        obtain ⟨m, hm⟩ : ∃ m, Hid ((lv t').length = m) := ⟨_, (rfl : _ = _)⟩
        have hcellH : Hid (∀ j v, (lfs qs)[j]? = some v → w1.cell? ((⟨g2, 0, none⟩ : Addr).add j) = some v) := fun j v hv => by
          have := hcell j v hv
          unfold Addr.add
          by_cases hj : j = 0
          · subst hj; simpa using this
          · simpa [hj] using this
        have hqm : Hid (qs.map lft = lv t' ∧ ∀ p ∈ qs, lfok p) := ⟨U1.map, U1.ok⟩
        have hbd : Hid (ps.length + m ≤ 4500) := by
          have h1 := hpt.out (i + 1)
          rw [hst.out, List.length_append, hm.out, ← O2.out.len] at h1
          exact h1
        rw [hm.out]
        have hbd1 := hbd.out
        have hsz1 : Hid (g ≤ w1.heap.size) := Nat.le_trans hgr.out hW1.out.size
        clear U1 W1 hal hod hcell c0 c1 c2 hg2 O hb hbw
        go_wp2_with (at_builtin; refine wpList_append_own _ rfl _ _ 22 rfl g 24 i0 _ 3 40 Tryd.underlying22 hi0 hz0 hz1 hz2 rfl (by decide) _ _ _ rfl O2.out.own ⟨g2, 0, none⟩ m _ (lfs qs) rfl (by rw [lfs_len, hql.out, hm.out]) hcellH.out (lfs_one qs) (by unfold maxLen; omega) (by omega) hsz1.out ?_)
        intro v' w4 q1 q2 q3
        have O4 : Hid (Lo w4 g v' (lvi ks (i + 1)) (ps ++ qs)) := by
          refine ⟨?_, by rw [List.map_append, O2.out.map, hqm.out.1, hst.out], fun p hp => ?_⟩
          · rw [List.length_append, hql.out, hm.out, lfs_app]; exact q1
          · rcases List.mem_append.1 hp with h | h
            · exact O2.out.ok p h
            · exact hqm.out.2 p h
        have B4 : Hid (Below g w w4) := hB1.out.grown q2 hsz1.out (fun k' hk' => (O2.out.own.lt k' hk').1)
        clear q1 q2 q3 O2 hB1 hcellH
        go_wp2_with fail
        go_roundw
        case rel => exact ⟨i + 1, _, by omega, by go_num, O4, B4⟩
        case measure => simp [intOf]; omega
      · have hlt' : decide ((i : Int) < (L : Int)) = false := decide_eq_false (by omega)
        have ei : i = L := by omega
        subst ei
        rw [hRL.out] at O
        go_wp2_with fail
        go_ret
        exact ⟨_, ps, rfl, by rw [hg.out]; exact O.out, by rw [hg.out]; exact hb.out⟩
end Go.Proofs.YtoaccmblaifnmaaDoor
