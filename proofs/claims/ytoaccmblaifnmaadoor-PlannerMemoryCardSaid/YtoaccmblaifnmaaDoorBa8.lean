/-
  What PlannerLists and its fellows rest on, joined: Oq1 Os0 Oq3 Num Oe0.
-/
import Derived.WalkKit
import Ieee.Arith
import Derived.WalkLawsBesides
import Derived.Test.YtoaccmblaifnmaaDoorProg
import Derived.Deep.DeepCutAuto
import Derived.Deep.QuietTactic
import Derived.Laws.Rows
import Derived.Lib.ItoaNum
import Derived.Laws.IdiomStrings
import Derived.Deep.RegionHeld3
import Derived.Lib.SmallJoins
import Derived.Lib.HexFns
import Derived.Test.YtoaccmblaifnmaaDoorRows
import Derived.LaidEql
import Derived.LaidLaws
import Derived.LaidHandle
import Derived.Stop.Joined
import Derived.Deep.RegionWith
import Derived.Recover
import Derived.RegionDies
import Derived.Outline
import Derived.Laws.CopyOwn
import Derived.Lib.AppendIntMem
import Derived.Test.YtoaccmblaifnmaaDoorBa6
import Derived.Test.YtoaccmblaifnmaaDoorBa7
namespace Go.Proofs.YtoaccmblaifnmaaDoor
open Flo Go.RowKit Tr
open Lib (decDigits)
/-- a reader in memory: the text, the place -/
structure Rz (w : World) (g : Nat) (l : List UInt8) (p : Nat) : Prop where
  b : w.heap[g]? = some (.cells #[.string (Bt l), .int .i64 (p : Int)] 96 (0, 0))
namespace Rz
theorem c0 {w : World} {g : Nat} {l : List UInt8} {p : Nat} (h : Rz w g l p) : w.cell? ⟨g, 0, none⟩ = some (.string (Bt l)) := by rw [Joins.cell_of_block h.b]; rfl
theorem c1 {w : World} {g : Nat} {l : List UInt8} {p : Nat} (h : Rz w g l p) : w.cell? ⟨g, 1, none⟩ = some (.int .i64 (p : Int)) := by rw [Joins.cell_of_block h.b]; rfl
theorem fz {w : World} {g : Nat} {l : List UInt8} {p : Nat} (h : Rz w g l p) (i : Nat) : w.frozen? ⟨g, i, none⟩ = false := Joins.unfrozen_of_block h.b i
theorem lt {w : World} {g : Nat} {l : List UInt8} {p : Nat} (h : Rz w g l p) : g < w.heap.size := (Array.getElem?_eq_some_iff.1 h.b).1
theorem set {w : World} {g : Nat} {l : List UInt8} {p : Nat} (h : Rz w g l p) (q : Nat) : Rz (w.setCell ⟨g, 1, none⟩ (.int .i64 (q : Int))) g l q := ⟨by rw [Joins.block_setCell h.b]; rfl⟩
theorem dr {w : World} {g : Nat} {l : List UInt8} {p : Nat} (h : Rz w g l p) (k : Nat) : Rz (w.drewN k) g l p := ⟨h.b⟩
theorem bel {w w' : World} {g : Nat} {l : List UInt8} {p : Nat} (h : Rz w g l p) (hb : Below w.heap.size w w') : Rz w' g l p := ⟨(hb.block g h.lt).trans h.b⟩
end Rz
end Go.Proofs.YtoaccmblaifnmaaDoor
namespace Go.Proofs.YtoaccmblaifnmaaDoor
open Flo Go.RowKit Tr
/-- a Kid in a block of one's own -/
structure Kon (S : Nat → Prop) (w : World) (ao : Option Addr) (i : Nat) (t : Tr) (b : Nat) (c : Array Value) (s : Value) : Prop where
  at0 : ao = some ⟨b, 0, none⟩
  set : S b
  blk : w.heap[b]? = some (.cells c 24 (0, 0))
  d0 : c[i * 3]? = some (.int .i64 t.k)
  d1 : c[i * 3 + 1]? = some (.int .i64 t.n)
  d2 : c[i * 3 + 2]? = some s
def OsF (S : Nat → Prop) (w : World) : Nat → Tr → Value → Prop
  | 0, _, _ => False
  | m + 1, ⟨k, n, ks⟩, v => ∃ ao cap, v = .agg #[.int .i64 k, .int .i64 n, .slice ao ks.length cap] ∧ (ks.length ≤ 9223372036854775807 ∧ fit k n) ∧ ∀ i (h : i < ks.length), ∃ b c s, Kon S w ao i ks[i] b c s ∧ OsF S w m ks[i] (.agg #[.int .i64 (ks[i]).k, .int .i64 (ks[i]).n, s])
def Os (S : Nat → Prop) (w : World) (t : Tr) (v : Value) : Prop := OsF S w (pt t) t v
theorem osf_pt {S : Nat → Prop} {w : World} (t : Tr) : ∀ m m' v, OsF S w m t v → pt t ≤ m' → OsF S w m' t v := by
  refine Tr.ind (P := fun t => ∀ m m' v, OsF S w m t v → pt t ≤ m' → OsF S w m' t v) (fun k n ks ih m m' v h hm => ?_) t
  cases m with
  | zero => exact h.elim
  | succ m =>
    cases m' with
    | zero => have := pt_pos ⟨k, n, ks⟩; omega
    | succ m' =>
      obtain ⟨ao, cap, rfl, hl, hc⟩ := h
      refine ⟨ao, cap, rfl, hl, fun i hi => ?_⟩
      obtain ⟨b, c, s, K, ho⟩ := hc i hi
      have := pt_kid (k := k) (n := n) (List.getElem_mem hi)
      exact ⟨b, c, s, K, ih _ (List.getElem_mem hi) m m' _ ho (by omega)⟩
theorem os_eq (S : Nat → Prop) (w : World) (k n : Int) (ks : List Tr) (v : Value) : Os S w ⟨k, n, ks⟩ v ↔ ∃ ao cap, v = .agg #[.int .i64 k, .int .i64 n, .slice ao ks.length cap] ∧ (ks.length ≤ 9223372036854775807 ∧ fit k n) ∧ ∀ i (h : i < ks.length), ∃ b c s, Kon S w ao i ks[i] b c s ∧ Os S w ks[i] (.agg #[.int .i64 (ks[i]).k, .int .i64 (ks[i]).n, s]) := by
  constructor
  · intro h
    obtain ⟨ao, cap, rfl, hl, hc⟩ := osf_pt _ _ (pt ⟨k, n, ks⟩ + 1) _ h (Nat.le_succ _)
    refine ⟨ao, cap, rfl, hl, fun i hi => ?_⟩
    obtain ⟨b, c, s, K, ho⟩ := hc i hi
    exact ⟨b, c, s, K, osf_pt _ _ _ _ ho (Nat.le_refl _)⟩
  · rintro ⟨ao, cap, rfl, hl, hc⟩
    have h : OsF S w (pt ⟨k, n, ks⟩ + 1) ⟨k, n, ks⟩ (.agg #[.int .i64 k, .int .i64 n, .slice ao ks.length cap]) := by
      refine ⟨ao, cap, rfl, hl, fun i hi => ?_⟩
      obtain ⟨b, c, s, K, ho⟩ := hc i hi
      exact ⟨b, c, s, K, osf_pt _ _ _ _ ho (Nat.le_of_lt (pt_kid (List.getElem_mem hi)))⟩
    exact osf_pt _ _ _ _ h (Nat.le_refl _)
theorem blk_lt {w : World} {b : Nat} {o : Obj} (h : w.heap[b]? = some o) : b < w.heap.size := (Array.getElem?_eq_some_iff.1 h).1
theorem Os.keep {S S' : Nat → Prop} {w w' : World} (hs : ∀ b, S b → S' b) (hk : ∀ b, S b → b < w.heap.size → w'.heap[b]? = w.heap[b]?) (t : Tr) : ∀ v, Os S w t v → Os S' w' t v := by
  refine Tr.ind (P := fun t => ∀ v, Os S w t v → Os S' w' t v) (fun k n ks ih v h => ?_) t
  rw [os_eq] at h ⊢
  obtain ⟨ao, cap, rfl, hl, hc⟩ := h
  refine ⟨ao, cap, rfl, hl, fun i hi => ?_⟩
  obtain ⟨b, c, s, K, ho⟩ := hc i hi
  exact ⟨b, c, s, ⟨K.at0, hs _ K.set, (hk _ K.set (blk_lt K.blk)).trans K.blk, K.d0, K.d1, K.d2⟩, ih _ (List.getElem_mem hi) _ ho⟩
theorem Os.od {S : Nat → Prop} {w : World} (t : Tr) : ∀ v, Os S w t v → Od w t v := by
  refine Tr.ind (P := fun t => ∀ v, Os S w t v → Od w t v) (fun k n ks ih v h => ?_) t
  rw [os_eq] at h
  rw [od_eq]
  obtain ⟨ao, cap, rfl, hl, hc⟩ := h
  refine ⟨ao, cap, rfl, hl, fun i hi => ?_⟩
  obtain ⟨b, c, s, K, ho⟩ := hc i hi
  have e : ∀ j, w.cell? ⟨b, j, none⟩ = c[j]? := fun j => Joins.cell_of_block K.blk j
  refine ⟨b, 0, s, K.at0, blk_lt K.blk, ?_, ?_, ?_, ih _ (List.getElem_mem hi) _ ho⟩
  · rw [Nat.zero_add, e]; exact K.d0
  · rw [Nat.zero_add, e]; exact K.d1
  · rw [Nat.zero_add, e]; exact K.d2
/-- new blocks -/
def nw (w : World) : Nat → Prop := fun b => w.heap.size ≤ b
theorem Os.bel {S : Nat → Prop} {w w' : World} {t : Tr} {v : Value} (h : Os S w t v) (hg : Below w.heap.size w w') : Os S w' t v :=
  Os.keep (fun _ hb => hb) (fun b _ hl => hg.block b hl) t v h
theorem Os.leaf {S : Nat → Prop} {w : World} {k n : Int} {a : Option Addr} {c : Nat} (h : fit k n) : Os S w ⟨k, n, []⟩ (.agg #[.int .i64 k, .int .i64 n, .slice a 0 c]) := by
  rw [os_eq]
  exact ⟨a, c, rfl, ⟨by simp, h⟩, fun i hi => absurd hi (Nat.not_lt_zero _)⟩
theorem Os.shape {S : Nat → Prop} {w : World} {t : Tr} {v : Value} (h : Os S w t v) : ∃ a c, v = .agg #[.int .i64 t.k, .int .i64 t.n, .slice a t.ks.length c] := by
  obtain ⟨k, n, ks⟩ := t
  rw [os_eq] at h
  obtain ⟨ao, cap, rfl, _⟩ := h
  exact ⟨ao, cap, rfl⟩
theorem Os.fits {S : Nat → Prop} {w : World} {t : Tr} {v : Value} (h : Os S w t v) : fit t.k t.n := by
  obtain ⟨k, n, ks⟩ := t
  rw [os_eq] at h
  obtain ⟨ao, cap, rfl, hl, _⟩ := h
  exact hl.2
/-- an order of two, its list in block b -/
theorem Os.two {S : Nat → Prop} {w : World} {k n : Int} {x y : Tr} {sx sy : Value} {b : Nat} {cap : Nat} (hf : fit k n) (hb : S b)
    (hx : Os S w x (.agg #[.int .i64 x.k, .int .i64 x.n, sx])) (hy : Os S w y (.agg #[.int .i64 y.k, .int .i64 y.n, sy]))
    (hc : w.heap[b]? = some (.cells #[.int .i64 x.k, .int .i64 x.n, sx, .int .i64 y.k, .int .i64 y.n, sy] 24 (0, 0))) : Os S w ⟨k, n, [x, y]⟩ (.agg #[.int .i64 k, .int .i64 n, .slice (some ⟨b, 0, none⟩) 2 cap]) := by
  rw [os_eq]
  refine ⟨_, cap, rfl, ⟨by simp, hf⟩, fun i hi => ?_⟩
  match i, hi with
  | 0, _ => exact ⟨b, _, sx, ⟨rfl, hb, hc, rfl, rfl, rfl⟩, hx⟩
  | 1, _ => exact ⟨b, _, sy, ⟨rfl, hb, hc, rfl, rfl, rfl⟩, hy⟩
theorem Os.one {S : Nat → Prop} {w : World} {k n : Int} {x : Tr} {sx : Value} {b : Nat} {cap : Nat} (hf : fit k n) (hb : S b)
    (hx : Os S w x (.agg #[.int .i64 x.k, .int .i64 x.n, sx]))
    (hc : w.heap[b]? = some (.cells #[.int .i64 x.k, .int .i64 x.n, sx] 24 (0, 0))) : Os S w ⟨k, n, [x]⟩ (.agg #[.int .i64 k, .int .i64 n, .slice (some ⟨b, 0, none⟩) 1 cap]) := by
  rw [os_eq]
  refine ⟨_, cap, rfl, ⟨by simp, hf⟩, fun i hi => ?_⟩
  match i, hi with
  | 0, _ => exact ⟨b, _, sx, ⟨rfl, hb, hc, rfl, rfl, rfl⟩, hx⟩
end Go.Proofs.YtoaccmblaifnmaaDoor
namespace Go.Proofs.YtoaccmblaifnmaaDoor
open Flo Go.RowKit Tr
/-- an order's variable -/
structure Bo (w : World) (b : Nat) (k n : Int) (s : Value) : Prop where
  b : w.heap[b]? = some (.cells #[.int .i64 k, .int .i64 n, s] 24 (0, 0))
namespace Bo
theorem c0 {w : World} {b : Nat} {k n : Int} {s : Value} (h : Bo w b k n s) : w.cell? ⟨b, 0, none⟩ = some (.int .i64 k) := by rw [Joins.cell_of_block h.b]; rfl
theorem c1 {w : World} {b : Nat} {k n : Int} {s : Value} (h : Bo w b k n s) : w.cell? ⟨b, 1, none⟩ = some (.int .i64 n) := by rw [Joins.cell_of_block h.b]; rfl
theorem c2 {w : World} {b : Nat} {k n : Int} {s : Value} (h : Bo w b k n s) : w.cell? ⟨b, 2, none⟩ = some s := by rw [Joins.cell_of_block h.b]; rfl
theorem fz {w : World} {b : Nat} {k n : Int} {s : Value} (h : Bo w b k n s) (i : Nat) : w.frozen? ⟨b, i, none⟩ = false := Joins.unfrozen_of_block h.b i
theorem lt {w : World} {b : Nat} {k n : Int} {s : Value} (h : Bo w b k n s) : b < w.heap.size := blk_lt h.b
theorem new (w : World) (k n : Int) (s : Value) : Bo (w.alloc (.cells #[.int .i64 k, .int .i64 n, s] 24)) w.heap.size k n s := ⟨heap_alloc_new _ _⟩
theorem bel {w w' : World} {b : Nat} {k n : Int} {s : Value} (h : Bo w b k n s) (hb : Below w.heap.size w w') : Bo w' b k n s := ⟨(hb.block b h.lt).trans h.b⟩
theorem dr {w : World} {b : Nat} {k n : Int} {s : Value} (h : Bo w b k n s) (i : Nat) : Bo (w.drewN i) b k n s := ⟨h.b⟩
end Bo
theorem below_gb {w w' : World} (h : Below w.heap.size w w') (g : Option Nat) : w.grownBy w' g := ⟨h.os, h.tape, h.output, h.size, fun i hi _ => h.block i hi⟩
set_option maxRecDepth 100000 in
theorem direct_c (n : Int) (w : World) : Calls Tryd.prog 39 #[.int .i64 n] w fun e w' => e = .returned (.agg #[.int .i64 1, .int .i64 n, .slice none 0 0]) ∧ Below w.heap.size w w' := by
  have hB : Hid (∀ x, Below w.heap.size w (w.alloc x)) := fun x => (Below.refl _ _).alloc (Nat.le_refl _) _
  go_enter Tryd.func39, Tryd.ntmps39
  go_wp2_with fail
  refine bodyPost_ret (v := .agg #[.int .i64 1, .int .i64 n, .slice none 0 0]) (by simp [results, Tryd.results39, go_sem]) rfl ?_
  exact ⟨rfl, hB.out _⟩
set_option maxRecDepth 100000 in
theorem fly_c (n : Int) (w : World) : Calls Tryd.prog 38 #[.int .i64 n] w fun e w' => e = .returned (.agg #[.int .i64 2, .int .i64 n, .slice none 0 0]) ∧ Below w.heap.size w w' := by
  have hB : Hid (∀ x, Below w.heap.size w (w.alloc x)) := fun x => (Below.refl _ _).alloc (Nat.le_refl _) _
  go_enter Tryd.func38, Tryd.ntmps38
  go_wp2_with fail
  refine bodyPost_ret (v := .agg #[.int .i64 2, .int .i64 n, .slice none 0 0]) (by simp [results, Tryd.results38, go_sem]) rfl ?_
  exact ⟨rfl, hB.out _⟩
theorem sc_blk (w : World) {b j : Nat} (i : Nat) (v : Value) (h : j ≠ b) : (w.setCell ⟨b, i, none⟩ v).heap[j]? = w.heap[j]? := by
  by_cases hj : j < w.heap.size
  · exact (Lib.Hx.grownBy_set (Lib.Hx.grownBy_refl w (some b)) ⟨b, i, none⟩ rfl v).block j hj (fun e => h (Option.some.inj e))
  · have h1 : (w.setCell ⟨b, i, none⟩ v).heap.size = w.heap.size := by simp [World.setCell]
    rw [Array.getElem?_eq_none (by rw [h1]; omega), Array.getElem?_eq_none (by omega)]
theorem sc_size (w : World) (a : Addr) (v : Value) : (w.setCell a v).heap.size = w.heap.size := by simp [World.setCell]
/-- three stores into a variable -/
def st3 (w : World) (b : Nat) (k n : Int) (s : Value) : World := ((w.setCell ⟨b, 0, none⟩ (.int .i64 k)).setCell ⟨b, 1, none⟩ (.int .i64 n)).setCell ⟨b, 2, none⟩ s
theorem st3_blk (w : World) (b : Nat) (k n : Int) (s : Value) {j : Nat} (h : j ≠ b) : (st3 w b k n s).heap[j]? = w.heap[j]? := by
  unfold st3
  rw [sc_blk _ _ _ h, sc_blk _ _ _ h, sc_blk _ _ _ h]
theorem st3_size (w : World) (b : Nat) (k n : Int) (s : Value) : (st3 w b k n s).heap.size = w.heap.size := by
  unfold st3
  simp only [sc_size]
theorem st3_own (w : World) (b : Nat) (k n : Int) (s : Value) : w.grownBy (st3 w b k n s) (some b) := ⟨rfl, rfl, rfl, by rw [st3_size]; exact Nat.le_refl _, fun j _ hn => st3_blk _ _ _ _ _ (fun e => hn (by rw [e]))⟩
theorem st3_bo {w : World} {b : Nat} {k0 n0 : Int} {s0 : Value} (h : Bo w b k0 n0 s0) (k n : Int) (s : Value) : Bo (st3 w b k n s) b k n s := by
  unfold st3
  have h1 := Joins.block_setCell h.b (i := 0) (v := .int .i64 k)
  have h2 := Joins.block_setCell h1 (i := 1) (v := .int .i64 n)
  have h3 := Joins.block_setCell h2 (i := 2) (v := s)
  exact ⟨h3⟩
end Go.Proofs.YtoaccmblaifnmaaDoor
namespace Go.Proofs.YtoaccmblaifnmaaDoor
open Go.RowKit
theorem cell_alloc {w : World} {a : Addr} {v : Value} (h : w.cell? a = some v) (o : Obj) : (w.alloc o).cell? a = some v := by
  rw [((Below.refl w.heap.size w).alloc (Nat.le_refl _) o).cell (cell_lt h)]; exact h
theorem err_info : ∃ i j, Tryd.prog.info? 160 = some i ∧ i.comparable = true ∧ Tryd.prog.info? 176 = some j ∧ j.size ≠ 0 := by
  have h1 : (Tryd.prog.info? 160).map (·.comparable) = some true := by kernel_rfl
  have h2 : (Tryd.prog.info? 176).map (fun j => j.size != 0) = some true := by kernel_rfl
  obtain ⟨i, hi, ci⟩ := Option.map_eq_some_iff.1 h1
  obtain ⟨j, hj, cj⟩ := Option.map_eq_some_iff.1 h2
  exact ⟨i, j, hi, ci, hj, by simpa using cj⟩
end Go.Proofs.YtoaccmblaifnmaaDoor
namespace Go.Proofs.YtoaccmblaifnmaaDoor
open Flo Go.RowKit Tr
/-- '==' of two error values -/
theorem eqv_self (a : Addr) (w : World) : (binOp .eql 31 (ev a) (ev a)).run Tryd.prog w = .ok (.bool true) w := by
  obtain ⟨i, d, hi, ci, hd, _⟩ := err_info
  unfold ev
  exact run_eql_iface_ptr_same w _ Tryd.underlying31 Tryd.underlying160 hi ci hd
/-- an error's value by its number -/
def er (aL aT aO : Addr) (n : Nat) : Value := if n = 0 then .nilIface else if n = 3 then ev aL else if n = 6 then ev aT else ev aO
/-- Check's answer -/
def cke (aO : Addr) (t : Tr) : Value := if len t = 0 then ev aO else .nilIface
set_option maxRecDepth 100000 in
theorem check_c (t : Tr) (v : Value) (w : World) (aO : Addr) (ho : Od w t v) (hE : w.cell? ⟨0, 0, none⟩ = some (ev aO)) : Calls Tryd.prog 13 #[v] w fun e w' => e = .returned (cke aO t) ∧ Below w.heap.size w w' := by
  obtain ⟨k, n, ks⟩ := t
  obtain ⟨ao, cap, rfl, _, _⟩ := ho.kds
  obtain ⟨L, hL⟩ : ∃ L, Hid (ks.length = L) := ⟨_, (rfl : _ = _)⟩
  obtain ⟨t, ht⟩ : ∃ t, Hid (Tr.mk k n ks = t) := ⟨_, (rfl : _ = _)⟩
  rw [hL.out, ht.out] at ho
  rw [hL.out, ht.out]
  obtain ⟨wa, ewa⟩ : ∃ wa, Hid (w.alloc (.cells #[.int .i64 k, .int .i64 n, .slice ao L cap] 24) = wa) := ⟨_, (rfl : _ = _)⟩
  have Ba : Below w.heap.size w wa := by rw [← ewa.out]; exact (Below.refl _ _).alloc (Nat.le_refl _) _
  have Xa : Hid (Bo wa w.heap.size k n (.slice ao L cap)) := by show Bo _ _ _ _ _; rw [← ewa.out]; exact Bo.new _ _ _ _
  have hoa : Hid (Od wa t (.agg #[.int .i64 k, .int .i64 n, .slice ao L cap])) := Od.below Ba _ _ ho
  have hEa : Hid (wa.cell? ⟨0, 0, none⟩ = some (ev aO)) := (Ba.cell (p := ⟨0, 0, none⟩) (cell_lt hE)).trans hE
  have BaH : Hid (Below w.heap.size w wa) := Ba
  clear ho hE Ba
  go_enter Tryd.func13, Tryd.ntmps13
  go_upto_region 1 with fail
  rw [ewa.out]
  have x0 := Xa.out.c0
  have x1 := Xa.out.c1
  have x2 := Xa.out.c2
  go_wp2_with fail
  refine (length_c t _ wa hoa.out).mono ?_
  rintro e w1 ⟨rfl, B1⟩
  have hB : Hid (Below w.heap.size w w1) := btr BaH.out B1
  have hE1 : w1.cell? ⟨0, 0, none⟩ = some (ev aO) := (B1.cell (p := ⟨0, 0, none⟩) (cell_lt hEa.out)).trans hEa.out
  unfold ev at hE1
  obtain ⟨N, hN⟩ : ∃ N : Nat, Hid (len t = N) := ⟨_, (rfl : _ = _)⟩
  rw [hN.out]
  clear B1 x0 x1 x2
  by_cases h0 : N = 0
  · have q1 : ((N : Int) == 0) = true := by rw [h0]; rfl
    have hfin : Hid (ev aO = cke aO t) := by show _ = _; unfold cke; rw [if_pos (hN.out.trans h0)]
    clear h0
    go_wp2_with fail
    go_ret
    exact ⟨by rw [← hfin.out]; rfl, hB.out⟩
  · have q1 : ((N : Int) == 0) = false := beq_eq_false_iff_ne.2 (by omega)
    have hfin : Hid (.nilIface = cke aO t) := by show _ = _; unfold cke; rw [if_neg (by rw [hN.out]; exact h0)]
    go_wp2_with fail
    go_ret
    exact ⟨by rw [← hfin.out]; rfl, hB.out⟩
end Go.Proofs.YtoaccmblaifnmaaDoor
