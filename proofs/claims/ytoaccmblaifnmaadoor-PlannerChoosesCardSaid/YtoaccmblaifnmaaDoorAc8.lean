/-
  What the rows of layer 12 list: the table of the powers of ten, three sentinels.
-/
import Derived.Test.YtoaccmblaifnmaaDoorAa7
import Derived.Lib.LaidTab
import Derived.LaidSub
import Derived.LaidMore
import Derived.ProofKit
import Derived.Test.YtoaccmblaifnmaaDoorErr
import Derived.Test.YtoaccmblaifnmaaDoorOq3
import Derived.Recover
import Derived.Defers
namespace Go.Proofs.YtoaccmblaifnmaaDoor
open Go.RowKit
theorem tab_of {W : World} {l : List (String × DataW Unit)} (h : laidMetH Tryd.prog l W)
    (hf : l.filter (fun x => x.1 == "internal/strconv.uint64pow10") = [("internal/strconv.uint64pow10", Lib.tabData .u64 Lib.pow10Tab)]) : Lib.TabIs Tryd.prog W "internal/strconv.uint64pow10" .u64 Lib.pow10Tab := by
  have h1 := h.filter (fun x => x.1 == "internal/strconv.uint64pow10")
  rw [hf, MakeChecks.laidMetH_plain _ _ _ (by kernel_rfl)] at h1
  exact Lib.tabIs_of_head (g := 19) (by kernel_rfl) (by kernel_rfl) Tryd.underlying152 Tryd.underlying143 (by kernel_rfl) (by kernel_rfl) h1
def eoNames : List (String × List UInt8) := [("timbre/api.ErrLimit", [116, 105, 109, 98, 114, 101, 58, 32, 108, 105, 109, 105, 116]), ("timbre/api.ErrText", [116, 105, 109, 98, 114, 101, 58, 32, 116, 101, 120, 116]), ("timbre/api.ErrOrder", [116, 105, 109, 98, 114, 101, 58, 32, 111, 114, 100, 101, 114])]
def isTab (s : String) : Bool := s == "math/bits.deBruijn32tab" || s == "math/bits.deBruijn64tab" || s == "internal/strconv.uint64pow10"
theorem eo_of {W : World} {l : List (String × DataW Unit)} (h : laidMetH Tryd.prog l W)
    (hf : l.filter (fun x => x.1 == "internal/strconv.uint64pow10") = [("internal/strconv.uint64pow10", Lib.tabData .u64 Lib.pow10Tab)])
    (he : l.filter (fun x => !isTab x.1) = eoNames.map fun x => (x.1, errD x.2)) : ∃ aL aT aO, Eo W aL aT aO := by
  have ht := tab_of h hf
  have h1 := h.filter (fun x => !isTab x.1)
  rw [he, MakeChecks.laidMetH_plain _ _ _ (by kernel_rfl)] at h1
  obtain ⟨ps, hv, hnd, hr⟩ := h1
  obtain ⟨al, h1, h2, h3⟩ := sents eoNames [1, 3, 0] ps (by kernel_rfl) (by decide +kernel) hv hr
  match al, h1, h2, h3 with
  | [r, t, o], h1, h2, h3 =>
    have hn := h3 hnd
    simp only [List.nodup_cons, List.mem_cons, List.not_mem_nil, or_false, not_or] at hn
    refine ⟨r, t, o, h1.1, h1.2.1, h1.2.2.1, hn.1.1, hn.1.2, hn.2.1, fun a ha => ?_, ht⟩
    rcases ha with rfl | rfl | rfl
    · exact (hr _ _ (h2 _ (by simp))).1
    · exact (hr _ _ (h2 _ (by simp))).1
    · exact (hr _ _ (h2 _ (by simp))).1
end Go.Proofs.YtoaccmblaifnmaaDoor
/-
  From what the rows list (the nineteen sentinels read as their texts lay them) to what the walks ask: 'Errs'.
-/
namespace Go.Proofs.YtoaccmblaifnmaaDoor
open Go.RowKit
def errNames : List (String × List UInt8) := [("timbre/api.ErrShort", [116, 105, 109, 98, 114, 101, 58, 32, 116, 111, 111, 32, 115, 104, 111, 114, 116]), ("timbre/api.ErrVarint", [116, 105, 109, 98, 114, 101, 58, 32, 118, 97, 114, 105, 110, 116]), ("timbre/api.ErrLimit", [116, 105, 109, 98, 114, 101, 58, 32, 108, 105, 109, 105, 116]), ("timbre/api.ErrTail", [116, 105, 109, 98, 114, 101, 58, 32, 116, 97, 105, 108]), ("timbre/api.ErrRange", [116, 105, 109, 98, 114, 101, 58, 32, 114, 97, 110, 103, 101]), ("timbre/api.ErrText", [116, 105, 109, 98, 114, 101, 58, 32, 116, 101, 120, 116]), ("timbre/api.ErrLength", [116, 105, 109, 98, 114, 101, 58, 32, 108, 101, 110, 103, 116, 104]), ("timbre/api.ErrOrder", [116, 105, 109, 98, 114, 101, 58, 32, 111, 114, 100, 101, 114]), ("timbre/api.ErrProgram", [116, 105, 109, 98, 114, 101, 58, 32, 112, 114, 111, 103, 114, 97, 109]), ("timbre/api.ErrState", [116, 105, 109, 98, 114, 101, 58, 32, 115, 116, 97, 116, 101]), ("timbre/api.ErrRoot", [116, 105, 109, 98, 114, 101, 58, 32, 114, 111, 111, 116]), ("timbre/api.ErrPerm", [116, 105, 109, 98, 114, 101, 58, 32, 112, 101, 114, 109, 117, 116, 97, 116, 105, 111, 110]), ("timbre/api.ErrNumber", [116, 105, 109, 98, 114, 101, 58, 32, 110, 117, 109, 98, 101, 114]), ("timbre/api.ErrWorkers", [116, 105, 109, 98, 114, 101, 58, 32, 119, 111, 114, 107, 101, 114, 115]), ("timbre/api.ErrDone", [116, 105, 109, 98, 114, 101, 58, 32, 100, 111, 110, 101]), ("timbre/api.ErrUnknown", [116, 105, 109, 98, 114, 101, 58, 32, 117, 110, 107, 110, 111, 119, 110]), ("timbre/api.ErrMode", [116, 105, 109, 98, 114, 101, 58, 32, 109, 111, 100, 101]), ("timbre/api.ErrCommand", [116, 105, 109, 98, 114, 101, 58, 32, 99, 111, 109, 109, 97, 110, 100]), ("timbre/api.ErrExact", [116, 105, 109, 98, 114, 101, 58, 32, 101, 120, 97, 99, 116])]
theorem errs_of {W : World} (h : laidMetH Tryd.prog (errNames.map fun x => (x.1, errD x.2)) W) : ∃ al, Errs W al := by
  rw [MakeChecks.laidMetH_plain _ _ _ (by kernel_rfl)] at h
  obtain ⟨ps, hv, hnd, hr⟩ := h
  obtain ⟨al, h1, h2, h3⟩ := sents errNames [5, 6, 1, 7, 2, 3, 4, 0, 8, 9, 10, 11, 12, 13, 14, 15, 16, 17, 18] ps (by kernel_rfl) (by decide +kernel) hv hr
  exact ⟨al, h1, h3 hnd, fun a ha => (hr _ _ (h2 a ha)).1⟩
end Go.Proofs.YtoaccmblaifnmaaDoor
/-
  The program's read and Parse: a panic caught.
-/
namespace Go.Proofs.YtoaccmblaifnmaaDoor
open Flo Go.RowKit Tr
set_option maxRecDepth 100000 in
theorem catch_p (r : Nat) (l : List UInt8) (q : Nat) (a : Addr) (k n : Int) (s av : Value) (x : Int) (w : World) (hz : Rz w (r + 3) l q) (hE : Et w a) (hO : Bo w r k n s) (hA : w.heap[r + 1]? = some (.cells #[.int .i64 x] 3 (0, 0))) (hV : w.heap[r + 2]? = some (.cells #[av] 31 (0, 0))) :
    CallsD Tryd.prog 65 #[.pointer (some ⟨r + 3, 0, none⟩), .pointer (some ⟨r, 0, none⟩), .pointer (some ⟨r + 1, 0, none⟩), .pointer (some ⟨r + 2, 0, none⟩)] (.panicking (pan a)) w fun e u' w' =>
      e = .returned (.tuple #[]) ∧ u' = .panicking [{ v := ev a, recovered := true }] ∧ w' = ((st3 w r 0 0 (.slice none 0 0)).setCell ⟨r + 1, 0, none⟩ (.int .i64 (q : Int))).setCell ⟨r + 2, 0, none⟩ (ev a) := by
  have c1 := hz.c1
  have e1 : w.cell? ⟨3, 0, none⟩ = some (ev a) := hE
  unfold ev at e1
  have o0 := hO.c0
  have o1 := hO.c1
  have o2 := hO.c2
  have of := hO.fz
  have a0 : w.cell? ⟨r + 1, 0, none⟩ = some (.int .i64 x) := by rw [Joins.cell_of_block hA]; rfl
  have af := Joins.unfrozen_of_block hA 0
  have v0 : w.cell? ⟨r + 2, 0, none⟩ = some av := by rw [Joins.cell_of_block hV]; rfl
  have vf := Joins.unfrozen_of_block hV 0
  clear hO hA hV hE hz
  refine callsD_of_wpS Tryd.func65 rfl fun c₀ cs hu => ?_
  apply wpS_seq
  apply wpS_region
  simp [wpOpsS, go_sem, recoverD, hu, pan, ev, Tryd.ntmps65, Exit.thenS]
  refine wpS_of_wp ?_
  go_wp2_with fail
  simp [bodyPostS, results, Tryd.results65, st3]
theorem catch_i (p1 p2 p3 p4 : Addr) (w : World) :
    CallsD Tryd.prog 65 #[.pointer (some p1), .pointer (some p2), .pointer (some p3), .pointer (some p4)] .returning w fun e u' w' => e = .returned (.tuple #[]) ∧ u' = .returning ∧ w' = w := by
  refine callsD_of_wpS Tryd.func65 rfl fun c₀ cs hu => ?_
  apply wpS_seq
  apply wpS_region
  simp [wpOpsS, go_sem, recoverD, hu, Tryd.ntmps65, Exit.thenS]
  refine wpS_of_wp ?_
  go_wp2_with fail
  cases c₀
  simp_all [bodyPostS, results, Tryd.results65]
def zor : Value := .agg #[.int .i64 0, .int .i64 0, .slice none 0 0]
/-- what read answers -/
def RD (l : List UInt8) (a : Addr) (w : World) (e : Ending) (w' : World) : Prop :=
  Below w.heap.size w w' ∧ (∀ t, Ps.rd l = (some t, l.length) → ∃ v, e = .returned (.tuple #[v, .int .i64 0, .nilIface]) ∧ Os (nw w) w' t v) ∧ ((∀ t, Ps.rd l ≠ (some t, l.length)) → e = .returned (.tuple #[zor, .int .i64 ((Ps.rd l).2 : Int), ev a]))
/-- the three results, written -/
theorem fin_read {w w5 : World} {R : Nat} {k0 n0 k n x x0 : Int} {s0 s y y0 : Value} (hR : w.heap.size = R) (hB : Below R w w5) (hO : Bo w5 R k0 n0 s0) (hA : w5.heap[R + 1]? = some (.cells #[.int .i64 x0] 3 (0, 0))) (hV : w5.heap[R + 2]? = some (.cells #[y0] 31 (0, 0))) :
    ∃ w6, Hid (((st3 w5 R k n s).setCell ⟨R + 1, 0, none⟩ (.int .i64 x)).setCell ⟨R + 2, 0, none⟩ y = w6) ∧ (w6.cell? ⟨R, 0, none⟩ = some (.int .i64 k) ∧ w6.cell? ⟨R, 1, none⟩ = some (.int .i64 n) ∧ w6.cell? ⟨R, 2, none⟩ = some s) ∧ w6.cell? ⟨R + 1, 0, none⟩ = some (.int .i64 x) ∧ w6.cell? ⟨R + 2, 0, none⟩ = some y ∧ Hid (Below R w w6) ∧ Hid (∀ j, j ≠ R → j ≠ R + 1 → j ≠ R + 2 → w6.heap[j]? = w5.heap[j]?) := by
  have h1 := st3_bo hO k n s
  have h2 : (st3 w5 R k n s).heap[R + 1]? = some (.cells #[.int .i64 x0] 3 (0, 0)) := by rw [st3_blk _ _ _ _ _ (by omega)]; exact hA
  have h3 : ((st3 w5 R k n s).setCell ⟨R + 1, 0, none⟩ (.int .i64 x)).heap[R + 2]? = some (.cells #[y0] 31 (0, 0)) := by rw [sc_blk _ _ _ (by omega), st3_blk _ _ _ _ _ (by omega)]; exact hV
  have h4 : ((st3 w5 R k n s).setCell ⟨R + 1, 0, none⟩ (.int .i64 x)).heap[R + 1]? = some (.cells #[.int .i64 x] 3 (0, 0)) := by rw [Joins.block_setCell h2]; rfl
  have h5 : (((st3 w5 R k n s).setCell ⟨R + 1, 0, none⟩ (.int .i64 x)).setCell ⟨R + 2, 0, none⟩ y).heap[R + 2]? = some (.cells #[y] 31 (0, 0)) := by rw [Joins.block_setCell h3]; rfl
  have h6 : (((st3 w5 R k n s).setCell ⟨R + 1, 0, none⟩ (.int .i64 x)).setCell ⟨R + 2, 0, none⟩ y).heap[R + 1]? = some (.cells #[.int .i64 x] 3 (0, 0)) := by rw [sc_blk _ _ _ (by omega)]; exact h4
  have h7 : Bo (((st3 w5 R k n s).setCell ⟨R + 1, 0, none⟩ (.int .i64 x)).setCell ⟨R + 2, 0, none⟩ y) R k n s := ⟨by rw [sc_blk _ _ _ (by omega), sc_blk _ _ _ (by omega)]; exact h1.b⟩
  refine ⟨_, (rfl : _ = _), ⟨h7.c0, h7.c1, h7.c2⟩, by rw [Joins.cell_of_block h6]; rfl, by rw [Joins.cell_of_block h5]; rfl, ?_, fun j j0 j1 j2 => by rw [sc_blk _ _ _ j2, sc_blk _ _ _ j1, st3_blk _ _ _ _ _ j0]⟩
  show Below _ _ _
  have hs : ∀ (W : World) (b i : Nat) (v : Value), R ≤ b → Below R w W → Below R w (W.setCell ⟨b, i, none⟩ v) := fun W b i v hb h => h.grown (Lib.Hx.grownBy_set (Lib.Hx.grownBy_refl W (some b)) ⟨b, i, none⟩ rfl v) (by rw [← hR]; exact h.size) (fun k hk => by cases hk; exact hb)
  exact hs _ _ _ _ (by omega) (hs _ _ _ _ (by omega) (hs _ _ _ _ (Nat.le_refl _) (hs _ _ _ _ (Nat.le_refl _) (hs _ _ _ _ (Nat.le_refl _) hB))))
set_option maxRecDepth 100000 in
set_option maxHeartbeats 1000000 in
theorem read_c (l : List UInt8) (a : Addr) (w : World) (hl : l.length ≤ 65536) (hE : Et w a) (hw : 3 < w.heap.size) : Calls Tryd.prog 43 #[.string (Bt l)] w (RD l a w) := by
  have hmf : ∀ (fn : Fn) (first cap : Array Value) (w : World), (Instr.makeFunc fn first cap).run Tryd.prog w = .ok (.func fn first cap) w := fun _ _ _ _ => rfl
  obtain ⟨w4, e4⟩ : ∃ w4, Hid ((((w.alloc (.cells #[.int .i64 0, .int .i64 0, .slice none 0 0] 24)).alloc (.cells #[.int .i64 0] 3)).alloc (.cells #[.nilIface] 31)).alloc (.cells #[.string (Bt l), .int .i64 0] 96) = w4) := ⟨_, (rfl : _ = _)⟩
  obtain ⟨R, hR⟩ : ∃ R, Hid (w.heap.size = R) := ⟨_, (rfl : _ = _)⟩
  have B4 : Hid (Below R w w4) := by
    show Below _ _ _
    rw [← e4.out, ← hR.out]
    exact ((((Below.refl _ _).alloc (Nat.le_refl _) _).alloc (by simp) _).alloc (by simp; omega) _).alloc (by simp; omega) _
  have s4 : w4.heap.size = R + 4 := by rw [← e4.out]; simp [hR.out]
  have O4 : Hid (Bo w4 R 0 0 (.slice none 0 0)) := ⟨by
    rw [← e4.out, ← hR.out, Below.heap_alloc _ _ _ (by simp; omega), Below.heap_alloc _ _ _ (by simp; omega), Below.heap_alloc _ _ _ (by simp)]
    exact heap_alloc_new _ _⟩
  have A4 : Hid (w4.heap[R + 1]? = some (.cells #[.int .i64 0] 3 (0, 0))) := by
    show _ = _
    rw [← e4.out, ← hR.out, Below.heap_alloc _ _ _ (by simp), Below.heap_alloc _ _ _ (by simp)]
    have := heap_alloc_new (w.alloc (.cells #[.int .i64 0, .int .i64 0, .slice none 0 0] 24)) (.cells #[.int .i64 0] 3)
    simpa using this
  have V4 : Hid (w4.heap[R + 2]? = some (.cells #[.nilIface] 31 (0, 0))) := by
    show _ = _
    rw [← e4.out, ← hR.out, Below.heap_alloc _ _ _ (by simp)]
    have := heap_alloc_new ((w.alloc (.cells #[.int .i64 0, .int .i64 0, .slice none 0 0] 24)).alloc (.cells #[.int .i64 0] 3)) (.cells #[.nilIface] 31)
    simpa using this
  have Z4 : Hid (Rz w4 (R + 3) l 0) := ⟨by
    rw [← e4.out, ← hR.out]
    have := heap_alloc_new (((w.alloc (.cells #[.int .i64 0, .int .i64 0, .slice none 0 0] 24)).alloc (.cells #[.int .i64 0] 3)).alloc (.cells #[.nilIface] 31)) (.cells #[.string (Bt l), .int .i64 0] 96)
    simpa using this⟩
  have E4 : Hid (Et w4 a) := (B4.out.cell (p := ⟨3, 0, none⟩) (by rw [← hR.out]; exact hw)).trans hE
  have hlI : Hid ((Bt l).size = l.length) := Bt_size l
  have hbt : (Bt l).size ≤ 65536 := by rw [hlI.out]; exact hl
  have hwR : 3 < R := by rw [← hR.out]; exact hw
  go_enter_defers Tryd.func43, Tryd.ntmps43
  go_wp2_with fail
  rw [e4.out, hR.out, show R + 1 + 1 + 1 = R + 3 from rfl, show R + 1 + 1 = R + 2 from rfl]
  refine (order_c l a hl (l.length + 1) 0 (R + 3) w4 Z4.out E4.out (by omega) (Nat.zero_le _) (by omega)).mono ?_
  rintro e w5 ⟨z5, g5, s5, n5⟩
  obtain ⟨o, q, hA⟩ : ∃ o q, Ps.pa l 0 = (o, q) := ⟨_, _, rfl⟩
  rw [hA] at z5 s5 n5
  have hrd : Hid (Ps.rd l = (o, q)) := hA
  clear hA
  have Z5 : Hid (Rz w5 (R + 3) l q) := z5
  have E5 : Hid (Et w5 a) := E4.out.kept g5 (by omega)
  have O5 : Hid (Bo w5 R 0 0 (.slice none 0 0)) := O4.out.gb g5 (by omega)
  have A5 : Hid (w5.heap[R + 1]? = some (.cells #[.int .i64 0] 3 (0, 0))) := (g5.block (R + 1) (by omega) (fun e => by have := Option.some.inj e; omega)).trans A4.out
  have V5 : Hid (w5.heap[R + 2]? = some (.cells #[.nilIface] 31 (0, 0))) := (g5.block (R + 2) (by omega) (fun e => by have := Option.some.inj e; omega)).trans V4.out
  have B5 : Hid (Below R w w5) := B4.out.grown g5 (by omega) (fun k hk => by cases hk; omega)
  clear z5 g5
  cases o with
  | none =>
    rw [n5 rfl]
    go_wp2_with fail
    refine leaves_cons (f := 65) (args := #[.pointer (some ⟨R + 3, 0, none⟩), .pointer (some ⟨R, 0, none⟩), .pointer (some ⟨R + 1, 0, none⟩), .pointer (some ⟨R + 2, 0, none⟩)]) (by simp) (by simp [go_sem]) ?_
    refine (catch_p R l q a 0 0 _ .nilIface 0 w5 Z5.out E5.out O5.out A5.out V5.out).mono ?_
    rintro e u' w6 ⟨rfl, rfl, hw6⟩
    obtain ⟨w7, e7, ⟨r0, r1, r2⟩, r3, r4, B7, K7⟩ := fin_read (k := 0) (n := 0) (x := (q : Int)) (s := .slice none 0 0) (y := ev a) hR.out B5.out O5.out A5.out V5.out
    obtain rfl : w6 = w7 := hw6.trans e7.out
    have hfin : Hid (RD l a w (.returned (.tuple #[zor, .int .i64 (q : Int), ev a])) w6) := ⟨by rw [hR.out]; exact B7.out, fun t' h => (by rw [hrd.out] at h; cases h), fun _ => by rw [hrd.out]⟩
    clear e7 hw6
    unfold ev at r4
    show Leaves _ _ _ _ [] (settle (.panicking [{ v := ev a, recovered := true }])) _
    simp [Leaves, settle, results, Tryd.results43, go_sem, r0, r1, r2, r3, r4]
    exact hfin.out
  | some t =>
    obtain ⟨v, hev, o5⟩ := s5 t rfl
    obtain ⟨va, vc, rfl⟩ := o5.shape
    rw [hev]
    have O5s : Hid (Os (fun b => R + 4 ≤ b) w5 t (.agg #[.int .i64 t.k, .int .i64 t.n, .slice va t.ks.length vc])) := Os.keep (fun b hb => by have h1 : w4.heap.size ≤ b := hb; show R + 4 ≤ b; omega) (fun _ _ _ => rfl) _ _ o5
    clear s5 n5 hev o5
    generalize t.ks.length = vl at *
    obtain ⟨tk, htk⟩ : ∃ tk, Hid (t.k = tk) := ⟨_, (rfl : _ = _)⟩
    obtain ⟨tn, htn⟩ : ∃ tn, Hid (t.n = tn) := ⟨_, (rfl : _ = _)⟩
    rw [htk.out, htn.out] at O5s ⊢
    have Z6 : Rz (st3 w5 R tk tn (.slice va vl vc)) (R + 3) l q := ⟨by rw [st3_blk _ _ _ _ _ (by omega)]; exact Z5.out.b⟩
    have O6 : Hid (Bo (st3 w5 R tk tn (.slice va vl vc)) R tk tn (.slice va vl vc)) := st3_bo O5.out _ _ _
    have A6 : Hid ((st3 w5 R tk tn (.slice va vl vc)).heap[R + 1]? = some (.cells #[.int .i64 0] 3 (0, 0))) := by show _ = _; rw [st3_blk _ _ _ _ _ (by omega)]; exact A5.out
    have V6 : Hid ((st3 w5 R tk tn (.slice va vl vc)).heap[R + 2]? = some (.cells #[.nilIface] 31 (0, 0))) := by show _ = _; rw [st3_blk _ _ _ _ _ (by omega)]; exact V5.out
    have B6 : Hid (Below R w (st3 w5 R tk tn (.slice va vl vc))) := B5.out.grown (st3_own _ _ _ _ _) (by have := B5.out.size; rw [hR.out] at this; exact this) (fun k hk => by cases hk; exact Nat.le_refl _)
    have E6 : Hid (Et (st3 w5 R tk tn (.slice va vl vc)) a) := E5.out.kept (st3_own _ _ _ _ _) hwR
    have K6 : Hid (∀ j, j ≠ R → (st3 w5 R tk tn (.slice va vl vc)).heap[j]? = w5.heap[j]?) := fun j h => st3_blk _ _ _ _ _ h
    obtain ⟨w6, e6⟩ : ∃ w6, Hid (st3 w5 R tk tn (.slice va vl vc) = w6) := ⟨_, (rfl : _ = _)⟩
    rw [e6.out] at Z6 O6 A6 V6 B6 E6 K6
    have e6' : Hid ((((w5.setCell ⟨R, 0, none⟩ (.int .i64 tk)).setCell ⟨R, 1, none⟩ (.int .i64 tn)).setCell ⟨R, 2, none⟩ (.slice va vl vc)) = w6) := e6.out
    have Z6H : Hid (Rz w6 (R + 3) l q) := Z6
    have o0 := O5.out.c0
    have o1 := O5.out.c1
    have o2 := O5.out.c2
    have of := O5.out.fz
    clear e6 Z6
    go_upto_region 4 with fail
    rw [e6'.out]
    clear e6' o0 o1 o2 of
    have z1 := Z6H.out.c1
    by_cases hq : (q : Int) < ((Bt l).size : Int)
    · go_wp2_with fail
      refine (giveUp_c (R + 3) a w6 E6.out).mono ?_
      rintro e w8 ⟨rfl, hw8⟩
      subst hw8
      go_wp2_with fail
      refine leaves_cons (f := 65) (args := #[.pointer (some ⟨R + 3, 0, none⟩), .pointer (some ⟨R, 0, none⟩), .pointer (some ⟨R + 1, 0, none⟩), .pointer (some ⟨R + 2, 0, none⟩)]) (by simp) (by simp [go_sem]) ?_
      refine (catch_p R l q a tk tn _ .nilIface 0 w8 Z6H.out E6.out O6.out A6.out V6.out).mono ?_
      rintro e u' w9 ⟨rfl, rfl, hw9⟩
      obtain ⟨w7, e7, ⟨r0, r1, r2⟩, r3, r4, B7, K7⟩ := fin_read (k := 0) (n := 0) (x := (q : Int)) (s := .slice none 0 0) (y := ev a) hR.out B6.out O6.out A6.out V6.out
      obtain rfl : w9 = w7 := hw9.trans e7.out
      have hfin : Hid (RD l a w (.returned (.tuple #[zor, .int .i64 (q : Int), ev a])) w9) := ⟨by rw [hR.out]; exact B7.out, fun t' h => (by rw [hrd.out] at h; cases h; rw [hlI.out] at hq; omega), fun _ => by rw [hrd.out]⟩
      clear e7 hw9
      unfold ev at r4
      show Leaves _ _ _ _ [] (settle (.panicking [{ v := ev a, recovered := true }])) _
      simp [Leaves, settle, results, Tryd.results43, go_sem, r0, r1, r2, r3, r4]
      exact hfin.out
    · have hq' : decide ((q : Int) < ((Bt l).size : Int)) = false := decide_eq_false hq
      have o0 := O6.out.c0
      have o1 := O6.out.c1
      have o2 := O6.out.c2
      have of := O6.out.fz
      have a0 : w6.cell? ⟨R + 1, 0, none⟩ = some (.int .i64 0) := by rw [Joins.cell_of_block A6.out]; rfl
      have af := Joins.unfrozen_of_block A6.out 0
      have v0 : w6.cell? ⟨R + 2, 0, none⟩ = some .nilIface := by rw [Joins.cell_of_block V6.out]; rfl
      have vf := Joins.unfrozen_of_block V6.out 0
      obtain ⟨w7, e7, ⟨r0, r1, r2⟩, r3, r4, B7, K7⟩ := fin_read (k := tk) (n := tn) (x := 0) (s := .slice va vl vc) (y := .nilIface) hR.out B6.out O6.out A6.out V6.out
      have hfin : Hid (RD l a w (.returned (.tuple #[.agg #[.int .i64 tk, .int .i64 tn, .slice va vl vc], .int .i64 0, .nilIface])) w7) := by
        have hql : q ≤ l.length := by
          have := (pa_le l (Nat.zero_le l.length)).2
          have e1 : (Ps.pa l 0).2 = q := by have h1 := hrd.out; unfold Ps.rd at h1; show (Ps.kont l [] (Ps.pa l 0)).2 = q; rw [h1]
          omega
        refine ⟨by rw [hR.out]; exact B7.out, fun t' h => ?_, fun h => absurd (show Ps.rd l = (some t, l.length) from by rw [hrd.out]; congr 1; rw [hlI.out] at hq; omega) (h t)⟩
        rw [hrd.out] at h
        cases h
        refine ⟨_, rfl, Os.keep (fun b hb => ?_) (fun b hb hl' => ?_) _ _ O5s.out⟩
        · have h1 : R + 4 ≤ b := hb
          show w.heap.size ≤ b
          rw [hR.out]; omega
        · have h1 : R + 4 ≤ b := hb
          exact (K7.out b (by omega) (by omega) (by omega)).trans (K6.out b (by omega))
      have e7' : Hid (((((w6.setCell ⟨R, 0, none⟩ (.int .i64 tk)).setCell ⟨R, 1, none⟩ (.int .i64 tn)).setCell ⟨R, 2, none⟩ (.slice va vl vc)).setCell ⟨R + 1, 0, none⟩ (.int .i64 0)).setCell ⟨R + 2, 0, none⟩ .nilIface = w7) := e7.out
      clear e7
      have hr : Hid (w7.cell? ⟨R, 0, none⟩ = some (.int .i64 tk) ∧ w7.cell? ⟨R, 1, none⟩ = some (.int .i64 tn) ∧ w7.cell? ⟨R, 2, none⟩ = some (.slice va vl vc) ∧ w7.cell? ⟨R + 1, 0, none⟩ = some (.int .i64 0) ∧ w7.cell? ⟨R + 2, 0, none⟩ = some .nilIface) := ⟨r0, r1, r2, r3, r4⟩
      clear r0 r1 r2 r3 r4
      go_wp2_with fail
      rw [e7'.out]
      refine leaves_cons (f := 65) (args := #[.pointer (some ⟨R + 3, 0, none⟩), .pointer (some ⟨R, 0, none⟩), .pointer (some ⟨R + 1, 0, none⟩), .pointer (some ⟨R + 2, 0, none⟩)]) (by simp) (by simp [go_sem]) ?_
      refine (catch_i _ _ _ _ w7).mono ?_
      rintro e u' w8 ⟨rfl, rfl, hw8⟩
      subst hw8
      obtain ⟨r0, r1, r2, r3, r4⟩ := hr.out
      show Leaves _ _ _ _ [] (settle .returning) _
      simp [Leaves, settle, results, Tryd.results43, go_sem, r0, r1, r2, r3, r4]
      exact hfin.out
end Go.Proofs.YtoaccmblaifnmaaDoor
/-
  The program's Parse.
-/
namespace Go.Proofs.YtoaccmblaifnmaaDoor
open Flo Go.RowKit Tr
namespace Ps
/-- what Parse tells: the order, the place, the error's number -/
def prs (l : List UInt8) : Option Tr × Nat × Nat :=
  if 65536 < l.length then (none, 0, 3) else
  match rd l with
  | (some t, q) => if q = l.length then (if len t = 0 then (none, 0, 8) else (some t, 0, 0)) else (none, q, 6)
  | (none, q) => (none, q, 6)
theorem prs_long {l : List UInt8} (h : 65536 < l.length) : prs l = (none, 0, 3) := by unfold prs; rw [if_pos h]
theorem prs_text {l : List UInt8} (h : ¬ 65536 < l.length) (hn : ∀ t, rd l ≠ (some t, l.length)) : prs l = (none, (rd l).2, 6) := by
  unfold prs
  rw [if_neg h]
  generalize rd l = R at *
  obtain ⟨o, q⟩ := R
  cases o with
  | none => rfl
  | some t =>
    simp only
    rw [if_neg (fun e => hn t (by rw [e]))]
theorem prs_good {l : List UInt8} (h : ¬ 65536 < l.length) {t : Tr} (hr : rd l = (some t, l.length)) : prs l = if len t = 0 then (none, 0, 8) else (some t, 0, 0) := by
  unfold prs
  rw [if_neg h, hr]
  show (if l.length = l.length then _ else _) = _
  rw [if_pos rfl]
end Ps
/-- what Parse answers -/
def PE (l : List UInt8) (aL aT aO : Addr) (w : World) (e : Ending) (w' : World) : Prop :=
  Below w.heap.size w w' ∧ ∃ v, e = .returned (.tuple #[v, .int .i64 ((Ps.prs l).2.1 : Int), er aL aT aO (Ps.prs l).2.2]) ∧ (∀ t, (Ps.prs l).1 = some t → Os (nw w) w' t v) ∧ ((Ps.prs l).1 = none → v = zor)
theorem nw_mono {w w' : World} (h : w.heap.size ≤ w'.heap.size) : ∀ b, nw w' b → nw w b := fun _ hb => Nat.le_trans h hb
set_option maxRecDepth 100000 in
set_option maxHeartbeats 1000000 in
theorem parse_c (l : List UInt8) (aL aT aO : Addr) (w : World) (hE : Eo w aL aT aO) : Calls Tryd.prog 19 #[.string (Bt l)] w (PE l aL aT aO w) := by
  have hlI : Hid ((Bt l).size = l.length) := Bt_size l
  have hEH : Hid (Eo w aL aT aO) := hE
  obtain ⟨w1, e1⟩ : ∃ w1, Hid (w.alloc (.cells #[.int .i64 0, .int .i64 0, .slice none 0 0] 24) = w1) := ⟨_, (rfl : _ = _)⟩
  have B1 : Hid (Below w.heap.size w w1) := by show Below _ _ _; rw [← e1.out]; exact (Below.refl _ _).alloc (Nat.le_refl _) _
  have X1 : Hid (Bo w1 w.heap.size 0 0 (.slice none 0 0)) := by show Bo _ _ _ _ _; rw [← e1.out]; exact Bo.new _ _ _ _
  have s1 : w1.heap.size = w.heap.size + 1 := by rw [← e1.out]; simp
  obtain ⟨R, hR⟩ : ∃ R, Hid (w.heap.size = R) := ⟨_, (rfl : _ = _)⟩
  clear hE
  have hst : Hid (∀ (W : World) (k n : Int) (s : Value), Below R w W → Below R w (st3 W R k n s)) := fun W k n s h => h.grown (st3_own _ _ _ _ _) (by have := h.size; rw [hR.out] at this; exact this) (fun k hk => by cases hk; exact Nat.le_refl _)
  by_cases h64 : (65536 : Int) < ((Bt l).size : Int)
  · have hp : Hid (Ps.prs l = (none, 0, 3)) := Ps.prs_long (by rw [hlI.out] at h64; omega)
    have h64' : ((Bt l).size : Int) > 65536 := h64
    have c1 : w1.cell? ⟨1, 0, none⟩ = some (ev aL) := (hEH.out.below B1.out).cL
    unfold ev at c1
    have hne : 1 < R := by rw [← hR.out]; exact cell_lt hEH.out.cL
    have hfin : Hid (∀ D, PE l aL aT aO w (.returned (.tuple #[zor, .int .i64 0, ev aL])) (st3 (w1.drewN D) R 0 0 (.slice none 0 0))) := by
      intro D
      refine ⟨by rw [hR.out]; exact hst.out _ _ _ _ (by rw [← hR.out]; exact below_drewN B1.out D), zor, by rw [hp.out]; rfl, (fun t h => by rw [hp.out] at h; cases h), fun _ => rfl⟩
    rw [hR.out] at X1
    have x0 := X1.out.c0
    have x1 := X1.out.c1
    have x2 := X1.out.c2
    have xf := X1.out.fz
    go_enter Tryd.func19, Tryd.ntmps19
    go_upto_region 1 with fail
    rw [e1.out, hR.out]
    go_wp2_with fail
    go_region
    all_goals
      go_wp2_with fail
    all_goals
      refine bodyPost_ret (v := .tuple #[zor, .int .i64 0, ev aL]) (by simp [results, Tryd.results19, go_sem, x0, x1, x2, zor, ev]) rfl ?_
      exact hfin.out 1
  · have h64' : decide (((Bt l).size : Int) > 65536) = false := decide_eq_false h64
    have hll : ¬ 65536 < l.length := by rw [hlI.out] at h64; omega
    have hE1 : Hid (Eo w1 aL aT aO) := hEH.out.below B1.out
    go_enter Tryd.func19, Tryd.ntmps19
    go_upto_region 1 with fail
    rw [e1.out, hR.out]
    go_wp2_with fail
    refine (read_c l aT w1 (by omega) hE1.out.et hE1.out.lt).mono ?_
    rintro e w2 ⟨B2, s2, n2⟩
    have B12 : Hid (Below R w w2) := by show Below _ _ _; rw [← hR.out]; exact btr B1.out B2
    have X2 : Hid (Bo w2 R 0 0 (.slice none 0 0)) := by rw [← hR.out]; exact X1.out.bel B2
    have hs2 : R + 1 ≤ w2.heap.size := by have := B2.size; rw [s1, hR.out] at this; exact this
    have hE2 : Hid (Eo w2 aL aT aO) := hE1.out.below B2
    have b3 : Hid (∀ o, Below w2.heap.size w2 (w2.alloc o)) := fun o => (Below.refl _ _).alloc (Nat.le_refl _) _
    by_cases hg : ∃ t, Ps.rd l = (some t, l.length)
    · obtain ⟨t, hrd⟩ := hg
      have hp := Ps.prs_good hll hrd
      obtain ⟨v, ev', o2⟩ := s2 t hrd
      obtain ⟨va, vc, rfl⟩ := o2.shape
      rw [ev']
      generalize t.ks.length = vl at *
      obtain ⟨tk, htk⟩ : ∃ tk, Hid (t.k = tk) := ⟨_, (rfl : _ = _)⟩
      obtain ⟨tn, htn⟩ : ∃ tn, Hid (t.n = tn) := ⟨_, (rfl : _ = _)⟩
      rw [htk.out, htn.out] at o2 ⊢
      obtain ⟨w3, e3⟩ : ∃ w3, Hid (w2.alloc (.cells #[.int .i64 tk, .int .i64 tn, .slice va vl vc] 24) = w3) := ⟨_, (rfl : _ = _)⟩
      have B3 : Below w2.heap.size w2 w3 := by rw [← e3.out]; exact b3.out _
      have F3 : Hid (Bo w3 w2.heap.size tk tn (.slice va vl vc)) := by show Bo _ _ _ _ _; rw [← e3.out]; exact Bo.new _ _ _ _
      have X3 : Hid (Bo w3 R 0 0 (.slice none 0 0)) := X2.out.bel B3
      have O3 : Hid (Os (nw w1) w3 t (.agg #[.int .i64 tk, .int .i64 tn, .slice va vl vc])) := o2.bel B3
      have hE3 : Hid (Eo w3 aL aT aO) := hE2.out.below B3
      have B13 : Hid (Below R w w3) := B12.out.trans (B3.mono (by omega))
      have hpH : Hid (Ps.prs l = if len t = 0 then (none, 0, 8) else (some t, 0, 0)) := hp
      clear s2 n2 hp o2 ev' B3 hrd
      go_upto_region 4 with fail
      rw [e3.out]
      obtain ⟨gf, hgf⟩ : ∃ gf, Hid (w2.heap.size = gf) := ⟨_, (rfl : _ = _)⟩
      rw [hgf.out] at F3 hs2 ⊢
      have f0 := F3.out.c0
      have f1 := F3.out.c1
      have f2 := F3.out.c2
      go_wp2_with fail
      refine (check_c t _ w3 aO (Os.od _ _ O3.out) hE3.out.cO).mono ?_
      rintro e w4 ⟨rfl, B4⟩
      have X4 : Hid (Bo w4 R 0 0 (.slice none 0 0)) := X3.out.bel B4
      have F4 : Hid (Bo w4 gf tk tn (.slice va vl vc)) := F3.out.bel B4
      have O4 : Hid (Os (nw w1) w4 t (.agg #[.int .i64 tk, .int .i64 tn, .slice va vl vc])) := O3.out.bel B4
      have B14 : Hid (Below R w w4) := B13.out.trans (B4.mono (by have := X3.out.lt; omega))
      clear f0 f1 f2 B4
      have x0 := X4.out.c0
      have x1 := X4.out.c1
      have x2 := X4.out.c2
      have xf := X4.out.fz
      have f0 := F4.out.c0
      have f1 := F4.out.c1
      have f2 := F4.out.c2
      by_cases h0 : len t = 0
      · have hp := hpH.out
        rw [if_pos h0] at hp
        have hfin : Hid (PE l aL aT aO w (.returned (.tuple #[zor, .int .i64 0, ev aO])) (st3 w4 R 0 0 (.slice none 0 0))) :=
          ⟨by rw [hR.out]; exact hst.out _ _ _ _ B14.out, zor, by rw [hp]; rfl, (fun t h => by rw [hp] at h; cases h), fun _ => rfl⟩
        have ec : cke aO t = ev aO := by unfold cke; rw [if_pos h0]
        rw [ec]
        clear hp h0 ec
        unfold ev
        go_wp2_with fail
        refine bodyPost_ret (v := .tuple #[zor, .int .i64 0, ev aO]) (by simp [results, Tryd.results19, go_sem, x0, x1, x2, zor, ev]) rfl ?_
        exact hfin.out
      · have hp := hpH.out
        rw [if_neg h0] at hp
        have hfin : Hid (PE l aL aT aO w (.returned (.tuple #[.agg #[.int .i64 tk, .int .i64 tn, .slice va vl vc], .int .i64 0, .nilIface])) (st3 w4 R tk tn (.slice va vl vc))) := by
          refine ⟨by rw [hR.out]; exact hst.out _ _ _ _ B14.out, _, by rw [hp]; rfl, (fun t' h => ?_), (fun h => by rw [hp] at h; cases h)⟩
          rw [hp] at h
          cases h
          refine Os.keep (fun b hb => ?_) (fun b hb _ => ?_) _ _ O4.out
          · have h1 : w1.heap.size ≤ b := hb
            show w.heap.size ≤ b
            omega
          · have h1 : w1.heap.size ≤ b := hb
            exact st3_blk _ _ _ _ _ (by rw [← hR.out]; omega)
        have ec : cke aO t = .nilIface := by unfold cke; rw [if_neg h0]
        rw [ec]
        clear hp h0 ec
        go_wp2_with fail
        refine bodyPost_ret (v := .tuple #[.agg #[.int .i64 tk, .int .i64 tn, .slice va vl vc], .int .i64 0, .nilIface]) (by simp [results, Tryd.results19, go_sem, x0, x1, x2]) rfl ?_
        exact hfin.out
    · have hp : Hid (Ps.prs l = (none, (Ps.rd l).2, 6)) := Ps.prs_text hll (fun t h => hg ⟨t, h⟩)
      rw [n2 (fun t h => hg ⟨t, h⟩)]
      obtain ⟨q, hq⟩ : ∃ q, Hid ((Ps.rd l).2 = q) := ⟨_, (rfl : _ = _)⟩
      rw [hq.out] at hp
      rw [hq.out]
      clear s2 n2 hg
      obtain ⟨w3, e3⟩ : ∃ w3, Hid (w2.alloc (.cells #[.int .i64 0, .int .i64 0, .slice none 0 0] 24) = w3) := ⟨_, (rfl : _ = _)⟩
      have B3 : Below w2.heap.size w2 w3 := by rw [← e3.out]; exact b3.out _
      have X3 : Hid (Bo w3 R 0 0 (.slice none 0 0)) := X2.out.bel B3
      have B13 : Hid (Below R w w3) := B12.out.trans (B3.mono (by omega))
      have hfin : Hid (PE l aL aT aO w (.returned (.tuple #[zor, .int .i64 (q : Int), ev aT])) (st3 w3 R 0 0 (.slice none 0 0))) :=
        ⟨by rw [hR.out]; exact hst.out _ _ _ _ B13.out, zor, by rw [hp.out]; rfl, (fun t h => by rw [hp.out] at h; cases h), fun _ => rfl⟩
      have x0 := X3.out.c0
      have x1 := X3.out.c1
      have x2 := X3.out.c2
      have xf := X3.out.fz
      clear B3
      unfold zor ev
      go_upto_region 4 with fail
      rw [e3.out]
      go_wp2_with fail
      refine bodyPost_ret (v := .tuple #[zor, .int .i64 (q : Int), ev aT]) (by simp [results, Tryd.results19, go_sem, x0, x1, x2, zor, ev]) rfl ?_
      exact hfin.out
end Go.Proofs.YtoaccmblaifnmaaDoor
/-
  What the row of OrderParses lists: the tables, the nineteen sentinels; the number of an error that package order answers.
-/
namespace Go.Proofs.YtoaccmblaifnmaaDoor
open Go.RowKit Flo Tr
theorem eoall_of {W : World} {l : List (String × DataW Unit)} (h : laidMetH Tryd.prog l W)
    (hf : l.filter (fun x => x.1 == "internal/strconv.uint64pow10") = [("internal/strconv.uint64pow10", Lib.tabData .u64 Lib.pow10Tab)])
    (he : l.filter (fun x => !isTab x.1) = errNames.map fun x => (x.1, errD x.2)) : ∃ al, Errs W al ∧ Eo W (al.getD 2 ⟨0, 0, none⟩) (al.getD 5 ⟨0, 0, none⟩) (al.getD 7 ⟨0, 0, none⟩) := by
  have ht := tab_of h hf
  have h1 := h.filter (fun x => !isTab x.1)
  rw [he] at h1
  obtain ⟨al, hE⟩ := errs_of h1
  refine ⟨al, hE, ?_⟩
  have hnd := hE.nd
  have hrow := hE.row
  obtain ⟨a0, a1, a2, a3, a4, a5, a6, a7, a8, a9, a10, a11, a12, a13, a14, a15, a16, a17, a18, rfl⟩ := hE.len
  obtain ⟨_, _, c2, _, _, c5, _, c7, _⟩ := hE.sent
  refine ⟨c2, c5, c7, ?_, ?_, ?_, fun a ha => hrow a ?_, ht⟩
  · intro e; simp at e; subst e; simp at hnd
  · intro e; simp at e; subst e; simp at hnd
  · intro e; simp at e; subst e; simp at hnd
  · rcases ha with rfl | rfl | rfl <;> simp
theorem numEr_c (al : List Addr) (k : Nat) (hk : k = 0 ∨ k = 3 ∨ k = 6 ∨ k = 8) (w : World) (he : Errs w al) :
    Calls Tryd.prog 23 #[er (al.getD 2 ⟨0, 0, none⟩) (al.getD 5 ⟨0, 0, none⟩) (al.getD 7 ⟨0, 0, none⟩) k] w fun e w' => e = .returned (.int .i64 (k : Int)) ∧ Below w.heap.size w w' := by
  rcases hk with rfl | rfl | rfl | rfl
  · refine (num_nil w).mono ?_
    rintro e w' ⟨rfl, rfl⟩
    exact ⟨rfl, Below.refl _ _⟩
  · exact num_err al 2 (by decide) w he
  · exact num_err al 5 (by decide) w he
  · exact num_err al 7 (by decide) w he
namespace Ps
theorem prs_num (l : List UInt8) : (prs l).2.2 = 0 ∨ (prs l).2.2 = 3 ∨ (prs l).2.2 = 6 ∨ (prs l).2.2 = 8 := by
  by_cases h : 65536 < l.length
  · rw [prs_long h]; simp
  · by_cases hg : ∃ t, rd l = (some t, l.length)
    · obtain ⟨t, hr⟩ := hg
      rw [prs_good h hr]
      by_cases h0 : len t = 0
      · rw [if_pos h0]; simp
      · rw [if_neg h0]; simp
    · rw [prs_text h (fun t ht => hg ⟨t, ht⟩)]; simp
end Ps
end Go.Proofs.YtoaccmblaifnmaaDoor
