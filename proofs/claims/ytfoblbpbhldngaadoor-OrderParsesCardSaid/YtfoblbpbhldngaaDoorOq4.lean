/-
  The program's read and Parse: a panic caught.
-/
import Derived.Test.YtfoblbpbhldngaaDoorOq3
import Derived.Recover
import Derived.Defers
namespace Go.Proofs.YtfoblbpbhldngaaDoor
open Flo Go.RowKit Tr
set_option maxRecDepth 100000 in
theorem catch_p (r : Nat) (l : List UInt8) (q : Nat) (a : Addr) (k n : Int) (s av : Value) (x : Int) (w : World) (hz : Rz w (r + 3) l q) (hE : Et w a) (hO : Bo w r k n s) (hA : w.heap[r + 1]? = some (.cells #[.int .i64 x] 3 (0, 0))) (hV : w.heap[r + 2]? = some (.cells #[av] 27 (0, 0))) :
    CallsD Tryd.prog 32 #[.pointer (some ⟨r + 3, 0, none⟩), .pointer (some ⟨r, 0, none⟩), .pointer (some ⟨r + 1, 0, none⟩), .pointer (some ⟨r + 2, 0, none⟩)] (.panicking (pan a)) w fun e u' w' =>
      e = .returned (.tuple #[]) ∧ u' = .panicking [{ v := ev a, recovered := true }] ∧ w' = ((st3 w r 0 0 (.slice none 0 0)).setCell ⟨r + 1, 0, none⟩ (.int .i64 (q : Int))).setCell ⟨r + 2, 0, none⟩ (ev a) := by
  have c1 := hz.c1
  have e1 : w.cell? ⟨2, 0, none⟩ = some (ev a) := hE
  unfold ev at e1
  have o0 := hO.c0
  have o1 := hO.c1
  have o2 := hO.c2
  have of := hO.fz
  have a0 : w.cell? ⟨r + 1, 0, none⟩ = some (.int .i64 x) := by rw [Joins.cell_of_block hA]; rfl
  have af := Joins.unfrozen_of_block hA 0
  have v0 : w.cell? ⟨r + 2, 0, none⟩ = some av := by rw [Joins.cell_of_block hV]; rfl
  have vf := Joins.unfrozen_of_block hV 0
  clear hO hA hV hE hz
  refine callsD_of_wpS Tryd.func32 rfl fun c₀ cs hu => ?_
  apply wpS_seq
  apply wpS_region
  simp [wpOpsS, go_sem, recoverD, hu, pan, ev, Tryd.ntmps32, Exit.thenS]
  refine wpS_of_wp ?_
  go_wp2_with fail
  simp [bodyPostS, results, Tryd.results32, st3]
theorem catch_i (p1 p2 p3 p4 : Addr) (w : World) :
    CallsD Tryd.prog 32 #[.pointer (some p1), .pointer (some p2), .pointer (some p3), .pointer (some p4)] .returning w fun e u' w' => e = .returned (.tuple #[]) ∧ u' = .returning ∧ w' = w := by
  refine callsD_of_wpS Tryd.func32 rfl fun c₀ cs hu => ?_
  apply wpS_seq
  apply wpS_region
  simp [wpOpsS, go_sem, recoverD, hu, Tryd.ntmps32, Exit.thenS]
  refine wpS_of_wp ?_
  go_wp2_with fail
  cases c₀
  simp_all [bodyPostS, results, Tryd.results32]
def zor : Value := .agg #[.int .i64 0, .int .i64 0, .slice none 0 0]
/-- what read answers -/
def RD (l : List UInt8) (a : Addr) (w : World) (e : Ending) (w' : World) : Prop :=
  Below w.heap.size w w' ∧ (∀ t, Ps.rd l = (some t, l.length) → ∃ v, e = .returned (.tuple #[v, .int .i64 0, .nilIface]) ∧ Os (nw w) w' t v) ∧ ((∀ t, Ps.rd l ≠ (some t, l.length)) → e = .returned (.tuple #[zor, .int .i64 ((Ps.rd l).2 : Int), ev a]))
/-- the three results, written -/
theorem fin_read {w w5 : World} {R : Nat} {k0 n0 k n x x0 : Int} {s0 s y y0 : Value} (hR : w.heap.size = R) (hB : Below R w w5) (hO : Bo w5 R k0 n0 s0) (hA : w5.heap[R + 1]? = some (.cells #[.int .i64 x0] 3 (0, 0))) (hV : w5.heap[R + 2]? = some (.cells #[y0] 27 (0, 0))) :
    ∃ w6, Hid (((st3 w5 R k n s).setCell ⟨R + 1, 0, none⟩ (.int .i64 x)).setCell ⟨R + 2, 0, none⟩ y = w6) ∧ (w6.cell? ⟨R, 0, none⟩ = some (.int .i64 k) ∧ w6.cell? ⟨R, 1, none⟩ = some (.int .i64 n) ∧ w6.cell? ⟨R, 2, none⟩ = some s) ∧ w6.cell? ⟨R + 1, 0, none⟩ = some (.int .i64 x) ∧ w6.cell? ⟨R + 2, 0, none⟩ = some y ∧ Hid (Below R w w6) ∧ Hid (∀ j, j ≠ R → j ≠ R + 1 → j ≠ R + 2 → w6.heap[j]? = w5.heap[j]?) := by
  have h1 := st3_bo hO k n s
  have h2 : (st3 w5 R k n s).heap[R + 1]? = some (.cells #[.int .i64 x0] 3 (0, 0)) := by rw [st3_blk _ _ _ _ _ (by omega)]; exact hA
  have h3 : ((st3 w5 R k n s).setCell ⟨R + 1, 0, none⟩ (.int .i64 x)).heap[R + 2]? = some (.cells #[y0] 27 (0, 0)) := by rw [sc_blk _ _ _ (by omega), st3_blk _ _ _ _ _ (by omega)]; exact hV
  have h4 : ((st3 w5 R k n s).setCell ⟨R + 1, 0, none⟩ (.int .i64 x)).heap[R + 1]? = some (.cells #[.int .i64 x] 3 (0, 0)) := by rw [Joins.block_setCell h2]; rfl
  have h5 : (((st3 w5 R k n s).setCell ⟨R + 1, 0, none⟩ (.int .i64 x)).setCell ⟨R + 2, 0, none⟩ y).heap[R + 2]? = some (.cells #[y] 27 (0, 0)) := by rw [Joins.block_setCell h3]; rfl
  have h6 : (((st3 w5 R k n s).setCell ⟨R + 1, 0, none⟩ (.int .i64 x)).setCell ⟨R + 2, 0, none⟩ y).heap[R + 1]? = some (.cells #[.int .i64 x] 3 (0, 0)) := by rw [sc_blk _ _ _ (by omega)]; exact h4
  have h7 : Bo (((st3 w5 R k n s).setCell ⟨R + 1, 0, none⟩ (.int .i64 x)).setCell ⟨R + 2, 0, none⟩ y) R k n s := ⟨by rw [sc_blk _ _ _ (by omega), sc_blk _ _ _ (by omega)]; exact h1.b⟩
  refine ⟨_, (rfl : _ = _), ⟨h7.c0, h7.c1, h7.c2⟩, by rw [Joins.cell_of_block h6]; rfl, by rw [Joins.cell_of_block h5]; rfl, ?_, fun j j0 j1 j2 => by rw [sc_blk _ _ _ j2, sc_blk _ _ _ j1, st3_blk _ _ _ _ _ j0]⟩
  show Below _ _ _
  have hs : ∀ (W : World) (b i : Nat) (v : Value), R ≤ b → Below R w W → Below R w (W.setCell ⟨b, i, none⟩ v) := fun W b i v hb h => h.grown (Lib.Hx.grownBy_set (Lib.Hx.grownBy_refl W (some b)) ⟨b, i, none⟩ rfl v) (by rw [← hR]; exact h.size) (fun k hk => by cases hk; exact hb)
  exact hs _ _ _ _ (by omega) (hs _ _ _ _ (by omega) (hs _ _ _ _ (Nat.le_refl _) (hs _ _ _ _ (Nat.le_refl _) (hs _ _ _ _ (Nat.le_refl _) hB))))
set_option maxRecDepth 100000 in
set_option maxHeartbeats 1000000 in
theorem read_c (l : List UInt8) (a : Addr) (w : World) (hl : l.length ≤ 65536) (hE : Et w a) (hw : 2 < w.heap.size) : Calls Tryd.prog 22 #[.string (Bt l)] w (RD l a w) := by
  have hmf : ∀ (fn : Fn) (first cap : Array Value) (w : World), (Instr.makeFunc fn first cap).run Tryd.prog w = .ok (.func fn first cap) w := fun _ _ _ _ => rfl
  obtain ⟨w4, e4⟩ : ∃ w4, Hid ((((w.alloc (.cells #[.int .i64 0, .int .i64 0, .slice none 0 0] 25)).alloc (.cells #[.int .i64 0] 3)).alloc (.cells #[.nilIface] 27)).alloc (.cells #[.string (Bt l), .int .i64 0] 67) = w4) := ⟨_, (rfl : _ = _)⟩
  obtain ⟨R, hR⟩ : ∃ R, Hid (w.heap.size = R) := ⟨_, (rfl : _ = _)⟩
  have B4 : Hid (Below R w w4) := by
    show Below _ _ _
    rw [← e4.out, ← hR.out]
    exact ((((Below.refl _ _).alloc (Nat.le_refl _) _).alloc (by simp) _).alloc (by simp; omega) _).alloc (by simp; omega) _
  have s4 : w4.heap.size = R + 4 := by rw [← e4.out]; simp [hR.out]
  have O4 : Hid (Bo w4 R 0 0 (.slice none 0 0)) := ⟨by
    rw [← e4.out, ← hR.out, Below.heap_alloc _ _ _ (by simp; omega), Below.heap_alloc _ _ _ (by simp; omega), Below.heap_alloc _ _ _ (by simp)]
    exact heap_alloc_new _ _⟩
  have A4 : Hid (w4.heap[R + 1]? = some (.cells #[.int .i64 0] 3 (0, 0))) := by
    show _ = _
    rw [← e4.out, ← hR.out, Below.heap_alloc _ _ _ (by simp), Below.heap_alloc _ _ _ (by simp)]
    have := heap_alloc_new (w.alloc (.cells #[.int .i64 0, .int .i64 0, .slice none 0 0] 25)) (.cells #[.int .i64 0] 3)
    simpa using this
  have V4 : Hid (w4.heap[R + 2]? = some (.cells #[.nilIface] 27 (0, 0))) := by
    show _ = _
    rw [← e4.out, ← hR.out, Below.heap_alloc _ _ _ (by simp)]
    have := heap_alloc_new ((w.alloc (.cells #[.int .i64 0, .int .i64 0, .slice none 0 0] 25)).alloc (.cells #[.int .i64 0] 3)) (.cells #[.nilIface] 27)
    simpa using this
  have Z4 : Hid (Rz w4 (R + 3) l 0) := ⟨by
    rw [← e4.out, ← hR.out]
    have := heap_alloc_new (((w.alloc (.cells #[.int .i64 0, .int .i64 0, .slice none 0 0] 25)).alloc (.cells #[.int .i64 0] 3)).alloc (.cells #[.nilIface] 27)) (.cells #[.string (Bt l), .int .i64 0] 67)
    simpa using this⟩
  have E4 : Hid (Et w4 a) := (B4.out.cell (p := ⟨2, 0, none⟩) (by rw [← hR.out]; exact hw)).trans hE
  have hlI : Hid ((Bt l).size = l.length) := Bt_size l
  have hbt : (Bt l).size ≤ 65536 := by rw [hlI.out]; exact hl
  have hwR : 2 < R := by rw [← hR.out]; exact hw
  go_enter_defers Tryd.func22, Tryd.ntmps22
  go_wp2_with fail
  rw [e4.out, hR.out, show R + 1 + 1 + 1 = R + 3 from rfl, show R + 1 + 1 = R + 2 from rfl]
  refine (order_c l a hl (l.length + 1) 0 (R + 3) w4 Z4.out E4.out (by omega) (Nat.zero_le _) (by omega)).mono ?_
  rintro e w5 ⟨z5, g5, s5, n5⟩
  obtain ⟨o, q, hA⟩ : ∃ o q, Ps.pa l 0 = (o, q) := ⟨_, _, rfl⟩
  rw [hA] at z5 s5 n5
  have hrd : Hid (Ps.rd l = (o, q)) := hA
  clear hA
  have Z5 : Hid (Rz w5 (R + 3) l q) := z5
  have E5 : Hid (Et w5 a) := E4.out.kept g5 (by omega)
  have O5 : Hid (Bo w5 R 0 0 (.slice none 0 0)) := O4.out.gb g5 (by omega)
  have A5 : Hid (w5.heap[R + 1]? = some (.cells #[.int .i64 0] 3 (0, 0))) := (g5.block (R + 1) (by omega) (fun e => by have := Option.some.inj e; omega)).trans A4.out
  have V5 : Hid (w5.heap[R + 2]? = some (.cells #[.nilIface] 27 (0, 0))) := (g5.block (R + 2) (by omega) (fun e => by have := Option.some.inj e; omega)).trans V4.out
  have B5 : Hid (Below R w w5) := B4.out.grown g5 (by omega) (fun k hk => by cases hk; omega)
  clear z5 g5
  cases o with
  | none =>
    rw [n5 rfl]
    go_wp2_with fail
    refine leaves_cons (f := 32) (args := #[.pointer (some ⟨R + 3, 0, none⟩), .pointer (some ⟨R, 0, none⟩), .pointer (some ⟨R + 1, 0, none⟩), .pointer (some ⟨R + 2, 0, none⟩)]) (by simp) (by simp [go_sem]) ?_
    refine (catch_p R l q a 0 0 _ .nilIface 0 w5 Z5.out E5.out O5.out A5.out V5.out).mono ?_
    rintro e u' w6 ⟨rfl, rfl, hw6⟩
    obtain ⟨w7, e7, ⟨r0, r1, r2⟩, r3, r4, B7, K7⟩ := fin_read (k := 0) (n := 0) (x := (q : Int)) (s := .slice none 0 0) (y := ev a) hR.out B5.out O5.out A5.out V5.out
    obtain rfl : w6 = w7 := hw6.trans e7.out
    have hfin : Hid (RD l a w (.returned (.tuple #[zor, .int .i64 (q : Int), ev a])) w6) := ⟨by rw [hR.out]; exact B7.out, fun t' h => (by rw [hrd.out] at h; cases h), fun _ => by rw [hrd.out]⟩
    clear e7 hw6
    unfold ev at r4
    show Leaves _ _ _ _ [] (settle (.panicking [{ v := ev a, recovered := true }])) _
    simp [Leaves, settle, results, Tryd.results22, go_sem, r0, r1, r2, r3, r4]
    exact hfin.out
  | some t =>
    obtain ⟨v, hev, o5⟩ := s5 t rfl
    obtain ⟨va, vc, rfl⟩ := o5.shape
    rw [hev]
    have O5s : Hid (Os (fun b => R + 4 ≤ b) w5 t (.agg #[.int .i64 t.k, .int .i64 t.n, .slice va t.ks.length vc])) := Os.keep (fun b hb => by have h1 : w4.heap.size ≤ b := hb; show R + 4 ≤ b; omega) (fun _ _ _ => rfl) _ _ o5
    clear s5 n5 hev o5
    generalize t.ks.length = vl at *
    obtain ⟨tk, htk⟩ : ∃ tk, Hid (t.k = tk) := ⟨_, (rfl : _ = _)⟩
    obtain ⟨tn, htn⟩ : ∃ tn, Hid (t.n = tn) := ⟨_, (rfl : _ = _)⟩
    rw [htk.out, htn.out] at O5s ⊢
    have Z6 : Rz (st3 w5 R tk tn (.slice va vl vc)) (R + 3) l q := ⟨by rw [st3_blk _ _ _ _ _ (by omega)]; exact Z5.out.b⟩
    have O6 : Hid (Bo (st3 w5 R tk tn (.slice va vl vc)) R tk tn (.slice va vl vc)) := st3_bo O5.out _ _ _
    have A6 : Hid ((st3 w5 R tk tn (.slice va vl vc)).heap[R + 1]? = some (.cells #[.int .i64 0] 3 (0, 0))) := by show _ = _; rw [st3_blk _ _ _ _ _ (by omega)]; exact A5.out
    have V6 : Hid ((st3 w5 R tk tn (.slice va vl vc)).heap[R + 2]? = some (.cells #[.nilIface] 27 (0, 0))) := by show _ = _; rw [st3_blk _ _ _ _ _ (by omega)]; exact V5.out
    have B6 : Hid (Below R w (st3 w5 R tk tn (.slice va vl vc))) := B5.out.grown (st3_own _ _ _ _ _) (by have := B5.out.size; rw [hR.out] at this; exact this) (fun k hk => by cases hk; exact Nat.le_refl _)
    have E6 : Hid (Et (st3 w5 R tk tn (.slice va vl vc)) a) := E5.out.kept (st3_own _ _ _ _ _) hwR
    have K6 : Hid (∀ j, j ≠ R → (st3 w5 R tk tn (.slice va vl vc)).heap[j]? = w5.heap[j]?) := fun j h => st3_blk _ _ _ _ _ h
    obtain ⟨w6, e6⟩ : ∃ w6, Hid (st3 w5 R tk tn (.slice va vl vc) = w6) := ⟨_, (rfl : _ = _)⟩
    rw [e6.out] at Z6 O6 A6 V6 B6 E6 K6
    have e6' : Hid ((((w5.setCell ⟨R, 0, none⟩ (.int .i64 tk)).setCell ⟨R, 1, none⟩ (.int .i64 tn)).setCell ⟨R, 2, none⟩ (.slice va vl vc)) = w6) := e6.out
    have Z6H : Hid (Rz w6 (R + 3) l q) := Z6
    have o0 := O5.out.c0
    have o1 := O5.out.c1
    have o2 := O5.out.c2
    have of := O5.out.fz
    clear e6 Z6
    go_upto_region 4 with fail
    rw [e6'.out]
    clear e6' o0 o1 o2 of
    have z1 := Z6H.out.c1
    by_cases hq : (q : Int) < ((Bt l).size : Int)
    · go_wp2_with fail
      refine (giveUp_c (R + 3) a w6 E6.out).mono ?_
      rintro e w8 ⟨rfl, hw8⟩
      subst hw8
      go_wp2_with fail
      refine leaves_cons (f := 32) (args := #[.pointer (some ⟨R + 3, 0, none⟩), .pointer (some ⟨R, 0, none⟩), .pointer (some ⟨R + 1, 0, none⟩), .pointer (some ⟨R + 2, 0, none⟩)]) (by simp) (by simp [go_sem]) ?_
      refine (catch_p R l q a tk tn _ .nilIface 0 w8 Z6H.out E6.out O6.out A6.out V6.out).mono ?_
      rintro e u' w9 ⟨rfl, rfl, hw9⟩
      obtain ⟨w7, e7, ⟨r0, r1, r2⟩, r3, r4, B7, K7⟩ := fin_read (k := 0) (n := 0) (x := (q : Int)) (s := .slice none 0 0) (y := ev a) hR.out B6.out O6.out A6.out V6.out
      obtain rfl : w9 = w7 := hw9.trans e7.out
      have hfin : Hid (RD l a w (.returned (.tuple #[zor, .int .i64 (q : Int), ev a])) w9) := ⟨by rw [hR.out]; exact B7.out, fun t' h => (by rw [hrd.out] at h; cases h; rw [hlI.out] at hq; omega), fun _ => by rw [hrd.out]⟩
      clear e7 hw9
      unfold ev at r4
      show Leaves _ _ _ _ [] (settle (.panicking [{ v := ev a, recovered := true }])) _
      simp [Leaves, settle, results, Tryd.results22, go_sem, r0, r1, r2, r3, r4]
      exact hfin.out
    · have hq' : decide ((q : Int) < ((Bt l).size : Int)) = false := decide_eq_false hq
      have o0 := O6.out.c0
      have o1 := O6.out.c1
      have o2 := O6.out.c2
      have of := O6.out.fz
      have a0 : w6.cell? ⟨R + 1, 0, none⟩ = some (.int .i64 0) := by rw [Joins.cell_of_block A6.out]; rfl
      have af := Joins.unfrozen_of_block A6.out 0
      have v0 : w6.cell? ⟨R + 2, 0, none⟩ = some .nilIface := by rw [Joins.cell_of_block V6.out]; rfl
      have vf := Joins.unfrozen_of_block V6.out 0
      obtain ⟨w7, e7, ⟨r0, r1, r2⟩, r3, r4, B7, K7⟩ := fin_read (k := tk) (n := tn) (x := 0) (s := .slice va vl vc) (y := .nilIface) hR.out B6.out O6.out A6.out V6.out
      have hfin : Hid (RD l a w (.returned (.tuple #[.agg #[.int .i64 tk, .int .i64 tn, .slice va vl vc], .int .i64 0, .nilIface])) w7) := by
        have hql : q ≤ l.length := by
          have := (pa_le l (Nat.zero_le l.length)).2
          have e1 : (Ps.pa l 0).2 = q := by have h1 := hrd.out; unfold Ps.rd at h1; show (Ps.kont l [] (Ps.pa l 0)).2 = q; rw [h1]
          omega
        refine ⟨by rw [hR.out]; exact B7.out, fun t' h => ?_, fun h => absurd (show Ps.rd l = (some t, l.length) from by rw [hrd.out]; congr 1; rw [hlI.out] at hq; omega) (h t)⟩
        rw [hrd.out] at h
        cases h
        refine ⟨_, rfl, Os.keep (fun b hb => ?_) (fun b hb hl' => ?_) _ _ O5s.out⟩
        · have h1 : R + 4 ≤ b := hb
          show w.heap.size ≤ b
          rw [hR.out]; omega
        · have h1 : R + 4 ≤ b := hb
          exact (K7.out b (by omega) (by omega) (by omega)).trans (K6.out b (by omega))
      have e7' : Hid (((((w6.setCell ⟨R, 0, none⟩ (.int .i64 tk)).setCell ⟨R, 1, none⟩ (.int .i64 tn)).setCell ⟨R, 2, none⟩ (.slice va vl vc)).setCell ⟨R + 1, 0, none⟩ (.int .i64 0)).setCell ⟨R + 2, 0, none⟩ .nilIface = w7) := e7.out
      clear e7
      have hr : Hid (w7.cell? ⟨R, 0, none⟩ = some (.int .i64 tk) ∧ w7.cell? ⟨R, 1, none⟩ = some (.int .i64 tn) ∧ w7.cell? ⟨R, 2, none⟩ = some (.slice va vl vc) ∧ w7.cell? ⟨R + 1, 0, none⟩ = some (.int .i64 0) ∧ w7.cell? ⟨R + 2, 0, none⟩ = some .nilIface) := ⟨r0, r1, r2, r3, r4⟩
      clear r0 r1 r2 r3 r4
      go_wp2_with fail
      rw [e7'.out]
      refine leaves_cons (f := 32) (args := #[.pointer (some ⟨R + 3, 0, none⟩), .pointer (some ⟨R, 0, none⟩), .pointer (some ⟨R + 1, 0, none⟩), .pointer (some ⟨R + 2, 0, none⟩)]) (by simp) (by simp [go_sem]) ?_
      refine (catch_i _ _ _ _ w7).mono ?_
      rintro e u' w8 ⟨rfl, rfl, hw8⟩
      subst hw8
      obtain ⟨r0, r1, r2, r3, r4⟩ := hr.out
      show Leaves _ _ _ _ [] (settle .returning) _
      simp [Leaves, settle, results, Tryd.results22, go_sem, r0, r1, r2, r3, r4]
      exact hfin.out
end Go.Proofs.YtfoblbpbhldngaaDoor
