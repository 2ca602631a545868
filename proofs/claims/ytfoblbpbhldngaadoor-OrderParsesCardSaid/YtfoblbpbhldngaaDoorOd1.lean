/-
  The document's Parts, Depth, deep.
-/
import Derived.Test.YtfoblbpbhldngaaDoorOd0
import Derived.Test.YtfoblbpbhldngaaDoorProg
import Derived.Deep.DeepCutAuto
import Derived.Deep.QuietTactic
namespace Go.Proofs.YtfoblbpbhldngaaDoor
open Flo Go.RowKit Tr
theorem btr {w a b : World} (h : Below w.heap.size w a) (k : Below a.heap.size a b) : Below w.heap.size w b := h.trans (k.mono h.size)
/-- the parts of the first i Kids -/
def pti (ks : List Tr) (i : Nat) : Nat := ((ks.take i).map pt).sum
theorem pti_zero (ks : List Tr) : pti ks 0 = 0 := by simp [pti]
theorem pti_succ {ks : List Tr} {i : Nat} (h : i < ks.length) : pti ks (i + 1) = pti ks i + pt ks[i] := by
  unfold pti
  rw [List.take_succ_eq_append_getElem h, List.map_append, List.sum_append]; simp
theorem pti_all (ks : List Tr) : 1 + pti ks ks.length = pt ⟨0, 0, ks⟩ := by rw [pt_eq]; simp [pti]
theorem pt_any (k n : Int) (ks : List Tr) : pt ⟨k, n, ks⟩ = 1 + pti ks ks.length := by rw [pt_eq]; simp [pti]
theorem pti_le (k n : Int) (ks : List Tr) (i : Nat) : 1 + pti ks i ≤ pt ⟨k, n, ks⟩ := by
  rw [pt_eq]
  have := sum_take_le (ls := ks.map pt) i
  unfold pti
  rw [List.map_take]
  omega
/-- a Kid, opened -/
structure Kid (w : World) (ao : Option Addr) (i : Nat) (t : Tr) (b off : Nat) (s : Value) : Prop where
  at0 : ao = some ⟨b, off, none⟩
  lt : b < w.heap.size
  c0 : w.cell? ⟨b, off + i * 3, none⟩ = some (.int .i64 t.k)
  c1 : w.cell? ⟨b, off + i * 3 + 1, none⟩ = some (.int .i64 t.n)
  c2 : w.cell? ⟨b, off + i * 3 + 2, none⟩ = some s
  od : Od w t (.agg #[.int .i64 t.k, .int .i64 t.n, s])
theorem Kid.below {w w' : World} {ao : Option Addr} {i : Nat} {t : Tr} {b off : Nat} {s : Value} (h : Kid w ao i t b off s) (hb : Below w.heap.size w w') : Kid w' ao i t b off s :=
  ⟨h.at0, Nat.lt_of_lt_of_le h.lt hb.size, (hb.cell (p := ⟨b, off + i * 3, none⟩) h.lt).trans h.c0, (hb.cell (p := ⟨b, off + i * 3 + 1, none⟩) h.lt).trans h.c1, (hb.cell (p := ⟨b, off + i * 3 + 2, none⟩) h.lt).trans h.c2, Od.below hb _ _ h.od⟩
theorem Od.open {w : World} {k n : Int} {ks : List Tr} {v : Value} (h : Od w ⟨k, n, ks⟩ v) : ∃ ao cap, v = .agg #[.int .i64 k, .int .i64 n, .slice ao ks.length cap] ∧ ks.length ≤ 9223372036854775807 ∧ ∀ i (h : i < ks.length), ∃ b off s, Kid w ao i ks[i] b off s := by
  rw [od_eq] at h
  obtain ⟨ao, cap, e, hl, hc⟩ := h
  refine ⟨ao, cap, e, hl.1, fun i hi => ?_⟩
  obtain ⟨b, off, s, e1, e2, c0, c1, c2, ho⟩ := hc i hi
  exact ⟨b, off, s, e1, e2, c0, c1, c2, ho⟩
theorem Od.fits {w : World} {k n : Int} {ks : List Tr} {v : Value} (h : Od w ⟨k, n, ks⟩ v) : fit k n := by
  rw [od_eq] at h
  obtain ⟨_, _, _, hl, _⟩ := h
  exact hl.2
theorem Kid.slc {w : World} {ao : Option Addr} {i : Nat} {t : Tr} {b off : Nat} {s : Value} (h : Kid w ao i t b off s) : ∃ a l c, s = .slice a l c := by
  obtain ⟨k, n, ks⟩ := t
  obtain ⟨a, c, e, _⟩ := h.od.open
  simp only [Value.agg.injEq, Array.mk.injEq, List.cons.injEq] at e
  exact ⟨a, _, c, e.2.2.1⟩
/-- the Kids of an order in memory, L of them -/
def Kds (w : World) (ao : Option Addr) (L : Nat) (ks : List Tr) : Prop := ∀ i, i < L → ∃ b off s t, ks[i]? = some t ∧ Kid w ao i t b off s
theorem Kds.below {w w' : World} {ao : Option Addr} {L : Nat} {ks : List Tr} (h : Kds w ao L ks) (hb : Below w.heap.size w w') : Kds w' ao L ks := fun i hi => by
  obtain ⟨b, off, s, t, e, k⟩ := h i hi
  exact ⟨b, off, s, t, e, k.below hb⟩
theorem Od.kds {w : World} {k n : Int} {ks : List Tr} {v : Value} (h : Od w ⟨k, n, ks⟩ v) : ∃ ao cap, v = .agg #[.int .i64 k, .int .i64 n, .slice ao ks.length cap] ∧ ks.length ≤ 9223372036854775807 ∧ Kds w ao ks.length ks := by
  obtain ⟨ao, cap, e, hl, hc⟩ := h.open
  refine ⟨ao, cap, e, hl, fun i hi => ?_⟩
  obtain ⟨b, off, s, k⟩ := hc i hi
  exact ⟨b, off, s, ks[i], List.getElem?_eq_getElem hi, k⟩
theorem min_step {a p m : Nat} (h : min (1 + a) (m + 1) ≤ m) : min (1 + a) (m + 1) + min p (m - min (1 + a) (m + 1) + 1) = min (1 + (a + p)) (m + 1) := by omega
set_option maxHeartbeats 1000000 in
theorem rParts_c (t : Tr) : ∀ (v : Value) (m : Nat) (w : World), Od w t v → m ≤ 4500 → Calls Tryd.prog 27 #[v, .int .i64 (m : Int)] w fun e w' => e = .returned (.int .i64 ((min (pt t) (m + 1) : Nat) : Int)) ∧ Below w.heap.size w w' := by
  refine Tr.ind (P := fun t => ∀ (v : Value) (m : Nat) (w : World), Od w t v → m ≤ 4500 → Calls Tryd.prog 27 #[v, .int .i64 (m : Int)] w fun e w' => e = .returned (.int .i64 ((min (pt t) (m + 1) : Nat) : Int)) ∧ Below w.heap.size w w') (fun k n ks ih0 v m w ho hm => ?_) t
  obtain ⟨ao, cap, rfl, hl0, hk0⟩ := ho.kds
  obtain ⟨L, hL⟩ : ∃ L, Hid (ks.length = L) := ⟨_, (rfl : _ = _)⟩
  have hk : Hid (Kds w ao L ks) := by show Kds _ _ _ _; rw [← hL.out]; exact hk0
  have hl : L ≤ 9223372036854775807 := by rw [← hL.out]; exact hl0
  have ih : Hid (∀ t ∈ ks, ∀ (v : Value) (m : Nat) (w : World), Od w t v → m ≤ 4500 → Calls Tryd.prog 27 #[v, .int .i64 (m : Int)] w fun e w' => e = .returned (.int .i64 ((min (pt t) (m + 1) : Nat) : Int)) ∧ Below w.heap.size w w') := ih0
  have hpt : Hid (pt ⟨k, n, ks⟩ = 1 + pti ks L) := by show _ = _; rw [← hL.out]; exact pt_any k n ks
  rw [hL.out]
  rw [hpt.out]
  clear hk0 hl0 ih0 ho
  go_enter Tryd.func27, Tryd.ntmps27
  go_wp2_with fail
  have B0 : Hid (Below w.heap.size w (w.alloc (.cells #[.int .i64 k, .int .i64 n, .slice ao L cap] 25))) := (Below.refl _ _).alloc (Nat.le_refl _) _
  go_loopw [5, 11] (fun sn si wx => ∃ (i : Nat), i ≤ L ∧ sn = .int .i64 ((min (1 + pti ks i) (m + 1) : Nat) : Int) ∧ si = .int .i64 (i : Int) ∧ Hid (Below w.heap.size w wx)) (fun _ si _ => L - (intOf si).toNat)
  case atStart => exact ⟨0, Nat.zero_le _, by rw [pti_zero, Nat.add_zero, Nat.min_eq_left (by omega)]; rfl, rfl, B0⟩
  case round =>
    clear B0
    obtain ⟨i, hi, rfl, rfl, hb⟩ := hrel
    obtain ⟨N, hN⟩ : ∃ N, Hid (min (1 + pti ks i) (m + 1) = N) := ⟨_, (rfl : _ = _)⟩
    rw [hN.out]
    by_cases hlt : i < L
    · have hlt' : (i : Int) < (L : Int) := by omega
      obtain ⟨b, off, s, t', et, K0⟩ := hk.out i hlt
      have K := K0.below hb.out
      obtain rfl := K.at0
      obtain ⟨a1, l1, p1, rfl⟩ := K.slc
      have c0 := K.c0
      have c1 := K.c1
      have c2 := K.c2
      have hod : Hid (Od wr t' (.agg #[.int .i64 t'.k, .int .i64 t'.n, .slice a1 l1 p1])) := K.od
      have hN1 : N ≤ m + 1 := by rw [← hN.out]; exact Nat.min_le_right _ _
      have hmem : Hid (t' ∈ ks) := List.mem_of_getElem? et
      have hst : Hid (pti ks (i + 1) = pti ks i + pt t') := by
        have hi' : i < ks.length := by rw [hL.out]; exact hlt
        have e2 : ks[i] = t' := by rw [List.getElem?_eq_getElem hi'] at et; exact Option.some.inj et
        show _ = _
        rw [pti_succ hi', e2]
      clear K K0 et
      generalize t'.k = k1 at *
      generalize t'.n = n1 at *
      by_cases hgt : m < N
      · have hgt' : (N : Int) > (m : Int) := by omega
        have hr : Hid (N = min (1 + pti ks L) (m + 1)) := by
          have h1 := pti_le k n ks i
          rw [hpt.out] at h1
          have := hN.out
          show _ = _
          omega
        have hB : Hid (Below w.heap.size w (wr.alloc (.cells #[.int .i64 k1, .int .i64 n1, .slice a1 l1 p1] 25))) := hb.out.alloc hb.out.size _
        go_wp2_with fail
        go_ret
        exact ⟨by rw [← hr.out]; rfl, hB.out⟩
      · have hgt' : decide ((N : Int) > (m : Int)) = false := decide_eq_false (by omega)
        obtain ⟨M, hM, hM1⟩ : ∃ M : Nat, Hid (M = m - N) ∧ (m : Int) - (N : Int) = (M : Int) := ⟨m - N, (rfl : _ = _), by omega⟩
        have hM2 : M ≤ 4500 := by have := hM.out; omega
        have hal : Hid (Below wr.heap.size wr (wr.alloc (.cells #[.int .i64 k1, .int .i64 n1, .slice a1 l1 p1] 25))) := (Below.refl _ _).alloc (Nat.le_refl _) _
        go_wp2_with fail
        refine (ih.out t' hmem.out _ M _ (Od.below hal.out _ _ hod.out) hM2).mono ?_
        rintro e w1 ⟨rfl, B1⟩
        have hB1 : Hid (Below w.heap.size w w1) := btr (btr hb.out hal.out) B1
        obtain ⟨R, hR, hR1⟩ : ∃ R : Nat, Hid (R = min (pt t') (M + 1)) ∧ (N : Int) + ((min (pt t') (M + 1) : Nat) : Int) = ((N + R : Nat) : Int) := ⟨_, (rfl : _ = _), by omega⟩
        have hNR : N + R ≤ 4501 := by have h1 := hR.out; have h2 := hM.out; omega
        obtain ⟨NR, hNR1, hNR2⟩ : ∃ NR : Nat, Hid (NR = N + R) ∧ (N : Int) + (R : Int) = (NR : Int) := ⟨N + R, (rfl : _ = _), by omega⟩
        have hfin : Hid (NR = min (1 + pti ks (i + 1)) (m + 1)) := by
          have h1 := hN.out
          have h2 := hR.out
          have h3 := hM.out
          have h4 := hNR1.out
          have h5 := hst.out
          show _ = _
          omega
        have hNR3 : NR ≤ 4501 := by have := hNR1.out; omega
        rw [← hR.out]
        clear hR1 hNR B1 hal hR hNR1
        go_wp2_with fail
        go_roundw
        case rel => exact ⟨i + 1, by omega, by rw [← hfin.out], by go_num, hB1⟩
        case measure => simp [intOf]; omega
    · have hlt' : decide ((i : Int) < (L : Int)) = false := decide_eq_false (by omega)
      have ei : i = L := by omega
      subst ei
      go_wp2_with fail
      go_ret
      exact ⟨by rw [hN.out]; rfl, hb.out⟩
end Go.Proofs.YtfoblbpbhldngaaDoor
