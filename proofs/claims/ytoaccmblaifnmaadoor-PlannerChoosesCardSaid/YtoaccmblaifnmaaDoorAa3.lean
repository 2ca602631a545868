/-
  Layer 12, plain: orders as trees; how many parts, how deep, the length, the leaves; an order in memory.
-/
import Derived.Test.YtoaccmblaifnmaaDoorWrd
import Derived.WalkLawsBesides
import Derived.Test.YtoaccmblaifnmaaDoorProg
import Derived.Deep.DeepCutAuto
import Derived.Deep.QuietTactic
namespace Go.Proofs.YtoaccmblaifnmaaDoor
open Go.RowKit
/-- an order: its kind, its number, its Kids -/
structure Tr where
  k : Int
  n : Int
  ks : List Tr
namespace Tr
theorem mem_lt {t : Tr} {k n : Int} {ks : List Tr} (h : t ∈ ks) : SizeOf.sizeOf t < SizeOf.sizeOf (Tr.mk k n ks) := by
  have h1 := List.sizeOf_lt_of_mem h
  have h2 : SizeOf.sizeOf (Tr.mk k n ks) = 1 + SizeOf.sizeOf k + SizeOf.sizeOf n + SizeOf.sizeOf ks := Tr.mk.sizeOf_spec k n ks
  omega
theorem ind {P : Tr → Prop} (h : ∀ k n ks, (∀ t ∈ ks, P t) → P ⟨k, n, ks⟩) (t : Tr) : P t := by
  have key : ∀ m : Nat, ∀ t : Tr, SizeOf.sizeOf t < m → P t := by
    intro m
    induction m with
    | zero => intro t ht; omega
    | succ m ih =>
      intro t ht
      obtain ⟨k, n, ks⟩ := t
      exact h k n ks fun u hu => ih u (by have := mem_lt (k := k) (n := n) hu; omega)
  exact key _ t (Nat.lt_succ_self _)
/-- how many parts -/
def pt : Tr → Nat
  | ⟨_, _, ks⟩ => 1 + (ks.map pt).sum
/-- how deep -/
def dp : Tr → Nat
  | ⟨_, _, ks⟩ => 1 + (ks.map dp).foldl max 0
theorem pt_eq (k n : Int) (ks : List Tr) : pt ⟨k, n, ks⟩ = 1 + (ks.map pt).sum := by rw [pt]
theorem dp_eq (k n : Int) (ks : List Tr) : dp ⟨k, n, ks⟩ = 1 + (ks.map dp).foldl max 0 := by rw [dp]
def tms : List Nat → Nat
  | [a, b] => if 2 ≤ a ∧ 2 ≤ b ∧ a ≤ 16384 / b then a * b else 0
  | _ => 0
def blu (n : Int) : List Nat → Nat
  | [m] => if 2 * n - 1 ≤ (m : Int) then n.toNat else 0
  | _ => 0
/-- the length, out of the Kids' lengths -/
def lnc (k n : Int) (ls : List Nat) : Nat :=
  if k = 1 then (if 1 ≤ n ∧ n ≤ 64 ∧ ls = [] then n.toNat else 0)
  else if k = 2 then (if 2 ≤ n ∧ n ≤ 5 ∧ ls = [] then n.toNat else 0)
  else if k = 3 then (if n = 0 then tms ls else 0)
  else if k = 4 then (if 2 ≤ n ∧ n ≤ 8192 then blu n ls else 0)
  else 0
def ln : Tr → Nat
  | ⟨k, n, ks⟩ => lnc k n (ks.map ln)
theorem ln_eq (k n : Int) (ks : List Tr) : ln ⟨k, n, ks⟩ = lnc k n (ks.map ln) := by rw [ln]
/-- the length of a good order, else 0 -/
def len (t : Tr) : Nat := if pt t ≤ 4096 ∧ dp t ≤ 16 then ln t else 0
/-- the leaves -/
def lv : Tr → List Tr
  | ⟨k, n, ks⟩ => if ks = [] then [⟨k, n, ks⟩] else (ks.map lv).flatten
theorem lv_eq (k n : Int) (ks : List Tr) : lv ⟨k, n, ks⟩ = if ks = [] then [⟨k, n, ks⟩] else (ks.map lv).flatten := by rw [lv]
theorem pt_pos (t : Tr) : 1 ≤ pt t := by obtain ⟨k, n, ks⟩ := t; rw [pt_eq]; omega
theorem sum_take_le {ls : List Nat} (i : Nat) : (ls.take i).sum ≤ ls.sum := by
  have h : ls.sum = (ls.take i).sum + (ls.drop i).sum := by rw [← List.sum_append, List.take_append_drop]
  omega
theorem mem_le_sum {ls : List Nat} {a : Nat} (h : a ∈ ls) : a ≤ ls.sum := by
  induction ls with
  | nil => cases h
  | cons b r ih =>
    rw [List.sum_cons]
    rcases List.mem_cons.1 h with rfl | h
    · omega
    · have := ih h; omega
theorem pt_kid {k n : Int} {ks : List Tr} {t : Tr} (h : t ∈ ks) : pt t < pt ⟨k, n, ks⟩ := by
  rw [pt_eq]
  have := mem_le_sum (List.mem_map_of_mem (f := pt) h)
  omega
theorem fm_le (ls : List Nat) : ∀ a m, ls.foldl max a ≤ m ↔ a ≤ m ∧ ∀ x ∈ ls, x ≤ m := by
  induction ls with
  | nil => intro a m; simp
  | cons b r ih =>
    intro a m
    rw [List.foldl_cons, ih]
    simp only [List.mem_cons, forall_eq_or_imp]
    rw [Nat.max_le, and_assoc]
theorem dp_le {k n : Int} {ks : List Tr} {m : Nat} : dp ⟨k, n, ks⟩ ≤ m ↔ 1 ≤ m ∧ ∀ t ∈ ks, dp t ≤ m - 1 := by
  rw [dp_eq]
  have h := fm_le (ks.map dp) 0 (m - 1)
  constructor
  · intro h1
    have h2 := h.1 (by omega)
    exact ⟨by omega, fun t ht => h2.2 _ (List.mem_map_of_mem ht)⟩
  · rintro ⟨h1, h2⟩
    have h3 := h.2 ⟨Nat.zero_le _, fun x hx => by obtain ⟨t, ht, rfl⟩ := List.mem_map.1 hx; exact h2 t ht⟩
    omega
theorem dp_pos (t : Tr) : 1 ≤ dp t := by obtain ⟨k, n, ks⟩ := t; rw [dp_eq]; omega
theorem dp_pt (t : Tr) : dp t ≤ pt t := by
  refine ind (P := fun t => dp t ≤ pt t) (fun k n ks ih => ?_) t
  rw [dp_le]
  refine ⟨pt_pos _, fun t ht => ?_⟩
  have h1 := ih t ht
  have h2 := pt_kid (k := k) (n := n) ht
  omega
end Tr
open Tr
/-- both fit into an int -/
def fit (k n : Int) : Prop := (-9223372036854775808 ≤ k ∧ k ≤ 9223372036854775807) ∧ (-9223372036854775808 ≤ n ∧ n ≤ 9223372036854775807)
/-- an order in memory: its value -/
def OdF (w : World) : Nat → Tr → Value → Prop
  | 0, _, _ => False
  | m + 1, ⟨k, n, ks⟩, v => ∃ ao cap, v = .agg #[.int .i64 k, .int .i64 n, .slice ao ks.length cap] ∧ (ks.length ≤ 9223372036854775807 ∧ fit k n) ∧ ∀ i (h : i < ks.length), ∃ b off s, ao = some ⟨b, off, none⟩ ∧ b < w.heap.size ∧
      w.cell? ⟨b, off + i * 3, none⟩ = some (.int .i64 (ks[i]).k) ∧ w.cell? ⟨b, off + i * 3 + 1, none⟩ = some (.int .i64 (ks[i]).n) ∧ w.cell? ⟨b, off + i * 3 + 2, none⟩ = some s ∧ OdF w m ks[i] (.agg #[.int .i64 (ks[i]).k, .int .i64 (ks[i]).n, s])
def Od (w : World) (t : Tr) (v : Value) : Prop := OdF w (pt t) t v
theorem odf_pt {w : World} (t : Tr) : ∀ m m' v, OdF w m t v → pt t ≤ m' → OdF w m' t v := by
  refine Tr.ind (P := fun t => ∀ m m' v, OdF w m t v → pt t ≤ m' → OdF w m' t v) (fun k n ks ih m m' v h hm => ?_) t
  cases m with
  | zero => exact h.elim
  | succ m =>
    cases m' with
    | zero => have := pt_pos ⟨k, n, ks⟩; omega
    | succ m' =>
      obtain ⟨ao, cap, rfl, hl, hc⟩ := h
      refine ⟨ao, cap, rfl, hl, fun i hi => ?_⟩
      obtain ⟨b, off, s, e1, e2, c0, c1, c2, ho⟩ := hc i hi
      have := pt_kid (k := k) (n := n) (List.getElem_mem hi)
      exact ⟨b, off, s, e1, e2, c0, c1, c2, ih _ (List.getElem_mem hi) m m' _ ho (by omega)⟩
theorem od_eq (w : World) (k n : Int) (ks : List Tr) (v : Value) : Od w ⟨k, n, ks⟩ v ↔ ∃ ao cap, v = .agg #[.int .i64 k, .int .i64 n, .slice ao ks.length cap] ∧ (ks.length ≤ 9223372036854775807 ∧ fit k n) ∧ ∀ i (h : i < ks.length), ∃ b off s, ao = some ⟨b, off, none⟩ ∧ b < w.heap.size ∧
      w.cell? ⟨b, off + i * 3, none⟩ = some (.int .i64 (ks[i]).k) ∧ w.cell? ⟨b, off + i * 3 + 1, none⟩ = some (.int .i64 (ks[i]).n) ∧ w.cell? ⟨b, off + i * 3 + 2, none⟩ = some s ∧ Od w ks[i] (.agg #[.int .i64 (ks[i]).k, .int .i64 (ks[i]).n, s]) := by
  constructor
  · intro h
    obtain ⟨ao, cap, rfl, hl, hc⟩ := odf_pt _ _ (pt ⟨k, n, ks⟩ + 1) _ h (Nat.le_succ _)
    refine ⟨ao, cap, rfl, hl, fun i hi => ?_⟩
    obtain ⟨b, off, s, e1, e2, c0, c1, c2, ho⟩ := hc i hi
    exact ⟨b, off, s, e1, e2, c0, c1, c2, odf_pt _ _ _ _ ho (Nat.le_refl _)⟩
  · rintro ⟨ao, cap, rfl, hl, hc⟩
    have h : OdF w (pt ⟨k, n, ks⟩ + 1) ⟨k, n, ks⟩ (.agg #[.int .i64 k, .int .i64 n, .slice ao ks.length cap]) := by
      refine ⟨ao, cap, rfl, hl, fun i hi => ?_⟩
      obtain ⟨b, off, s, e1, e2, c0, c1, c2, ho⟩ := hc i hi
      exact ⟨b, off, s, e1, e2, c0, c1, c2, odf_pt _ _ _ _ ho (Nat.le_of_lt (pt_kid (List.getElem_mem hi)))⟩
    exact odf_pt _ _ _ _ h (Nat.le_refl _)
theorem Od.below {w w' : World} (hb : Below w.heap.size w w') (t : Tr) : ∀ v, Od w t v → Od w' t v := by
  refine Tr.ind (P := fun t => ∀ v, Od w t v → Od w' t v) (fun k n ks ih v h => ?_) t
  rw [od_eq] at h ⊢
  obtain ⟨ao, cap, rfl, hl, hc⟩ := h
  refine ⟨ao, cap, rfl, hl, fun i hi => ?_⟩
  obtain ⟨b, off, s, e1, e2, c0, c1, c2, ho⟩ := hc i hi
  exact ⟨b, off, s, e1, Nat.lt_of_lt_of_le e2 hb.size, (hb.cell (p := ⟨b, off + i * 3, none⟩) e2).trans c0, (hb.cell (p := ⟨b, off + i * 3 + 1, none⟩) e2).trans c1, (hb.cell (p := ⟨b, off + i * 3 + 2, none⟩) e2).trans c2, ih _ (List.getElem_mem hi) _ ho⟩
end Go.Proofs.YtoaccmblaifnmaaDoor
/-
  The document's Parts, Depth, deep.
-/
namespace Go.Proofs.YtoaccmblaifnmaaDoor
open Flo Go.RowKit Tr
theorem btr {w a b : World} (h : Below w.heap.size w a) (k : Below a.heap.size a b) : Below w.heap.size w b := h.trans (k.mono h.size)
/-- the parts of the first i Kids -/
def pti (ks : List Tr) (i : Nat) : Nat := ((ks.take i).map pt).sum
theorem pti_zero (ks : List Tr) : pti ks 0 = 0 := by simp [pti]
theorem pti_succ {ks : List Tr} {i : Nat} (h : i < ks.length) : pti ks (i + 1) = pti ks i + pt ks[i] := by
  unfold pti
  rw [List.take_succ_eq_append_getElem h, List.map_append, List.sum_append]; simp
theorem pti_all (ks : List Tr) : 1 + pti ks ks.length = pt ⟨0, 0, ks⟩ := by rw [pt_eq]; simp [pti]
theorem pt_any (k n : Int) (ks : List Tr) : pt ⟨k, n, ks⟩ = 1 + pti ks ks.length := by rw [pt_eq]; simp [pti]
theorem pti_le (k n : Int) (ks : List Tr) (i : Nat) : 1 + pti ks i ≤ pt ⟨k, n, ks⟩ := by
  rw [pt_eq]
  have := sum_take_le (ls := ks.map pt) i
  unfold pti
  rw [List.map_take]
  omega
/-- a Kid, opened -/
structure Kid (w : World) (ao : Option Addr) (i : Nat) (t : Tr) (b off : Nat) (s : Value) : Prop where
  at0 : ao = some ⟨b, off, none⟩
  lt : b < w.heap.size
  c0 : w.cell? ⟨b, off + i * 3, none⟩ = some (.int .i64 t.k)
  c1 : w.cell? ⟨b, off + i * 3 + 1, none⟩ = some (.int .i64 t.n)
  c2 : w.cell? ⟨b, off + i * 3 + 2, none⟩ = some s
  od : Od w t (.agg #[.int .i64 t.k, .int .i64 t.n, s])
theorem Kid.below {w w' : World} {ao : Option Addr} {i : Nat} {t : Tr} {b off : Nat} {s : Value} (h : Kid w ao i t b off s) (hb : Below w.heap.size w w') : Kid w' ao i t b off s :=
  ⟨h.at0, Nat.lt_of_lt_of_le h.lt hb.size, (hb.cell (p := ⟨b, off + i * 3, none⟩) h.lt).trans h.c0, (hb.cell (p := ⟨b, off + i * 3 + 1, none⟩) h.lt).trans h.c1, (hb.cell (p := ⟨b, off + i * 3 + 2, none⟩) h.lt).trans h.c2, Od.below hb _ _ h.od⟩
theorem Od.open {w : World} {k n : Int} {ks : List Tr} {v : Value} (h : Od w ⟨k, n, ks⟩ v) : ∃ ao cap, v = .agg #[.int .i64 k, .int .i64 n, .slice ao ks.length cap] ∧ ks.length ≤ 9223372036854775807 ∧ ∀ i (h : i < ks.length), ∃ b off s, Kid w ao i ks[i] b off s := by
  rw [od_eq] at h
  obtain ⟨ao, cap, e, hl, hc⟩ := h
  refine ⟨ao, cap, e, hl.1, fun i hi => ?_⟩
  obtain ⟨b, off, s, e1, e2, c0, c1, c2, ho⟩ := hc i hi
  exact ⟨b, off, s, e1, e2, c0, c1, c2, ho⟩
theorem Od.fits {w : World} {k n : Int} {ks : List Tr} {v : Value} (h : Od w ⟨k, n, ks⟩ v) : fit k n := by
  rw [od_eq] at h
  obtain ⟨_, _, _, hl, _⟩ := h
  exact hl.2
theorem Kid.slc {w : World} {ao : Option Addr} {i : Nat} {t : Tr} {b off : Nat} {s : Value} (h : Kid w ao i t b off s) : ∃ a l c, s = .slice a l c := by
  obtain ⟨k, n, ks⟩ := t
  obtain ⟨a, c, e, _⟩ := h.od.open
  simp only [Value.agg.injEq, Array.mk.injEq, List.cons.injEq] at e
  exact ⟨a, _, c, e.2.2.1⟩
/-- the Kids of an order in memory, L of them -/
def Kds (w : World) (ao : Option Addr) (L : Nat) (ks : List Tr) : Prop := ∀ i, i < L → ∃ b off s t, ks[i]? = some t ∧ Kid w ao i t b off s
theorem Kds.below {w w' : World} {ao : Option Addr} {L : Nat} {ks : List Tr} (h : Kds w ao L ks) (hb : Below w.heap.size w w') : Kds w' ao L ks := fun i hi => by
  obtain ⟨b, off, s, t, e, k⟩ := h i hi
  exact ⟨b, off, s, t, e, k.below hb⟩
theorem Od.kds {w : World} {k n : Int} {ks : List Tr} {v : Value} (h : Od w ⟨k, n, ks⟩ v) : ∃ ao cap, v = .agg #[.int .i64 k, .int .i64 n, .slice ao ks.length cap] ∧ ks.length ≤ 9223372036854775807 ∧ Kds w ao ks.length ks := by
  obtain ⟨ao, cap, e, hl, hc⟩ := h.open
  refine ⟨ao, cap, e, hl, fun i hi => ?_⟩
  obtain ⟨b, off, s, k⟩ := hc i hi
  exact ⟨b, off, s, ks[i], List.getElem?_eq_getElem hi, k⟩
theorem min_step {a p m : Nat} (h : min (1 + a) (m + 1) ≤ m) : min (1 + a) (m + 1) + min p (m - min (1 + a) (m + 1) + 1) = min (1 + (a + p)) (m + 1) := by omega
set_option maxHeartbeats 1000000 in
theorem rParts_c (t : Tr) : ∀ (v : Value) (m : Nat) (w : World), Od w t v → m ≤ 4500 → Calls Tryd.prog 40 #[v, .int .i64 (m : Int)] w fun e w' => e = .returned (.int .i64 ((min (pt t) (m + 1) : Nat) : Int)) ∧ Below w.heap.size w w' := by
  refine Tr.ind (P := fun t => ∀ (v : Value) (m : Nat) (w : World), Od w t v → m ≤ 4500 → Calls Tryd.prog 40 #[v, .int .i64 (m : Int)] w fun e w' => e = .returned (.int .i64 ((min (pt t) (m + 1) : Nat) : Int)) ∧ Below w.heap.size w w') (fun k n ks ih0 v m w ho hm => ?_) t
  obtain ⟨ao, cap, rfl, hl0, hk0⟩ := ho.kds
  obtain ⟨L, hL⟩ : ∃ L, Hid (ks.length = L) := ⟨_, (rfl : _ = _)⟩
  have hk : Hid (Kds w ao L ks) := by show Kds _ _ _ _; rw [← hL.out]; exact hk0
  have hl : L ≤ 9223372036854775807 := by rw [← hL.out]; exact hl0
  have ih : Hid (∀ t ∈ ks, ∀ (v : Value) (m : Nat) (w : World), Od w t v → m ≤ 4500 → Calls Tryd.prog 40 #[v, .int .i64 (m : Int)] w fun e w' => e = .returned (.int .i64 ((min (pt t) (m + 1) : Nat) : Int)) ∧ Below w.heap.size w w') := ih0
  have hpt : Hid (pt ⟨k, n, ks⟩ = 1 + pti ks L) := by show _ = _; rw [← hL.out]; exact pt_any k n ks
  rw [hL.out]
  rw [hpt.out]
  clear hk0 hl0 ih0 ho
  go_enter Tryd.func40, Tryd.ntmps40
  go_wp2_with fail
  have B0 : Hid (Below w.heap.size w (w.alloc (.cells #[.int .i64 k, .int .i64 n, .slice ao L cap] 24))) := (Below.refl _ _).alloc (Nat.le_refl _) _
  go_loopw [5, 11] (fun sn si wx => ∃ (i : Nat), i ≤ L ∧ sn = .int .i64 ((min (1 + pti ks i) (m + 1) : Nat) : Int) ∧ si = .int .i64 (i : Int) ∧ Hid (Below w.heap.size w wx)) (fun _ si _ => L - (intOf si).toNat)
  case atStart => exact ⟨0, Nat.zero_le _, by rw [pti_zero, Nat.add_zero, Nat.min_eq_left (by omega)]; rfl, rfl, B0⟩
  case round =>
    clear B0
    obtain ⟨i, hi, rfl, rfl, hb⟩ := hrel
    obtain ⟨N, hN⟩ : ∃ N, Hid (min (1 + pti ks i) (m + 1) = N) := ⟨_, (rfl : _ = _)⟩
    rw [hN.out]
    by_cases hlt : i < L
    · have hlt' : (i : Int) < (L : Int) := by omega
      obtain ⟨b, off, s, t', et, K0⟩ := hk.out i hlt
      have K := K0.below hb.out
      obtain rfl := K.at0
      obtain ⟨a1, l1, p1, rfl⟩ := K.slc
      have c0 := K.c0
      have c1 := K.c1
      have c2 := K.c2
      have hod : Hid (Od wr t' (.agg #[.int .i64 t'.k, .int .i64 t'.n, .slice a1 l1 p1])) := K.od
      have hN1 : N ≤ m + 1 := by rw [← hN.out]; exact Nat.min_le_right _ _
      have hmem : Hid (t' ∈ ks) := List.mem_of_getElem? et
      have hst : Hid (pti ks (i + 1) = pti ks i + pt t') := by
        have hi' : i < ks.length := by rw [hL.out]; exact hlt
        have e2 : ks[i] = t' := by rw [List.getElem?_eq_getElem hi'] at et; exact Option.some.inj et
        show _ = _
        rw [pti_succ hi', e2]
      clear K K0 et
      generalize t'.k = k1 at *
      generalize t'.n = n1 at *
      by_cases hgt : m < N
      · have hgt' : (N : Int) > (m : Int) := by omega
        have hr : Hid (N = min (1 + pti ks L) (m + 1)) := by
          have h1 := pti_le k n ks i
          rw [hpt.out] at h1
          have := hN.out
          show _ = _
          omega
        have hB : Hid (Below w.heap.size w (wr.alloc (.cells #[.int .i64 k1, .int .i64 n1, .slice a1 l1 p1] 24))) := hb.out.alloc hb.out.size _
        go_wp2_with fail
        go_ret
        exact ⟨by rw [← hr.out]; rfl, hB.out⟩
      · have hgt' : decide ((N : Int) > (m : Int)) = false := decide_eq_false (by omega)
        obtain ⟨M, hM, hM1⟩ : ∃ M : Nat, Hid (M = m - N) ∧ (m : Int) - (N : Int) = (M : Int) := ⟨m - N, (rfl : _ = _), by omega⟩
        have hM2 : M ≤ 4500 := by have := hM.out; omega
        have hal : Hid (Below wr.heap.size wr (wr.alloc (.cells #[.int .i64 k1, .int .i64 n1, .slice a1 l1 p1] 24))) := (Below.refl _ _).alloc (Nat.le_refl _) _
        go_wp2_with fail
        refine (ih.out t' hmem.out _ M _ (Od.below hal.out _ _ hod.out) hM2).mono ?_
        rintro e w1 ⟨rfl, B1⟩
        have hB1 : Hid (Below w.heap.size w w1) := btr (btr hb.out hal.out) B1
        obtain ⟨R, hR, hR1⟩ : ∃ R : Nat, Hid (R = min (pt t') (M + 1)) ∧ (N : Int) + ((min (pt t') (M + 1) : Nat) : Int) = ((N + R : Nat) : Int) := ⟨_, (rfl : _ = _), by omega⟩
        have hNR : N + R ≤ 4501 := by have h1 := hR.out; have h2 := hM.out; omega
        obtain ⟨NR, hNR1, hNR2⟩ : ∃ NR : Nat, Hid (NR = N + R) ∧ (N : Int) + (R : Int) = (NR : Int) := ⟨N + R, (rfl : _ = _), by omega⟩
        have hfin : Hid (NR = min (1 + pti ks (i + 1)) (m + 1)) := by
          have h1 := hN.out
          have h2 := hR.out
          have h3 := hM.out
          have h4 := hNR1.out
          have h5 := hst.out
          show _ = _
          omega
        have hNR3 : NR ≤ 4501 := by have := hNR1.out; omega
        rw [← hR.out]
        clear hR1 hNR B1 hal hR hNR1
        go_wp2_with fail
        go_roundw
        case rel => exact ⟨i + 1, by omega, by rw [← hfin.out], by go_num, hB1⟩
        case measure => simp [intOf]; omega
    · have hlt' : decide ((i : Int) < (L : Int)) = false := decide_eq_false (by omega)
      have ei : i = L := by omega
      subst ei
      go_wp2_with fail
      go_ret
      exact ⟨by rw [hN.out]; rfl, hb.out⟩
end Go.Proofs.YtoaccmblaifnmaaDoor
/-
  The document's Depth, deep.
-/
namespace Go.Proofs.YtoaccmblaifnmaaDoor
open Flo Go.RowKit Tr
/-- the depth of the first i Kids -/
def dpi (ks : List Tr) (i : Nat) : Nat := ((ks.take i).map dp).foldl max 0
theorem dpi_zero (ks : List Tr) : dpi ks 0 = 0 := by simp [dpi]
theorem dpi_succ {ks : List Tr} {i : Nat} {t : Tr} (h : ks[i]? = some t) : dpi ks (i + 1) = max (dpi ks i) (dp t) := by
  obtain ⟨hi, e⟩ := List.getElem?_eq_some_iff.1 h
  unfold dpi
  rw [List.take_succ_eq_append_getElem hi, List.map_append, List.foldl_append, e]; simp
theorem dp_any (k n : Int) (ks : List Tr) : dp ⟨k, n, ks⟩ = 1 + dpi ks ks.length := by rw [dp_eq]; simp [dpi]
theorem dpi_le (k n : Int) (ks : List Tr) (i : Nat) : dpi ks i < dp ⟨k, n, ks⟩ := by
  rw [dp_eq]
  have h : dpi ks i ≤ (ks.map dp).foldl max 0 := by
    unfold dpi
    rw [fm_le]
    refine ⟨Nat.zero_le _, fun x hx => ?_⟩
    have h2 := (fm_le (ks.map dp) 0 ((ks.map dp).foldl max 0)).1 (Nat.le_refl _)
    rw [List.map_take] at hx
    exact h2.2 x (List.mem_of_mem_take hx)
  omega
theorem int_max (D E : Nat) : (if D < E then (E : Int) else (D : Int)) = ((max D E : Nat) : Int) := by
  by_cases h : D < E
  · rw [if_pos h, Nat.max_eq_right (Nat.le_of_lt h)]
  · rw [if_neg h, Nat.max_eq_left (by omega)]
set_option maxHeartbeats 1000000 in
theorem rdeep_c (t : Tr) : ∀ (v : Value) (m : Nat) (w : World), Od w t v → m ≤ 4500 → Calls Tryd.prog 107 #[v, .int .i64 (m : Int)] w fun e w' => e = .returned (.bool (decide (dp t ≤ m))) ∧ Below w.heap.size w w' := by
  refine Tr.ind (P := fun t => ∀ (v : Value) (m : Nat) (w : World), Od w t v → m ≤ 4500 → Calls Tryd.prog 107 #[v, .int .i64 (m : Int)] w fun e w' => e = .returned (.bool (decide (dp t ≤ m))) ∧ Below w.heap.size w w') (fun k n ks ih0 v m w ho hm => ?_) t
  obtain ⟨ao, cap, rfl, hl0, hk0⟩ := ho.kds
  obtain ⟨L, hL⟩ : ∃ L, Hid (ks.length = L) := ⟨_, (rfl : _ = _)⟩
  have hk : Hid (Kds w ao L ks) := by show Kds _ _ _ _; rw [← hL.out]; exact hk0
  have hl : L ≤ 9223372036854775807 := by rw [← hL.out]; exact hl0
  have ih : Hid (∀ t ∈ ks, ∀ (v : Value) (m : Nat) (w : World), Od w t v → m ≤ 4500 → Calls Tryd.prog 107 #[v, .int .i64 (m : Int)] w fun e w' => e = .returned (.bool (decide (dp t ≤ m))) ∧ Below w.heap.size w w') := ih0
  obtain ⟨R, hR⟩ : ∃ R : Bool, Hid (decide (dp ⟨k, n, ks⟩ ≤ m) = R) := ⟨_, (rfl : _ = _)⟩
  rw [hL.out]
  rw [hR.out]
  clear hk0 hl0 ih0 ho
  have B0 : Hid (Below w.heap.size w (w.alloc (.cells #[.int .i64 k, .int .i64 n, .slice ao L cap] 24))) := (Below.refl _ _).alloc (Nat.le_refl _) _
  by_cases hm0 : m < 1
  · have hm1 : (m : Int) < 1 := by omega
    have hf : Hid (false = R) := by show _ = _; rw [← hR.out]; exact (decide_eq_false (by have := dp_pos ⟨k, n, ks⟩; omega)).symm
    go_enter Tryd.func107, Tryd.ntmps107
    go_wp2_with fail
    go_ret
    exact ⟨by rw [← hf.out]; rfl, B0.out⟩
  · have hm1 : decide ((m : Int) < 1) = false := decide_eq_false (by omega)
    obtain ⟨M, hM, hM1⟩ : ∃ M : Nat, Hid (M = m - 1) ∧ (m : Int) - 1 = (M : Int) := ⟨m - 1, (rfl : _ = _), by omega⟩
    have hM2 : M ≤ 4500 := by have := hM.out; omega
    go_enter Tryd.func107, Tryd.ntmps107
    go_wp2_with fail
    go_loopw [13] (fun si wx => ∃ (i : Nat), i ≤ L ∧ si = .int .i64 (i : Int) ∧ Hid (∀ j t', j < i → ks[j]? = some t' → dp t' ≤ M) ∧ Hid (Below w.heap.size w wx)) (fun si _ => L - (intOf si).toNat)
    case atStart => exact ⟨0, Nat.zero_le _, rfl, fun j _ hj => absurd hj (Nat.not_lt_zero _), B0⟩
    case round =>
      clear B0
      obtain ⟨i, hi, rfl, hall, hb⟩ := hrel
      by_cases hlt : i < L
      · have hlt' : (i : Int) < (L : Int) := by omega
        obtain ⟨b, off, s, t', et, K0⟩ := hk.out i hlt
        have K := K0.below hb.out
        obtain rfl := K.at0
        obtain ⟨a1, l1, p1, rfl⟩ := K.slc
        have c0 := K.c0
        have c1 := K.c1
        have c2 := K.c2
        have hod : Hid (Od wr t' (.agg #[.int .i64 t'.k, .int .i64 t'.n, .slice a1 l1 p1])) := K.od
        have hmem : Hid (t' ∈ ks) := List.mem_of_getElem? et
        have etH : Hid (ks[i]? = some t') := et
        clear K K0 et
        generalize t'.k = k1 at *
        generalize t'.n = n1 at *
        have hal : Hid (Below wr.heap.size wr (wr.alloc (.cells #[.int .i64 k1, .int .i64 n1, .slice a1 l1 p1] 24))) := (Below.refl _ _).alloc (Nat.le_refl _) _
        go_wp2_with fail
        refine (ih.out t' hmem.out _ M _ (Od.below hal.out _ _ hod.out) hM2).mono ?_
        rintro e w1 ⟨rfl, B1⟩
        have hB1 : Hid (Below w.heap.size w w1) := btr (btr hb.out hal.out) B1
        clear B1 hal
        by_cases hd : dp t' ≤ M
        · have hd' : decide (dp t' ≤ M) = true := decide_eq_true hd
          have hnew : Hid (∀ j t', j < i + 1 → ks[j]? = some t' → dp t' ≤ M) := fun j u hj hu => by
            rcases Nat.lt_or_ge j i with h | h
            · exact hall.out j u h hu
            · obtain rfl : j = i := by omega
              rw [etH.out] at hu
              cases hu
              exact hd
          rw [hd']
          clear hd'
          go_wp2_with fail
          exact ⟨⟨i + 1, by omega, by go_num, hnew, hB1⟩, by simp [intOf]; omega⟩
        · have hd' : decide (dp t' ≤ M) = false := decide_eq_false hd
          have hf : Hid (false = R) := by
            show _ = _
            rw [← hR.out]
            exact (decide_eq_false (fun h => hd (by have := (dp_le.1 h).2 t' hmem.out; rw [hM.out]; exact this))).symm
          rw [hd']
          clear hd'
          go_wp2_with fail
          go_ret
          exact ⟨by rw [← hf.out]; rfl, hB1.out⟩
      · have hlt' : decide ((i : Int) < (L : Int)) = false := decide_eq_false (by omega)
        have ei : i = L := by omega
        subst ei
        have hf : Hid (true = R) := by
          show _ = _
          rw [← hR.out]
          refine (decide_eq_true (dp_le.2 ⟨by omega, fun u hu => ?_⟩)).symm
          obtain ⟨j, hj, e⟩ := List.getElem_of_mem hu
          have := hall.out j u (by rw [← hL.out]; exact hj) (by rw [List.getElem?_eq_getElem hj, e])
          rw [← hM.out]; exact this
        go_wp2_with fail
        go_ret
        exact ⟨by rw [← hf.out]; rfl, hb.out⟩
end Go.Proofs.YtoaccmblaifnmaaDoor
