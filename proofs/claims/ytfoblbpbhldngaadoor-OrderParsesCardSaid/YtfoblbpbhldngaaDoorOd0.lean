/-
  Layer 12, plain: orders as trees; how many parts, how deep, the length, the leaves; an order in memory.
-/
import Derived.Test.YtfoblbpbhldngaaDoorWrd
import Derived.WalkLawsBesides
namespace Go.Proofs.YtfoblbpbhldngaaDoor
open Go.RowKit
/-- an order: its kind, its number, its Kids -/
structure Tr where
  k : Int
  n : Int
  ks : List Tr
namespace Tr
theorem mem_lt {t : Tr} {k n : Int} {ks : List Tr} (h : t ∈ ks) : SizeOf.sizeOf t < SizeOf.sizeOf (Tr.mk k n ks) := by
  have h1 := List.sizeOf_lt_of_mem h
  have h2 : SizeOf.sizeOf (Tr.mk k n ks) = 1 + SizeOf.sizeOf k + SizeOf.sizeOf n + SizeOf.sizeOf ks := Tr.mk.sizeOf_spec k n ks
  omega
theorem ind {P : Tr → Prop} (h : ∀ k n ks, (∀ t ∈ ks, P t) → P ⟨k, n, ks⟩) (t : Tr) : P t := by
  have key : ∀ m : Nat, ∀ t : Tr, SizeOf.sizeOf t < m → P t := by
    intro m
    induction m with
    | zero => intro t ht; omega
    | succ m ih =>
      intro t ht
      obtain ⟨k, n, ks⟩ := t
      exact h k n ks fun u hu => ih u (by have := mem_lt (k := k) (n := n) hu; omega)
  exact key _ t (Nat.lt_succ_self _)
/-- how many parts -/
def pt : Tr → Nat
  | ⟨_, _, ks⟩ => 1 + (ks.map pt).sum
/-- how deep -/
def dp : Tr → Nat
  | ⟨_, _, ks⟩ => 1 + (ks.map dp).foldl max 0
theorem pt_eq (k n : Int) (ks : List Tr) : pt ⟨k, n, ks⟩ = 1 + (ks.map pt).sum := by rw [pt]
theorem dp_eq (k n : Int) (ks : List Tr) : dp ⟨k, n, ks⟩ = 1 + (ks.map dp).foldl max 0 := by rw [dp]
def tms : List Nat → Nat
  | [a, b] => if 2 ≤ a ∧ 2 ≤ b ∧ a ≤ 16384 / b then a * b else 0
  | _ => 0
def blu (n : Int) : List Nat → Nat
  | [m] => if 2 * n - 1 ≤ (m : Int) then n.toNat else 0
  | _ => 0
/-- the length, out of the Kids' lengths -/
def lnc (k n : Int) (ls : List Nat) : Nat :=
  if k = 1 then (if 1 ≤ n ∧ n ≤ 64 ∧ ls = [] then n.toNat else 0)
  else if k = 2 then (if 2 ≤ n ∧ n ≤ 5 ∧ ls = [] then n.toNat else 0)
  else if k = 3 then (if n = 0 then tms ls else 0)
  else if k = 4 then (if 2 ≤ n ∧ n ≤ 8192 then blu n ls else 0)
  else 0
def ln : Tr → Nat
  | ⟨k, n, ks⟩ => lnc k n (ks.map ln)
theorem ln_eq (k n : Int) (ks : List Tr) : ln ⟨k, n, ks⟩ = lnc k n (ks.map ln) := by rw [ln]
/-- the length of a good order, else 0 -/
def len (t : Tr) : Nat := if pt t ≤ 4096 ∧ dp t ≤ 16 then ln t else 0
/-- the leaves -/
def lv : Tr → List Tr
  | ⟨k, n, ks⟩ => if ks = [] then [⟨k, n, ks⟩] else (ks.map lv).flatten
theorem lv_eq (k n : Int) (ks : List Tr) : lv ⟨k, n, ks⟩ = if ks = [] then [⟨k, n, ks⟩] else (ks.map lv).flatten := by rw [lv]
theorem pt_pos (t : Tr) : 1 ≤ pt t := by obtain ⟨k, n, ks⟩ := t; rw [pt_eq]; omega
theorem sum_take_le {ls : List Nat} (i : Nat) : (ls.take i).sum ≤ ls.sum := by
  have h : ls.sum = (ls.take i).sum + (ls.drop i).sum := by rw [← List.sum_append, List.take_append_drop]
  omega
theorem mem_le_sum {ls : List Nat} {a : Nat} (h : a ∈ ls) : a ≤ ls.sum := by
  induction ls with
  | nil => cases h
  | cons b r ih =>
    rw [List.sum_cons]
    rcases List.mem_cons.1 h with rfl | h
    · omega
    · have := ih h; omega
theorem pt_kid {k n : Int} {ks : List Tr} {t : Tr} (h : t ∈ ks) : pt t < pt ⟨k, n, ks⟩ := by
  rw [pt_eq]
  have := mem_le_sum (List.mem_map_of_mem (f := pt) h)
  omega
theorem fm_le (ls : List Nat) : ∀ a m, ls.foldl max a ≤ m ↔ a ≤ m ∧ ∀ x ∈ ls, x ≤ m := by
  induction ls with
  | nil => intro a m; simp
  | cons b r ih =>
    intro a m
    rw [List.foldl_cons, ih]
    simp only [List.mem_cons, forall_eq_or_imp]
    rw [Nat.max_le, and_assoc]
theorem dp_le {k n : Int} {ks : List Tr} {m : Nat} : dp ⟨k, n, ks⟩ ≤ m ↔ 1 ≤ m ∧ ∀ t ∈ ks, dp t ≤ m - 1 := by
  rw [dp_eq]
  have h := fm_le (ks.map dp) 0 (m - 1)
  constructor
  · intro h1
    have h2 := h.1 (by omega)
    exact ⟨by omega, fun t ht => h2.2 _ (List.mem_map_of_mem ht)⟩
  · rintro ⟨h1, h2⟩
    have h3 := h.2 ⟨Nat.zero_le _, fun x hx => by obtain ⟨t, ht, rfl⟩ := List.mem_map.1 hx; exact h2 t ht⟩
    omega
theorem dp_pos (t : Tr) : 1 ≤ dp t := by obtain ⟨k, n, ks⟩ := t; rw [dp_eq]; omega
theorem dp_pt (t : Tr) : dp t ≤ pt t := by
  refine ind (P := fun t => dp t ≤ pt t) (fun k n ks ih => ?_) t
  rw [dp_le]
  refine ⟨pt_pos _, fun t ht => ?_⟩
  have h1 := ih t ht
  have h2 := pt_kid (k := k) (n := n) ht
  omega
end Tr
open Tr
/-- both fit into an int -/
def fit (k n : Int) : Prop := (-9223372036854775808 ≤ k ∧ k ≤ 9223372036854775807) ∧ (-9223372036854775808 ≤ n ∧ n ≤ 9223372036854775807)
/-- an order in memory: its value -/
def OdF (w : World) : Nat → Tr → Value → Prop
  | 0, _, _ => False
  | m + 1, ⟨k, n, ks⟩, v => ∃ ao cap, v = .agg #[.int .i64 k, .int .i64 n, .slice ao ks.length cap] ∧ (ks.length ≤ 9223372036854775807 ∧ fit k n) ∧ ∀ i (h : i < ks.length), ∃ b off s, ao = some ⟨b, off, none⟩ ∧ b < w.heap.size ∧
      w.cell? ⟨b, off + i * 3, none⟩ = some (.int .i64 (ks[i]).k) ∧ w.cell? ⟨b, off + i * 3 + 1, none⟩ = some (.int .i64 (ks[i]).n) ∧ w.cell? ⟨b, off + i * 3 + 2, none⟩ = some s ∧ OdF w m ks[i] (.agg #[.int .i64 (ks[i]).k, .int .i64 (ks[i]).n, s])
def Od (w : World) (t : Tr) (v : Value) : Prop := OdF w (pt t) t v
theorem odf_pt {w : World} (t : Tr) : ∀ m m' v, OdF w m t v → pt t ≤ m' → OdF w m' t v := by
  refine Tr.ind (P := fun t => ∀ m m' v, OdF w m t v → pt t ≤ m' → OdF w m' t v) (fun k n ks ih m m' v h hm => ?_) t
  cases m with
  | zero => exact h.elim
  | succ m =>
    cases m' with
    | zero => have := pt_pos ⟨k, n, ks⟩; omega
    | succ m' =>
      obtain ⟨ao, cap, rfl, hl, hc⟩ := h
      refine ⟨ao, cap, rfl, hl, fun i hi => ?_⟩
      obtain ⟨b, off, s, e1, e2, c0, c1, c2, ho⟩ := hc i hi
      have := pt_kid (k := k) (n := n) (List.getElem_mem hi)
      exact ⟨b, off, s, e1, e2, c0, c1, c2, ih _ (List.getElem_mem hi) m m' _ ho (by omega)⟩
theorem od_eq (w : World) (k n : Int) (ks : List Tr) (v : Value) : Od w ⟨k, n, ks⟩ v ↔ ∃ ao cap, v = .agg #[.int .i64 k, .int .i64 n, .slice ao ks.length cap] ∧ (ks.length ≤ 9223372036854775807 ∧ fit k n) ∧ ∀ i (h : i < ks.length), ∃ b off s, ao = some ⟨b, off, none⟩ ∧ b < w.heap.size ∧
      w.cell? ⟨b, off + i * 3, none⟩ = some (.int .i64 (ks[i]).k) ∧ w.cell? ⟨b, off + i * 3 + 1, none⟩ = some (.int .i64 (ks[i]).n) ∧ w.cell? ⟨b, off + i * 3 + 2, none⟩ = some s ∧ Od w ks[i] (.agg #[.int .i64 (ks[i]).k, .int .i64 (ks[i]).n, s]) := by
  constructor
  · intro h
    obtain ⟨ao, cap, rfl, hl, hc⟩ := odf_pt _ _ (pt ⟨k, n, ks⟩ + 1) _ h (Nat.le_succ _)
    refine ⟨ao, cap, rfl, hl, fun i hi => ?_⟩
    obtain ⟨b, off, s, e1, e2, c0, c1, c2, ho⟩ := hc i hi
    exact ⟨b, off, s, e1, e2, c0, c1, c2, odf_pt _ _ _ _ ho (Nat.le_refl _)⟩
  · rintro ⟨ao, cap, rfl, hl, hc⟩
    have h : OdF w (pt ⟨k, n, ks⟩ + 1) ⟨k, n, ks⟩ (.agg #[.int .i64 k, .int .i64 n, .slice ao ks.length cap]) := by
      refine ⟨ao, cap, rfl, hl, fun i hi => ?_⟩
      obtain ⟨b, off, s, e1, e2, c0, c1, c2, ho⟩ := hc i hi
      exact ⟨b, off, s, e1, e2, c0, c1, c2, odf_pt _ _ _ _ ho (Nat.le_of_lt (pt_kid (List.getElem_mem hi)))⟩
    exact odf_pt _ _ _ _ h (Nat.le_refl _)
theorem Od.below {w w' : World} (hb : Below w.heap.size w w') (t : Tr) : ∀ v, Od w t v → Od w' t v := by
  refine Tr.ind (P := fun t => ∀ v, Od w t v → Od w' t v) (fun k n ks ih v h => ?_) t
  rw [od_eq] at h ⊢
  obtain ⟨ao, cap, rfl, hl, hc⟩ := h
  refine ⟨ao, cap, rfl, hl, fun i hi => ?_⟩
  obtain ⟨b, off, s, e1, e2, c0, c1, c2, ho⟩ := hc i hi
  exact ⟨b, off, s, e1, Nat.lt_of_lt_of_le e2 hb.size, (hb.cell (p := ⟨b, off + i * 3, none⟩) e2).trans c0, (hb.cell (p := ⟨b, off + i * 3 + 1, none⟩) e2).trans c1, (hb.cell (p := ⟨b, off + i * 3 + 2, none⟩) e2).trans c2, ih _ (List.getElem_mem hi) _ ho⟩
end Go.Proofs.YtfoblbpbhldngaaDoor
