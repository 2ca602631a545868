/-
  Package steps: Acts, Name, Op, head, has, numbers, stepOf.
-/
import Derived.Test.YtmlfichdfeblpaaDoorSp2
namespace Go.Proofs.YtmlfichdfeblpaaDoor
open Flo Go.RowKit
/-- what Acts answers -/
def acv (s : Sp.St) : Int := bif Sp.fm s then s.count else 0
set_option maxHeartbeats 1000000 in
theorem sacts_c (s : Sp.St) (al : List Addr) (w : World) (h : Ops w) (he : Pe w al) :
    Calls Tryd.prog 12 #[sv s] w fun e w' => e = .returned (.int .i64 (acv s)) ∧ Below w.heap.size w w' := by
  obtain ⟨wa, ewa⟩ : ∃ wa, Hid (w.alloc (.cells #[.int .i64 s.op, .int .i64 s.dst, .int .i64 s.src, .int .i64 s.jump, .int .i64 s.count, .int .i64 s.n, .int .i64 s.k] 36) = wa) := ⟨_, (rfl : _ = _)⟩
  have Ba : Hid (Below w.heap.size w wa) := by rw [← ewa.out]; exact (Below.refl _ _).alloc (Nat.le_refl _) _
  have X2 : Hid (Bst wa w.heap.size s.op s.dst s.src s.jump s.count s.n s.k) := by show Bst _ _ _ _ _ _ _ _ _; rw [← ewa.out]; exact Bst.new w _ _ _ _ _ _ _
  have hf : Hid (Calls Tryd.prog 13 #[sv s] wa fun e w' => e = .returned (fev al (Sp.fm s)) ∧ Below wa.heap.size wa w') := sform_c s al wa (h.below (Ba.out.mono (Nat.le_refl _))) (he.below Ba.out)
  unfold acv
  generalize Sp.fm s = b at hf
  unfold sv sva at *
  clear h he
  go_enter Tryd.func12, Tryd.ntmps12
  go_upto_region 1 with fail
  rw [ewa.out]
  obtain ⟨y0, y1, y2, y3, y4, y5, y6⟩ := X2.out
  go_wp2_with fail
  refine hf.out.mono ?_
  rintro e w1 ⟨rfl, B1⟩
  have hB : Hid (Below w.heap.size w w1) := Ba.out.trans (B1.mono Ba.out.size)
  have Xs := X2.out.below B1
  clear y0 y1 y2 y3 y4 y5 y6 hf X2 Ba B1
  obtain ⟨y0, y1, y2, y3, y4, y5, y6⟩ := Xs
  cases b with
  | true =>
    have e1 : fev al true = .nilIface := rfl
    go_wp2
    go_ret
    exact ⟨rfl, hB.out⟩
  | false =>
    have e1 : fev al false = ek al 8 := rfl
    have hq := nnil_c al 8
    have hgd := guard_c al 8
    go_wp2
    go_ret
    exact ⟨rfl, hB.out⟩
def nmk (x : Int) : ByteArray := bif Sp.kn x then nmb x.toNat else ⟨#[]⟩
set_option maxHeartbeats 1000000 in
theorem sname_c (x : Int) (w : World) (h : Ops w) :
    Calls Tryd.prog 10 #[.int .i64 x] w fun e w' => e = .returned (.tuple #[.string (nmk x), .bool (Sp.kn x)]) ∧ Below w.heap.size w w' := by
  have hkn : Hid (Calls Tryd.prog 27 #[.int .i64 x] w fun e w' => e = .returned (.tuple #[knv x, .bool (Sp.kn x)]) ∧ Below w.heap.size w w') := sknown_c x w h
  have e1 : ∃ b1 b2 b3 l m b4 c, knv x = opa (nmk x) b1 b2 b3 l m b4 c := by
    unfold knv nmk
    cases Sp.kn x with
    | true => exact ⟨_, _, _, _, _, _, _, rfl⟩
    | false => exact ⟨_, _, _, _, _, _, _, rfl⟩
  obtain ⟨b1, b2, b3, l, m, b4, c, e1⟩ := e1
  rw [e1] at hkn
  unfold opa at hkn
  clear h e1
  generalize nmk x = nm at hkn ⊢
  generalize Sp.kn x = b at hkn ⊢
  go_enter Tryd.func10, Tryd.ntmps10
  go_wp2_with fail
  refine hkn.out.mono ?_
  rintro e w1 ⟨rfl, B1⟩
  have hB : Hid (Below w.heap.size w w1) := B1
  clear B1 hkn
  go_wp2
  go_ret2
  exact ⟨rfl, hB.out.alloc hB.out.size _⟩
/-- the number of a name, or 0 -/
def OpR (t : ByteArray) (r : Nat) (b : Bool) : Prop := (1 ≤ r ∧ r < 12 ∧ nmb r = t ∧ b = true) ∨ (r = 0 ∧ (∀ j, 1 ≤ j → j < 12 → nmb j ≠ t) ∧ b = false)
def OpE (t : ByteArray) (e : Ending) : Prop := ∃ (r : Nat) (b : Bool), e = .returned (.tuple #[.int .i64 (r : Nat), .bool b]) ∧ OpR t r b
theorem bl_eq {a b : ByteArray} (h : a.toList = b.toList) : a = b := by
  rw [ByteArray.toList_eq, ByteArray.toList_eq] at h
  exact ByteArray.ext (Array.toList_inj.1 h)
theorem bl_true {a b : ByteArray} (h : a = b) : (a.toList == b.toList) = true := by rw [h]; exact beq_iff_eq.2 rfl
theorem bl_false {a b : ByteArray} (h : ¬ a = b) : (a.toList == b.toList) = false := beq_eq_false_iff_ne.2 fun e => h (bl_eq e)
def na (l : List Int) : Value := .agg (l.map fun z => Value.int .i64 z).toArray
set_option maxHeartbeats 1000000 in
theorem snumbers_c (s : Sp.St) (w : World) :
    Calls Tryd.prog 40 #[sv s] w fun e w' => e = .returned (na (Sp.nl s)) ∧ Below w.heap.size w w' := by
  unfold sv sva na Sp.nl
  simp only [List.map_cons, List.map_nil]
  go_enter Tryd.func40, Tryd.ntmps40
  go_wp2
  refine bodyPost_ret (v := .agg #[.int .i64 s.dst, .int .i64 s.src, .int .i64 s.jump, .int .i64 s.count, .int .i64 s.n, .int .i64 s.k]) (by simp [results, Tryd.results40, go_sem]) rfl ⟨rfl, ?_⟩
  exact ((Below.refl _ _).alloc (Nat.le_refl _) _).alloc (by simp) _
set_option maxHeartbeats 1000000 in
theorem shas_c (o : Nat) (w : World) :
    Calls Tryd.prog 39 #[opv o] w fun e w' => e = .returned (.agg #[.bool true, .bool (Sp.hs o), .bool (Sp.hj o), .bool true, .bool (Sp.hn o), .bool (Sp.hk o)]) ∧ Below w.heap.size w w' := by
  unfold opv opa
  go_enter Tryd.func39, Tryd.ntmps39
  go_wp2
  refine bodyPost_ret (v := .agg #[.bool true, .bool (Sp.hs o), .bool (Sp.hj o), .bool true, .bool (Sp.hn o), .bool (Sp.hk o)]) (by simp [results, Tryd.results39, go_sem]) rfl ⟨rfl, ?_⟩
  exact ((Below.refl _ _).alloc (Nat.le_refl _) _).alloc (by simp) _
/-- a program as a value, its steps behind v -/
def pv (p : Sp.Pg) (v : Value) : Value := .agg #[.int .i64 p.len, .int .i64 p.cells, .int .i64 p.inn, .int .i64 p.out, v]
set_option maxHeartbeats 1000000 in
theorem shead_c (p : Sp.Pg) (ao : Option Addr) (m c : Nat) (w : World) :
    Calls Tryd.prog 23 #[pv p (.slice ao m c)] w fun e w' => e = .returned (na (Sp.hd p)) ∧ Below w.heap.size w w' := by
  unfold pv na Sp.hd
  simp only [List.map_cons, List.map_nil]
  go_enter Tryd.func23, Tryd.ntmps23
  go_wp2
  refine bodyPost_ret (v := .agg #[.int .i64 p.len, .int .i64 p.cells, .int .i64 p.inn, .int .i64 p.out]) (by simp [results, Tryd.results23, go_sem]) rfl ⟨rfl, ?_⟩
  exact ((Below.refl _ _).alloc (Nat.le_refl _) _).alloc (by simp) _
set_option maxHeartbeats 1000000 in
theorem sstepOf_c (op x0 x1 x2 x3 x4 x5 : Int) (w : World) :
    Calls Tryd.prog 44 #[.int .i64 op, .agg #[.int .i64 x0, .int .i64 x1, .int .i64 x2, .int .i64 x3, .int .i64 x4, .int .i64 x5]] w fun e w' => e = .returned (sva op x0 x1 x2 x3 x4 x5) ∧ Below w.heap.size w w' := by
  unfold sva
  go_enter Tryd.func44, Tryd.ntmps44
  go_wp2
  refine bodyPost_ret (v := .agg #[.int .i64 op, .int .i64 x0, .int .i64 x1, .int .i64 x2, .int .i64 x3, .int .i64 x4, .int .i64 x5]) (by simp [results, Tryd.results44, go_sem]) rfl ⟨rfl, ?_⟩
  exact ((Below.refl _ _).alloc (Nat.le_refl _) _).alloc (by simp) _
end Go.Proofs.YtmlfichdfeblpaaDoor
