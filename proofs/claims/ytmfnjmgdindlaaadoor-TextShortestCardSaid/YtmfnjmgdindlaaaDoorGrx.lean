/-
  What the walk of TextGrows asks of errors and floats.
-/
import Derived.Test.YtmfnjmgdindlaaaDoorErs
import Derived.Test.YtmfnjmgdindlaaaDoorQj
import Derived.Test.YtmfnjmgdindlaaaDoorLvt
import Derived.Test.YtmfnjmgdindlaaaDoorRef
import Derived.Test.YtmfnjmgdindlaaaDoorFop
namespace Go.Proofs.YtmfnjmgdindlaaaDoor
open Flo Go.RowKit
theorem err_info : ∃ i j, Tryd.prog.info? 124 = some i ∧ i.comparable = true ∧ Tryd.prog.info? 140 = some j ∧ j.size ≠ 0 := by
  have h1 : (Tryd.prog.info? 124).map (·.comparable) = some true := by kernel_rfl
  have h2 : (Tryd.prog.info? 140).map (fun j => j.size != 0) = some true := by kernel_rfl
  obtain ⟨i, hi, ci⟩ := Option.map_eq_some_iff.1 h1
  obtain ⟨j, hj, cj⟩ := Option.map_eq_some_iff.1 h2
  exact ⟨i, j, hi, ci, hj, by simpa using cj⟩
theorem ev_same (a : Addr) (w : World) : (binOp .eql 32 (ev a) (ev a)).run Tryd.prog w = .ok (.bool true) w := by
  obtain ⟨i, d, hi, ci, hd, sd⟩ := err_info
  exact run_eql_iface_ptr_same w _ Tryd.underlying32 Tryd.underlying124 hi ci hd
theorem ev_nil (a : Addr) (w : World) : (binOp .eql 32 (ev a) .nilIface).run Tryd.prog w = .ok (.bool false) w := by
  unfold ev; kernel_rfl
theorem ev_nnil (a : Addr) (w : World) : (binOp .neq 32 (ev a) .nilIface).run Tryd.prog w = .ok (.bool true) w := by
  unfold ev; kernel_rfl
theorem ev_guard (a : Addr) (op : BinOp) (t : TypeId) (x y : Operand) (b : Value) (w : World) : (eqGuard op t x y (ev a) b).run Tryd.prog w = .ok () w := by
  unfold ev
  cases op <;> cases b <;> rfl
/-- not greater -/
theorem ord_le {a b : Nat} (h : a ≤ b) (hb : b < Rd.inf) : ∃ o, FloatKind.f64.format.order a b = some o ∧ o ≠ .gt := by
  unfold Rd.inf at hb
  refine ⟨_, order_of a b (by omega) (by omega) (by omega) (by omega), ?_⟩
  unfold sv
  rw [if_pos (by omega), if_pos (by omega)]
  intro hc
  rw [Int.compare_eq_gt] at hc
  omega
theorem pp_t {mi : Bool} {n : Nat} {ds el : List UInt8} {x : Int} {et er v : Value} (hd : Ds n ds) (he : Ds x.natAbs el) (h : PP (wtx mi ds x el) et er v) :
    ∃ (r f : Nat) (o : Value), v = .tuple #[.float .f64 f, o] ∧ Hid (Rd.Sp n (cl x) r) ∧ Hid ((Rd.inf ≤ r ∧ f = 0 ∧ o = er) ∨ (r < Rd.inf ∧ f = r + sg mi ∧ o = .nilIface)) := by
  obtain ⟨r, h1, h2⟩ := pp_text hd he h
  rcases h2 with ⟨h2, rfl⟩ | ⟨h2, rfl⟩
  · exact ⟨r, _, _, rfl, h1, .inl ⟨h2, rfl, rfl⟩⟩
  · exact ⟨r, _, _, rfl, h1, .inr ⟨h2, rfl, rfl⟩⟩
theorem wtx_neg (ds : List UInt8) (x : Int) (el : List UInt8) : (⟨#[45]⟩ : ByteArray) ++ B ds ++ B (exl x el) = B (wtx true ds x el) := by
  have h : (⟨#[45]⟩ : ByteArray) = B [45] := rfl
  rw [h, B_append, B_append]
  unfold wtx
  rw [if_pos rfl, List.append_assoc]
theorem neg_size (l : List UInt8) : ((⟨#[45]⟩ : ByteArray) ++ B l).size = l.length + 1 := by
  have h : (⟨#[45]⟩ : ByteArray) = B [45] := rfl
  rw [h, B_append, B_size]
  rfl
end Go.Proofs.YtmfnjmgdindlaaaDoor
