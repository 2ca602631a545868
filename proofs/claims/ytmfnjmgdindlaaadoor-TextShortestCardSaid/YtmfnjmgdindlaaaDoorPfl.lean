/-
  ParseFloat.
-/
import Derived.Test.YtmfnjmgdindlaaaDoorHxv
import Derived.Test.YtmfnjmgdindlaaaDoorFlt
import Derived.Test.YtmfnjmgdindlaaaDoorQi
import Derived.Test.YtmfnjmgdindlaaaDoorRef
namespace Go.Proofs.YtmfnjmgdindlaaaDoor
open Flo Go.RowKit
theorem ibs_r (s : ByteArray) (c : Nat) (w : World) : (callFunc 96 #[.string s, .int .u8 (c : Int)]).run Tryd.prog w = .ok (.value (.int .i64 (firstIdx s c.toUInt8))) w := by
  rw [run_callFunc_extern (P := Tryd.prog) (f := 96) (fn := Tryd.f96) (by kernel_rfl) (by kernel_rfl) (by kernel_rfl) (by kernel_rfl) (e := Extern.BytealgIndexByte.indexByte) (by kernel_rfl), run_indexByte_string]
  rfl
/-- a digit's value, or -1 -/
def hxi (c : Nat) : Int := match Hx.hexv c with | some d => (d : Int) | none => -1
set_option maxRecDepth 100000 in
theorem idx_hex : ∀ n : Nat, n < 256 → firstIdx (⟨#[48, 49, 50, 51, 52, 53, 54, 55, 56, 57, 97, 98, 99, 100, 101, 102]⟩ : ByteArray) n.toUInt8 = hxi n := by decide
set_option maxRecDepth 100000 in
set_option maxHeartbeats 400000 in
theorem indexByte_c (c : Nat) (w : World) (hc : c < 256) :
    Calls Tryd.prog 91 #[.string ⟨#[48, 49, 50, 51, 52, 53, 54, 55, 56, 57, 97, 98, 99, 100, 101, 102]⟩, .int .u8 (c : Int)] w fun e w' => e = .returned (.int .i64 (hxi c)) ∧ w = w' := by
  have h1 := ibs_r (⟨#[48, 49, 50, 51, 52, 53, 54, 55, 56, 57, 97, 98, 99, 100, 101, 102]⟩ : ByteArray) c w
  rw [idx_hex c hc] at h1
  generalize hxi c = r at h1
  go_enter Tryd.func91, Tryd.ntmps91
  go_wp2
  go_ret
  exact ⟨rfl, rfl⟩
/-- what a float's text is read as, if it is one -/
def pf (l : List UInt8) : Option Nat := if l.length = 16 then (Hx.hxs l).bind fun b => if bt b = b then some b else none else none
theorem pf_len {l : List UInt8} (h : l.length ≠ 16) : pf l = none := by unfold pf; rw [if_neg h]
theorem pf_none {l : List UInt8} (h : Hx.hxs l = none) : pf l = none := by unfold pf; rw [h]; split <;> rfl
theorem pf_some {l : List UInt8} {b : Nat} (h16 : l.length = 16) (h : Hx.hxs l = some b) (hb : bt b = b) : pf l = some b := by
  unfold pf; rw [if_pos h16, h]; exact if_pos hb
theorem pf_bad {l : List UInt8} {b : Nat} (h : Hx.hxs l = some b) (hb : ¬ bt b = b) : pf l = none := by
  unfold pf; rw [h]; split
  · exact if_neg hb
  · rfl
/-- ParseFloat's answer -/
def pfr (l : List UInt8) (et : Value) : Value := match pf l with | some b => tup b .nilIface | none => tup 0 et
theorem pfr_none {l : List UInt8} {et : Value} (h : pf l = none) : pfr l et = tup 0 et := by unfold pfr; rw [h]
theorem pfr_some {l : List UInt8} {et : Value} {b : Nat} (h : pf l = some b) : pfr l et = tup b .nilIface := by unfold pfr; rw [h]
end Go.Proofs.YtmfnjmgdindlaaaDoor
