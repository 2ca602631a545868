/-
  Package steps: Acts, Name, Op, head, has, numbers, stepOf.
-/
import Derived.Test.YtlbnldbelfgokaaDoorSp2
namespace Go.Proofs.YtlbnldbelfgokaaDoor
open Flo Go.RowKit
/-- what Acts answers -/
def acv (s : Sp.St) : Int := bif Sp.fm s then s.count else 0
def nmk (x : Int) : ByteArray := bif Sp.kn x then nmb x.toNat else ⟨#[]⟩
set_option maxHeartbeats 1000000 in
theorem sname_c (x : Int) (w : World) (h : Ops w) :
    Calls Tryd.prog 40 #[.int .i64 x] w fun e w' => e = .returned (.tuple #[.string (nmk x), .bool (Sp.kn x)]) ∧ Below w.heap.size w w' := by
  have hkn : Hid (Calls Tryd.prog 46 #[.int .i64 x] w fun e w' => e = .returned (.tuple #[knv x, .bool (Sp.kn x)]) ∧ Below w.heap.size w w') := sknown_c x w h
  have e1 : ∃ b1 b2 b3 l m b4 c, knv x = opa (nmk x) b1 b2 b3 l m b4 c := by
    unfold knv nmk
    cases Sp.kn x with
    | true => exact ⟨_, _, _, _, _, _, _, rfl⟩
    | false => exact ⟨_, _, _, _, _, _, _, rfl⟩
  obtain ⟨b1, b2, b3, l, m, b4, c, e1⟩ := e1
  rw [e1] at hkn
  unfold opa at hkn
  clear h e1
  generalize nmk x = nm at hkn ⊢
  generalize Sp.kn x = b at hkn ⊢
  go_enter Tryd.func40, Tryd.ntmps40
  go_wp2_with fail
  refine hkn.out.mono ?_
  rintro e w1 ⟨rfl, B1⟩
  have hB : Hid (Below w.heap.size w w1) := B1
  clear B1 hkn
  go_wp2
  go_ret2
  exact ⟨rfl, hB.out.alloc hB.out.size _⟩
/-- the number of a name, or 0 -/
def OpR (t : ByteArray) (r : Nat) (b : Bool) : Prop := (1 ≤ r ∧ r < 12 ∧ nmb r = t ∧ b = true) ∨ (r = 0 ∧ (∀ j, 1 ≤ j → j < 12 → nmb j ≠ t) ∧ b = false)
def OpE (t : ByteArray) (e : Ending) : Prop := ∃ (r : Nat) (b : Bool), e = .returned (.tuple #[.int .i64 (r : Nat), .bool b]) ∧ OpR t r b
theorem bl_eq {a b : ByteArray} (h : a.toList = b.toList) : a = b := by
  rw [ByteArray.toList_eq, ByteArray.toList_eq] at h
  exact ByteArray.ext (Array.toList_inj.1 h)
theorem bl_true {a b : ByteArray} (h : a = b) : (a.toList == b.toList) = true := by rw [h]; exact beq_iff_eq.2 rfl
theorem bl_false {a b : ByteArray} (h : ¬ a = b) : (a.toList == b.toList) = false := beq_eq_false_iff_ne.2 fun e => h (bl_eq e)
set_option maxHeartbeats 1000000 in
theorem sop_c (t : ByteArray) (w : World) (h : Ops w) :
    Calls Tryd.prog 28 #[.string t] w fun e w' => OpE t e ∧ w = w' := by
  have hH : Hid (Ops w) := h
  clear h
  go_enter Tryd.func28, Tryd.ntmps28
  go_wp2
  go_loop [4] (fun i => ∃ k : Nat, 1 ≤ k ∧ k ≤ 12 ∧ i = .int .i64 k ∧ Hid (∀ j, 1 ≤ j → j < k → nmb j ≠ t)) (fun i => 12 - (intOf i).toNat)
  case atStart => exact ⟨1, Nat.le_refl _, by decide, rfl, fun j h1 h2 => absurd h2 (by omega)⟩
  case round =>
    obtain ⟨k, hk1, hk2, rfl, hne⟩ := hrel
    by_cases hk : k < 12
    · have hlt : (k : Int) < 12 := by omega
      obtain ⟨y0, _⟩ := hH.out k hk
      by_cases hq : nmb k = t
      · have hR : Hid (OpR t k true) := .inl ⟨hk1, hk, hq, rfl⟩
        have q1 : ((nmb k).toList == t.toList) = true := bl_true hq
        clear hq hne hk2
        go_wp2
        go_ret2
        exact ⟨⟨k, true, rfl, hR.out⟩, rfl⟩
      · have q1 : ((nmb k).toList == t.toList) = false := bl_false hq
        have hne2 : Hid (∀ j, 1 ≤ j → j < k + 1 → nmb j ≠ t) := fun j h1 h2 => by
          by_cases e : j = k
          · rw [e]; exact hq
          · exact hne.out j h1 (by omega)
        clear hq hne
        go_wp2
        go_round
        case rel => exact ⟨k + 1, by omega, by omega, by go_num, hne2⟩
        case measure => simp [intOf]; omega
    · have hlt : decide ((k : Int) < 12) = false := decide_eq_false (by omega)
      have hR : Hid (OpR t 0 false) := .inr ⟨rfl, fun j h1 h2 => hne.out j h1 (by omega), rfl⟩
      clear hne
      go_wp2
      go_ret2
      exact ⟨⟨0, false, rfl, hR.out⟩, rfl⟩
def na (l : List Int) : Value := .agg (l.map fun z => Value.int .i64 z).toArray
/-- a program as a value, its steps behind v -/
def pv (p : Sp.Pg) (v : Value) : Value := .agg #[.int .i64 p.len, .int .i64 p.cells, .int .i64 p.inn, .int .i64 p.out, v]
end Go.Proofs.YtlbnldbelfgokaaDoor
