/-
  written(false, nil, x).
-/
import Derived.Test.YtoojjefndkdnpabDoorSml
namespace Go.Proofs.YtoojjefndkdnpabDoor
open Flo Go.RowKit
/-- an exponent's text -/
def exl (x : Int) (el : List UInt8) : List UInt8 := 101 :: ((if x < 0 then [45] else []) ++ el)
set_option maxRecDepth 100000 in
set_option maxHeartbeats 400000 in
theorem written_neg (n : Nat) (w : World) (h0 : 0 < n) (h1 : n ≤ 100000) :
    Calls Tryd.prog 5 #[.bool false, .slice none 0 0, .int .i64 (-(n : Int))] w fun e w' => ∃ el, e = .returned (.string (B (101 :: 45 :: el))) ∧ Ds n el ∧ Below w.heap.size w w' := by
  have hn : -(n : Int) < 0 := by omega
  have hs : Hid (∀ w, Calls Tryd.prog 7 #[.int .i64 n] w fun e w' => ∃ l, e = .returned (.string (B l)) ∧ Ds n l ∧ Below w.heap.size w w') := fun w => small_c n w (Nat.lt_of_le_of_lt h1 (by decide))
  go_enter Tryd.func5, Tryd.ntmps5
  go_wp2_with fail
  go_loop [7, 13] (fun s i => s = .string ⟨#[]⟩ ∧ i = .int .i64 0) (fun _ _ => 0)
  case atStart => exact ⟨rfl, rfl⟩
  case round =>
    obtain ⟨rfl, rfl⟩ := hrel
    go_wp2_with fail
    refine Calls.mono (hs.out _) ?_
    rintro e w1 ⟨el, rfl, hd, hb⟩
    have hdl : el.length ≤ 20 := hd.len
    have hsz : (B el).size = el.length := B_size el
    have hdH : Hid (Ds n el) := hd
    have hbH : Hid (Below w.heap.size w w1) := hb
    have hap : Hid (∀ m : List UInt8, (⟨m.toArray⟩ : ByteArray) ++ B el = B (m ++ el)) := fun m => B_append m el
    clear hd hb hs
    go_wp2
    go_ret
    exact ⟨el, by first | exact congrArg (fun z => Exit.returned (.string z)) (hap.out _) | rfl | skip, hdH.out, hbH.out⟩
set_option maxRecDepth 100000 in
set_option maxHeartbeats 400000 in
theorem written_pos (n : Nat) (w : World) (h1 : n ≤ 100000) :
    Calls Tryd.prog 5 #[.bool false, .slice none 0 0, .int .i64 (n : Int)] w fun e w' => ∃ el, e = .returned (.string (B (101 :: el))) ∧ Ds n el ∧ Below w.heap.size w w' := by
  have hn : ¬ ((n : Int) < 0) := by omega
  have hs : Hid (∀ w, Calls Tryd.prog 7 #[.int .i64 n] w fun e w' => ∃ l, e = .returned (.string (B l)) ∧ Ds n l ∧ Below w.heap.size w w') := fun w => small_c n w (Nat.lt_of_le_of_lt h1 (by decide))
  go_enter Tryd.func5, Tryd.ntmps5
  go_wp2_with fail
  go_loop [7, 13] (fun s i => s = .string ⟨#[]⟩ ∧ i = .int .i64 0) (fun _ _ => 0)
  case atStart => exact ⟨rfl, rfl⟩
  case round =>
    obtain ⟨rfl, rfl⟩ := hrel
    go_wp2_with fail
    refine Calls.mono (hs.out _) ?_
    rintro e w1 ⟨el, rfl, hd, hb⟩
    have hdl : el.length ≤ 20 := hd.len
    have hsz : (B el).size = el.length := B_size el
    have hdH : Hid (Ds n el) := hd
    have hbH : Hid (Below w.heap.size w w1) := hb
    have hap : Hid (∀ m : List UInt8, (⟨m.toArray⟩ : ByteArray) ++ B el = B (m ++ el)) := fun m => B_append m el
    clear hd hb hs
    go_wp2
    go_ret
    exact ⟨el, by first | exact congrArg (fun z => Exit.returned (.string z)) (hap.out _) | rfl | skip, hdH.out, hbH.out⟩
theorem written_c (x : Int) (w : World) (h1 : -100000 ≤ x) (h2 : x ≤ 100000) :
    Calls Tryd.prog 5 #[.bool false, .slice none 0 0, .int .i64 x] w fun e w' => ∃ el, e = .returned (.string (B (exl x el))) ∧ Ds x.natAbs el ∧ Below w.heap.size w w' := by
  by_cases hx : x < 0
  · obtain ⟨n, hn⟩ : ∃ n : Nat, x = -(n : Int) := ⟨x.natAbs, by omega⟩
    have e1 : x.natAbs = n := by omega
    rw [e1]
    subst hn
    refine Calls.mono (written_neg n w (by omega) (by omega)) ?_
    rintro e w' ⟨el, rfl, h, hb⟩
    exact ⟨el, by unfold exl; rw [if_pos hx]; rfl, h, hb⟩
  · obtain ⟨n, hn⟩ : ∃ n : Nat, x = (n : Int) := ⟨x.natAbs, by omega⟩
    have e1 : x.natAbs = n := by omega
    rw [e1]
    subst hn
    refine Calls.mono (written_pos n w (by omega)) ?_
    rintro e w' ⟨el, rfl, h, hb⟩
    exact ⟨el, by unfold exl; rw [if_neg hx]; rfl, h, hb⟩
end Go.Proofs.YtoojjefndkdnpabDoor
