/-
  The walk of the statement WholeNames (closed): it returns true, and nothing that was in memory has turned.
-/
import Derived.Test.YtabkbhmjblfajabDoorNmE
import Derived.Deep.QuietTactic
import Derived.BigQuiet
import Derived.Outline
namespace Go.Proofs.YtabkbhmjblfajabDoor.wholeNames
open Go.RowKit
/-- The statement's own texts. -/
def tx : List ByteArray := [⟨#[116, 111, 111, 32, 115, 104, 111, 114, 116]⟩, ⟨#[118, 97, 114, 105, 110, 116]⟩, ⟨#[108, 105, 109, 105, 116]⟩, ⟨#[116, 97, 105, 108]⟩, ⟨#[114, 97, 110, 103, 101]⟩, ⟨#[116, 101, 120, 116]⟩, ⟨#[108, 101, 110, 103, 116, 104]⟩, ⟨#[111, 114, 100, 101, 114]⟩, ⟨#[112, 114, 111, 103, 114, 97, 109]⟩, ⟨#[115, 116, 97, 116, 101]⟩, ⟨#[114, 111, 111, 116]⟩, ⟨#[112, 101, 114, 109, 117, 116, 97, 116, 105, 111, 110]⟩, ⟨#[110, 117, 109, 98, 101, 114]⟩, ⟨#[119, 111, 114, 107, 101, 114, 115]⟩, ⟨#[100, 111, 110, 101]⟩, ⟨#[117, 110, 107, 110, 111, 119, 110]⟩, ⟨#[109, 111, 100, 101]⟩, ⟨#[99, 111, 109, 109, 97, 110, 100]⟩, ⟨#[101, 120, 97, 99, 116]⟩]
def w1 (w : World) (al : List Addr) : World := w.alloc (.cells #[ek al 0, ek al 1, ek al 2, ek al 3, ek al 4, ek al 5, ek al 6, ek al 7, ek al 8, ek al 9, ek al 10, ek al 11, ek al 12, ek al 13, ek al 14, ek al 15, ek al 16, ek al 17, ek al 18] 27)
def w2 (w : World) (al : List Addr) : World := (w1 w al).alloc (.cells (tx.map Value.string).toArray 9)
theorem wpList_bslice {P : Program} {ops : Array Oper} {rest : List Oper} {o : Oper} {a : Act} {w w' : World} {Q : Exit → Act → World → Prop} (hg : o.guard = none) (t : TypeId) (n : Nat) (parts : Array (Nat × Operand)) (ho : o.op = .buildSlice t n parts) (v : Value)
    (hrun : (Instr.buildSlice t n (parts.map fun (i, x) => (i, a.eval x))).run P w = .ok v w') (h : wpList P ops Q rest (a.put o.dst v) w') : wpList P ops Q (o :: rest) a w :=
  wpList_plain hg fun _ hK => by
    unfold Oper.wp execOp
    simp only [ho, Sem.run_bind, hrun, Result.andThen_ok]
    exact hK _ _ h
set_option maxHeartbeats 400000 in
theorem error_c (a : Addr) (s : ByteArray) (w : World) (h : w.cell? a = some (.string s)) (hv : a.spot = none) :
    Calls Tryd.prog 48 #[.pointer (some a)] w fun e w' => e = .returned (.string s) ∧ w = w' := by
  obtain ⟨b, o, sp⟩ := a
  obtain rfl : sp = none := hv
  go_enter Tryd.func48, Tryd.ntmps48
  go_wp2
  go_ret
  exact ⟨rfl, rfl⟩
theorem cells19 {w : World} {al : List Addr} (he : Errs w al) : w.cell? ⟨0, 0, none⟩ = some (ek al 0) ∧ w.cell? ⟨1, 0, none⟩ = some (ek al 1) ∧ w.cell? ⟨2, 0, none⟩ = some (ek al 2) ∧ w.cell? ⟨3, 0, none⟩ = some (ek al 3) ∧ w.cell? ⟨4, 0, none⟩ = some (ek al 4) ∧ w.cell? ⟨5, 0, none⟩ = some (ek al 5) ∧ w.cell? ⟨6, 0, none⟩ = some (ek al 6) ∧ w.cell? ⟨7, 0, none⟩ = some (ek al 7) ∧ w.cell? ⟨8, 0, none⟩ = some (ek al 8) ∧ w.cell? ⟨9, 0, none⟩ = some (ek al 9) ∧ w.cell? ⟨10, 0, none⟩ = some (ek al 10) ∧ w.cell? ⟨11, 0, none⟩ = some (ek al 11) ∧ w.cell? ⟨12, 0, none⟩ = some (ek al 12) ∧ w.cell? ⟨13, 0, none⟩ = some (ek al 13) ∧ w.cell? ⟨14, 0, none⟩ = some (ek al 14) ∧ w.cell? ⟨15, 0, none⟩ = some (ek al 15) ∧ w.cell? ⟨16, 0, none⟩ = some (ek al 16) ∧ w.cell? ⟨17, 0, none⟩ = some (ek al 17) ∧ w.cell? ⟨18, 0, none⟩ = some (ek al 18) := by
  obtain ⟨a0, a1, a2, a3, a4, a5, a6, a7, a8, a9, a10, a11, a12, a13, a14, a15, a16, a17, a18, rfl⟩ := he.len
  obtain ⟨h0, h1, h2, h3, h4, h5, h6, h7, h8, h9, h10, h11, h12, h13, h14, h15, h16, h17, h18, _⟩ := he.sent
  exact ⟨h0, h1, h2, h3, h4, h5, h6, h7, h8, h9, h10, h11, h12, h13, h14, h15, h16, h17, h18⟩
theorem lt_w1 (w : World) (al : List Addr) : w.heap.size < (w1 w al).heap.size := by unfold w1; simp
theorem below1 (w : World) (al : List Addr) : Below w.heap.size w (w1 w al) := (Below.refl _ _).alloc (Nat.le_refl _) _
theorem below2 (w : World) (al : List Addr) : Below (w1 w al).heap.size (w1 w al) (w2 w al) := (Below.refl _ _).alloc (Nat.le_refl _) _
theorem below12 (w : World) (al : List Addr) : Below w.heap.size w (w2 w al) := (below1 w al).trans ((below2 w al).mono (Nat.le_of_lt (lt_w1 w al)))
theorem arr19 (al : List Addr) : (k : Nat) → k < 19 → (#[ek al 0, ek al 1, ek al 2, ek al 3, ek al 4, ek al 5, ek al 6, ek al 7, ek al 8, ek al 9, ek al 10, ek al 11, ek al 12, ek al 13, ek al 14, ek al 15, ek al 16, ek al 17, ek al 18] : Array Value)[k]? = some (ek al k)
  | 0, _ => rfl
  | 1, _ => rfl
  | 2, _ => rfl
  | 3, _ => rfl
  | 4, _ => rfl
  | 5, _ => rfl
  | 6, _ => rfl
  | 7, _ => rfl
  | 8, _ => rfl
  | 9, _ => rfl
  | 10, _ => rfl
  | 11, _ => rfl
  | 12, _ => rfl
  | 13, _ => rfl
  | 14, _ => rfl
  | 15, _ => rfl
  | 16, _ => rfl
  | 17, _ => rfl
  | 18, _ => rfl
  | n + 19, h => absurd h (by omega)
theorem tx19 : (k : Nat) → k < 19 → ((tx.map Value.string).toArray : Array Value)[k]? = some (.string (tx.getD k ⟨#[]⟩))
  | 0, _ => rfl
  | 1, _ => rfl
  | 2, _ => rfl
  | 3, _ => rfl
  | 4, _ => rfl
  | 5, _ => rfl
  | 6, _ => rfl
  | 7, _ => rfl
  | 8, _ => rfl
  | 9, _ => rfl
  | 10, _ => rfl
  | 11, _ => rfl
  | 12, _ => rfl
  | 13, _ => rfl
  | 14, _ => rfl
  | 15, _ => rfl
  | 16, _ => rfl
  | 17, _ => rfl
  | 18, _ => rfl
  | n + 19, h => absurd h (by omega)
theorem full19 : (k : Nat) → k < 19 → (⟨((errNames.map (·.2)).getD k []).toArray⟩ : ByteArray) = ⟨#[116, 105, 109, 98, 114, 101, 58, 32]⟩ ++ tx.getD k ⟨#[]⟩
  | 0, _ => by decide +kernel
  | 1, _ => by decide +kernel
  | 2, _ => by decide +kernel
  | 3, _ => by decide +kernel
  | 4, _ => by decide +kernel
  | 5, _ => by decide +kernel
  | 6, _ => by decide +kernel
  | 7, _ => by decide +kernel
  | 8, _ => by decide +kernel
  | 9, _ => by decide +kernel
  | 10, _ => by decide +kernel
  | 11, _ => by decide +kernel
  | 12, _ => by decide +kernel
  | 13, _ => by decide +kernel
  | 14, _ => by decide +kernel
  | 15, _ => by decide +kernel
  | 16, _ => by decide +kernel
  | 17, _ => by decide +kernel
  | 18, _ => by decide +kernel
  | n + 19, h => absurd h (by omega)
theorem list_cell (w : World) (al : List Addr) (k : Nat) (hk : k < 19) : (w2 w al).cell? ⟨w.heap.size, k, none⟩ = some (ek al k) := by
  rw [(below2 w al).cell (p := ⟨w.heap.size, k, none⟩) (lt_w1 w al)]
  unfold w1 World.cell?
  rw [(MapKept.heap_alloc w _).1]
  simpa using arr19 al k hk
theorem text_cell (w : World) (al : List Addr) (k : Nat) (hk : k < 19) : (w2 w al).cell? ⟨(w1 w al).heap.size, k, none⟩ = some (.string (tx.getD k ⟨#[]⟩)) := by
  unfold w2 World.cell?
  rw [(MapKept.heap_alloc (w1 w al) _).1]
  simpa using tx19 k hk
theorem spot_none {w : World} {a : Addr} {v : Value} (h : w.cell? a = some v) : a.spot = none := by
  unfold World.cell? at h
  split at h
  · split at h
    · cases h
    · rename_i hs; simpa using hs
  · cases h
theorem size19 : (k : Nat) → k < 19 → (tx.getD k ⟨#[]⟩).size ≤ 100
  | 0, _ => by decide
  | 1, _ => by decide
  | 2, _ => by decide
  | 3, _ => by decide
  | 4, _ => by decide
  | 5, _ => by decide
  | 6, _ => by decide
  | 7, _ => by decide
  | 8, _ => by decide
  | 9, _ => by decide
  | 10, _ => by decide
  | 11, _ => by decide
  | 12, _ => by decide
  | 13, _ => by decide
  | 14, _ => by decide
  | 15, _ => by decide
  | 16, _ => by decide
  | 17, _ => by decide
  | 18, _ => by decide
  | n + 19, h => absurd h (by omega)
theorem error_q (a : Addr) (s : ByteArray) (w : World) (h : w.cell? a = some (.string s)) :
    Calls Tryd.prog 48 #[.pointer (some a)] w fun e w' => e = .returned (.string s) ∧ w' = w :=
  (error_c a s w h (spot_none h)).mono fun _ _ h => ⟨h.1, h.2.symm⟩
theorem method_err (a : Addr) (w : World) : (method 172 52 (.pointer (some a)) "Error").run Tryd.prog w = .ok (48, .pointer (some a)) w := by kernel_rfl
set_option maxHeartbeats 1000000 in
theorem walk0 (w : World) (al : List Addr) (he : Errs w al) (ht : ∀ k, k < 19 → w.cell? (al.getD k ⟨0, 0, none⟩) = some (.string ⟨((errNames.map (·.2)).getD k []).toArray⟩)) :
    Calls Tryd.prog 4 #[] w fun e w' => e = .returned (.bool true) ∧ Below w.heap.size w w' := by
  have hz : Hid (Errs w al) := he
  have hy : Hid (∀ k, k < 19 → w.cell? (al.getD k ⟨0, 0, none⟩) = some (.string ⟨((errNames.map (·.2)).getD k []).toArray⟩)) := ht
  clear ht
  obtain ⟨h0, h1, h2, h3, h4, h5, h6, h7, h8, h9, h10, h11, h12, h13, h14, h15, h16, h17, h18⟩ := cells19 he
  clear he
  go_enter Tryd.func4, Tryd.ntmps4
  go_wp2_with (first
    | (refine wpList_bslice (w' := w1 w al) rfl 36 19 _ rfl (.slice (some ⟨w.heap.size, 0, none⟩) 19 19) (by kernel_rfl) ?_)
    | (refine wpList_bslice (w' := w2 w al) rfl 37 19 _ rfl (.slice (some ⟨(w1 w al).heap.size, 0, none⟩) 19 19) (by kernel_rfl) ?_))
  clear h0  h1  h2  h3  h4  h5  h6  h7  h8  h9  h10  h11  h12  h13  h14  h15  h16  h17  h18
  go_loopw [29] (fun i wx => ∃ k d : Nat, k ≤ 19 ∧ i = .int .i64 k ∧ wx = (w2 w al).drewN d) (fun i _ => (19 - intOf i).toNat)
  case atStart => exact ⟨0, 0, by decide, rfl, rfl⟩
  case round =>
    obtain ⟨k, d, hk, rfl, rfl⟩ := hrel
    by_cases hlt : k < 19
    · have hlt' : (k : Int) < 19 := by omega
      have c1 : ((w2 w al).drewN d).cell? ⟨w.heap.size, k, none⟩ = some (ek al k) := list_cell w al k hlt
      have c2 : ((w2 w al).drewN d).cell? ⟨(w1 w al).heap.size, k, none⟩ = some (.string (tx.getD k ⟨#[]⟩)) := text_cell w al k hlt
      have c3 : Hid (((w2 w al).drewN d).cell? (al.getD k ⟨0, 0, none⟩) = some (.string (⟨#[116, 105, 109, 98, 114, 101, 58, 32]⟩ ++ tx.getD k ⟨#[]⟩))) := by
        show (w2 w al).cell? (al.getD k ⟨0, 0, none⟩) = _
        rw [(below12 w al).cell (cell_lt (hy.out k hlt)), hy.out k hlt, full19 k hlt]
      have c4 : Hid (∀ j, j < 19 → ((w2 w al).drewN d).cell? ⟨w.heap.size, j, none⟩ = some (ek al j)) := fun j hj => list_cell w al j hj
      have c5 : Hid (Errs ((w2 w al).drewN d) al) := ((hz.out.below (below12 w al)).below (below_drewN (Below.refl _ _) d))
      have e4 : ek al k = .iface 52 (.pointer (some (al.getD k ⟨0, 0, none⟩))) := rfl
      have c6 : Hid (ek al k = .iface 52 (.pointer (some (al.getD k ⟨0, 0, none⟩)))) := rfl
      generalize al.getD k ⟨0, 0, none⟩ = A at c3 e4 c6
      have hT := size19 k hlt
      generalize tx.getD k ⟨#[]⟩ = T at c2 c3 hT
      have hT2 : (T.size : Int) ≤ 100 := by omega
      have hadd := fun wz : World => run_string_add_sum (P := Tryd.prog) wz ⟨#[116, 105, 109, 98, 114, 101, 58, 32]⟩ T (by have : (⟨#[116, 105, 109, 98, 114, 101, 58, 32]⟩ : ByteArray).size = 8 := rfl; omega)
      clear hT
      generalize hwx : (w2 w al).drewN d = wx at c1 c2 c3 c4 c5 ⊢
      have hw : Hid ((w2 w al).drewN d = wx) := hwx
      clear hwx
      have hmt := method_err A
      go_wp2
      go_quiet ((go_at_call 48; exact Calls.quiet_of_same (error_q _ _ _ c3.out)))
      clear hmt hadd hT2 c1 c2
      go_wp2
      go_loop [5] (fun i => ∃ j : Nat, j ≤ k ∧ i = .int .i64 j) (fun i => (k - intOf i).toNat)
      case atStart => exact ⟨0, Nat.zero_le _, rfl⟩
      case round =>
        obtain ⟨j, hj, rfl⟩ := hrel
        by_cases hjk : j < k
        · have hjk' : (j : Int) < (k : Int) := by omega
          have hj19 : (j : Int) < 19 := by omega
          have d1 := c4.out j (by omega)
          have d2 := guard_c al j
          have d3 := eql_c (c5.out.below (below_drewN (Below.refl _ _) nq)) j k (by omega) hlt
          rw [c6.out, decide_eq_false (by omega)] at d3
          go_wp2
          go_round
          case rel => exact ⟨j + 1, by omega, by go_num⟩
          case measure => simp [intOf]; omega
        · have hjk' : decide ((j : Int) < (k : Int)) = false := decide_eq_false (by omega)
          go_wp2
          go_roundw
          case rel => exact ⟨k + 1, d + nq, by omega, by go_num, by rw [← hw.out, World.drewN_drewN]⟩
          case measure => simp [intOf]; omega
    · have hlt' : decide ((k : Int) < 19) = false := decide_eq_false (by omega)
      go_wp2
      go_ret
      exact ⟨rfl, below_drewN (below12 w al) d⟩
theorem walk (w : World) (hL : laidMetH Tryd.prog Rows.wholeNamesRow.laid w) :
    Calls Tryd.prog 4 #[] w fun e w' => e = .returned (.bool true) ∧ Below w.heap.size w w' := by
  obtain ⟨al, he, ht⟩ := errsT_of (W := w) hL
  exact walk0 w al he ht
end Go.Proofs.YtabkbhmjblfajabDoor.wholeNames
