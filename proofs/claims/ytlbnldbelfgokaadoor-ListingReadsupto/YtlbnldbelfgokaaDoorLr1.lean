/-
  timbreref16: number, line, Line.
-/
import Derived.Test.YtlbnldbelfgokaaDoorLs3
import Derived.Test.YtlbnldbelfgokaaDoorSd3
namespace Go.Proofs.YtlbnldbelfgokaaDoor
open Flo Go.RowKit
theorem dec_small {u : Nat} (h : u / 10 = 0) : Lib.decDigits u = [UInt8.ofNat (48 + u % 10)] := by
  rw [Lib.decDigits, dif_pos (by omega), Nat.mod_eq_of_lt (by omega)]
theorem dec_big {u : Nat} (h : ¬ u / 10 = 0) : Lib.decDigits u = Lib.decDigits (u / 10) ++ [UInt8.ofNat (48 + u % 10)] := by
  rw [Lib.decDigits, dif_neg (by omega)]
theorem dec_len {u : Nat} (h : u < 18446744073709551616) : (Lib.decDigits u).length ≤ 20 := by
  rw [Lib.decDigits_length]
  by_cases h1 : u < 10
  · rw [Lib.nDigits_small h1]; omega
  · have := Lib.numDigits_eq u (by omega) h
    split at this <;> omega
theorem conv1 (w : World) (q : Nat) (c : Nat) (hc : c < 256) (h : w.cell? ⟨q, 0, none⟩ = some (.int .u8 (c : Int))) : (convert 53 9 (.slice (some ⟨q, 0, none⟩) 1 1)).run Tryd.prog w = .ok (.string (txb [UInt8.ofNat c])) w := by
  have e : (UInt8.ofNat c).toNat = c := by rw [UInt8.toNat_ofNat']; omega
  have h9 := run_convert_bytes_back (P := Tryd.prog) w 53 9 5 ⟨q, 0, none⟩ 1 [UInt8.ofNat c] Tryd.underlying53 Tryd.underlying5 Tryd.underlying9 (fun j hj => by
    match j, hj with
    | 0, _ => simpa [Addr.add, e] using h)
  exact h9
set_option maxRecDepth 100000 in
set_option maxHeartbeats 4000000 in
theorem rnumber_c (n : Int) (hn : Li.In64 n) (w : World) :
    Calls Tryd.prog 48 #[.int .i64 n] w fun e w' => e = .returned (.string (txb (Lib.itoa n))) ∧ Below w.heap.size w w' := by
  obtain ⟨U, hU⟩ : ∃ U : Nat, U = n.natAbs := ⟨_, rfl⟩
  have hU64 : U ≤ 9223372036854775808 := by have := hn.1; have := hn.2; omega
  have hUl : Hid ((Lib.decDigits U).length ≤ 20) := dec_len (by omega)
  have tl : ∀ (a : Nat) (t : List UInt8), Lib.decDigits a ++ t = Lib.decDigits U → t.length ≤ 20 := fun a t h => by
    have h1 := congrArg List.length h
    have h2 := hUl.out
    rw [List.length_append] at h1; omega
  have tlH : Hid (∀ (a : Nat) (t : List UInt8), Lib.decDigits a ++ t = Lib.decDigits U → t.length ≤ 20) := tl
  clear tl
  have main : ∀ (neg : Bool), Lib.itoa n = (bif neg then [45] else []) ++ Lib.decDigits U → (bif neg then n < 0 else (0 : Int) ≤ n) →
      Calls Tryd.prog 48 #[.int .i64 n] w fun e w' => e = .returned (.string (txb (Lib.itoa n))) ∧ Below w.heap.size w w' := by
    intro neg hit hsg
    have hitH : Hid (Lib.itoa n = (bif neg then [45] else []) ++ Lib.decDigits U) := hit
    clear hit
    cases neg with
    | false =>
      have hge : 0 ≤ n := hsg
      have hlt : decide (n < 0) = false := decide_eq_false (by omega)
      have hcv : IntKind.u64.wrap n = (U : Int) := by rw [IntKind.wrap_u64]; omega
      clear hsg hn hU
      go_enter Tryd.func48, Tryd.ntmps48
      go_wp2
      go_loopw [3, 4] (fun x y wr => ∃ (a : Nat) (t : List UInt8), x = .int .u64 a ∧ y = .string (txb t) ∧ a ≤ 9223372036854775808 ∧ Hid (Lib.decDigits a ++ t = Lib.decDigits U) ∧ Hid (Below w.heap.size w wr)) (fun x _ _ => (intOf x).toNat)
      case atStart => exact ⟨U, [], rfl, rfl, hU64, by simp [Hid], Below.refl _ _⟩
      case round =>
        obtain ⟨a, t, rfl, rfl, ha, hat, Bk⟩ := hrel
        obtain ⟨d, hd⟩ : ∃ d : Nat, d = a % 10 := ⟨_, rfl⟩
        obtain ⟨q, hq⟩ : ∃ q : Nat, q = a / 10 := ⟨_, rfl⟩
        have e1 : (a : Int) % 10 = (d : Int) := by omega
        have e2 : (48 : Int) + (d : Int) = ((48 + d : Nat) : Int) := by omega
        have hd10 : Hid (d < 10) := by show _ < _; omega
        obtain ⟨c, hc⟩ : ∃ c : Nat, c = 48 + d := ⟨_, rfl⟩
        rw [← hc] at e2
        have e3 : IntKind.u64.wrap (c : Int) = (c : Int) := by rw [IntKind.wrap_u64]; omega
        have e4 : IntKind.u8.wrap (c : Int) = (c : Int) := by rw [IntKind.wrap_u8]; omega
        have e5 : (a : Int) / 10 = (q : Int) := by omega
        have hcv1 : ∀ W : World, W.cell? ⟨wr.heap.size, 0, none⟩ = some (.int .u8 (c : Int)) → (convert 53 9 (.slice (some ⟨wr.heap.size, 0, none⟩) 1 1)).run Tryd.prog W = .ok (.string (txb [UInt8.ofNat c])) W := fun W hW => conv1 W _ c (by have := hd10.out; omega) hW
        have hcv2 := hcv1 (wr.alloc (.cells #[.int .u8 (c : Int)] 5)) (by simp)
        have hsa : ∀ W : World, (Op.stringOp .add (txb [UInt8.ofNat c]) (txb t)).run Tryd.prog W = .ok (.string (txb (UInt8.ofNat c :: t))) W := fun W => sadd [UInt8.ofNat c] t W (by have := tlH.out a t hat.out; simp; omega)
        have Bn : Hid (Below w.heap.size w (wr.alloc (.cells #[.int .u8 (c : Int)] 5))) := Bk.out.alloc Bk.out.size _
        by_cases h0 : q = 0
        · have hfin : Hid (UInt8.ofNat c :: t = Lib.decDigits U) := by
            show _ = _
            rw [← hat.out, dec_small (by omega), hc, hd]; rfl
          have e6 : ((q : Int) == 0) = true := by rw [h0]; rfl
          clear hq hd hc h0 hat hcv1
          go_wp2
          go_ret
          exact ⟨by rw [hitH.out, ← hfin.out]; rfl, Bn.out⟩
        · have hne : Hid (Lib.decDigits q ++ (UInt8.ofNat c :: t) = Lib.decDigits U) := by
            show _ = _
            rw [← hat.out, dec_big (u := a) (by omega), hc, hd, hq, List.append_assoc]; rfl
          have e6 : ((q : Int) == 0) = false := beq_eq_false_iff_ne.2 (by omega)
          have hqa : q < a := by omega
          have hq9 : q ≤ 9223372036854775808 := by omega
          clear hd hc hat hcv1 hq
          go_wp2
          go_roundw
          case rel => exact ⟨q, _, rfl, rfl, by omega, hne, Bn⟩
          case measure => simp [intOf]; omega
    | true =>
      have hge : n < 0 := hsg
      have hcv : IntKind.u64.wrap n = 18446744073709551616 - (U : Int) := by rw [IntKind.wrap_u64]; omega
      have hng : IntKind.u64.wrap (-(18446744073709551616 - (U : Int))) = (U : Int) := by rw [IntKind.wrap_u64]; omega
      clear hsg hn hU
      go_enter Tryd.func48, Tryd.ntmps48
      go_wp2
      go_loopw [3, 4] (fun x y wr => ∃ (a : Nat) (t : List UInt8), x = .int .u64 a ∧ y = .string (txb t) ∧ a ≤ 9223372036854775808 ∧ Hid (Lib.decDigits a ++ t = Lib.decDigits U) ∧ Hid (Below w.heap.size w wr)) (fun x _ _ => (intOf x).toNat)
      case atStart => exact ⟨U, [], rfl, rfl, hU64, by simp [Hid], Below.refl _ _⟩
      case round =>
        obtain ⟨a, t, rfl, rfl, ha, hat, Bk⟩ := hrel
        obtain ⟨d, hd⟩ : ∃ d : Nat, d = a % 10 := ⟨_, rfl⟩
        obtain ⟨q, hq⟩ : ∃ q : Nat, q = a / 10 := ⟨_, rfl⟩
        have e1 : (a : Int) % 10 = (d : Int) := by omega
        have e2 : (48 : Int) + (d : Int) = ((48 + d : Nat) : Int) := by omega
        have hd10 : Hid (d < 10) := by show _ < _; omega
        obtain ⟨c, hc⟩ : ∃ c : Nat, c = 48 + d := ⟨_, rfl⟩
        rw [← hc] at e2
        have e3 : IntKind.u64.wrap (c : Int) = (c : Int) := by rw [IntKind.wrap_u64]; omega
        have e4 : IntKind.u8.wrap (c : Int) = (c : Int) := by rw [IntKind.wrap_u8]; omega
        have e5 : (a : Int) / 10 = (q : Int) := by omega
        have hcv1 : ∀ W : World, W.cell? ⟨wr.heap.size, 0, none⟩ = some (.int .u8 (c : Int)) → (convert 53 9 (.slice (some ⟨wr.heap.size, 0, none⟩) 1 1)).run Tryd.prog W = .ok (.string (txb [UInt8.ofNat c])) W := fun W hW => conv1 W _ c (by have := hd10.out; omega) hW
        have hcv2 := hcv1 (wr.alloc (.cells #[.int .u8 (c : Int)] 5)) (by simp)
        have hsa : ∀ W : World, (Op.stringOp .add (txb [UInt8.ofNat c]) (txb t)).run Tryd.prog W = .ok (.string (txb (UInt8.ofNat c :: t))) W := fun W => sadd [UInt8.ofNat c] t W (by have := tlH.out a t hat.out; simp; omega)
        have Bn : Hid (Below w.heap.size w (wr.alloc (.cells #[.int .u8 (c : Int)] 5))) := Bk.out.alloc Bk.out.size _
        by_cases h0 : q = 0
        · have hfin : Hid (UInt8.ofNat c :: t = Lib.decDigits U) := by
            show _ = _
            rw [← hat.out, dec_small (by omega), hc, hd]; rfl
          have e6 : ((q : Int) == 0) = true := by rw [h0]; rfl
          clear hq hd hc h0 hat hcv1
          have hsb : ∀ W : World, (Op.stringOp .add ⟨#[45]⟩ (txb (UInt8.ofNat c :: t))).run Tryd.prog W = .ok (.string (txb (45 :: UInt8.ofNat c :: t))) W := fun W => sadd [45] (UInt8.ofNat c :: t) W (by rw [hfin.out]; have := hUl.out; simp; omega)
          go_wp2
          go_ret
          exact ⟨by rw [hitH.out, ← hfin.out]; rfl, Bn.out⟩
        · have hne : Hid (Lib.decDigits q ++ (UInt8.ofNat c :: t) = Lib.decDigits U) := by
            show _ = _
            rw [← hat.out, dec_big (u := a) (by omega), hc, hd, hq, List.append_assoc]; rfl
          have e6 : ((q : Int) == 0) = false := beq_eq_false_iff_ne.2 (by omega)
          have hqa : q < a := by omega
          have hq9 : q ≤ 9223372036854775808 := by omega
          clear hd hc hat hcv1 hq
          go_wp2
          go_roundw
          case rel => exact ⟨q, _, rfl, rfl, by omega, hne, Bn⟩
          case measure => simp [intOf]; omega
  unfold Lib.itoa at main ⊢
  by_cases h : n < 0
  · rw [if_pos h] at main ⊢
    exact main true (by rw [hU]; rfl) h
  · rw [if_neg h] at main ⊢
    exact main false (by rw [show n.toNat = U by omega]; rfl) (by simp; omega)
/-- what Line answers, by the document -/
def rlv (s : Sp.St) : Value := bif Sp.fm s then .tuple #[.string (txb (lin s)), .int .i64 0] else .tuple #[.string (txb []), .int .i64 9]
end Go.Proofs.YtlbnldbelfgokaaDoor
