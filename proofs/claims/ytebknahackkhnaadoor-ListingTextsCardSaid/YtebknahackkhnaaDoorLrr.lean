/-
  timbreref16: number, line, Line.
-/
import Derived.Test.YtebknahackkhnaaDoorLs3
import Derived.Test.YtebknahackkhnaaDoorSd3
import Derived.Test.YtebknahackkhnaaDoorSlv
import Derived.Lib.SlBytesConst
namespace Go.Proofs.YtebknahackkhnaaDoor
open Flo Go.RowKit
theorem dec_small {u : Nat} (h : u / 10 = 0) : Lib.decDigits u = [UInt8.ofNat (48 + u % 10)] := by
  rw [Lib.decDigits, dif_pos (by omega), Nat.mod_eq_of_lt (by omega)]
theorem dec_big {u : Nat} (h : ¬ u / 10 = 0) : Lib.decDigits u = Lib.decDigits (u / 10) ++ [UInt8.ofNat (48 + u % 10)] := by
  rw [Lib.decDigits, dif_neg (by omega)]
theorem dec_len {u : Nat} (h : u < 18446744073709551616) : (Lib.decDigits u).length ≤ 20 := by
  rw [Lib.decDigits_length]
  by_cases h1 : u < 10
  · rw [Lib.nDigits_small h1]; omega
  · have := Lib.numDigits_eq u (by omega) h
    split at this <;> omega
theorem conv1 (w : World) (q : Nat) (c : Nat) (hc : c < 256) (h : w.cell? ⟨q, 0, none⟩ = some (.int .u8 (c : Int))) : (convert 48 9 (.slice (some ⟨q, 0, none⟩) 1 1)).run Tryd.prog w = .ok (.string (txb [UInt8.ofNat c])) w := by
  have e : (UInt8.ofNat c).toNat = c := by rw [UInt8.toNat_ofNat']; omega
  have h9 := run_convert_bytes_back (P := Tryd.prog) w 48 9 5 ⟨q, 0, none⟩ 1 [UInt8.ofNat c] Tryd.underlying48 Tryd.underlying5 Tryd.underlying9 (fun j hj => by
    match j, hj with
    | 0, _ => simpa [Addr.add, e] using h)
  exact h9
set_option maxRecDepth 100000 in
set_option maxHeartbeats 4000000 in
theorem rnumber_c (n : Int) (hn : Li.In64 n) (w : World) :
    Calls Tryd.prog 21 #[.int .i64 n] w fun e w' => e = .returned (.string (txb (Lib.itoa n))) ∧ Below w.heap.size w w' := by
  obtain ⟨U, hU⟩ : ∃ U : Nat, U = n.natAbs := ⟨_, rfl⟩
  have hU64 : U ≤ 9223372036854775808 := by have := hn.1; have := hn.2; omega
  have hUl : Hid ((Lib.decDigits U).length ≤ 20) := dec_len (by omega)
  have tl : ∀ (a : Nat) (t : List UInt8), Lib.decDigits a ++ t = Lib.decDigits U → t.length ≤ 20 := fun a t h => by
    have h1 := congrArg List.length h
    have h2 := hUl.out
    rw [List.length_append] at h1; omega
  have tlH : Hid (∀ (a : Nat) (t : List UInt8), Lib.decDigits a ++ t = Lib.decDigits U → t.length ≤ 20) := tl
  clear tl
  have main : ∀ (neg : Bool), Lib.itoa n = (bif neg then [45] else []) ++ Lib.decDigits U → (bif neg then n < 0 else (0 : Int) ≤ n) →
      Calls Tryd.prog 21 #[.int .i64 n] w fun e w' => e = .returned (.string (txb (Lib.itoa n))) ∧ Below w.heap.size w w' := by
    intro neg hit hsg
    have hitH : Hid (Lib.itoa n = (bif neg then [45] else []) ++ Lib.decDigits U) := hit
    clear hit
    cases neg with
    | false =>
      have hge : 0 ≤ n := hsg
      have hlt : decide (n < 0) = false := decide_eq_false (by omega)
      have hcv : IntKind.u64.wrap n = (U : Int) := by rw [IntKind.wrap_u64]; omega
      clear hsg hn hU
      go_enter Tryd.func21, Tryd.ntmps21
      go_wp2
      go_loopw [3, 4] (fun x y wr => ∃ (a : Nat) (t : List UInt8), x = .int .u64 a ∧ y = .string (txb t) ∧ a ≤ 9223372036854775808 ∧ Hid (Lib.decDigits a ++ t = Lib.decDigits U) ∧ Hid (Below w.heap.size w wr)) (fun x _ _ => (intOf x).toNat)
      case atStart => exact ⟨U, [], rfl, rfl, hU64, by simp [Hid], Below.refl _ _⟩
      case round =>
        obtain ⟨a, t, rfl, rfl, ha, hat, Bk⟩ := hrel
        obtain ⟨d, hd⟩ : ∃ d : Nat, d = a % 10 := ⟨_, rfl⟩
        obtain ⟨q, hq⟩ : ∃ q : Nat, q = a / 10 := ⟨_, rfl⟩
        have e1 : (a : Int) % 10 = (d : Int) := by omega
        have e2 : (48 : Int) + (d : Int) = ((48 + d : Nat) : Int) := by omega
        have hd10 : Hid (d < 10) := by show _ < _; omega
        obtain ⟨c, hc⟩ : ∃ c : Nat, c = 48 + d := ⟨_, rfl⟩
        rw [← hc] at e2
        have e3 : IntKind.u64.wrap (c : Int) = (c : Int) := by rw [IntKind.wrap_u64]; omega
        have e4 : IntKind.u8.wrap (c : Int) = (c : Int) := by rw [IntKind.wrap_u8]; omega
        have e5 : (a : Int) / 10 = (q : Int) := by omega
        have hcv1 : ∀ W : World, W.cell? ⟨wr.heap.size, 0, none⟩ = some (.int .u8 (c : Int)) → (convert 48 9 (.slice (some ⟨wr.heap.size, 0, none⟩) 1 1)).run Tryd.prog W = .ok (.string (txb [UInt8.ofNat c])) W := fun W hW => conv1 W _ c (by have := hd10.out; omega) hW
        have hcv2 := hcv1 (wr.alloc (.cells #[.int .u8 (c : Int)] 5)) (by simp)
        have hsa : ∀ W : World, (Op.stringOp .add (txb [UInt8.ofNat c]) (txb t)).run Tryd.prog W = .ok (.string (txb (UInt8.ofNat c :: t))) W := fun W => sadd [UInt8.ofNat c] t W (by have := tlH.out a t hat.out; simp; omega)
        have Bn : Hid (Below w.heap.size w (wr.alloc (.cells #[.int .u8 (c : Int)] 5))) := Bk.out.alloc Bk.out.size _
        by_cases h0 : q = 0
        · have hfin : Hid (UInt8.ofNat c :: t = Lib.decDigits U) := by
            show _ = _
            rw [← hat.out, dec_small (by omega), hc, hd]; rfl
          have e6 : ((q : Int) == 0) = true := by rw [h0]; rfl
          clear hq hd hc h0 hat hcv1
          go_wp2
          go_ret
          exact ⟨by rw [hitH.out, ← hfin.out]; rfl, Bn.out⟩
        · have hne : Hid (Lib.decDigits q ++ (UInt8.ofNat c :: t) = Lib.decDigits U) := by
            show _ = _
            rw [← hat.out, dec_big (u := a) (by omega), hc, hd, hq, List.append_assoc]; rfl
          have e6 : ((q : Int) == 0) = false := beq_eq_false_iff_ne.2 (by omega)
          have hqa : q < a := by omega
          have hq9 : q ≤ 9223372036854775808 := by omega
          clear hd hc hat hcv1 hq
          go_wp2
          go_roundw
          case rel => exact ⟨q, _, rfl, rfl, by omega, hne, Bn⟩
          case measure => simp [intOf]; omega
    | true =>
      have hge : n < 0 := hsg
      have hcv : IntKind.u64.wrap n = 18446744073709551616 - (U : Int) := by rw [IntKind.wrap_u64]; omega
      have hng : IntKind.u64.wrap (-(18446744073709551616 - (U : Int))) = (U : Int) := by rw [IntKind.wrap_u64]; omega
      clear hsg hn hU
      go_enter Tryd.func21, Tryd.ntmps21
      go_wp2
      go_loopw [3, 4] (fun x y wr => ∃ (a : Nat) (t : List UInt8), x = .int .u64 a ∧ y = .string (txb t) ∧ a ≤ 9223372036854775808 ∧ Hid (Lib.decDigits a ++ t = Lib.decDigits U) ∧ Hid (Below w.heap.size w wr)) (fun x _ _ => (intOf x).toNat)
      case atStart => exact ⟨U, [], rfl, rfl, hU64, by simp [Hid], Below.refl _ _⟩
      case round =>
        obtain ⟨a, t, rfl, rfl, ha, hat, Bk⟩ := hrel
        obtain ⟨d, hd⟩ : ∃ d : Nat, d = a % 10 := ⟨_, rfl⟩
        obtain ⟨q, hq⟩ : ∃ q : Nat, q = a / 10 := ⟨_, rfl⟩
        have e1 : (a : Int) % 10 = (d : Int) := by omega
        have e2 : (48 : Int) + (d : Int) = ((48 + d : Nat) : Int) := by omega
        have hd10 : Hid (d < 10) := by show _ < _; omega
        obtain ⟨c, hc⟩ : ∃ c : Nat, c = 48 + d := ⟨_, rfl⟩
        rw [← hc] at e2
        have e3 : IntKind.u64.wrap (c : Int) = (c : Int) := by rw [IntKind.wrap_u64]; omega
        have e4 : IntKind.u8.wrap (c : Int) = (c : Int) := by rw [IntKind.wrap_u8]; omega
        have e5 : (a : Int) / 10 = (q : Int) := by omega
        have hcv1 : ∀ W : World, W.cell? ⟨wr.heap.size, 0, none⟩ = some (.int .u8 (c : Int)) → (convert 48 9 (.slice (some ⟨wr.heap.size, 0, none⟩) 1 1)).run Tryd.prog W = .ok (.string (txb [UInt8.ofNat c])) W := fun W hW => conv1 W _ c (by have := hd10.out; omega) hW
        have hcv2 := hcv1 (wr.alloc (.cells #[.int .u8 (c : Int)] 5)) (by simp)
        have hsa : ∀ W : World, (Op.stringOp .add (txb [UInt8.ofNat c]) (txb t)).run Tryd.prog W = .ok (.string (txb (UInt8.ofNat c :: t))) W := fun W => sadd [UInt8.ofNat c] t W (by have := tlH.out a t hat.out; simp; omega)
        have Bn : Hid (Below w.heap.size w (wr.alloc (.cells #[.int .u8 (c : Int)] 5))) := Bk.out.alloc Bk.out.size _
        by_cases h0 : q = 0
        · have hfin : Hid (UInt8.ofNat c :: t = Lib.decDigits U) := by
            show _ = _
            rw [← hat.out, dec_small (by omega), hc, hd]; rfl
          have e6 : ((q : Int) == 0) = true := by rw [h0]; rfl
          clear hq hd hc h0 hat hcv1
          have hsb : ∀ W : World, (Op.stringOp .add ⟨#[45]⟩ (txb (UInt8.ofNat c :: t))).run Tryd.prog W = .ok (.string (txb (45 :: UInt8.ofNat c :: t))) W := fun W => sadd [45] (UInt8.ofNat c :: t) W (by rw [hfin.out]; have := hUl.out; simp; omega)
          go_wp2
          go_ret
          exact ⟨by rw [hitH.out, ← hfin.out]; rfl, Bn.out⟩
        · have hne : Hid (Lib.decDigits q ++ (UInt8.ofNat c :: t) = Lib.decDigits U) := by
            show _ = _
            rw [← hat.out, dec_big (u := a) (by omega), hc, hd, hq, List.append_assoc]; rfl
          have e6 : ((q : Int) == 0) = false := beq_eq_false_iff_ne.2 (by omega)
          have hqa : q < a := by omega
          have hq9 : q ≤ 9223372036854775808 := by omega
          clear hd hc hat hcv1 hq
          go_wp2
          go_roundw
          case rel => exact ⟨q, _, rfl, rfl, by omega, hne, Bn⟩
          case measure => simp [intOf]; omega
  unfold Lib.itoa at main ⊢
  by_cases h : n < 0
  · rw [if_pos h] at main ⊢
    exact main true (by rw [hU]; rfl) h
  · rw [if_neg h] at main ⊢
    exact main false (by rw [show n.toNat = U by omega]; rfl) (by simp; omega)
set_option maxHeartbeats 8000000 in
set_option maxRecDepth 100000 in
theorem rline_c (s : Sp.St) (hfm : Sp.fm s = true) (w : World) :
    Calls Tryd.prog 23 #[sv s] w fun e w' => e = .returned (.string (txb (lin s))) ∧ Below w.heap.size w w' := by
  obtain ⟨b0, hb0⟩ : ∃ b, Hid (w.heap.size = b) := ⟨_, (rfl : _ = _)⟩
  obtain ⟨w1, ew1⟩ : ∃ wa, Hid (w.alloc (.cells #[.int .i64 s.op, .int .i64 s.dst, .int .i64 s.src, .int .i64 s.jump, .int .i64 s.count, .int .i64 s.n, .int .i64 s.k] 26) = wa) := ⟨_, (rfl : _ = _)⟩
  have B1 : Hid (Below w.heap.size w w1) := by rw [← ew1.out]; exact (Below.refl _ _).alloc (Nat.le_refl _) _
  have X1 : Hid (Bst w1 b0 s.op s.dst s.src s.jump s.count s.n s.k) := by show Bst _ _ _ _ _ _ _ _ _; rw [← ew1.out, ← hb0.out]; exact Bst.new w _ _ _ _ _ _ _
  have hfH : Hid (Sp.fm s = true) := hfm
  have hnm : Hid (Calls Tryd.prog 36 #[.int .i64 s.op] w1 fun e w' => e = .returned (.tuple #[.string (nmk s.op), .bool (Sp.kn s.op)]) ∧ Below w1.heap.size w1 w') := dname_c s.op w1
  clear hfm
  unfold sv sva at *
  go_enter Tryd.func23, Tryd.ntmps23
  go_upto_region 1 with fail
  rw [ew1.out, hb0.out]
  have y0 := X1.out.c0
  go_wp2_with fail
  refine hnm.out.mono ?_
  rintro e w3 ⟨rfl, B3⟩
  have B3H : Hid (Below w.heap.size w w3) := B1.out.trans (B3.mono B1.out.size)
  obtain ⟨y0', y1, y2, y3, y4, y5, y6⟩ := X1.out.below B3
  clear B3 hnm y0 X1 B1
  have hst : Hid (nmk s.op = txb (linK s 0)) := by
    obtain ⟨⟨h1, h2⟩, _⟩ := Sp.fm_fields hfH.out
    show _ = _
    unfold nmk linK
    rw [Sp.kn_iff.2 ⟨h1, h2⟩]
    simp [Li.encf]
    rfl
  rw [hst.out]
  obtain ⟨w4, ew4⟩ : ∃ wa, Hid (w3.alloc (.cells #[.int .i64 s.dst, .int .i64 s.src, .int .i64 s.jump, .int .i64 s.count, .int .i64 s.n, .int .i64 s.k] 3) = wa) := ⟨_, (rfl : _ = _)⟩
  obtain ⟨bl, hbl⟩ : ∃ b, Hid (w3.heap.size = b) := ⟨_, (rfl : _ = _)⟩
  have B4 : Hid (Below w.heap.size w w4) := by rw [← ew4.out]; exact B3H.out.alloc B3H.out.size _
  have C4 : Hid (∀ k, k < 6 → w4.cell? ⟨bl, k, none⟩ = some (.int .i64 ((Sp.nl s).getD k 0))) := fun k hk => by
    rw [← ew4.out, ← hbl.out]
    match k, hk with
    | 0, _ => simp [Sp.nl]
    | 1, _ => simp [Sp.nl]
    | 2, _ => simp [Sp.nl]
    | 3, _ => simp [Sp.nl]
    | 4, _ => simp [Sp.nl]
    | 5, _ => simp [Sp.nl]
  go_wp2
  rw [ew4.out, hbl.out]
  clear y0' y1 y2 y3 y4 y5 y6
  go_loopw [27, 3] (fun i u wr => ∃ k : Nat, k ≤ 6 ∧ i = .int .i64 k ∧ u = .string (txb (linK s k)) ∧ Hid (Below w.heap.size w wr) ∧ Hid (∀ k, k < 6 → wr.cell? ⟨bl, k, none⟩ = some (.int .i64 ((Sp.nl s).getD k 0)))) (fun i _ _ => 6 - (intOf i).toNat)
  case atStart => exact ⟨0, by decide, rfl, rfl, B4, C4⟩
  case round =>
    obtain ⟨k, hk, rfl, rfl, Bk, Ck⟩ := hrel
    by_cases hlt : k < 6
    · have hlt' : (k : Int) < 6 := by omega
      have hc := Ck.out k hlt
      have hin : Hid (Li.In64 ((Sp.nl s).getD k 0)) := nl_in hfH.out k hlt
      have hsu := linK_succ s k hlt
      have hlc : Hid ((⟨#[100, 115, 106, 99, 110, 107]⟩ : ByteArray).extract k (k + 1) = txb [ltr.getD k 0]) := ltr_cut k hlt
      generalize (Sp.nl s).getD k 0 = x at *
      by_cases hx : x = 0
      · have hx' : (x != 0) = false := by rw [hx]; rfl
        have hsuH : Hid (linK s (k + 1) = linK s k) := by rw [hsu, if_pos hx, List.append_nil]; exact (rfl : _ = _)
        clear hsu hx
        go_wp2
        go_roundw
        case rel => exact ⟨k + 1, by omega, by go_num, by rw [hsuH.out], Bk, Ck⟩
        case measure => simp [intOf]; omega
      · have hx' : (x != 0) = true := bne_iff_ne.2 hx
        have hsuH : Hid (linK s (k + 1) = linK s k ++ 32 :: ltr.getD k 0 :: Lib.itoa x) := by rw [hsu, if_neg hx]; exact (rfl : _ = _)
        have hit : Hid (∀ W, Calls Tryd.prog 21 #[.int .i64 x] W fun e w' => e = .returned (.string (txb (Lib.itoa x))) ∧ Below W.heap.size W w') := fun W => rnumber_c x hin.out W
        clear hsu hx
        have hk0 : (0 : Int) ≤ (k : Int) := by omega
        have hk1 : (k : Int) + 1 ≤ 6 := by omega
        have hkw : IntKind.i64.wrap ((k : Int) + 1) = (k : Int) + 1 := by rw [IntKind.wrap_i64]; omega
        obtain ⟨c, hc9⟩ := hid_ex3 (ltr.getD k 0)
        have hsl : ∀ W : World, (Instr.slice 9 (.string ⟨#[100, 115, 106, 99, 110, 107]⟩) (some (.int .i64 (k : Int))) (some (.int .i64 ((k : Int) + 1))) none).run Tryd.prog W = .ok (.string (txb [c])) W := fun W => by
          have h9 := run_slice_string (P := Tryd.prog) W 9 ⟨#[100, 115, 106, 99, 110, 107]⟩ .i64 .i64 (k : Int) ((k : Int) + 1) Tryd.underlying9 hk0 (by omega) (by show (k : Int) + 1 ≤ 6; exact hk1)
          rw [h9, show ((k : Int)).toNat = k by omega, show ((k : Int) + 1).toNat = k + 1 by omega, hlc.out, hc9.out]
        rw [hc9.out] at hsuH
        obtain ⟨X, hX⟩ := hid_ex3 (txb (Lib.itoa x))
        obtain ⟨Y, hY⟩ := hid_ex3 (txb (linK s k))
        obtain ⟨C, hC⟩ := hid_ex3 (txb [c])
        have hil : (Lib.itoa x).length ≤ 21 := Lib.itoa_length_le x hin.out.1 hin.out.2
        have hll := linK_len hfH.out k
        have a1 : ∀ W : World, (Op.stringOp .add ⟨#[32]⟩ C).run Tryd.prog W = .ok (.string (txb [32, c])) W := fun W => by rw [← hC.out]; exact sadd [32] [c] W (by simp)
        have a2 : ∀ W : World, (Op.stringOp .add (txb [32, c]) X).run Tryd.prog W = .ok (.string (txb (32 :: c :: Lib.itoa x))) W := fun W => by rw [← hX.out]; exact sadd [32, c] (Lib.itoa x) W (by simp; omega)
        obtain ⟨Z, hZ⟩ := hid_ex3 (txb (32 :: c :: Lib.itoa x))
        obtain ⟨D, hD⟩ := hid_ex3 (txb [32, c])
        have a3 : ∀ W : World, (Op.stringOp .add Y Z).run Tryd.prog W = .ok (.string (txb (linK s (k + 1)))) W := fun W => by rw [← hY.out, ← hZ.out, hsuH.out]; exact sadd (linK s k) (32 :: c :: Lib.itoa x) W (by simp; omega)
        rw [hZ.out, hD.out] at a2
        rw [hD.out] at a1
        rw [hX.out] at hit
        rw [hC.out] at hsl
        rw [hY.out]
        clear hil hll hX hY hC hZ hD hc9 hlc hsuH
        go_wp2
        go_region_with (first
          | (go_at_call 21
             refine (hit.out wr.drew).mono ?_
             rintro e w5 ⟨rfl, B5⟩
             have B5H : Hid (Below wr.heap.size wr w5) := (Below.refl _ _).drew.trans B5
             clear B5))
        all_goals (
          go_wp2
          go_roundw
          case rel => exact ⟨k + 1, by omega, by go_num, rfl, Bk.out.trans (B5H.out.mono Bk.out.size), fun j hj => (B5H.out.cell (cell_lt (Ck.out j hj))).trans (Ck.out j hj)⟩
          case measure => simp [intOf]; omega)
    · have hlt' : decide ((k : Int) < 6) = false := decide_eq_false (by omega)
      have hk6 : k = 6 := by omega
      go_wp2
      go_ret
      exact ⟨by rw [hk6, linK_six]; rfl, Bk.out⟩
/-- what Line answers, by the document -/
def rlv (s : Sp.St) : Value := bif Sp.fm s then .tuple #[.string (txb (lin s)), .int .i64 0] else .tuple #[.string (txb []), .int .i64 9]
set_option maxHeartbeats 4000000 in
set_option maxRecDepth 100000 in
theorem rLine_c (s : Sp.St) (w : World) :
    Calls Tryd.prog 13 #[sv s] w fun e w' => e = .returned (rlv s) ∧ Below w.heap.size w w' := by
  obtain ⟨b0, hb0⟩ : ∃ b, Hid (w.heap.size = b) := ⟨_, (rfl : _ = _)⟩
  obtain ⟨w1, ew1⟩ : ∃ wa, Hid (w.alloc (.cells #[.int .i64 s.op, .int .i64 s.dst, .int .i64 s.src, .int .i64 s.jump, .int .i64 s.count, .int .i64 s.n, .int .i64 s.k] 26) = wa) := ⟨_, (rfl : _ = _)⟩
  have B1 : Hid (Below w.heap.size w w1) := by rw [← ew1.out]; exact (Below.refl _ _).alloc (Nat.le_refl _) _
  have X1 : Hid (Bst w1 b0 s.op s.dst s.src s.jump s.count s.n s.k) := by show Bst _ _ _ _ _ _ _ _ _; rw [← ew1.out, ← hb0.out]; exact Bst.new w _ _ _ _ _ _ _
  have hfo : Hid (Calls Tryd.prog 22 #[sv s] w1 fun e w' => e = .returned (.int .i64 (fnn (Sp.fm s))) ∧ Below w1.heap.size w1 w') := dform_c s w1
  have hli : Hid (Sp.fm s = true → ∀ W, Calls Tryd.prog 23 #[sv s] W fun e w' => e = .returned (.string (txb (lin s))) ∧ Below W.heap.size W w') := fun h W => rline_c s h W
  unfold sv sva at *
  go_enter Tryd.func13, Tryd.ntmps13
  go_upto_region 1 with fail
  rw [ew1.out, hb0.out]
  obtain ⟨y0, y1, y2, y3, y4, y5, y6⟩ := X1.out
  go_wp2_with fail
  refine hfo.out.mono ?_
  rintro e w2 ⟨rfl, B2⟩
  have B2H : Hid (Below w.heap.size w w2) := B1.out.trans (B2.mono B1.out.size)
  have X2 : Hid (Bst w2 b0 s.op s.dst s.src s.jump s.count s.n s.k) := X1.out.below B2
  clear B2 hfo y0 y1 y2 y3 y4 y5 y6 X1 B1
  cases hfm : Sp.fm s with
  | false =>
    have e0 : fnn false = 9 := rfl
    have hv : Hid (rlv s = .tuple #[.string (txb []), .int .i64 9]) := by unfold rlv; rw [hfm]; exact (rfl : _ = _)
    go_wp2
    go_ret2
    exact ⟨by rw [hv.out]; rfl, B2H.out⟩
  | true =>
    have e0 : fnn true = 0 := rfl
    have hv : Hid (rlv s = .tuple #[.string (txb (lin s)), .int .i64 0]) := by unfold rlv; rw [hfm]; exact (rfl : _ = _)
    have hl2 : Hid (Calls Tryd.prog 23 #[.agg #[.int .i64 s.op, .int .i64 s.dst, .int .i64 s.src, .int .i64 s.jump, .int .i64 s.count, .int .i64 s.n, .int .i64 s.k]] w2 fun e w' => e = .returned (.string (txb (lin s))) ∧ Below w2.heap.size w2 w') := hli.out hfm w2
    obtain ⟨y0, y1, y2, y3, y4, y5, y6⟩ := X2.out
    clear hli
    go_wp2_with fail
    refine hl2.out.mono ?_
    rintro e w3 ⟨rfl, B3⟩
    have B3H : Hid (Below w.heap.size w w3) := B2H.out.trans (B3.mono B2H.out.size)
    clear B3 hl2
    go_wp2
    go_ret2
    exact ⟨by rw [hv.out]; rfl, B3H.out⟩
end Go.Proofs.YtebknahackkhnaaDoor
/-
  timbreref16: Text.
-/
namespace Go.Proofs.YtebknahackkhnaaDoor
open Flo Go.RowKit
/-- bytes in a row of one's own -/
def Ro (w : World) (B : Nat) (v : Value) (l : List UInt8) : Prop := w.ownsRow B 5 1 v l.length (Lib.byteCells l)
theorem Ro.conv {w : World} {B : Nat} {v : Value} {l : List UInt8} (h : Ro w B v l) : (convert 48 9 v).run Tryd.prog w = .ok (.string (txb l)) w := by
  rcases h.2 with ⟨rfl, h1⟩ | ⟨g, cap, cur, rfl, _⟩
  · rw [List.eq_nil_of_length_eq_zero h1]; kernel_rfl
  · refine run_convert_bytes_back (P := Tryd.prog) w 48 9 5 ⟨g, 0, none⟩ cap l Tryd.underlying48 Tryd.underlying5 Tryd.underlying9 (fun j hj => ?_)
    have h1 := World.ownsRow.cellAt h j (by omega)
    rw [add_s, Nat.zero_add, h1]
    simp [Lib.byteCells, hj]
theorem Ro.slice {w : World} {B : Nat} {v : Value} {l : List UInt8} (h : Ro w B v l) : ∃ ao cap, v = .slice ao l.length cap := owns_slice h
theorem appR {ops : Array Oper} {rest : List Oper} {o : Oper} {a : Act} {Q : Exit → Act → World → Prop} (w : World) (hgd : o.guard = none) (sl x : Operand)
    (ho : o.op = .call { callee := .builtin .append, args := #[sl, x], argTypes := #[48, 9] })
    (B : Nat) (v : Value) (l m : List UInt8) (hs : a.eval sl = v) (hx : a.eval x = .string (txb m)) (hrow : Ro w B v l) (hk : l.length + m.length ≤ 140737488355328) (hB : B ≤ w.heap.size)
    (h : ∀ v' w', Ro w' B v' (l ++ m) → w.grownBy w' v.ownBlock → wpList Tryd.prog ops Q rest (a.put o.dst v') w') : wpList Tryd.prog ops Q (o :: rest) a w := by
  obtain ⟨i0, hi, hz0, hz1, hz2⟩ := info_parts infoBy
  refine Lib.wpList_append_own_string w hgd sl x 48 9 ho B 5 i0 Tryd.underlying48 Tryd.underlying9 hi hz0 hz1 hz2 v l.length _ hs hrow (txb m) hx (by unfold maxLen; rw [txb_size]; omega) (by rw [txb_size]; omega) hB ?_
  intro v' w' h1 h2 _
  refine h v' w' ?_ h2
  unfold Ro
  rw [List.length_append, Lib.byteCells_append]
  exact h1
theorem appRb {ops : Array Oper} {rest : List Oper} {o : Oper} {a : Act} {Q : Exit → Act → World → Prop} (w : World) (hgd : o.guard = none) (sl x : Operand)
    (ho : o.op = .call { callee := .builtin .append, args := #[sl, x], argTypes := #[48, 48] })
    (B q : Nat) (v : Value) (l : List UInt8) (c : UInt8) (hs : a.eval sl = v) (hx : a.eval x = .slice (some ⟨q, 0, none⟩) 1 1) (hc : w.cell? ⟨q, 0, none⟩ = some (.int .u8 (c.toNat : Int))) (hrow : Ro w B v l) (hk : l.length + 1 ≤ 140737488355328) (hB : B ≤ w.heap.size)
    (h : ∀ v' w', Ro w' B v' (l ++ [c]) → w.grownBy w' v.ownBlock → wpList Tryd.prog ops Q rest (a.put o.dst v') w') : wpList Tryd.prog ops Q (o :: rest) a w := by
  obtain ⟨i0, hi, hz0, hz1, hz2⟩ := info_parts infoBy
  refine wpList_append_fr w hgd sl x 48 ho B 5 i0 (.int .u8 0) 1 1 Tryd.underlying48 hi hz0 hz1 hz2 rfl (by decide) v l.length _ hs hrow ⟨q, 0, none⟩ 1 1 [.int .u8 (c.toNat : Int)] hx rfl ?_ ?_ ?_ ?_ hB ?_
  · intro j u hj
    match j, hj with
    | 0, hj => simp at hj; subst hj; simpa [Addr.add] using hc
  · intro u hu; simp at hu; subst hu; rfl
  · unfold maxLen; omega
  · omega
  · intro v' w' h1 h2 _
    refine h v' w' ?_ h2
    unfold Ro
    rw [List.length_append, Lib.byteCells_append]
    exact h1
/-- what Text answers, by the document -/
def rtv (p : Sp.Pg) : Value := bif p.steps.all Sp.fm then .tuple #[.string (txb (ltx p)), .int .i64 0] else .tuple #[.string (txb []), .int .i64 9]
/-- Text's memory -/
structure TR (p : Sp.Pg) (sv : Value) (w w1 wr : World) (bp B : Nat) (v : Value) (l : List UInt8) : Prop where
  ro : Ro wr B v l
  b1 : Below B w1 wr
  be : Below w.heap.size w wr
  pg : Bpg wr bp p sv
  sz : B ≤ wr.heap.size
section
variable {p : Sp.Pg} {sv v v' : Value} {w w1 wr wx : World} {bp B : Nat} {l m : List UInt8}
theorem TR.call (h : TR p sv w w1 wr bp B v l) (hb : Below wr.heap.size wr wx) : TR p sv w w1 wx bp B v l :=
  ⟨owns_block h.ro fun g hg => hb.block g (World.ownsRow.lt h.ro g hg).2, h.b1.trans (hb.mono h.sz), h.be.trans (hb.mono h.be.size), h.pg.below hb, Nat.le_trans h.sz hb.size⟩
theorem TR.grow (h : TR p sv w w1 wr bp B v l) (hd : Ro wx B v' m) (hg : wr.grownBy wx v.ownBlock) (h1 : w.heap.size ≤ B) (h2 : bp < B) : TR p sv w w1 wx bp B v' m := by
  have hb : Below B wr wx := (Below.refl _ _).grown hg h.sz fun b hb => (World.ownsRow.lt h.ro b hb).1
  refine ⟨hd, h.b1.trans hb, h.be.trans (hb.mono h1), ?_, Nat.le_trans h.sz hb.size⟩
  exact ⟨(hb.cell (p := ⟨bp, 0, none⟩) h2).trans h.pg.c0, (hb.cell (p := ⟨bp, 1, none⟩) h2).trans h.pg.c1, (hb.cell (p := ⟨bp, 2, none⟩) h2).trans h.pg.c2, (hb.cell (p := ⟨bp, 3, none⟩) h2).trans h.pg.c3, (hb.cell (p := ⟨bp, 4, none⟩) h2).trans h.pg.c4⟩
end
/-- the list of the head's numbers, at a block -/
def Hl (w : World) (b : Nat) (p : Sp.Pg) : Prop := w.heap[b]? = some (.cells #[.int .i64 p.len, .int .i64 p.cells, .int .i64 p.inn, .int .i64 p.out] 3 (0, 0))
theorem Hl.cell {w : World} {b : Nat} {p : Sp.Pg} (h : Hl w b p) (k : Nat) (hk : k < 4) : w.cell? ⟨b, k, none⟩ = some (.int .i64 ((Sp.hd p).getD k 0)) := by
  rw [Lib.cell_of_heap h]
  match k, hk with
  | 0, _ => rfl
  | 1, _ => rfl
  | 2, _ => rfl
  | 3, _ => rfl
theorem Hl.lt {w : World} {b : Nat} {p : Sp.Pg} (h : Hl w b p) : b < w.heap.size := cell_lt (h.cell 0 (by decide))
theorem Hl.below {w w' : World} {b : Nat} {p : Sp.Pg} (h : Hl w b p) (hb : Below w.heap.size w w') : Hl w' b p := (hb.block b h.lt).trans h
theorem Hl.grow {w w' : World} {b B : Nat} {p : Sp.Pg} {v : Value} {l : List UInt8} (h : Hl w b p) (hr : Ro w B v l) (hg : w.grownBy w' v.ownBlock) : Hl w' b p :=
  (hg.block b h.lt fun e => Lib.ownBlock_ne hr h (by decide) e.symm).trans h
def tim : List UInt8 := [116, 105, 109, 98, 114, 101]
theorem timC : Lib.byteCells tim = [.int .u8 116, .int .u8 105, .int .u8 109, .int .u8 98, .int .u8 114, .int .u8 101] := rfl
theorem appF {ops : Array Oper} {rest : List Oper} {o : Oper} {a : Act} {Q : Exit → Act → World → Prop} (w : World) (hgd : o.guard = none) (sl x : Operand)
    (ho : o.op = .call { callee := .builtin .append, args := #[sl, x], argTypes := #[48, 48] })
    (B q : Nat) (c : UInt8) (fz : Nat × Nat) (hs : a.eval sl = .slice (some ⟨B, 0, none⟩) 6 6) (hx : a.eval x = .slice (some ⟨q, 0, none⟩) 1 1) (hc : w.cell? ⟨q, 0, none⟩ = some (.int .u8 (c.toNat : Int))) (hh : w.heap[B]? = some (.cells #[.int .u8 116, .int .u8 105, .int .u8 109, .int .u8 98, .int .u8 114, .int .u8 101] 5 fz)) (hB : B ≤ w.heap.size)
    (h : ∀ v' w', Ro w' B v' (tim ++ [c]) → Below w.heap.size w w' → wpList Tryd.prog ops Q rest (a.put o.dst v') w') : wpList Tryd.prog ops Q (o :: rest) a w := by
  obtain ⟨i0, hi, hz0, hz1, hz2⟩ := info_parts infoBy
  have hr := run_append_grow (P := Tryd.prog) w 48 o.type 5 i0 (.int .u8 0) Tryd.underlying48 hi hz0 ⟨B, 0, none⟩ 6 6 (Lib.byteCells tim) (by rw [hz1]; rfl) (fun j u hj => by
      rw [add_s, Nat.zero_add, Lib.cell_of_heap hh]
      rw [timC] at hj
      simpa using hj) ⟨q, 0, none⟩ 1 1 [.int .u8 (c.toNat : Int)] (by rw [hz1]; rfl) (fun j u hj => by
      match j, hj with
      | 0, hj => simp at hj; subst hj; simpa [Addr.add] using hc) (by decide) (by decide) (growslice_fits (by decide) (by rw [hz2]; decide))
  have hrow : (w.drew.alloc (.cells ((Lib.byteCells tim).toArray ++ [Value.int .u8 (c.toNat : Int)].toArray ++ Builtin.zeroCells (Value.int .u8 0).cells (grownCap w (6 + 1) 6 5 - (6 + 1))) 5)).ownsRow B 5 1 (.slice (some ⟨w.heap.size, 0, none⟩) (6 + 1) (grownCap w (6 + 1) 6 5)) (6 + 1) (Lib.byteCells tim ++ [.int .u8 (c.toNat : Int)]) := by
    refine ⟨rfl, .inr ⟨w.heap.size, grownCap w (6 + 1) 6 5, _, rfl, hB, heap_alloc_new w.drew _, grownCap_ge w _ _ _, grownCap_le_maxLen w _ _ _ (by unfold maxLen; decide), ?_, ?_⟩⟩
    · have h9 := grownCap_ge w (6 + 1) 6 5
      rw [Array.size_append, Array.size_append, size_zeroCells]
      show 6 + 1 + _ * 1 = _ * 1
      omega
    · simp [Lib.byteCells, tim]
  refine wpList_plain hgd fun _ hK => ?_
  unfold Oper.wp execOp
  simp only [ho, resolve, invoke, builtin, Sem.run_bind, Sem.run_pure, Result.andThen_ok, List.map_toArray, List.map_cons, List.map_nil, hs, hx, hr]
  refine hK _ _ (h _ _ ?_ ((Below.refl _ w).drew.alloc (Nat.le_refl _) _))
  unfold Ro
  rw [Lib.byteCells_append]
  exact hrow
/-- before the first append -/
structure TF (p : Sp.Pg) (sv : Value) (w w1 wr : World) (bp B : Nat) (v : Value) : Prop where
  hv : v = .slice (some ⟨B, 0, none⟩) 6 6
  hh : ∃ fz, wr.heap[B]? = some (.cells #[.int .u8 116, .int .u8 105, .int .u8 109, .int .u8 98, .int .u8 114, .int .u8 101] 5 fz)
  b1 : Below B w1 wr
  be : Below w.heap.size w wr
  pg : Bpg wr bp p sv
  sz : B < wr.heap.size
section
variable {p : Sp.Pg} {sv v v' : Value} {w w1 wr wx : World} {bp B : Nat}
theorem TF.call (h : TF p sv w w1 wr bp B v) (hb : Below wr.heap.size wr wx) : TF p sv w w1 wx bp B v := by
  obtain ⟨fz, hh⟩ := h.hh
  exact ⟨h.hv, ⟨fz, (hb.block B h.sz).trans hh⟩, h.b1.trans (hb.mono (Nat.le_of_lt h.sz)), h.be.trans (hb.mono h.be.size), h.pg.below hb, Nat.lt_of_lt_of_le h.sz hb.size⟩
theorem TF.app (h : TF p sv w w1 wr bp B v) {l : List UInt8} (hr : Ro wx B v' l) (hb : Below wr.heap.size wr wx) : TR p sv w w1 wx bp B v' l :=
  ⟨hr, h.b1.trans (hb.mono (Nat.le_of_lt h.sz)), h.be.trans (hb.mono h.be.size), h.pg.below hb, Nat.le_trans (Nat.le_of_lt h.sz) hb.size⟩
end
set_option maxHeartbeats 16000000 in
set_option maxRecDepth 100000 in
theorem rText_c (p : Sp.Pg) (ao : Option Addr) (c : Nat) (w : World) (ha : Ss w ao p.steps) (hb : p.steps.length * 56 ≤ 140737488351232) (hin : Pin p) :
    Calls Tryd.prog 9 #[pv p (.slice ao p.steps.length c)] w fun e w' => e = .returned (rtv p) ∧ Below w.heap.size w w' := by
  obtain ⟨n, hn⟩ := hid_ex3 p.steps.length
  rw [hn.out] at hb ⊢
  obtain ⟨bp, hbp⟩ := hid_ex3 w.heap.size
  obtain ⟨B, hB⟩ := hid_ex3 (w.heap.size + 1)
  obtain ⟨w1, ew1⟩ := hid_ex3 ((w.alloc (.cells #[.int .i64 p.len, .int .i64 p.cells, .int .i64 p.inn, .int .i64 p.out, .slice ao n c] 24)).alloc (.cells #[.int .u8 116, .int .u8 105, .int .u8 109, .int .u8 98, .int .u8 114, .int .u8 101] 5 (6, 7)))
  obtain ⟨v0, hv0⟩ := hid_ex3 (Value.slice (some ⟨B, 0, none⟩) 6 6)
  have T1 : Hid (TF p (.slice ao n c) w w1 w1 bp B v0) := by
    have e1 := Bpg.new w p (.slice ao n c)
    have b1 : Below w.heap.size w w1 := by rw [← ew1.out]; exact ((Below.refl _ _).alloc (Nat.le_refl _) _).alloc (by simp) _
    refine ⟨hv0.out.symm, ⟨(6, 7), ?_⟩, Below.refl _ _, b1, ?_, ?_⟩
    · have hh := heap_alloc_new (w.alloc (.cells #[.int .i64 p.len, .int .i64 p.cells, .int .i64 p.inn, .int .i64 p.out, .slice ao n c] 24)) (.cells #[.int .u8 116, .int .u8 105, .int .u8 109, .int .u8 98, .int .u8 114, .int .u8 101] 5 (6, 7))
      rw [ew1.out] at hh
      simpa [hB.out] using hh
    · rw [← ew1.out, ← hbp.out]; exact e1.below ((Below.refl _ _).alloc (Nat.le_refl _) _)
    · rw [← ew1.out, ← hB.out]; simp
  have hz : Hid (w.heap.size ≤ B ∧ bp < B) := by rw [← hB.out, ← hbp.out]; exact ⟨by omega, by omega⟩
  have inH : Hid (Pin p) := hin
  have aH : Hid (Ss w ao p.steps) := ha
  have bH : Hid (n * 56 ≤ 140737488351232) := hb
  clear ha hb hin
  unfold pv
  go_enter Tryd.func9, Tryd.ntmps9
  have cvs := Lib.run_convert_bytes_const (P := Tryd.prog) (w.alloc (.cells #[.int .i64 p.len, .int .i64 p.cells, .int .i64 p.inn, .int .i64 p.out, .slice ao n c] 24)) 48 5 #[.int .u8 116, .int .u8 105, .int .u8 109, .int .u8 98, .int .u8 114, .int .u8 101] 6 6 Tryd.underlying48 Tryd.underlying5
  have e6 : (w.alloc (.cells #[.int .i64 p.len, .int .i64 p.cells, .int .i64 p.inn, .int .i64 p.out, .slice ao n c] 24)).heap.size = w.heap.size + 1 := by simp
  rw [e6] at cvs
  simp only [List.size_toArray, List.length_cons, List.length_nil, Nat.reduceAdd] at cvs
  go_upto_region 2 with fail
  rw [ew1.out, hB.out, hbp.out, hv0.out]
  clear cvs e6
  obtain ⟨x0, x1, x2, x3, x4⟩ := T1.out.pg
  obtain ⟨w2, ew2⟩ := hid_ex3 (w1.alloc (.cells #[.int .i64 p.len, .int .i64 p.cells, .int .i64 p.inn, .int .i64 p.out] 3))
  obtain ⟨bl, hbl⟩ := hid_ex3 w1.heap.size
  have T2 : Hid (TF p (.slice ao n c) w w1 w2 bp B v0) := by rw [← ew2.out]; exact T1.out.call ((Below.refl _ _).alloc (Nat.le_refl _) _)
  have H2 : Hid (Hl w2 bl p) := by show w2.heap[bl]? = _; rw [← ew2.out, ← hbl.out]; exact heap_alloc_new w1 _
  go_wp2
  rw [ew2.out, hbl.out]
  clear x0 x1 x2 x3 x4 T1
  go_loopw [22, 4] (fun i v wr => ∃ k : Nat, k ≤ 4 ∧ i = .int .i64 k ∧ (Hid (TR p (.slice ao n c) w w1 wr bp B v (hdK p k)) ∨ (k = 0 ∧ Hid (TF p (.slice ao n c) w w1 wr bp B v))) ∧ Hid (Hl wr bl p)) (fun i _ _ => 4 - (intOf i).toNat)
  case atStart => exact ⟨0, by decide, rfl, .inr ⟨rfl, T2⟩, H2⟩
  case round =>
    obtain ⟨k, hk, rfl, Tk, Hk⟩ := hrel
    by_cases hlt : k < 4
    · have hlt' : (k : Int) < 4 := by omega
      have hc := Hk.out.cell k hlt
      have hi64 : Hid (Li.In64 ((Sp.hd p).getD k 0)) := inH.out.at k hlt
      have hsu : Hid (hdK p (k + 1) = hdK p k ++ 32 :: Lib.itoa ((Sp.hd p).getD k 0)) := hdK_succ p k hlt
      generalize (Sp.hd p).getD k 0 = x at *
      have hil : Hid ((Lib.itoa x).length ≤ 21) := Lib.itoa_length_le x hi64.out.1 hi64.out.2
      have hl1 : Hid ((hdK p k).length ≤ 100) := hdK_len inH.out k
      rcases Tk with Tk | ⟨hk0, Tk⟩
      · have Ta : Hid (∀ o, TR p (.slice ao n c) w w1 (wr.alloc o) bp B u4 (hdK p k)) := fun o => Tk.out.call ((Below.refl _ _).alloc (Nat.le_refl _) o)
        have Ha : Hid (∀ o, Hl (wr.alloc o) bl p) := fun o => Hk.out.below ((Below.refl _ _).alloc (Nat.le_refl _) o)
        have hq : Hid ((wr.alloc (.cells #[.int .u8 32] 5)).cell? ⟨wr.heap.size, 0, none⟩ = some (.int .u8 (((32 : UInt8).toNat : Nat) : Int))) := by show _ = _; simp
        have hk1 : Hid ((hdK p k).length + 1 ≤ 140737488355328) := by have := hl1.out; show _ ≤ _; omega
        go_wp2_with (first | (at_builtin; refine appRb _ rfl _ _ rfl B wr.heap.size u4 (hdK p k) 32 rfl rfl hq.out (Ta.out _).ro hk1.out (Ta.out _).sz ?_) | fail)
        intro v5 w5 hr5 hg5
        have T5 : Hid (TR p (.slice ao n c) w w1 w5 bp B v5 (hdK p k ++ [32])) := (Ta.out _).grow hr5 hg5 hz.out.1 hz.out.2
        have H5 : Hid (Hl w5 bl p) := (Ha.out _).grow (Ta.out _).ro hg5
        have hit : Hid (Calls Tryd.prog 21 #[.int .i64 x] w5 fun e w' => e = .returned (.string (txb (Lib.itoa x))) ∧ Below w5.heap.size w5 w') := rnumber_c x hi64.out w5
        clear hr5 hg5 hc
        go_wp2_with fail
        refine hit.out.mono ?_
        rintro e w6 ⟨rfl, B6⟩
        have T6 : Hid (TR p (.slice ao n c) w w1 w6 bp B v5 (hdK p k ++ [32])) := T5.out.call B6
        have H6 : Hid (Hl w6 bl p) := H5.out.below B6
        have hk2 : Hid ((hdK p k ++ [32]).length + (Lib.itoa x).length ≤ 140737488355328) := by have h1 := hl1.out; have h2 := hil.out; show _ ≤ _; rw [List.length_append]; simp; omega
        clear B6 hit
        go_wp2_with (first | (at_builtin; refine appR _ rfl _ _ rfl B v5 (hdK p k ++ [32]) (Lib.itoa x) rfl rfl T6.out.ro hk2.out T6.out.sz ?_) | fail)
        intro v7 w7 hr7 hg7
        have T7 : Hid (TR p (.slice ao n c) w w1 w7 bp B v7 (hdK p (k + 1))) := by rw [hsu.out]; exact T6.out.grow hr7 hg7 hz.out.1 hz.out.2
        have H7 : Hid (Hl w7 bl p) := H6.out.grow T6.out.ro hg7
        clear hr7 hg7
        go_wp2
        go_roundw
        case rel => exact ⟨k + 1, by omega, by go_num, .inl T7, H7⟩
        case measure => simp [intOf]; omega
      · have Ta : Hid (∀ o, TF p (.slice ao n c) w w1 (wr.alloc o) bp B u4) := fun o => Tk.out.call ((Below.refl _ _).alloc (Nat.le_refl _) o)
        have Ha : Hid (∀ o, Hl (wr.alloc o) bl p) := fun o => Hk.out.below ((Below.refl _ _).alloc (Nat.le_refl _) o)
        have hq : Hid ((wr.alloc (.cells #[.int .u8 32] 5)).cell? ⟨wr.heap.size, 0, none⟩ = some (.int .u8 (((32 : UInt8).toNat : Nat) : Int))) := by show _ = _; simp
        have htm : Hid (hdK p k = tim) := by show _ = _; rw [hk0]; simp [hdK, Li.enh, tim]
        obtain ⟨fz, hfz⟩ := (Ta.out (.cells #[.int .u8 32] 5)).hh
        have hfzH : Hid ((wr.alloc (.cells #[.int .u8 32] 5)).heap[B]? = some (.cells #[.int .u8 116, .int .u8 105, .int .u8 109, .int .u8 98, .int .u8 114, .int .u8 101] 5 fz)) := hfz
        have hvv := Tk.out.hv
        subst hvv
        clear hfz hk0
        go_wp2_with (first | (at_builtin; refine appF _ rfl _ _ rfl B wr.heap.size 32 fz rfl rfl hq.out hfzH.out (Nat.le_of_lt (Ta.out _).sz) ?_) | fail)
        intro v5 w5 hr5 hg5
        have T5 : Hid (TR p (.slice ao n c) w w1 w5 bp B v5 (hdK p k ++ [32])) := by rw [htm.out]; exact (Ta.out (.cells #[.int .u8 32] 5)).app hr5 (by simpa using hg5)
        have H5 : Hid (Hl w5 bl p) := (Ha.out (.cells #[.int .u8 32] 5)).below (by simpa using hg5)
        have hit : Hid (Calls Tryd.prog 21 #[.int .i64 x] w5 fun e w' => e = .returned (.string (txb (Lib.itoa x))) ∧ Below w5.heap.size w5 w') := rnumber_c x hi64.out w5
        clear hr5 hg5 hc
        go_wp2_with fail
        refine hit.out.mono ?_
        rintro e w6 ⟨rfl, B6⟩
        have T6 : Hid (TR p (.slice ao n c) w w1 w6 bp B v5 (hdK p k ++ [32])) := T5.out.call B6
        have H6 : Hid (Hl w6 bl p) := H5.out.below B6
        have hk2 : Hid ((hdK p k ++ [32]).length + (Lib.itoa x).length ≤ 140737488355328) := by have h1 := hl1.out; have h2 := hil.out; show _ ≤ _; rw [List.length_append]; simp; omega
        clear B6 hit
        go_wp2_with (first | (at_builtin; refine appR _ rfl _ _ rfl B v5 (hdK p k ++ [32]) (Lib.itoa x) rfl rfl T6.out.ro hk2.out T6.out.sz ?_) | fail)
        intro v7 w7 hr7 hg7
        have T7 : Hid (TR p (.slice ao n c) w w1 w7 bp B v7 (hdK p (k + 1))) := by rw [hsu.out]; exact T6.out.grow hr7 hg7 hz.out.1 hz.out.2
        have H7 : Hid (Hl w7 bl p) := H6.out.grow T6.out.ro hg7
        clear hr7 hg7
        go_wp2
        go_roundw
        case rel => exact ⟨k + 1, by omega, by go_num, .inl T7, H7⟩
        case measure => simp [intOf]; omega
    · have hlt' : decide ((k : Int) < 4) = false := decide_eq_false (by omega)
      have hk4 : k = 4 := by omega
      have Tk4 : Hid (TR p (.slice ao n c) w w1 wr bp B u4 (hdK p 4)) := by
        rcases Tk with Tk | ⟨h0, _⟩
        · rw [← hk4]; exact Tk.out
        · omega
      have Ta : Hid (∀ o, TR p (.slice ao n c) w w1 (wr.alloc o) bp B u4 (hdK p 4)) := fun o => Tk4.out.call ((Below.refl _ _).alloc (Nat.le_refl _) o)
      have hq : Hid ((wr.alloc (.cells #[.int .u8 10] 5)).cell? ⟨wr.heap.size, 0, none⟩ = some (.int .u8 (((10 : UInt8).toNat : Nat) : Int))) := by show _ = _; simp
      have hk1 : Hid ((hdK p 4).length + 1 ≤ 140737488355328) := by have := hdK_len inH.out 4; show _ ≤ _; omega
      clear hk4 Tk Hk
      go_wp2_with (first | (at_builtin; refine appRb _ rfl _ _ rfl B wr.heap.size u4 (hdK p 4) 10 rfl rfl hq.out (Ta.out _).ro hk1.out (Ta.out _).sz ?_) | fail)
      intro v5 w5 hr5 hg5
      have T5 := (Ta.out _).grow hr5 hg5 hz.out.1 hz.out.2
      have T5H : Hid (TR p (.slice ao n c) w w1 w5 bp B v5 (hdK p 4 ++ [10] ++ lins (p.steps.take 0))) := by show TR _ _ _ _ _ _ _ _ _; simpa [lins] using T5
      have x4 := T5.pg.c4
      clear T5 hr5 hg5
      go_wp2_with fail
      clear x4
      go_loopw [40, 4] (fun i v wr => ∃ m : Nat, m ≤ n ∧ i = .int .i64 m ∧ Hid (∀ j s, j < m → p.steps[j]? = some s → Sp.fm s = true) ∧ Hid (TR p (.slice ao n c) w w1 wr bp B v (hdK p 4 ++ [10] ++ lins (p.steps.take m)))) (fun i _ _ => n - (intOf i).toNat)
      case atStart => exact ⟨0, Nat.zero_le _, rfl, (fun j s h => absurd h (by omega)), T5H⟩
      case round =>
        obtain ⟨m, hm, rfl, hfm, Tm⟩ := hrel
        have hn9 : n ≤ 140737488351232 := by have := bH.out; omega
        obtain ⟨lt0, hlt0⟩ := hid_ex3 (hdK p 4 ++ [10] ++ lins (p.steps.take m))
        have hln : Hid (lt0.length ≤ 101 + 56 * m) := by
          have h1 := hdK_len inH.out 4
          have h2 := lins_len (p.steps.take m) (all_take hfm.out)
          rw [List.length_take] at h2
          show _ ≤ _
          rw [← hlt0.out, List.length_append, List.length_append]
          simp only [List.length_cons, List.length_nil]
          omega
        rw [hlt0.out] at Tm
        by_cases hlm : m < n
        · have hlm' : (m : Int) < (n : Int) := by omega
          obtain ⟨s, hs⟩ : ∃ s, p.steps[m]? = some s := ⟨_, List.getElem?_eq_getElem (by rw [hn.out]; exact hlm)⟩
          obtain ⟨q, o, rfl, hat⟩ := aH.out m s hs
          obtain ⟨y0, y1, y2, y3, y4, y5, y6⟩ := hat.below Tm.out.be
          obtain ⟨wb, ewb⟩ : ∃ wb, Hid (wr.alloc (.cells #[.int .i64 s.op, .int .i64 s.dst, .int .i64 s.src, .int .i64 s.jump, .int .i64 s.count, .int .i64 s.n, .int .i64 s.k] 26) = wb) := ⟨_, (rfl : _ = _)⟩
          have Tb : Hid (TR p (.slice (some ⟨q, o, none⟩) n c) w w1 wb bp B u4 lt0) := by rw [← ewb.out]; exact Tm.out.call ((Below.refl _ _).alloc (Nat.le_refl _) _)
          have Xb : Hid (Bst wb wr.heap.size s.op s.dst s.src s.jump s.count s.n s.k) := by show Bst _ _ _ _ _ _ _ _ _; rw [← ewb.out]; exact Bst.new wr _ _ _ _ _ _ _
          have hsH : Hid (p.steps[m]? = some s) := hs
          have hfo : Hid (Calls Tryd.prog 22 #[sv s] wb fun e w' => e = .returned (.int .i64 (fnn (Sp.fm s))) ∧ Below wb.heap.size wb w') := dform_c s wb
          have hli : Hid (Sp.fm s = true → ∀ W, Calls Tryd.prog 23 #[sv s] W fun e w' => e = .returned (.string (txb (lin s))) ∧ Below W.heap.size W w') := fun h W => rline_c s h W
          have htk : Hid (p.steps.take (m + 1) = p.steps.take m ++ [s]) := by show _ = _; rw [List.take_add_one, hs]; rfl
          unfold sv sva at hfo hli
          clear hs hat
          go_upto_region 12 with fail
          rw [ewb.out]
          clear y0 y1 y2 y3 y4 y5 y6
          obtain ⟨y0, y1, y2, y3, y4, y5, y6⟩ := Xb.out
          go_wp2_with fail
          refine hfo.out.mono ?_
          rintro e w6 ⟨rfl, B6⟩
          have T6 : Hid (TR p (.slice (some ⟨q, o, none⟩) n c) w w1 w6 bp B u4 lt0) := Tb.out.call B6
          have X6 : Hid (Bst w6 wr.heap.size s.op s.dst s.src s.jump s.count s.n s.k) := Xb.out.below B6
          clear y0 y1 y2 y3 y4 y5 y6 B6 hfo
          cases hb : Sp.fm s with
          | false =>
            have e0 : fnn false = 9 := rfl
            have hv : Hid (rtv p = .tuple #[.string (txb []), .int .i64 9]) := by unfold rtv; rw [all_false hsH.out hb]; exact (rfl : _ = _)
            go_wp2
            go_ret2
            exact ⟨by rw [hv.out]; rfl, T6.out.be⟩
          | true =>
            have e0 : fnn true = 0 := rfl
            have hfm2 : Hid (∀ j s, j < m + 1 → p.steps[j]? = some s → Sp.fm s = true) := fun j t hj ht => by
              by_cases e : j = m
              · rw [e, hsH.out] at ht; cases ht; exact hb
              · exact hfm.out j t (by omega) ht
            have hl5 : Hid ((lin s).length ≤ 55) := lin_len hb
            have hlk : Hid (hdK p 4 ++ [10] ++ lins (p.steps.take (m + 1)) = lt0 ++ (lin s ++ [10])) := by show _ = _; rw [htk.out, lins_snoc, ← hlt0.out]; simp
            have hl2 := hli.out hb w6
            have hl2H : Hid (Calls Tryd.prog 23 #[.agg #[.int .i64 s.op, .int .i64 s.dst, .int .i64 s.src, .int .i64 s.jump, .int .i64 s.count, .int .i64 s.n, .int .i64 s.k]] w6 fun e w' => e = .returned (.string (txb (lin s))) ∧ Below w6.heap.size w6 w') := hl2
            obtain ⟨y0, y1, y2, y3, y4, y5, y6⟩ := X6.out
            clear hfm hb hl2 hli
            go_wp2_with fail
            refine hl2H.out.mono ?_
            rintro e w7 ⟨rfl, B7⟩
            have T7 : Hid (TR p (.slice (some ⟨q, o, none⟩) n c) w w1 w7 bp B u4 lt0) := T6.out.call B7
            have hk2 : Hid (lt0.length + (lin s).length ≤ 140737488355328) := by have h1 := hln.out; have h2 := hl5.out; have h3 := bH.out; show _ ≤ _; omega
            clear B7 hl2H y0 y1 y2 y3 y4 y5 y6
            go_wp2_with (first | (at_builtin; refine appR _ rfl _ _ rfl B u4 lt0 (lin s) rfl rfl T7.out.ro hk2.out T7.out.sz ?_) | fail)
            intro v8 w8 hr8 hg8
            have T8 : Hid (TR p (.slice (some ⟨q, o, none⟩) n c) w w1 w8 bp B v8 (lt0 ++ lin s)) := T7.out.grow hr8 hg8 hz.out.1 hz.out.2
            have Ta : Hid (∀ ob, TR p (.slice (some ⟨q, o, none⟩) n c) w w1 (w8.alloc ob) bp B v8 (lt0 ++ lin s)) := fun ob => T8.out.call ((Below.refl _ _).alloc (Nat.le_refl _) ob)
            have hq : Hid ((w8.alloc (.cells #[.int .u8 10] 5)).cell? ⟨w8.heap.size, 0, none⟩ = some (.int .u8 (((10 : UInt8).toNat : Nat) : Int))) := by show _ = _; simp
            have hk3 : Hid ((lt0 ++ lin s).length + 1 ≤ 140737488355328) := by have h1 := hln.out; have h2 := hl5.out; have h3 := bH.out; show _ ≤ _; rw [List.length_append]; omega
            clear hr8 hg8
            go_wp2_with (first | (at_builtin; refine appRb _ rfl _ _ rfl B w8.heap.size v8 (lt0 ++ lin s) 10 rfl rfl hq.out (Ta.out _).ro hk3.out (Ta.out _).sz ?_) | fail)
            intro v9 w9 hr9 hg9
            have T9 : Hid (TR p (.slice (some ⟨q, o, none⟩) n c) w w1 w9 bp B v9 (hdK p 4 ++ [10] ++ lins (p.steps.take (m + 1)))) := by rw [hlk.out]; exact (Ta.out _).grow hr9 hg9 hz.out.1 hz.out.2
            clear hr9 hg9
            go_wp2
            go_roundw
            case rel => exact ⟨m + 1, by omega, by go_num, hfm2, T9⟩
            case measure => simp [intOf]; omega
        · have hlm' : decide ((m : Int) < (n : Int)) = false := decide_eq_false (by omega)
          have hmn : m = p.steps.length := by rw [hn.out]; omega
          have hall : p.steps.all Sp.fm = true := all_true (by rw [← hmn]; exact hfm.out)
          have hv : Hid (rtv p = .tuple #[.string (txb lt0), .int .i64 0]) := by
            unfold rtv ltx; rw [hall, ← hlt0.out, hmn, List.take_length]; exact (rfl : _ = _)
          have cv := Tm.out.ro.conv
          clear hall hmn
          go_wp2_with fail
          go_ret2
          exact ⟨by rw [hv.out]; rfl, Tm.out.be⟩
end Go.Proofs.YtebknahackkhnaaDoor
