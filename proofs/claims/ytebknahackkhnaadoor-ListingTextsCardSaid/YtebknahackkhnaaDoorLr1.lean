/-
  timbreref16: number, line, Line.
-/
import Derived.Test.YtebknahackkhnaaDoorLs3
import Derived.Test.YtebknahackkhnaaDoorSd3
namespace Go.Proofs.YtebknahackkhnaaDoor
open Flo Go.RowKit
theorem dec_small {u : Nat} (h : u / 10 = 0) : Lib.decDigits u = [UInt8.ofNat (48 + u % 10)] := by
  rw [Lib.decDigits, dif_pos (by omega), Nat.mod_eq_of_lt (by omega)]
theorem dec_big {u : Nat} (h : ¬ u / 10 = 0) : Lib.decDigits u = Lib.decDigits (u / 10) ++ [UInt8.ofNat (48 + u % 10)] := by
  rw [Lib.decDigits, dif_neg (by omega)]
theorem dec_len {u : Nat} (h : u < 18446744073709551616) : (Lib.decDigits u).length ≤ 20 := by
  rw [Lib.decDigits_length]
  by_cases h1 : u < 10
  · rw [Lib.nDigits_small h1]; omega
  · have := Lib.numDigits_eq u (by omega) h
    split at this <;> omega
theorem conv1 (w : World) (q : Nat) (c : Nat) (hc : c < 256) (h : w.cell? ⟨q, 0, none⟩ = some (.int .u8 (c : Int))) : (convert 48 9 (.slice (some ⟨q, 0, none⟩) 1 1)).run Tryd.prog w = .ok (.string (txb [UInt8.ofNat c])) w := by
  have e : (UInt8.ofNat c).toNat = c := by rw [UInt8.toNat_ofNat']; omega
  have h9 := run_convert_bytes_back (P := Tryd.prog) w 48 9 5 ⟨q, 0, none⟩ 1 [UInt8.ofNat c] Tryd.underlying48 Tryd.underlying5 Tryd.underlying9 (fun j hj => by
    match j, hj with
    | 0, _ => simpa [Addr.add, e] using h)
  exact h9
set_option maxRecDepth 100000 in
set_option maxHeartbeats 4000000 in
theorem rnumber_c (n : Int) (hn : Li.In64 n) (w : World) :
    Calls Tryd.prog 21 #[.int .i64 n] w fun e w' => e = .returned (.string (txb (Lib.itoa n))) ∧ Below w.heap.size w w' := by
  obtain ⟨U, hU⟩ : ∃ U : Nat, U = n.natAbs := ⟨_, rfl⟩
  have hU64 : U ≤ 9223372036854775808 := by have := hn.1; have := hn.2; omega
  have hUl : Hid ((Lib.decDigits U).length ≤ 20) := dec_len (by omega)
  have tl : ∀ (a : Nat) (t : List UInt8), Lib.decDigits a ++ t = Lib.decDigits U → t.length ≤ 20 := fun a t h => by
    have h1 := congrArg List.length h
    have h2 := hUl.out
    rw [List.length_append] at h1; omega
  have tlH : Hid (∀ (a : Nat) (t : List UInt8), Lib.decDigits a ++ t = Lib.decDigits U → t.length ≤ 20) := tl
  clear tl
  have main : ∀ (neg : Bool), Lib.itoa n = (bif neg then [45] else []) ++ Lib.decDigits U → (bif neg then n < 0 else (0 : Int) ≤ n) →
      Calls Tryd.prog 21 #[.int .i64 n] w fun e w' => e = .returned (.string (txb (Lib.itoa n))) ∧ Below w.heap.size w w' := by
    intro neg hit hsg
    have hitH : Hid (Lib.itoa n = (bif neg then [45] else []) ++ Lib.decDigits U) := hit
    clear hit
    cases neg with
    | false =>
      have hge : 0 ≤ n := hsg
      have hlt : decide (n < 0) = false := decide_eq_false (by omega)
      have hcv : IntKind.u64.wrap n = (U : Int) := by rw [IntKind.wrap_u64]; omega
      clear hsg hn hU
      go_enter Tryd.func21, Tryd.ntmps21
      go_wp2
      go_loopw [3, 4] (fun x y wr => ∃ (a : Nat) (t : List UInt8), x = .int .u64 a ∧ y = .string (txb t) ∧ a ≤ 9223372036854775808 ∧ Hid (Lib.decDigits a ++ t = Lib.decDigits U) ∧ Hid (Below w.heap.size w wr)) (fun x _ _ => (intOf x).toNat)
      case atStart => exact ⟨U, [], rfl, rfl, hU64, by simp [Hid], Below.refl _ _⟩
      case round =>
        obtain ⟨a, t, rfl, rfl, ha, hat, Bk⟩ := hrel
        obtain ⟨d, hd⟩ : ∃ d : Nat, d = a % 10 := ⟨_, rfl⟩
        obtain ⟨q, hq⟩ : ∃ q : Nat, q = a / 10 := ⟨_, rfl⟩
        have e1 : (a : Int) % 10 = (d : Int) := by omega
        have e2 : (48 : Int) + (d : Int) = ((48 + d : Nat) : Int) := by omega
        have hd10 : Hid (d < 10) := by show _ < _; omega
        obtain ⟨c, hc⟩ : ∃ c : Nat, c = 48 + d := ⟨_, rfl⟩
        rw [← hc] at e2
        have e3 : IntKind.u64.wrap (c : Int) = (c : Int) := by rw [IntKind.wrap_u64]; omega
        have e4 : IntKind.u8.wrap (c : Int) = (c : Int) := by rw [IntKind.wrap_u8]; omega
        have e5 : (a : Int) / 10 = (q : Int) := by omega
        have hcv1 : ∀ W : World, W.cell? ⟨wr.heap.size, 0, none⟩ = some (.int .u8 (c : Int)) → (convert 48 9 (.slice (some ⟨wr.heap.size, 0, none⟩) 1 1)).run Tryd.prog W = .ok (.string (txb [UInt8.ofNat c])) W := fun W hW => conv1 W _ c (by have := hd10.out; omega) hW
        have hcv2 := hcv1 (wr.alloc (.cells #[.int .u8 (c : Int)] 5)) (by simp)
        have hsa : ∀ W : World, (Op.stringOp .add (txb [UInt8.ofNat c]) (txb t)).run Tryd.prog W = .ok (.string (txb (UInt8.ofNat c :: t))) W := fun W => sadd [UInt8.ofNat c] t W (by have := tlH.out a t hat.out; simp; omega)
        have Bn : Hid (Below w.heap.size w (wr.alloc (.cells #[.int .u8 (c : Int)] 5))) := Bk.out.alloc Bk.out.size _
        by_cases h0 : q = 0
        · have hfin : Hid (UInt8.ofNat c :: t = Lib.decDigits U) := by
            show _ = _
            rw [← hat.out, dec_small (by omega), hc, hd]; rfl
          have e6 : ((q : Int) == 0) = true := by rw [h0]; rfl
          clear hq hd hc h0 hat hcv1
          go_wp2
          go_ret
          exact ⟨by rw [hitH.out, ← hfin.out]; rfl, Bn.out⟩
        · have hne : Hid (Lib.decDigits q ++ (UInt8.ofNat c :: t) = Lib.decDigits U) := by
            show _ = _
            rw [← hat.out, dec_big (u := a) (by omega), hc, hd, hq, List.append_assoc]; rfl
          have e6 : ((q : Int) == 0) = false := beq_eq_false_iff_ne.2 (by omega)
          have hqa : q < a := by omega
          have hq9 : q ≤ 9223372036854775808 := by omega
          clear hd hc hat hcv1 hq
          go_wp2
          go_roundw
          case rel => exact ⟨q, _, rfl, rfl, by omega, hne, Bn⟩
          case measure => simp [intOf]; omega
    | true =>
      have hge : n < 0 := hsg
      have hcv : IntKind.u64.wrap n = 18446744073709551616 - (U : Int) := by rw [IntKind.wrap_u64]; omega
      have hng : IntKind.u64.wrap (-(18446744073709551616 - (U : Int))) = (U : Int) := by rw [IntKind.wrap_u64]; omega
      clear hsg hn hU
      go_enter Tryd.func21, Tryd.ntmps21
      go_wp2
      go_loopw [3, 4] (fun x y wr => ∃ (a : Nat) (t : List UInt8), x = .int .u64 a ∧ y = .string (txb t) ∧ a ≤ 9223372036854775808 ∧ Hid (Lib.decDigits a ++ t = Lib.decDigits U) ∧ Hid (Below w.heap.size w wr)) (fun x _ _ => (intOf x).toNat)
      case atStart => exact ⟨U, [], rfl, rfl, hU64, by simp [Hid], Below.refl _ _⟩
      case round =>
        obtain ⟨a, t, rfl, rfl, ha, hat, Bk⟩ := hrel
        obtain ⟨d, hd⟩ : ∃ d : Nat, d = a % 10 := ⟨_, rfl⟩
        obtain ⟨q, hq⟩ : ∃ q : Nat, q = a / 10 := ⟨_, rfl⟩
        have e1 : (a : Int) % 10 = (d : Int) := by omega
        have e2 : (48 : Int) + (d : Int) = ((48 + d : Nat) : Int) := by omega
        have hd10 : Hid (d < 10) := by show _ < _; omega
        obtain ⟨c, hc⟩ : ∃ c : Nat, c = 48 + d := ⟨_, rfl⟩
        rw [← hc] at e2
        have e3 : IntKind.u64.wrap (c : Int) = (c : Int) := by rw [IntKind.wrap_u64]; omega
        have e4 : IntKind.u8.wrap (c : Int) = (c : Int) := by rw [IntKind.wrap_u8]; omega
        have e5 : (a : Int) / 10 = (q : Int) := by omega
        have hcv1 : ∀ W : World, W.cell? ⟨wr.heap.size, 0, none⟩ = some (.int .u8 (c : Int)) → (convert 48 9 (.slice (some ⟨wr.heap.size, 0, none⟩) 1 1)).run Tryd.prog W = .ok (.string (txb [UInt8.ofNat c])) W := fun W hW => conv1 W _ c (by have := hd10.out; omega) hW
        have hcv2 := hcv1 (wr.alloc (.cells #[.int .u8 (c : Int)] 5)) (by simp)
        have hsa : ∀ W : World, (Op.stringOp .add (txb [UInt8.ofNat c]) (txb t)).run Tryd.prog W = .ok (.string (txb (UInt8.ofNat c :: t))) W := fun W => sadd [UInt8.ofNat c] t W (by have := tlH.out a t hat.out; simp; omega)
        have Bn : Hid (Below w.heap.size w (wr.alloc (.cells #[.int .u8 (c : Int)] 5))) := Bk.out.alloc Bk.out.size _
        by_cases h0 : q = 0
        · have hfin : Hid (UInt8.ofNat c :: t = Lib.decDigits U) := by
            show _ = _
            rw [← hat.out, dec_small (by omega), hc, hd]; rfl
          have e6 : ((q : Int) == 0) = true := by rw [h0]; rfl
          clear hq hd hc h0 hat hcv1
          have hsb : ∀ W : World, (Op.stringOp .add ⟨#[45]⟩ (txb (UInt8.ofNat c :: t))).run Tryd.prog W = .ok (.string (txb (45 :: UInt8.ofNat c :: t))) W := fun W => sadd [45] (UInt8.ofNat c :: t) W (by rw [hfin.out]; have := hUl.out; simp; omega)
          go_wp2
          go_ret
          exact ⟨by rw [hitH.out, ← hfin.out]; rfl, Bn.out⟩
        · have hne : Hid (Lib.decDigits q ++ (UInt8.ofNat c :: t) = Lib.decDigits U) := by
            show _ = _
            rw [← hat.out, dec_big (u := a) (by omega), hc, hd, hq, List.append_assoc]; rfl
          have e6 : ((q : Int) == 0) = false := beq_eq_false_iff_ne.2 (by omega)
          have hqa : q < a := by omega
          have hq9 : q ≤ 9223372036854775808 := by omega
          clear hd hc hat hcv1 hq
          go_wp2
          go_roundw
          case rel => exact ⟨q, _, rfl, rfl, by omega, hne, Bn⟩
          case measure => simp [intOf]; omega
  unfold Lib.itoa at main ⊢
  by_cases h : n < 0
  · rw [if_pos h] at main ⊢
    exact main true (by rw [hU]; rfl) h
  · rw [if_neg h] at main ⊢
    exact main false (by rw [show n.toNat = U by omega]; rfl) (by simp; omega)
set_option maxHeartbeats 8000000 in
set_option maxRecDepth 100000 in
theorem rline_c (s : Sp.St) (hfm : Sp.fm s = true) (w : World) :
    Calls Tryd.prog 23 #[sv s] w fun e w' => e = .returned (.string (txb (lin s))) ∧ Below w.heap.size w w' := by
  obtain ⟨b0, hb0⟩ : ∃ b, Hid (w.heap.size = b) := ⟨_, (rfl : _ = _)⟩
  obtain ⟨w1, ew1⟩ : ∃ wa, Hid (w.alloc (.cells #[.int .i64 s.op, .int .i64 s.dst, .int .i64 s.src, .int .i64 s.jump, .int .i64 s.count, .int .i64 s.n, .int .i64 s.k] 26) = wa) := ⟨_, (rfl : _ = _)⟩
  have B1 : Hid (Below w.heap.size w w1) := by rw [← ew1.out]; exact (Below.refl _ _).alloc (Nat.le_refl _) _
  have X1 : Hid (Bst w1 b0 s.op s.dst s.src s.jump s.count s.n s.k) := by show Bst _ _ _ _ _ _ _ _ _; rw [← ew1.out, ← hb0.out]; exact Bst.new w _ _ _ _ _ _ _
  have hfH : Hid (Sp.fm s = true) := hfm
  have hnm : Hid (Calls Tryd.prog 36 #[.int .i64 s.op] w1 fun e w' => e = .returned (.tuple #[.string (nmk s.op), .bool (Sp.kn s.op)]) ∧ Below w1.heap.size w1 w') := dname_c s.op w1
  clear hfm
  unfold sv sva at *
  go_enter Tryd.func23, Tryd.ntmps23
  go_upto_region 1 with fail
  rw [ew1.out, hb0.out]
  have y0 := X1.out.c0
  go_wp2_with fail
  refine hnm.out.mono ?_
  rintro e w3 ⟨rfl, B3⟩
  have B3H : Hid (Below w.heap.size w w3) := B1.out.trans (B3.mono B1.out.size)
  obtain ⟨y0', y1, y2, y3, y4, y5, y6⟩ := X1.out.below B3
  clear B3 hnm y0 X1 B1
  have hst : Hid (nmk s.op = txb (linK s 0)) := by
    obtain ⟨⟨h1, h2⟩, _⟩ := Sp.fm_fields hfH.out
    show _ = _
    unfold nmk linK
    rw [Sp.kn_iff.2 ⟨h1, h2⟩]
    simp [Li.encf]
    rfl
  rw [hst.out]
  obtain ⟨w4, ew4⟩ : ∃ wa, Hid (w3.alloc (.cells #[.int .i64 s.dst, .int .i64 s.src, .int .i64 s.jump, .int .i64 s.count, .int .i64 s.n, .int .i64 s.k] 3) = wa) := ⟨_, (rfl : _ = _)⟩
  obtain ⟨bl, hbl⟩ : ∃ b, Hid (w3.heap.size = b) := ⟨_, (rfl : _ = _)⟩
  have B4 : Hid (Below w.heap.size w w4) := by rw [← ew4.out]; exact B3H.out.alloc B3H.out.size _
  have C4 : Hid (∀ k, k < 6 → w4.cell? ⟨bl, k, none⟩ = some (.int .i64 ((Sp.nl s).getD k 0))) := fun k hk => by
    rw [← ew4.out, ← hbl.out]
    match k, hk with
    | 0, _ => simp [Sp.nl]
    | 1, _ => simp [Sp.nl]
    | 2, _ => simp [Sp.nl]
    | 3, _ => simp [Sp.nl]
    | 4, _ => simp [Sp.nl]
    | 5, _ => simp [Sp.nl]
  go_wp2
  rw [ew4.out, hbl.out]
  clear y0' y1 y2 y3 y4 y5 y6
  go_loopw [27, 3] (fun i u wr => ∃ k : Nat, k ≤ 6 ∧ i = .int .i64 k ∧ u = .string (txb (linK s k)) ∧ Hid (Below w.heap.size w wr) ∧ Hid (∀ k, k < 6 → wr.cell? ⟨bl, k, none⟩ = some (.int .i64 ((Sp.nl s).getD k 0)))) (fun i _ _ => 6 - (intOf i).toNat)
  case atStart => exact ⟨0, by decide, rfl, rfl, B4, C4⟩
  case round =>
    obtain ⟨k, hk, rfl, rfl, Bk, Ck⟩ := hrel
    by_cases hlt : k < 6
    · have hlt' : (k : Int) < 6 := by omega
      have hc := Ck.out k hlt
      have hin : Hid (Li.In64 ((Sp.nl s).getD k 0)) := nl_in hfH.out k hlt
      have hsu := linK_succ s k hlt
      have hlc : Hid ((⟨#[100, 115, 106, 99, 110, 107]⟩ : ByteArray).extract k (k + 1) = txb [ltr.getD k 0]) := ltr_cut k hlt
      generalize (Sp.nl s).getD k 0 = x at *
      by_cases hx : x = 0
      · have hx' : (x != 0) = false := by rw [hx]; rfl
        have hsuH : Hid (linK s (k + 1) = linK s k) := by rw [hsu, if_pos hx, List.append_nil]; exact (rfl : _ = _)
        clear hsu hx
        go_wp2
        go_roundw
        case rel => exact ⟨k + 1, by omega, by go_num, by rw [hsuH.out], Bk, Ck⟩
        case measure => simp [intOf]; omega
      · have hx' : (x != 0) = true := bne_iff_ne.2 hx
        have hsuH : Hid (linK s (k + 1) = linK s k ++ 32 :: ltr.getD k 0 :: Lib.itoa x) := by rw [hsu, if_neg hx]; exact (rfl : _ = _)
        have hit : Hid (∀ W, Calls Tryd.prog 21 #[.int .i64 x] W fun e w' => e = .returned (.string (txb (Lib.itoa x))) ∧ Below W.heap.size W w') := fun W => rnumber_c x hin.out W
        clear hsu hx
        have hk0 : (0 : Int) ≤ (k : Int) := by omega
        have hk1 : (k : Int) + 1 ≤ 6 := by omega
        have hkw : IntKind.i64.wrap ((k : Int) + 1) = (k : Int) + 1 := by rw [IntKind.wrap_i64]; omega
        obtain ⟨c, hc9⟩ := hid_ex3 (ltr.getD k 0)
        have hsl : ∀ W : World, (Instr.slice 9 (.string ⟨#[100, 115, 106, 99, 110, 107]⟩) (some (.int .i64 (k : Int))) (some (.int .i64 ((k : Int) + 1))) none).run Tryd.prog W = .ok (.string (txb [c])) W := fun W => by
          have h9 := run_slice_string (P := Tryd.prog) W 9 ⟨#[100, 115, 106, 99, 110, 107]⟩ .i64 .i64 (k : Int) ((k : Int) + 1) Tryd.underlying9 hk0 (by omega) (by show (k : Int) + 1 ≤ 6; exact hk1)
          rw [h9, show ((k : Int)).toNat = k by omega, show ((k : Int) + 1).toNat = k + 1 by omega, hlc.out, hc9.out]
        rw [hc9.out] at hsuH
        obtain ⟨X, hX⟩ := hid_ex3 (txb (Lib.itoa x))
        obtain ⟨Y, hY⟩ := hid_ex3 (txb (linK s k))
        obtain ⟨C, hC⟩ := hid_ex3 (txb [c])
        have hil : (Lib.itoa x).length ≤ 21 := Lib.itoa_length_le x hin.out.1 hin.out.2
        have hll := linK_len hfH.out k
        have a1 : ∀ W : World, (Op.stringOp .add ⟨#[32]⟩ C).run Tryd.prog W = .ok (.string (txb [32, c])) W := fun W => by rw [← hC.out]; exact sadd [32] [c] W (by simp)
        have a2 : ∀ W : World, (Op.stringOp .add (txb [32, c]) X).run Tryd.prog W = .ok (.string (txb (32 :: c :: Lib.itoa x))) W := fun W => by rw [← hX.out]; exact sadd [32, c] (Lib.itoa x) W (by simp; omega)
        obtain ⟨Z, hZ⟩ := hid_ex3 (txb (32 :: c :: Lib.itoa x))
        obtain ⟨D, hD⟩ := hid_ex3 (txb [32, c])
        have a3 : ∀ W : World, (Op.stringOp .add Y Z).run Tryd.prog W = .ok (.string (txb (linK s (k + 1)))) W := fun W => by rw [← hY.out, ← hZ.out, hsuH.out]; exact sadd (linK s k) (32 :: c :: Lib.itoa x) W (by simp; omega)
        rw [hZ.out, hD.out] at a2
        rw [hD.out] at a1
        rw [hX.out] at hit
        rw [hC.out] at hsl
        rw [hY.out]
        clear hil hll hX hY hC hZ hD hc9 hlc hsuH
        go_wp2
        go_region_with (first
          | (go_at_call 21
             refine (hit.out wr.drew).mono ?_
             rintro e w5 ⟨rfl, B5⟩
             have B5H : Hid (Below wr.heap.size wr w5) := (Below.refl _ _).drew.trans B5
             clear B5))
        all_goals (
          go_wp2
          go_roundw
          case rel => exact ⟨k + 1, by omega, by go_num, rfl, Bk.out.trans (B5H.out.mono Bk.out.size), fun j hj => (B5H.out.cell (cell_lt (Ck.out j hj))).trans (Ck.out j hj)⟩
          case measure => simp [intOf]; omega)
    · have hlt' : decide ((k : Int) < 6) = false := decide_eq_false (by omega)
      have hk6 : k = 6 := by omega
      go_wp2
      go_ret
      exact ⟨by rw [hk6, linK_six]; rfl, Bk.out⟩
/-- what Line answers, by the document -/
def rlv (s : Sp.St) : Value := bif Sp.fm s then .tuple #[.string (txb (lin s)), .int .i64 0] else .tuple #[.string (txb []), .int .i64 9]
set_option maxHeartbeats 4000000 in
set_option maxRecDepth 100000 in
theorem rLine_c (s : Sp.St) (w : World) :
    Calls Tryd.prog 13 #[sv s] w fun e w' => e = .returned (rlv s) ∧ Below w.heap.size w w' := by
  obtain ⟨b0, hb0⟩ : ∃ b, Hid (w.heap.size = b) := ⟨_, (rfl : _ = _)⟩
  obtain ⟨w1, ew1⟩ : ∃ wa, Hid (w.alloc (.cells #[.int .i64 s.op, .int .i64 s.dst, .int .i64 s.src, .int .i64 s.jump, .int .i64 s.count, .int .i64 s.n, .int .i64 s.k] 26) = wa) := ⟨_, (rfl : _ = _)⟩
  have B1 : Hid (Below w.heap.size w w1) := by rw [← ew1.out]; exact (Below.refl _ _).alloc (Nat.le_refl _) _
  have X1 : Hid (Bst w1 b0 s.op s.dst s.src s.jump s.count s.n s.k) := by show Bst _ _ _ _ _ _ _ _ _; rw [← ew1.out, ← hb0.out]; exact Bst.new w _ _ _ _ _ _ _
  have hfo : Hid (Calls Tryd.prog 22 #[sv s] w1 fun e w' => e = .returned (.int .i64 (fnn (Sp.fm s))) ∧ Below w1.heap.size w1 w') := dform_c s w1
  have hli : Hid (Sp.fm s = true → ∀ W, Calls Tryd.prog 23 #[sv s] W fun e w' => e = .returned (.string (txb (lin s))) ∧ Below W.heap.size W w') := fun h W => rline_c s h W
  unfold sv sva at *
  go_enter Tryd.func13, Tryd.ntmps13
  go_upto_region 1 with fail
  rw [ew1.out, hb0.out]
  obtain ⟨y0, y1, y2, y3, y4, y5, y6⟩ := X1.out
  go_wp2_with fail
  refine hfo.out.mono ?_
  rintro e w2 ⟨rfl, B2⟩
  have B2H : Hid (Below w.heap.size w w2) := B1.out.trans (B2.mono B1.out.size)
  have X2 : Hid (Bst w2 b0 s.op s.dst s.src s.jump s.count s.n s.k) := X1.out.below B2
  clear B2 hfo y0 y1 y2 y3 y4 y5 y6 X1 B1
  cases hfm : Sp.fm s with
  | false =>
    have e0 : fnn false = 9 := rfl
    have hv : Hid (rlv s = .tuple #[.string (txb []), .int .i64 9]) := by unfold rlv; rw [hfm]; exact (rfl : _ = _)
    go_wp2
    go_ret2
    exact ⟨by rw [hv.out]; rfl, B2H.out⟩
  | true =>
    have e0 : fnn true = 0 := rfl
    have hv : Hid (rlv s = .tuple #[.string (txb (lin s)), .int .i64 0]) := by unfold rlv; rw [hfm]; exact (rfl : _ = _)
    have hl2 : Hid (Calls Tryd.prog 23 #[.agg #[.int .i64 s.op, .int .i64 s.dst, .int .i64 s.src, .int .i64 s.jump, .int .i64 s.count, .int .i64 s.n, .int .i64 s.k]] w2 fun e w' => e = .returned (.string (txb (lin s))) ∧ Below w2.heap.size w2 w') := hli.out hfm w2
    obtain ⟨y0, y1, y2, y3, y4, y5, y6⟩ := X2.out
    clear hli
    go_wp2_with fail
    refine hl2.out.mono ?_
    rintro e w3 ⟨rfl, B3⟩
    have B3H : Hid (Below w.heap.size w w3) := B2H.out.trans (B3.mono B2H.out.size)
    clear B3 hl2
    go_wp2
    go_ret2
    exact ⟨by rw [hv.out]; rfl, B3H.out⟩
end Go.Proofs.YtebknahackkhnaaDoor
