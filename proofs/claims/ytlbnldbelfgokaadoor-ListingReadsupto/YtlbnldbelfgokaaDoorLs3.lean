/-
  Package listing: Line.
-/
import Derived.Test.YtlbnldbelfgokaaDoorLs2
import Derived.Deep.RegionWith
namespace Go.Proofs.YtlbnldbelfgokaaDoor
open Flo Go.RowKit
theorem hid_ex3 {α : Type} (a : α) : ∃ b, Hid (a = b) := ⟨a, rfl⟩
def ltr : List UInt8 := [100, 115, 106, 99, 110, 107]
/-- a step's line -/
def lin (s : Sp.St) : List UInt8 := (nmb s.op.toNat).data.toList ++ Li.encf ltr (Sp.nl s)
theorem encf_snoc : ∀ (ls : List UInt8) (xs : List Int) (c : UInt8) (x : Int), ls.length = xs.length → Li.encf (ls ++ [c]) (xs ++ [x]) = Li.encf ls xs ++ (if x = 0 then [] else 32 :: c :: Lib.itoa x)
  | [], [], c, x, _ => by simp [Li.encf]
  | [], _ :: _, _, _, h => by simp at h
  | _ :: _, [], _, _, h => by simp at h
  | a :: ls, y :: xs, c, x, h => by
    simp only [List.cons_append, Li.encf]
    rw [encf_snoc ls xs c x (by simpa using h), List.append_assoc]
/-- the line up to field k -/
def linK (s : Sp.St) (k : Nat) : List UInt8 := (nmb s.op.toNat).data.toList ++ Li.encf (ltr.take k) ((Sp.nl s).take k)
theorem linK_succ (s : Sp.St) (k : Nat) (hk : k < 6) : linK s (k + 1) = linK s k ++ (if (Sp.nl s).getD k 0 = 0 then [] else 32 :: ltr.getD k 0 :: Lib.itoa ((Sp.nl s).getD k 0)) := by
  unfold linK
  have e1 : ltr.take (k + 1) = ltr.take k ++ [ltr.getD k 0] := by
    match k, hk with
    | 0, _ => rfl
    | 1, _ => rfl
    | 2, _ => rfl
    | 3, _ => rfl
    | 4, _ => rfl
    | 5, _ => rfl
  have e2 : (Sp.nl s).take (k + 1) = (Sp.nl s).take k ++ [(Sp.nl s).getD k 0] := by
    match k, hk with
    | 0, _ => rfl
    | 1, _ => rfl
    | 2, _ => rfl
    | 3, _ => rfl
    | 4, _ => rfl
    | 5, _ => rfl
  rw [e1, e2, encf_snoc _ _ _ _ (by simp [ltr, Sp.nl]), List.append_assoc]
theorem linK_six (s : Sp.St) : linK s 6 = lin s := rfl
def pv6 (b : Nat) : Value := .agg #[ptr b 1, ptr b 2, ptr b 3, ptr b 4, ptr b 5, ptr b 6]
theorem pv6_index (b k : Nat) (hk : k < 6) (w : World) : (Instr.index 73 (pv6 b) (.int .i64 (k : Nat))).run Tryd.prog w = .ok (.pointer (some ⟨b, k + 1, none⟩)) w :=
  match k, hk with
  | 0, _ => by kernel_rfl
  | 1, _ => by kernel_rfl
  | 2, _ => by kernel_rfl
  | 3, _ => by kernel_rfl
  | 4, _ => by kernel_rfl
  | 5, _ => by kernel_rfl
theorem ltr_cut (k : Nat) (hk : k < 6) : (⟨#[100, 115, 106, 99, 110, 107]⟩ : ByteArray).extract k (k + 1) = txb [ltr.getD k 0] := by
  have h := txb_cut ltr k (k + 1)
  have e : txb ltr = ⟨#[100, 115, 106, 99, 110, 107]⟩ := rfl
  rw [e] at h
  rw [h]
  match k, hk with
  | 0, _ => rfl
  | 1, _ => rfl
  | 2, _ => rfl
  | 3, _ => rfl
  | 4, _ => rfl
  | 5, _ => rfl
theorem nl_in {s : Sp.St} (h : Sp.fm s = true) (k : Nat) (hk : k < 6) : Li.In64 ((Sp.nl s).getD k 0) := by
  obtain ⟨h1, h2, h3, h4, h5, h6, h7⟩ := Sp.fm_fields h
  unfold Li.In64 Sp.nl
  match k, hk with
  | 0, _ => simp; omega
  | 1, _ => simp; omega
  | 2, _ => simp; omega
  | 3, _ => simp; omega
  | 4, _ => simp; omega
  | 5, _ => simp; omega
theorem bst_cell {w : World} {b : Nat} {s : Sp.St} (h : Bst w b s.op s.dst s.src s.jump s.count s.n s.k) (k : Nat) (hk : k < 6) : w.cell? ⟨b, k + 1, none⟩ = some (.int .i64 ((Sp.nl s).getD k 0)) :=
  match k, hk with
  | 0, _ => h.c1
  | 1, _ => h.c2
  | 2, _ => h.c3
  | 3, _ => h.c4
  | 4, _ => h.c5
  | 5, _ => h.c6
theorem sadd (l m : List UInt8) (w : World) (h : l.length + m.length ≤ 1000000) : (Op.stringOp .add (txb l) (txb m)).run Tryd.prog w = .ok (.string (txb (l ++ m))) w := by
  rw [run_string_add_sum w _ _ (by rw [txb_size, txb_size]; omega), txb_add]
theorem nmb_len (o : Nat) : (nmb o).data.toList.length ≤ 7 := by
  unfold nmb nms
  match o with
  | 0 | 1 | 2 | 3 | 4 | 5 | 6 | 7 | 8 | 9 | 10 | 11 => decide
  | n + 12 => simp
theorem encf_len : ∀ (ls : List UInt8) (xs : List Int), (∀ x ∈ xs, Li.In64 x) → (Li.encf ls xs).length ≤ 23 * ls.length
  | [], _, _ => by simp [Li.encf]
  | c :: ls, [], _ => by simp [Li.encf]
  | c :: ls, x :: xs, h => by
    have h1 := encf_len ls xs fun y hy => h y (List.mem_cons_of_mem _ hy)
    have h2 := h x List.mem_cons_self
    have h3 := Lib.itoa_length_le x h2.1 h2.2
    simp only [Li.encf, List.length_append, List.length_cons]
    by_cases hx : x = 0
    · rw [if_pos hx]; simp; omega
    · rw [if_neg hx]; simp; omega
theorem nl_all {s : Sp.St} (h : Sp.fm s = true) : ∀ x ∈ Sp.nl s, Li.In64 x := by
  intro x hx
  obtain ⟨k, hk, rfl⟩ := List.getElem_of_mem hx
  have := nl_in h k (by simpa [Sp.nl] using hk)
  rw [List.getD_eq_getElem?_getD, List.getElem?_eq_getElem hk] at this
  exact this
theorem linK_len {s : Sp.St} (h : Sp.fm s = true) (k : Nat) : (linK s k).length ≤ 200 := by
  unfold linK
  have h1 := nmb_len s.op.toNat
  have h2 := encf_len (ltr.take k) ((Sp.nl s).take k) fun x hx => nl_all h x (List.mem_of_mem_take hx)
  have h3 : (ltr.take k).length ≤ 6 := by rw [List.length_take]; show min k 6 ≤ 6; omega
  rw [List.length_append]; omega
/-- what Line answers -/
def lnv (al : List Addr) (s : Sp.St) : Value := bif Sp.fm s then .tuple #[.string (txb (lin s)), .nilIface] else .tuple #[.string (txb []), ek al 8]
set_option maxHeartbeats 8000000 in
set_option maxRecDepth 100000 in
theorem lline_c (s : Sp.St) (w : World) (al : List Addr) (h : Le w al) :
    Calls Tryd.prog 22 #[sv s] w fun e w' => e = .returned (lnv al s) ∧ Below w.heap.size w w' := by
  obtain ⟨b0, hb0⟩ : ∃ b, Hid (w.heap.size = b) := ⟨_, (rfl : _ = _)⟩
  obtain ⟨w1, ew1⟩ : ∃ wa, Hid (w.alloc (.cells #[.int .i64 s.op, .int .i64 s.dst, .int .i64 s.src, .int .i64 s.jump, .int .i64 s.count, .int .i64 s.n, .int .i64 s.k] 38) = wa) := ⟨_, (rfl : _ = _)⟩
  have B1 : Hid (Below w.heap.size w w1) := by rw [← ew1.out]; exact (Below.refl _ _).alloc (Nat.le_refl _) _
  have X1 : Hid (Bst w1 b0 s.op s.dst s.src s.jump s.count s.n s.k) := by show Bst _ _ _ _ _ _ _ _ _; rw [← ew1.out, ← hb0.out]; exact Bst.new w _ _ _ _ _ _ _
  have L1 : Hid (Le w1 al) := h.below B1.out
  have hfo : Hid (Calls Tryd.prog 31 #[sv s] w1 fun e w' => e = .returned (fev al (Sp.fm s)) ∧ Below w1.heap.size w1 w') := sform_c s al w1 L1.out.ops L1.out.pe
  clear h
  unfold sv sva at *
  go_enter Tryd.func22, Tryd.ntmps22
  go_upto_region 1 with fail
  rw [ew1.out, hb0.out]
  obtain ⟨y0, y1, y2, y3, y4, y5, y6⟩ := X1.out
  go_wp2_with fail
  refine hfo.out.mono ?_
  rintro e w2 ⟨rfl, B2⟩
  have B2H : Hid (Below w.heap.size w w2) := B1.out.trans (B2.mono B1.out.size)
  have L2 : Hid (Le w2 al) := L1.out.below B2
  have X2 : Hid (Bst w2 b0 s.op s.dst s.src s.jump s.count s.n s.k) := X1.out.below B2
  clear B2 hfo y0 y1 y2 y3 y4 y5 y6 X1 L1 B1
  cases hfm : Sp.fm s with
  | false =>
    have e0 : fev al false = ek al 8 := rfl
    have hq := nnil_c al 8
    have hgd := guard_c al 8
    have p2 : w2.cell? ⟨8, 0, none⟩ = some (ek al 8) := L2.out.pe
    have hv : Hid (lnv al s = .tuple #[.string (txb []), ek al 8]) := by unfold lnv; rw [hfm]; exact (rfl : _ = _)
    go_wp2
    go_region
    all_goals (
      go_wp2
      go_ret2
      exact ⟨by rw [hv.out]; rfl, B2H.out.drew⟩)
  | true =>
    have e0 : fev al true = .nilIface := rfl
    have hv : Hid (lnv al s = .tuple #[.string (txb (lin s)), .nilIface]) := by unfold lnv; rw [hfm]; exact (rfl : _ = _)
    have hfH : Hid (Sp.fm s = true) := hfm
    have hnm : Hid (Calls Tryd.prog 40 #[.int .i64 s.op] w2 fun e w' => e = .returned (.tuple #[.string (nmk s.op), .bool (Sp.kn s.op)]) ∧ Below w2.heap.size w2 w') := sname_c s.op w2 L2.out.ops
    have y0 := X2.out.c0
    clear hfm
    go_wp2_with fail
    refine hnm.out.mono ?_
    rintro e w3 ⟨rfl, B3⟩
    have B3H : Hid (Below w.heap.size w w3) := B2H.out.trans (B3.mono B2H.out.size)
    have L3 : Hid (Le w3 al) := L2.out.below B3
    have X3 : Hid (Bst w3 b0 s.op s.dst s.src s.jump s.count s.n s.k) := X2.out.below B3
    have hfi : Hid (Calls Tryd.prog 29 #[.pointer (some ⟨b0, 0, none⟩)] w3 fun e w' => e = .returned (pv6 b0) ∧ Below w3.heap.size w3 w') := lfields_c b0 w3
    clear B3 hnm y0 X2 L2 B2H
    go_wp2_with fail
    refine hfi.out.mono ?_
    rintro e w4 ⟨rfl, B4⟩
    have B4H : Hid (Below w.heap.size w w4) := B3H.out.trans (B4.mono B3H.out.size)
    have L4 : Hid (Le w4 al) := L3.out.below B4
    have X4 : Hid (Bst w4 b0 s.op s.dst s.src s.jump s.count s.n s.k) := X3.out.below B4
    have hix : Hid (∀ k, k < 6 → ∀ W : World, (Instr.index 73 (pv6 b0) (.int .i64 (k : Nat))).run Tryd.prog W = .ok (.pointer (some ⟨b0, k + 1, none⟩)) W) := fun k hk W => pv6_index b0 k hk W
    generalize pv6 b0 = P6 at hix
    clear B4 hfi X3 L3 B3H
    have hst : Hid (nmk s.op = txb (linK s 0)) := by
      obtain ⟨⟨h1, h2⟩, _⟩ := Sp.fm_fields hfH.out
      show _ = _
      unfold nmk linK
      rw [Sp.kn_iff.2 ⟨h1, h2⟩]
      simp [Li.encf]
      rfl
    rw [hst.out]
    go_wp2
    go_loopw [19, 4] (fun i u wr => ∃ k : Nat, k ≤ 6 ∧ i = .int .i64 k ∧ u = .string (txb (linK s k)) ∧ Hid (Below w.heap.size w wr) ∧ Hid (Le wr al) ∧ Hid (Bst wr b0 s.op s.dst s.src s.jump s.count s.n s.k)) (fun i _ _ => 6 - (intOf i).toNat)
    case atStart => exact ⟨0, by decide, rfl, rfl, B4H, L4, X4⟩
    case round =>
      obtain ⟨k, hk, rfl, rfl, Bk, Lk, Xk⟩ := hrel
      by_cases hlt : k < 6
      · have hlt' : (k : Int) < 6 := by omega
        have hi := hix.out k hlt
        have hc := bst_cell Xk.out k hlt
        have hin : Hid (Li.In64 ((Sp.nl s).getD k 0)) := nl_in hfH.out k hlt
        have hsu := linK_succ s k hlt
        have hlc : Hid ((⟨#[100, 115, 106, 99, 110, 107]⟩ : ByteArray).extract k (k + 1) = txb [ltr.getD k 0]) := ltr_cut k hlt
        generalize (Sp.nl s).getD k 0 = x at *
        by_cases hx : x = 0
        · have hx' : (x != 0) = false := by rw [hx]; rfl
          have hsuH : Hid (linK s (k + 1) = linK s k) := by rw [hsu, if_pos hx, List.append_nil]; exact (rfl : _ = _)
          clear hsu hx
          go_wp2
          go_roundw
          case rel => exact ⟨k + 1, by omega, by go_num, by rw [hsuH.out], Bk, Lk, Xk⟩
          case measure => simp [intOf]; omega
        · have hx' : (x != 0) = true := bne_iff_ne.2 hx
          have hsuH : Hid (linK s (k + 1) = linK s k ++ 32 :: ltr.getD k 0 :: Lib.itoa x) := by rw [hsu, if_neg hx]; exact (rfl : _ = _)
          have hit : Hid (∀ W, Le W al → Calls Tryd.prog 20 #[.int .i64 x] W fun e w' => e = .returned (.string (txb (Lib.itoa x))) ∧ Below W.heap.size W w') := fun W hW => litoa_c x hin.out W al hW
          clear hsu hx
          have hk0 : (0 : Int) ≤ (k : Int) := by omega
          have hk1 : (k : Int) + 1 ≤ 6 := by omega
          have hkw : IntKind.i64.wrap ((k : Int) + 1) = (k : Int) + 1 := by rw [IntKind.wrap_i64]; omega
          obtain ⟨c, hc9⟩ := hid_ex3 (ltr.getD k 0)
          have hsl : ∀ W : World, (Instr.slice 9 (.string ⟨#[100, 115, 106, 99, 110, 107]⟩) (some (.int .i64 (k : Int))) (some (.int .i64 ((k : Int) + 1))) none).run Tryd.prog W = .ok (.string (txb [c])) W := fun W => by
            have h9 := run_slice_string (P := Tryd.prog) W 9 ⟨#[100, 115, 106, 99, 110, 107]⟩ .i64 .i64 (k : Int) ((k : Int) + 1) Tryd.underlying9 hk0 (by omega) (by show (k : Int) + 1 ≤ 6; exact hk1)
            rw [h9, show ((k : Int)).toNat = k by omega, show ((k : Int) + 1).toNat = k + 1 by omega, hlc.out, hc9.out]
          rw [hc9.out] at hsuH
          obtain ⟨X, hX⟩ := hid_ex3 (txb (Lib.itoa x))
          obtain ⟨Y, hY⟩ := hid_ex3 (txb (linK s k))
          obtain ⟨C, hC⟩ := hid_ex3 (txb [c])
          have hil : (Lib.itoa x).length ≤ 21 := Lib.itoa_length_le x hin.out.1 hin.out.2
          have hll := linK_len hfH.out k
          have a1 : ∀ W : World, (Op.stringOp .add ⟨#[32]⟩ C).run Tryd.prog W = .ok (.string (txb [32, c])) W := fun W => by rw [← hC.out]; exact sadd [32] [c] W (by simp)
          have a2 : ∀ W : World, (Op.stringOp .add (txb [32, c]) X).run Tryd.prog W = .ok (.string (txb (32 :: c :: Lib.itoa x))) W := fun W => by rw [← hX.out]; exact sadd [32, c] (Lib.itoa x) W (by simp; omega)
          obtain ⟨Z, hZ⟩ := hid_ex3 (txb (32 :: c :: Lib.itoa x))
          obtain ⟨D, hD⟩ := hid_ex3 (txb [32, c])
          have a3 : ∀ W : World, (Op.stringOp .add Y Z).run Tryd.prog W = .ok (.string (txb (linK s (k + 1)))) W := fun W => by rw [← hY.out, ← hZ.out, hsuH.out]; exact sadd (linK s k) (32 :: c :: Lib.itoa x) W (by simp; omega)
          rw [hZ.out, hD.out] at a2
          rw [hD.out] at a1
          rw [hX.out] at hit
          rw [hC.out] at hsl
          rw [hY.out]
          clear hil hll hX hY hC hZ hD hc9 hlc hsuH
          go_wp2
          go_region_with (first
            | (go_at_call 20
               refine (hit.out wr.drew (Lk.out.below (Below.refl _ _).drew)).mono ?_
               rintro e w5 ⟨rfl, B5⟩
               have B5H : Hid (Below wr.heap.size wr w5) := (Below.refl _ _).drew.trans B5
               clear B5))
          all_goals (
            go_wp2
            go_roundw
            case rel => exact ⟨k + 1, by omega, by go_num, rfl, Bk.out.trans (B5H.out.mono Bk.out.size), Lk.out.below B5H.out, Xk.out.below B5H.out⟩
            case measure => simp [intOf]; omega)
      · have hlt' : decide ((k : Int) < 6) = false := decide_eq_false (by omega)
        have hk6 : k = 6 := by omega
        go_wp2
        go_ret2
        exact ⟨by rw [hv.out, hk6, linK_six]; rfl, Bk.out⟩
end Go.Proofs.YtlbnldbelfgokaaDoor
