/-
  Package listing, reading: readStep.
-/
import Derived.Test.YtlbnldbelfgokaaDoorLs5
namespace Go.Proofs.YtlbnldbelfgokaaDoor
open Flo Go.RowKit
/-- the operation of a name -/
def opn (t : List UInt8) : Option Nat := [1, 2, 3, 4, 5, 6, 7, 8, 9, 10, 11].find? fun o => (nmb o).data.toList == t
theorem nmb_inj {a b : Nat} (ha : 1 ≤ a ∧ a < 12) (hb : 1 ≤ b ∧ b < 12) (h : (nmb a).data.toList = (nmb b).data.toList) : a = b := by
  have key : ∀ a : Fin 12, ∀ b : Fin 12, 1 ≤ a.val → 1 ≤ b.val → (nmb a.val).data.toList = (nmb b.val).data.toList → a = b := by decide +kernel
  exact congrArg Fin.val (key ⟨a, ha.2⟩ ⟨b, hb.2⟩ ha.1 hb.1 h)
theorem opn_some {t : List UInt8} {r : Nat} (hr : 1 ≤ r ∧ r < 12) (h : (nmb r).data.toList = t) : opn t = some r := by
  unfold opn
  cases hf : [1, 2, 3, 4, 5, 6, 7, 8, 9, 10, 11].find? fun o => (nmb o).data.toList == t with
  | none =>
    have h1 := List.find?_eq_none.1 hf r (by simp; omega)
    rw [h] at h1; simp at h1
  | some r' =>
    have h1 := List.find?_some hf
    have h2 := List.mem_of_find?_eq_some hf
    simp at h1 h2
    rw [nmb_inj (a := r') (b := r) (by omega) hr (by rw [h1, h])]
theorem opn_none {t : List UInt8} (h : ∀ j, 1 ≤ j → j < 12 → nmb j ≠ txb t) : opn t = none := by
  unfold opn
  rw [List.find?_eq_none]
  intro o ho
  simp at ho
  intro h1
  have h2 : (nmb o).data.toList = t := by simpa using h1
  exact h o (by omega) (by omega) (by rw [← txb_of (nmb o), h2])
theorem opn_of {t : List UInt8} {r : Nat} {b : Bool} (h : OpR (txb t) r b) : (b = true ∧ opn t = some r ∧ 1 ≤ r ∧ r < 12) ∨ (b = false ∧ opn t = none) := by
  rcases h with ⟨h1, h2, h3, h4⟩ | ⟨h1, h2, h3⟩
  · exact .inl ⟨h4, opn_some ⟨h1, h2⟩ (by rw [h3, txb_list]), h1, h2⟩
  · exact .inr ⟨h3, opn_none h2⟩
def stZ (o : Nat) (xs : List Int) : Sp.St := ⟨o, xs.getD 0 0, xs.getD 1 0, xs.getD 2 0, xs.getD 3 0, xs.getD 4 0, xs.getD 5 0⟩
/-- the step of a line -/
def stl (l : List UInt8) : Option Sp.St := (opn (Li.wd 32 l)).bind fun o => (Li.whole (Li.pf ltr (Li.rs 32 l))).map (stZ o)
theorem stZ_zero (o : Nat) (xs : List Int) : stZ o (xs ++ [0]) = stZ o xs := by
  have e : ∀ k, (xs ++ [(0 : Int)]).getD k 0 = xs.getD k 0 := fun k => by
    rw [List.getD_eq_getElem?_getD, List.getD_eq_getElem?_getD]
    by_cases h : k < xs.length
    · rw [List.getElem?_append_left h]
    · by_cases h2 : k = xs.length
      · rw [h2, List.getElem?_append_right (Nat.le_refl _), List.getElem?_eq_none (Nat.le_refl _)]; simp
      · rw [List.getElem?_eq_none (by simp; omega), List.getElem?_eq_none (by omega)]
  unfold stZ
  rw [e, e, e, e, e, e]
/-- a step at a block, free to be written -/
structure Bsz (w : World) (b : Nat) (s : Sp.St) : Prop where
  bx : Bst w b s.op s.dst s.src s.jump s.count s.n s.k
  fz : ∀ i, w.frozen? ⟨b, i, none⟩ = false
section
variable {w w' : World} {b : Nat} {s : Sp.St}
theorem Bsz.fr {S : Nat → Prop} (h : Bsz w b s) (hf : Fr S w w') (hS : ¬ S b) : Bsz w' b s :=
  ⟨h.bx.fr hf hS, fun i => (hf.frozen (p := ⟨b, i, none⟩) (cell_lt (a := ⟨b, 0, none⟩) h.bx.c0) hS).trans (h.fz i)⟩
theorem Bsz.new (w : World) (s : Sp.St) : Bsz (w.alloc (.cells #[.int .i64 s.op, .int .i64 s.dst, .int .i64 s.src, .int .i64 s.jump, .int .i64 s.count, .int .i64 s.n, .int .i64 s.k] 38)) w.heap.size s :=
  ⟨Bst.new w _ _ _ _ _ _ _, fun i => by simp⟩
theorem Bsz.set {o : Nat} {xs : List Int} (h : Bsz w b (stZ o xs)) (x : Int) (hx : xs.length < 6) : Bsz (w.setCell ⟨b, xs.length + 1, none⟩ (.int .i64 x)) b (stZ o (xs ++ [x])) := by
  obtain ⟨⟨c0, c1, c2, c3, c4, c5, c6⟩, fz⟩ := h
  refine ⟨?_, fun j => by rw [World.frozen?_setCell]; exact fz j⟩
  match xs, hx with
  | [], _ => simp [stZ] at c0 c1 c2 c3 c4 c5 c6; constructor <;> simp [stZ, World.cell?_setCell_other, World.cell?_setCell_same, c0, c1, c2, c3, c4, c5, c6]
  | [a], _ => simp [stZ] at c0 c1 c2 c3 c4 c5 c6; constructor <;> simp [stZ, World.cell?_setCell_other, World.cell?_setCell_same, c0, c1, c2, c3, c4, c5, c6]
  | [a, a2], _ => simp [stZ] at c0 c1 c2 c3 c4 c5 c6; constructor <;> simp [stZ, World.cell?_setCell_other, World.cell?_setCell_same, c0, c1, c2, c3, c4, c5, c6]
  | [a, a2, a3], _ => simp [stZ] at c0 c1 c2 c3 c4 c5 c6; constructor <;> simp [stZ, World.cell?_setCell_other, World.cell?_setCell_same, c0, c1, c2, c3, c4, c5, c6]
  | [a, a2, a3, a4], _ => simp [stZ] at c0 c1 c2 c3 c4 c5 c6; constructor <;> simp [stZ, World.cell?_setCell_other, World.cell?_setCell_same, c0, c1, c2, c3, c4, c5, c6]
  | [a, a2, a3, a4, a5], _ => simp [stZ] at c0 c1 c2 c3 c4 c5 c6; constructor <;> simp [stZ, World.cell?_setCell_other, World.cell?_setCell_same, c0, c1, c2, c3, c4, c5, c6]
theorem Bsz.cell (h : Bsz w b s) {k : Nat} (hk : k < 6) : ∃ z : Int, w.cell? ⟨b, k + 1, none⟩ = some (.int .i64 z) := by
  obtain ⟨⟨c0, c1, c2, c3, c4, c5, c6⟩, fz⟩ := h
  match k, hk with
  | 0, _ => exact ⟨_, c1⟩
  | 1, _ => exact ⟨_, c2⟩
  | 2, _ => exact ⟨_, c3⟩
  | 3, _ => exact ⟨_, c4⟩
  | 4, _ => exact ⟨_, c5⟩
  | 5, _ => exact ⟨_, c6⟩
end
def zst : Sp.St := ⟨0, 0, 0, 0, 0, 0, 0⟩
/-- what readStep tells -/
def StE (al : List Addr) (l : List UInt8) (w : World) (e : Ending) (w' : World) : Prop :=
  Below w.heap.size w w' ∧ ((stl l = none ∧ e = .returned (.tuple #[sv zst, ek al 5])) ∨ ∃ s, stl l = some s ∧ e = .returned (.tuple #[sv s, fev al (Sp.fm s)]))
structure SM (w wr : World) (b0 b1 : Nat) (s : Sp.St) : Prop where
  x : Bsz wr b0 zst
  y : Bsz wr b1 s
  be : Below w.heap.size w wr
theorem SM.call {w wr wx : World} {b0 b1 : Nat} {s : Sp.St} (h : SM w wr b0 b1 s) (hb : Below wr.heap.size wr wx) : SM w wx b0 b1 s := ⟨h.x.fr (Fr.bel hb) id, h.y.fr (Fr.bel hb) id, h.be.trans (hb.mono h.be.size)⟩
theorem SM.set {w wr : World} {b0 b1 o : Nat} {xs : List Int} (h : SM w wr b0 b1 (stZ o xs)) (x : Int) (hx : xs.length < 6) (h01 : ¬ b0 = b1) (hw : w.heap.size ≤ b1) : SM w (wr.setCell ⟨b1, xs.length + 1, none⟩ (.int .i64 x)) b0 b1 (stZ o (xs ++ [x])) :=
  ⟨h.x.fr (set_fr wr b1 _ _) h01, h.y.set x hx, (set_fr wr b1 _ _).below h.be h.be.size fun k _ hk => by omega⟩
theorem SM.ret {w wr : World} {b0 b1 : Nat} {s : Sp.St} (h : SM w wr b0 b1 s) (hw : w.heap.size ≤ b0) (a0 a1 a2 a3 a4 a5 a6 : Value) : Below w.heap.size w (((((((wr.setCell ⟨b0, 0, none⟩ a0).setCell ⟨b0, 1, none⟩ a1).setCell ⟨b0, 2, none⟩ a2).setCell ⟨b0, 3, none⟩ a3).setCell ⟨b0, 4, none⟩ a4).setCell ⟨b0, 5, none⟩ a5).setCell ⟨b0, 6, none⟩ a6) :=
  (set7_fr wr b0 _ _ _ _ _ _ _).below h.be h.be.size fun k _ hk => by omega
/-- how far the fields are read -/
def PS (l : List UInt8) (o k : Nat) (r : List UInt8) (xs : List Int) : Prop :=
  xs.length = k ∧ r.length ≤ l.length ∧ stl l = (Li.whole ((Li.pf (ltr.drop k) r).map fun p => (xs ++ p.1, p.2))).map (stZ o)
theorem pf_step {k : Nat} (hk : k < 6) (r : List UInt8) (xs : List Int) : (Li.pf (ltr.drop k) r).map (fun p => (xs ++ p.1, p.2)) =
    if Lib.hasPrefix r [32, ltr.getD k 0] = true then
      (match Li.rdn (Li.wd 32 (r.drop 2)) with
        | some x => if x = 0 then none else (Li.pf (ltr.drop (k + 1)) (Li.rs 32 (r.drop 2))).map fun p => ((xs ++ [x]) ++ p.1, p.2)
        | none => none)
    else (Li.pf (ltr.drop (k + 1)) r).map fun p => ((xs ++ [0]) ++ p.1, p.2) := by
  have e : ltr.drop k = ltr.getD k 0 :: ltr.drop (k + 1) := by
    match k, hk with
    | 0, _ => rfl
    | 1, _ => rfl
    | 2, _ => rfl
    | 3, _ => rfl
    | 4, _ => rfl
    | 5, _ => rfl
  rw [e, Li.pf]
  by_cases hp : Lib.hasPrefix r [32, ltr.getD k 0] = true
  · rw [if_pos hp, if_pos hp]
    cases Li.rdn (Li.wd 32 (r.drop 2)) with
    | none => rfl
    | some x =>
      simp only
      by_cases h0 : x = 0
      · rw [if_pos h0, if_pos h0]; rfl
      · rw [if_neg h0, if_neg h0, Option.map_map]
        congr 1
        funext p
        simp
  · rw [if_neg hp, if_neg hp, Option.map_map]
    congr 1
    funext p
    simp
theorem tp2 {r : List UInt8} {c : UInt8} (h : Lib.hasPrefix r [32, c] = true) : Lib.trimPrefix r [32, c] = r.drop 2 := by unfold Lib.trimPrefix; rw [if_pos h]; rfl
set_option maxHeartbeats 16000000 in
set_option maxRecDepth 100000 in
theorem lreadStep_c (l : List UInt8) (hl : l.length ≤ 140737488355328) (w : World) (al : List Addr) (h : Lf w al) :
    Calls Tryd.prog 12 #[.string (txb l)] w fun e w' => StE al l w e w' := by
  obtain ⟨b0, hb0⟩ := hid_ex3 w.heap.size
  obtain ⟨w1, ew1⟩ := hid_ex3 (w.alloc (.cells #[.int .i64 0, .int .i64 0, .int .i64 0, .int .i64 0, .int .i64 0, .int .i64 0, .int .i64 0] 38))
  have B1 : Hid (Below w.heap.size w w1) := by rw [← ew1.out]; exact (Below.refl _ _).alloc (Nat.le_refl _) _
  have X1 : Hid (Bsz w1 b0 zst) := by rw [← ew1.out, ← hb0.out]; exact Bsz.new w zst
  have LH : Hid (Lf w al) := h
  have lH : Hid (l.length ≤ 140737488355328) := hl
  have hcw : Hid (Calls Tryd.prog 25 #[.string (txb l)] w1 fun e w' => e = .returned (.tuple #[.string (txb (Li.wd 32 l)), .string (txb (Li.rs 32 l))]) ∧ Below w1.heap.size w1 w') := lcutWord_c l w1
  have hcn : Hid (∀ (W : World) (r : List UInt8), Below w.heap.size w W → r.length ≤ 140737488355328 → Calls Tryd.prog 26 #[.string (txb r)] W fun e w' => CnE r W e w') := fun W r hW hr => lcutNumber_c r hr W al (LH.out.below hW)
  have hcp : Hid (∀ (W : World) (r : List UInt8) (c : UInt8), Calls Tryd.prog 30 #[.string (txb r), .string (txb [32, c])] W fun e w' => e = .returned (.tuple #[.string (txb (Lib.trimPrefix r [32, c])), .bool (Lib.hasPrefix r [32, c])]) ∧ w' = W) := fun W r c => Tryd.strings_CutPrefix (txb r) (txb [32, c]) W
  clear h hl
  go_enter Tryd.func12, Tryd.ntmps12
  go_upto_region 1 with fail
  rw [ew1.out, hb0.out]
  go_wp2_with fail
  refine hcw.out.mono ?_
  rintro e w2 ⟨rfl, B2⟩
  have X2 : Hid (Bsz w2 b0 zst) := X1.out.fr (Fr.bel B2) id
  have R2 : Hid (Below w.heap.size w w2) := B1.out.trans (B2.mono B1.out.size)
  have hop : Hid (Calls Tryd.prog 28 #[.string (txb (Li.wd 32 l))] w2 fun e w' => OpE (txb (Li.wd 32 l)) e ∧ w2 = w') := sop_c _ w2 (LH.out.below R2.out).le.ops
  clear B2 hcw
  go_wp2_with fail
  refine hop.out.mono ?_
  rintro e w' ⟨⟨r, bo, rfl, hor⟩, rfl⟩
  have hob := opn_of hor
  clear hor hop
  have te2 : w2.cell? ⟨0, 0, none⟩ = some (ek al 5) := (LH.out.below R2.out).te
  have hgt : Hid (0 < w.heap.size) := cell_lt LH.out.te
  have hne : Hid (¬ 0 = b0) := by have := hgt.out; show ¬ _; rw [← hb0.out]; omega
  rcases hob with ⟨rfl, hop, hr1, hr2⟩ | ⟨rfl, hop⟩
  · obtain ⟨b1, hb1⟩ := hid_ex3 w2.heap.size
    obtain ⟨w3, ew3⟩ := hid_ex3 (w2.alloc (.cells #[.int .i64 (r : Int), .int .i64 0, .int .i64 0, .int .i64 0, .int .i64 0, .int .i64 0, .int .i64 0] 38))
    have L3 : Hid (Below w2.heap.size w2 w3) := by rw [← ew3.out]; exact (Below.refl _ _).alloc (Nat.le_refl _) _
    have M3 : Hid (SM w w3 b0 b1 (stZ r [])) := ⟨X2.out.fr (Fr.bel L3.out) id, by rw [← ew3.out, ← hb1.out]; exact Bsz.new w2 (stZ r []), R2.out.trans (L3.out.mono R2.out.size)⟩
    have hz : Hid (¬ b0 = b1 ∧ w.heap.size ≤ b1 ∧ w.heap.size ≤ b0) := by
      have h1 := cell_lt (a := ⟨b0, 0, none⟩) X2.out.bx.c0
      have h2 := R2.out.size
      rw [← hb1.out]
      simp only at h1
      exact ⟨by omega, h2, by rw [hb0.out]; exact Nat.le_refl _⟩
    have S3 : Hid (PS l r 0 (Li.rs 32 l) []) := by
      refine ⟨rfl, rs_len 32 l, ?_⟩
      unfold stl
      rw [hop, Option.bind_some, List.drop_zero]
      congr 2
      cases Li.pf ltr (Li.rs 32 l) <;> rfl
    have hfi : Hid (Calls Tryd.prog 29 #[.pointer (some ⟨b1, 0, none⟩)] w3 fun e w' => e = .returned (pv6 b1) ∧ Below w3.heap.size w3 w') := lfields_c b1 w3
    clear hop te2
    generalize Li.rs 32 l = rr0 at *
    go_upto_region 6 with fail
    rw [ew3.out, hb1.out]
    go_wp2_with fail
    refine hfi.out.mono ?_
    rintro e w4 ⟨rfl, B4⟩
    have M4 : Hid (SM w w4 b0 b1 (stZ r [])) := M3.out.call B4
    have hix : Hid (∀ k, k < 6 → ∀ W : World, (Instr.index 73 (pv6 b1) (.int .i64 (k : Nat))).run Tryd.prog W = .ok (.pointer (some ⟨b1, k + 1, none⟩)) W) := fun k hk W => pv6_index b1 k hk W
    generalize pv6 b1 = P6 at hix
    clear B4 hfi M3 L3
    go_wp2
    go_loopw [30, 5] (fun i u wr => ∃ (k : Nat) (q : List UInt8) (xs : List Int), k ≤ 6 ∧ i = .int .i64 k ∧ u = .string (txb q) ∧ Hid (PS l r k q xs) ∧ Hid (SM w wr b0 b1 (stZ r xs))) (fun i _ _ => 6 - (intOf i).toNat)
    case atStart => exact ⟨0, rr0, [], by decide, rfl, rfl, S3, M4⟩
    case round =>
      obtain ⟨k, q, xs, hk, rfl, rfl, Sk, Mk⟩ := hrel
      by_cases hlt : k < 6
      · have hlt' : (k : Int) < 6 := by omega
        have hi := hix.out k hlt
        have hxl : xs.length = k := Sk.out.1
        have hk0 : (0 : Int) ≤ (k : Int) := by omega
        have hk1 : (k : Int) + 1 ≤ 6 := by omega
        have hkw : IntKind.i64.wrap ((k : Int) + 1) = (k : Int) + 1 := by rw [IntKind.wrap_i64]; omega
        have hst : Hid (stl l = (Li.whole (if Lib.hasPrefix q [32, ltr.getD k 0] = true then
            (match Li.rdn (Li.wd 32 (q.drop 2)) with
              | some x => if x = 0 then none else (Li.pf (ltr.drop (k + 1)) (Li.rs 32 (q.drop 2))).map fun p => ((xs ++ [x]) ++ p.1, p.2)
              | none => none)
            else (Li.pf (ltr.drop (k + 1)) q).map fun p => ((xs ++ [0]) ++ p.1, p.2))).map (stZ r)) := by show _ = _; rw [← pf_step hlt q xs]; exact Sk.out.2.2
        have hlc : Hid ((⟨#[100, 115, 106, 99, 110, 107]⟩ : ByteArray).extract k (k + 1) = txb [ltr.getD k 0]) := ltr_cut k hlt
        obtain ⟨c, hc9⟩ := hid_ex3 (ltr.getD k 0)
        have hsl : ∀ W : World, (Instr.slice 9 (.string ⟨#[100, 115, 106, 99, 110, 107]⟩) (some (.int .i64 (k : Int))) (some (.int .i64 ((k : Int) + 1))) none).run Tryd.prog W = .ok (.string (txb [c])) W := fun W => by
          have h9 := run_slice_string (P := Tryd.prog) W 9 ⟨#[100, 115, 106, 99, 110, 107]⟩ .i64 .i64 (k : Int) ((k : Int) + 1) Tryd.underlying9 hk0 (by omega) (by show (k : Int) + 1 ≤ 6; exact hk1)
          rw [h9, show ((k : Int)).toNat = k by omega, show ((k : Int) + 1).toNat = k + 1 by omega, hlc.out, hc9.out]
        rw [hc9.out] at hst
        have a1 : ∀ W : World, (Op.stringOp .add ⟨#[32]⟩ (txb [c])).run Tryd.prog W = .ok (.string (txb [32, c])) W := fun W => sadd [32] [c] W (by simp)
        have hcpk := hcp.out wr q c
        have hcpH : Hid (Calls Tryd.prog 30 #[.string (txb q), .string (txb [32, c])] wr fun e w' => e = .returned (.tuple #[.string (txb (Lib.trimPrefix q [32, c])), .bool (Lib.hasPrefix q [32, c])]) ∧ w' = wr) := hcpk
        clear hcpk hlc
        cases hhp : Lib.hasPrefix q [32, c] with
        | false =>
          rw [hhp, if_neg (by decide)] at hst
          have S6 : Hid (PS l r (k + 1) q (xs ++ [0])) := ⟨by simp [hxl], Sk.out.2.1, hst.out⟩
          have M6 : Hid (SM w wr b0 b1 (stZ r (xs ++ [0]))) := by rw [stZ_zero]; exact Mk.out
          rw [hhp] at hcpH
          generalize txb (Lib.trimPrefix q [32, c]) = T9 at hcpH
          clear hhp hst Sk
          go_wp2_with fail
          refine hcpH.out.mono ?_
          rintro e w' ⟨rfl, rfl⟩
          go_wp2
          go_roundw
          case rel => exact ⟨k + 1, q, xs ++ [0], by omega, by go_num, rfl, S6, M6⟩
          case measure => simp [intOf]; omega
        | true =>
          rw [tp2 hhp, hhp] at hcpH
          rw [hhp, if_pos rfl] at hst
          have hql : Hid ((q.drop 2).length ≤ l.length) := by show _ ≤ _; rw [List.length_drop]; have := Sk.out.2.1; omega
          obtain ⟨q2, hq2⟩ := hid_ex3 (q.drop 2)
          rw [hq2.out] at hst hcpH hql
          clear hhp Sk
          go_wp2_with fail
          refine hcpH.out.mono ?_
          rintro e w' ⟨rfl, rfl⟩
          go_wp2_with fail
          refine (hcn.out _ q2 Mk.out.be (by have h1 := hql.out; have h2 := lH.out; omega)).mono ?_
          rintro e w5 ⟨B5, hcs⟩
          have M5 : Hid (SM w w5 b0 b1 (stZ r xs)) := Mk.out.call B5
          have hrs2 : Hid ((Li.rs 32 q2).length ≤ l.length) := Nat.le_trans (rs_len 32 q2) hql.out
          obtain ⟨z, hzc⟩ := M5.out.y.cell hlt
          have fz := M5.out.y.fz (k + 1)
          have hM6 : Hid (∀ x : Int, SM w (w5.setCell ⟨b1, k + 1, none⟩ (.int .i64 x)) b0 b1 (stZ r (xs ++ [x]))) := fun x => by
            have h9 := M5.out.set x (by omega) hz.out.1 hz.out.2.1
            rw [hxl] at h9; exact h9
          have hsc : Hid (∀ x : Int, (w5.setCell ⟨b1, k + 1, none⟩ (.int .i64 x)).cell? ⟨b1, k + 1, none⟩ = some (.int .i64 x)) := fun x => World.cell?_setCell_same _ _ _ hzc
          clear B5 hcpH
          rcases hcs with ⟨x, hx, rfl⟩ | ⟨x, hx, rfl⟩
          · rw [hx] at hst
            simp only at hst
            by_cases hx0 : x = 0
            · have hres : Hid (stl l = none) := by have h9 := hst.out; rw [if_pos hx0] at h9; exact h9
              have e0 : (x == 0) = true := by rw [hx0]; rfl
              obtain ⟨w6, ew6⟩ := hid_ex3 (w5.setCell ⟨b1, k + 1, none⟩ (.int .i64 x))
              have M6 : Hid (SM w w6 b0 b1 (stZ r (xs ++ [x]))) := by rw [← ew6.out]; exact hM6.out x
              have cx : w6.cell? ⟨b1, k + 1, none⟩ = some (.int .i64 x) := by rw [← ew6.out]; exact hsc.out x
              clear hx hst hx0
              generalize Li.rs 32 q2 = r2 at *
              go_upto_region 12 with fail
              rw [ew6.out]
              obtain ⟨x0, x1, x2, x3, x4, x5, x6⟩ := M6.out.x.bx
              simp only [zst] at x0 x1 x2 x3 x4 x5 x6
              have Zx := M6.out.x.fz
              have p5 : w6.cell? ⟨0, 0, none⟩ = some (ek al 5) := (LH.out.below M6.out.be).te
              have p6 := (set7_fr w6 b0 (.int .i64 0) (.int .i64 0) (.int .i64 0) (.int .i64 0) (.int .i64 0) (.int .i64 0) (.int .i64 0)).cell p5 hne.out
              go_wp2
              go_region
              all_goals (
                go_wp2
                obtain ⟨z0, z1, z2, z3, z4, z5, z6⟩ := M6.out.x.bx.set zst
                simp only [zst] at z0 z1 z2 z3 z4 z5 z6
                refine bodyPost_ret (v := .tuple #[sv zst, ek al 5]) (by unfold sv sva zst; simp [results, Tryd.results12, go_sem, z0, z1, z2, z3, z4, z5, z6]) rfl ⟨?_, .inl ⟨hres.out, rfl⟩⟩
                exact ((set7_fr w6 b0 _ _ _ _ _ _ _).below M6.out.be M6.out.be.size fun k _ hk => by rw [hb0.out]; omega).drew)
            · have S6 : Hid (PS l r (k + 1) (Li.rs 32 q2) (xs ++ [x])) := ⟨by simp [hxl], hrs2.out, by have h9 := hst.out; rw [if_neg hx0] at h9; exact h9⟩
              have e0 : (x == 0) = false := beq_eq_false_iff_ne.2 hx0
              obtain ⟨w6, ew6⟩ := hid_ex3 (w5.setCell ⟨b1, k + 1, none⟩ (.int .i64 x))
              have M6 : Hid (SM w w6 b0 b1 (stZ r (xs ++ [x]))) := by rw [← ew6.out]; exact hM6.out x
              have cx : w6.cell? ⟨b1, k + 1, none⟩ = some (.int .i64 x) := by rw [← ew6.out]; exact hsc.out x
              clear hx hst hx0
              generalize Li.rs 32 q2 = r2 at *
              go_upto_region 12 with fail
              rw [ew6.out]
              go_wp2
              go_roundw
              case rel => exact ⟨k + 1, r2, xs ++ [x], by omega, by go_num, rfl, S6, M6⟩
              case measure => simp [intOf]; omega
          · have hres : Hid (stl l = none) := by have h9 := hst.out; rw [hx] at h9; exact h9
            obtain ⟨w6, ew6⟩ := hid_ex3 (w5.setCell ⟨b1, k + 1, none⟩ (.int .i64 x))
            have M6 : Hid (SM w w6 b0 b1 (stZ r (xs ++ [x]))) := by rw [← ew6.out]; exact hM6.out x
            clear hx hst
            generalize Li.rs 32 q2 = r2 at *
            go_upto_region 12 with fail
            rw [ew6.out]
            obtain ⟨x0, x1, x2, x3, x4, x5, x6⟩ := M6.out.x.bx
            simp only [zst] at x0 x1 x2 x3 x4 x5 x6
            have Zx := M6.out.x.fz
            have p5 : w6.cell? ⟨0, 0, none⟩ = some (ek al 5) := (LH.out.below M6.out.be).te
            have p6 := (set7_fr w6 b0 (.int .i64 0) (.int .i64 0) (.int .i64 0) (.int .i64 0) (.int .i64 0) (.int .i64 0) (.int .i64 0)).cell p5 hne.out
            go_wp2
            go_region
            all_goals (
              go_wp2
              obtain ⟨z0, z1, z2, z3, z4, z5, z6⟩ := M6.out.x.bx.set zst
              simp only [zst] at z0 z1 z2 z3 z4 z5 z6
              refine bodyPost_ret (v := .tuple #[sv zst, ek al 5]) (by unfold sv sva zst; simp [results, Tryd.results12, go_sem, z0, z1, z2, z3, z4, z5, z6]) rfl ⟨?_, .inl ⟨hres.out, rfl⟩⟩
              exact ((set7_fr w6 b0 _ _ _ _ _ _ _).below M6.out.be M6.out.be.size fun k _ hk => by rw [hb0.out]; omega).drew)
      · have hlt' : decide ((k : Int) < 6) = false := decide_eq_false (by omega)
        have hk6 : Hid (k = 6) := by show _ = _; omega
        have hst : Hid (stl l = (if q = [] then some xs else none).map (stZ r)) := by
          have h9 := Sk.out.2.2
          rw [hk6.out] at h9
          show _ = _
          rw [h9]
          simp [ltr, Li.pf, Li.whole]
        have hqe : ((txb q).toList == ([] : List UInt8)) = decide (q = []) := by
          have h9 := txb_eq q []
          rw [show (txb []).toList = [] by rw [Lib.toList_data]; rfl] at h9
          exact h9
        by_cases hq : q = []
        · have hres : Hid (stl l = some (stZ r xs)) := by have h9 := hst.out; rw [if_pos hq] at h9; exact h9
          rw [decide_eq_true hq] at hqe
          obtain ⟨s, hs⟩ := hid_ex3 (stZ r xs)
          rw [hs.out] at hres Mk
          have hfo : Hid (∀ W, Below w.heap.size w W → Calls Tryd.prog 31 #[sv s] W fun e w' => e = .returned (fev al (Sp.fm s)) ∧ Below W.heap.size W w') := fun W hW => sform_c s al W (LH.out.below hW).le.ops (LH.out.below hW).le.pe
          unfold sv sva at hfo
          obtain ⟨fv, hfv⟩ := hid_ex3 (fev al (Sp.fm s))
          rw [hfv.out] at hfo
          obtain ⟨y0, y1, y2, y3, y4, y5, y6⟩ := Mk.out.y.bx
          clear hq hst
          obtain ⟨x0, x1, x2, x3, x4, x5, x6⟩ := Mk.out.x.bx
          go_wp2_with fail
          go_region_with (first
            | (go_at_call 31
               refine (hfo.out wr.drew Mk.out.be.drew).mono ?_
               rintro e w5 ⟨rfl, B5⟩
               have M5 : Hid (SM w w5 b0 b1 s) := Mk.out.call ((Below.refl _ _).drew.trans B5)
               clear y0 y1 y2 y3 y4 y5 y6 x0 x1 x2 x3 x4 x5 x6 B5
               obtain ⟨y0, y1, y2, y3, y4, y5, y6⟩ := M5.out.y.bx
               obtain ⟨x0, x1, x2, x3, x4, x5, x6⟩ := M5.out.x.bx
               have Zx := M5.out.x.fz))
          all_goals (
            go_wp2
            obtain ⟨z0, z1, z2, z3, z4, z5, z6⟩ := M5.out.x.bx.set s
            refine bodyPost_ret (v := .tuple #[sv s, fv]) (by unfold sv sva; simp [results, Tryd.results12, go_sem, z0, z1, z2, z3, z4, z5, z6]) rfl ⟨M5.out.ret hz.out.2.2 _ _ _ _ _ _ _, .inr ⟨s, hres.out, by rw [hfv.out]⟩⟩)
        · have hres : Hid (stl l = none) := by have h9 := hst.out; rw [if_neg hq] at h9; exact h9
          rw [decide_eq_false hq] at hqe
          clear hq hst
          obtain ⟨x0, x1, x2, x3, x4, x5, x6⟩ := Mk.out.x.bx
          simp only [zst] at x0 x1 x2 x3 x4 x5 x6
          have Zx := Mk.out.x.fz
          have p5 : wr.cell? ⟨0, 0, none⟩ = some (ek al 5) := (LH.out.below Mk.out.be).te
          have p6 := (set7_fr wr b0 (.int .i64 0) (.int .i64 0) (.int .i64 0) (.int .i64 0) (.int .i64 0) (.int .i64 0) (.int .i64 0)).cell p5 hne.out
          go_wp2
          go_region
          all_goals (
            go_wp2
            obtain ⟨z0, z1, z2, z3, z4, z5, z6⟩ := Mk.out.x.bx.set zst
            simp only [zst] at z0 z1 z2 z3 z4 z5 z6
            refine bodyPost_ret (v := .tuple #[sv zst, ek al 5]) (by unfold sv sva zst; simp [results, Tryd.results12, go_sem, z0, z1, z2, z3, z4, z5, z6]) rfl ⟨?_, .inl ⟨hres.out, rfl⟩⟩
            exact ((set7_fr wr b0 _ _ _ _ _ _ _).below Mk.out.be Mk.out.be.size fun k _ hk => by rw [hb0.out]; omega).drew)
  · have hres : Hid (stl l = none) := by unfold stl; rw [hop]; exact (rfl : _ = _)
    clear hop te2
    obtain ⟨x0, x1, x2, x3, x4, x5, x6⟩ := X2.out.bx
    simp only [zst] at x0 x1 x2 x3 x4 x5 x6
    have Zx := X2.out.fz
    have p5 : w2.cell? ⟨0, 0, none⟩ = some (ek al 5) := (LH.out.below R2.out).te
    have p6 := (set7_fr w2 b0 (.int .i64 0) (.int .i64 0) (.int .i64 0) (.int .i64 0) (.int .i64 0) (.int .i64 0) (.int .i64 0)).cell p5 hne.out
    go_wp2
    go_region
    all_goals (
      go_wp2
      obtain ⟨z0, z1, z2, z3, z4, z5, z6⟩ := X2.out.bx.set zst
      simp only [zst] at z0 z1 z2 z3 z4 z5 z6
      refine bodyPost_ret (v := .tuple #[sv zst, ek al 5]) (by unfold sv sva zst; simp [results, Tryd.results12, go_sem, z0, z1, z2, z3, z4, z5, z6]) rfl ⟨?_, .inl ⟨hres.out, rfl⟩⟩
      exact ((set7_fr w2 b0 _ _ _ _ _ _ _).below R2.out R2.out.size fun k _ hk => by rw [hb0.out]; omega).drew)
end Go.Proofs.YtlbnldbelfgokaaDoor
