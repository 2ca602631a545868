/-
  Package listing, reading: strings.Cut at a line feed, readHead.
-/
import Derived.Test.YtlbnldbelfgokaaDoorLs3
import Derived.Test.YtlbnldbelfgokaaDoorSl1
import Derived.Test.YtlbnldbelfgokaaDoorSr3
namespace Go.Proofs.YtlbnldbelfgokaaDoor
open Flo Go.RowKit
/-- a text cut at its first line feed -/
def cutv (l : List UInt8) : Value := .tuple #[.string (txb (Li.wd 10 l)), .string (txb ((Li.rs 10 l).drop 1)), .bool (!(Li.rs 10 l).isEmpty)]
set_option maxHeartbeats 4000000 in
set_option maxRecDepth 100000 in
theorem sindex_c (l : List UInt8) (w : World) :
    Calls Tryd.prog 41 #[.string (txb l), .string ⟨#[10]⟩] w fun e w' => e = .returned (.int .i64 (Lib.indexByte l 10)) ∧ w = w' := by
  have hix : Hid (Calls Tryd.prog 51 #[.string (txb l), .int .u8 10] w fun e w' => e = .returned (.int .i64 (Lib.indexByte l 10)) ∧ w' = w) := Tryd.stringslite_IndexByte (txb l) 10 w
  have hty : (txb l).toList = l := by rw [Lib.toList_data, txb_list]
  by_cases h1 : l = [10]
  · have hq : (([10] : List UInt8) == (txb l).toList) = true := by rw [hty, h1]; rfl
    have hr : Hid (Lib.indexByte l 10 = 0) := by rw [h1]; exact (rfl : _ = _)
    clear hty h1 hix
    go_enter Tryd.func41, Tryd.ntmps41
    go_wp2_with fail
    go_ret
    exact ⟨by rw [hr.out]; rfl, rfl⟩
  · have hq : (([10] : List UInt8) == (txb l).toList) = false := by rw [hty]; exact beq_eq_false_iff_ne.2 fun e => h1 e.symm
    clear hty h1
    go_enter Tryd.func41, Tryd.ntmps41
    go_wp2_with fail
    refine hix.out.mono ?_
    rintro e w' ⟨rfl, rfl⟩
    go_wp2_with fail
    go_ret
    exact ⟨rfl, rfl⟩
set_option maxHeartbeats 4000000 in
set_option maxRecDepth 100000 in
theorem slcut_c (l : List UInt8) (hl : l.length ≤ 140737488355328) (w : World) :
    Calls Tryd.prog 24 #[.string (txb l), .string ⟨#[10]⟩] w fun e w' => e = .returned (cutv l) ∧ Below w.heap.size w w' := by
  have hix : Hid (Calls Tryd.prog 41 #[.string (txb l), .string ⟨#[10]⟩] w fun e w' => e = .returned (.int .i64 (Lib.indexByte l 10)) ∧ w = w') := sindex_c l w
  have hsz := txb_size l
  unfold cutv
  rcases ix_wd 10 l with ⟨h1, h2, h3⟩ | ⟨k, h1, h2, h3, h4⟩
  · rw [h1] at hix
    rw [h2, h3]
    go_enter Tryd.func24, Tryd.ntmps24
    go_wp2_with fail
    refine hix.out.mono ?_
    rintro e w' ⟨rfl, rfl⟩
    go_wp2
    go_ret3
    exact ⟨rfl, Below.refl _ _⟩
  · rw [h1] at hix
    have hne : Hid ((Li.rs 10 l).isEmpty = false) := by rw [h4, List.isEmpty_eq_false_iff]; exact fun e => by have := congrArg List.length e; simp at this; omega
    have e1 : Hid ((txb l).extract 0 k = txb (Li.wd 10 l)) := by rw [txb_cut, h3]; simp [Hid]
    have e2 : Hid ((txb l).extract (k + 1) l.length = txb ((Li.rs 10 l).drop 1)) := by
      rw [txb_cut, h4, List.drop_drop, List.take_of_length_le (by simp)]; exact (rfl : _ = _)
    rw [hne.out]
    have hge : (0 : Int) ≤ (k : Int) := by omega
    have hk1 : (k : Int) ≤ (l.length : Int) := by omega
    have hk2 : (k : Int) + 1 ≤ (l.length : Int) := by omega
    have hkw : IntKind.i64.wrap ((k : Int) + 1) = (k : Int) + 1 := by rw [IntKind.wrap_i64]; omega
    have hsl : ∀ W : World, (Instr.slice 9 (.string (txb l)) none (some (.int .i64 (k : Int))) none).run Tryd.prog W = .ok (.string (txb (Li.wd 10 l))) W := fun W => by
      rw [run_slice_string_h W 9 (txb l) Tryd.underlying9 .i64 (k : Int) hge (by rw [hsz]; exact hk1), show ((k : Int)).toNat = k by omega, e1.out]
    have hsr : ∀ W : World, (Instr.slice 9 (.string (txb l)) (some (.int .i64 ((k : Int) + 1))) none none).run Tryd.prog W = .ok (.string (txb ((Li.rs 10 l).drop 1))) W := fun W => by
      rw [run_slice_string_l W 9 (txb l) Tryd.underlying9 .i64 ((k : Int) + 1) (by omega) (by rw [hsz]; exact hk2), show ((k : Int) + 1).toNat = k + 1 by omega, hsz, e2.out]
    obtain ⟨U, hU⟩ := hid_ex3 (txb (Li.wd 10 l))
    obtain ⟨V, hV⟩ := hid_ex3 (txb ((Li.rs 10 l).drop 1))
    rw [hU.out] at hsl ⊢
    rw [hV.out] at hsr ⊢
    clear e1 e2 h3 h4 hne hU hV
    go_enter Tryd.func24, Tryd.ntmps24
    go_wp2_with fail
    refine hix.out.mono ?_
    rintro e w' ⟨rfl, rfl⟩
    go_wp2_with fail
    go_region
    all_goals (
      go_wp2
      go_ret3
      exact ⟨rfl, (Below.refl _ _).drew⟩)
set_option maxHeartbeats 4000000 in
theorem scut_c (l : List UInt8) (hl : l.length ≤ 140737488355328) (w : World) :
    Calls Tryd.prog 10 #[.string (txb l), .string ⟨#[10]⟩] w fun e w' => e = .returned (cutv l) ∧ Below w.heap.size w w' := by
  have h : Hid (Calls Tryd.prog 24 #[.string (txb l), .string ⟨#[10]⟩] w fun e w' => e = .returned (cutv l) ∧ Below w.heap.size w w') := slcut_c l hl w
  unfold cutv at *
  obtain ⟨U, hU⟩ := hid_ex3 (txb (Li.wd 10 l))
  obtain ⟨V, hV⟩ := hid_ex3 (txb ((Li.rs 10 l).drop 1))
  obtain ⟨Z, hZ⟩ := hid_ex3 (!(Li.rs 10 l).isEmpty)
  rw [hU.out, hV.out, hZ.out] at h ⊢
  clear hU hV hZ
  go_enter Tryd.func10, Tryd.ntmps10
  go_wp2_with fail
  refine h.out.mono ?_
  rintro e w' ⟨rfl, B⟩
  have BH : Hid (Below w.heap.size w w') := B
  clear B h
  go_wp2
  go_ret3
  exact ⟨rfl, BH.out⟩
/-- the numbers of a first line -/
def tim6 : List UInt8 := [116, 105, 109, 98, 114, 101]
def hdl (l : List UInt8) : Option (List Int) := if Li.wd 32 l = tim6 then Li.whole (Li.ph 4 (Li.rs 32 l)) else none
def hdZ (xs : List Int) : Sp.Pg := ⟨xs.getD 0 0, xs.getD 1 0, xs.getD 2 0, xs.getD 3 0, []⟩
theorem Bpf.setZ {w : World} {b : Nat} {xs : List Int} {v : Value} (h : Bpf w b (hdZ xs) v) (x : Int) (hx : xs.length < 4) : Bpf (w.setCell ⟨b, xs.length, none⟩ (.int .i64 x)) b (hdZ (xs ++ [x])) v := by
  obtain ⟨⟨c0, c1, c2, c3, c4⟩, fz⟩ := h
  refine ⟨?_, fun j => by rw [World.frozen?_setCell]; exact fz j⟩
  match xs, hx with
  | [], _ => simp [hdZ] at c0 c1 c2 c3 c4; constructor <;> simp [hdZ, World.cell?_setCell_other, World.cell?_setCell_same, c0, c1, c2, c3, c4]
  | [a], _ => simp [hdZ] at c0 c1 c2 c3 c4; constructor <;> simp [hdZ, World.cell?_setCell_other, World.cell?_setCell_same, c0, c1, c2, c3, c4]
  | [a, b], _ => simp [hdZ] at c0 c1 c2 c3 c4; constructor <;> simp [hdZ, World.cell?_setCell_other, World.cell?_setCell_same, c0, c1, c2, c3, c4]
  | [a, b, c], _ => simp [hdZ] at c0 c1 c2 c3 c4; constructor <;> simp [hdZ, World.cell?_setCell_other, World.cell?_setCell_same, c0, c1, c2, c3, c4]
theorem Bpf.cellZ {w : World} {b : Nat} {p : Sp.Pg} {v : Value} (h : Bpf w b p v) {k : Nat} (hk : k < 4) : ∃ z : Int, w.cell? ⟨b, k, none⟩ = some (.int .i64 z) := by
  obtain ⟨⟨c0, c1, c2, c3, c4⟩, fz⟩ := h
  match k, hk with
  | 0, _ => exact ⟨_, c0⟩
  | 1, _ => exact ⟨_, c1⟩
  | 2, _ => exact ⟨_, c2⟩
  | 3, _ => exact ⟨_, c3⟩
def pv4' (b : Nat) : Value := .agg #[ptr b 0, ptr b 1, ptr b 2, ptr b 3]
theorem pv4'_index (b k : Nat) (hk : k < 4) (w : World) : (Instr.index 59 (pv4' b) (.int .i64 (k : Nat))).run Tryd.prog w = .ok (.pointer (some ⟨b, k, none⟩)) w :=
  match k, hk with
  | 0, _ => by kernel_rfl
  | 1, _ => by kernel_rfl
  | 2, _ => by kernel_rfl
  | 3, _ => by kernel_rfl
/-- what readHead tells -/
def HdE (l : List UInt8) (w : World) (e : Ending) (w' : World) : Prop :=
  Below w.heap.size w w' ∧ ((hdl l = none ∧ ∃ q : Sp.Pg, e = .returned (.tuple #[pv q (.slice none 0 0), .bool false])) ∨ ∃ xs, hdl l = some xs ∧ e = .returned (.tuple #[pv (hdZ xs) (.slice none 0 0), .bool true]))
/-- the state of the reading of the first line: how far, what is left -/
def HS (l : List UInt8) (k : Nat) (ok : Bool) (r : List UInt8) (xs : List Int) : Prop :=
  xs.length = k ∧ r.length ≤ l.length ∧ ((ok = true ∧ hdl l = Li.whole ((Li.ph (4 - k) r).map fun p => (xs ++ p.1, p.2))) ∨ (ok = false ∧ hdl l = none))
structure HM (w wr : World) (b0 b1 : Nat) (xs : List Int) : Prop where
  x : Bpf wr b0 ⟨0, 0, 0, 0, []⟩ (.slice none 0 0)
  y : Bpf wr b1 (hdZ xs) (.slice none 0 0)
  be : Below w.heap.size w wr
theorem HM.call {w wr wx : World} {b0 b1 : Nat} {xs : List Int} (h : HM w wr b0 b1 xs) (hb : Below wr.heap.size wr wx) : HM w wx b0 b1 xs := ⟨h.x.fr (Fr.bel hb) id, h.y.fr (Fr.bel hb) id, h.be.trans (hb.mono h.be.size)⟩
theorem HM.set {w wr : World} {b0 b1 : Nat} {xs : List Int} (h : HM w wr b0 b1 xs) (x : Int) (hx : xs.length < 4) (h01 : ¬ b0 = b1) (hw : w.heap.size ≤ b1) : HM w (wr.setCell ⟨b1, xs.length, none⟩ (.int .i64 x)) b0 b1 (xs ++ [x]) :=
  ⟨h.x.fr (set_fr wr b1 _ _) h01, h.y.setZ x hx, (set_fr wr b1 _ _).below h.be h.be.size fun k _ hk => by omega⟩
theorem HM.ret {w wr : World} {b0 b1 : Nat} {xs : List Int} (h : HM w wr b0 b1 xs) (hw : w.heap.size ≤ b0) (a0 a1 a2 a3 a4 : Value) : Below w.heap.size w (((((wr.setCell ⟨b0, 0, none⟩ a0).setCell ⟨b0, 1, none⟩ a1).setCell ⟨b0, 2, none⟩ a2).setCell ⟨b0, 3, none⟩ a3).setCell ⟨b0, 4, none⟩ a4) :=
  (set5_fr wr b0 _ _ _ _ _).below h.be h.be.size fun k _ hk => by omega
theorem tp_len (r : List UInt8) : (Lib.trimPrefix r [32]).length ≤ r.length := by unfold Lib.trimPrefix; split <;> simp
theorem rs_len (c : UInt8) (r : List UInt8) : (Li.rs c r).length ≤ r.length := by
  have := congrArg List.length (Li.wd_rs c r); rw [List.length_append] at this; omega
theorem wd_len (c : UInt8) (r : List UInt8) : (Li.wd c r).length ≤ r.length := by
  have := congrArg List.length (Li.wd_rs c r); rw [List.length_append] at this; omega
theorem ph_step {k : Nat} (hk : k < 4) (r : List UInt8) (xs : List Int) : Li.whole ((Li.ph (4 - k) r).map fun p => (xs ++ p.1, p.2)) = match Li.rdn (Li.wd 32 (Lib.trimPrefix r [32])) with
    | some x => Li.whole ((Li.ph (4 - (k + 1)) (Li.rs 32 (Lib.trimPrefix r [32]))).map fun p => ((xs ++ [x]) ++ p.1, p.2))
    | none => none := by
  rw [show 4 - k = (4 - (k + 1)) + 1 by omega, Li.ph]
  cases Li.rdn (Li.wd 32 (Lib.trimPrefix r [32])) with
  | none => rfl
  | some x =>
    simp only [Option.map_map]
    congr 2
    funext p
    simp
set_option maxHeartbeats 8000000 in
set_option maxRecDepth 100000 in
theorem lreadHead_c (l : List UInt8) (hl : l.length ≤ 140737488355328) (w : World) (al : List Addr) (h : Lf w al) :
    Calls Tryd.prog 11 #[.string (txb l)] w fun e w' => HdE l w e w' := by
  obtain ⟨b0, hb0⟩ := hid_ex3 w.heap.size
  obtain ⟨b1, hb1⟩ := hid_ex3 (w.heap.size + 1)
  obtain ⟨w1, ew1⟩ := hid_ex3 ((w.alloc (.cells #[.int .i64 0, .int .i64 0, .int .i64 0, .int .i64 0, .slice none 0 0] 25)).alloc (.cells #[.int .i64 0, .int .i64 0, .int .i64 0, .int .i64 0, .slice none 0 0] 25))
  have M1 : Hid (HM w w1 b0 b1 []) := by
    have e1 := Bpf.new w ⟨0, 0, 0, 0, []⟩ (.slice none 0 0)
    have e2 := Bpf.new (w.alloc (.cells #[.int .i64 0, .int .i64 0, .int .i64 0, .int .i64 0, .slice none 0 0] 25)) (hdZ []) (.slice none 0 0)
    refine ⟨?_, ?_, ?_⟩
    · rw [← ew1.out, ← hb0.out]; exact e1.fr (fr_new (fun _ => False) _ _) id
    · rw [← ew1.out, ← hb1.out]; simpa [hdZ] using e2
    · rw [← ew1.out]; exact ((Below.refl _ _).alloc (Nat.le_refl _) _).alloc (by simp) _
  have hz : Hid (¬ b0 = b1 ∧ w.heap.size ≤ b1 ∧ w.heap.size ≤ b0) := by rw [← hb0.out, ← hb1.out]; exact ⟨by omega, by omega, Nat.le_refl _⟩
  have LH : Hid (Lf w al) := h
  have lH : Hid (l.length ≤ 140737488355328) := hl
  have hcw : Hid (Calls Tryd.prog 25 #[.string (txb l)] w1 fun e w' => e = .returned (.tuple #[.string (txb (Li.wd 32 l)), .string (txb (Li.rs 32 l))]) ∧ Below w1.heap.size w1 w') := lcutWord_c l w1
  have hcn : Hid (∀ (W : World) (r : List UInt8), Below w.heap.size w W → r.length ≤ 140737488355328 → Calls Tryd.prog 26 #[.string (txb r)] W fun e w' => CnE r W e w') := fun W r hW hr => lcutNumber_c r hr W al (LH.out.below hW)
  have htp : Hid (∀ (W : World) (r : List UInt8), Calls Tryd.prog 27 #[.string (txb r), .string ⟨#[32]⟩] W fun e w' => e = .returned (.string (txb (Lib.trimPrefix r [32]))) ∧ w' = W) := fun W r => Tryd.strings_TrimPrefix (txb r) ⟨#[32]⟩ W
  have hq := txb_eq (Li.wd 32 l) tim6
  have hq6 : (txb tim6).toList = [116, 105, 109, 98, 114, 101] := by rw [Lib.toList_data]; rfl
  rw [hq6] at hq
  clear h hl hq6
  go_enter Tryd.func11, Tryd.ntmps11
  go_upto_region 2 with fail
  rw [ew1.out, hb1.out, hb0.out]
  go_wp2_with fail
  refine hcw.out.mono ?_
  rintro e w2 ⟨rfl, B2⟩
  have M2 : Hid (HM w w2 b0 b1 []) := M1.out.call B2
  have hhe : Hid (Calls Tryd.prog 19 #[.pointer (some ⟨b1, 0, none⟩)] w2 fun e w' => e = .returned (pv4' b1) ∧ Below w2.heap.size w2 w') := lheads_c b1 w2
  obtain ⟨ok0, hok0⟩ : ∃ b, b = decide (Li.wd 32 l = tim6) := ⟨_, rfl⟩
  have S0 : Hid (HS l 0 ok0 (Li.rs 32 l) []) := by
    refine ⟨rfl, rs_len 32 l, ?_⟩
    by_cases hw : Li.wd 32 l = tim6
    · left
      refine ⟨by rw [hok0, decide_eq_true hw], ?_⟩
      unfold hdl
      rw [if_pos hw]
      congr 1
      cases Li.ph 4 (Li.rs 32 l) <;> rfl
    · right
      exact ⟨by rw [hok0, decide_eq_false hw], by unfold hdl; rw [if_neg hw]⟩
  rw [← hok0] at hq
  clear B2 hcw M1 hok0
  generalize Li.wd 32 l = wrd at *
  go_wp2_with fail
  refine hhe.out.mono ?_
  rintro e w3 ⟨rfl, B3⟩
  have M3 : Hid (HM w w3 b0 b1 []) := M2.out.call B3
  have hix : Hid (∀ k, k < 4 → ∀ W : World, (Instr.index 59 (pv4' b1) (.int .i64 (k : Nat))).run Tryd.prog W = .ok (.pointer (some ⟨b1, k, none⟩)) W) := fun k hk W => pv4'_index b1 k hk W
  generalize pv4' b1 = P4 at hix
  clear B3 hhe M2
  go_wp2
  clear hq
  go_loopw [18, 6, 7] (fun i u v wr => ∃ (k : Nat) (ok : Bool) (r : List UInt8) (xs : List Int), k ≤ 4 ∧ i = .int .i64 k ∧ u = .string (txb r) ∧ v = .bool ok ∧ Hid (HS l k ok r xs) ∧ Hid (HM w wr b0 b1 xs)) (fun i _ _ _ => 4 - (intOf i).toNat)
  case atStart => exact ⟨0, ok0, _, [], by decide, rfl, rfl, rfl, S0, M3⟩
  case round =>
    obtain ⟨k, ok, r, xs, hk, rfl, rfl, rfl, Sk, Mk⟩ := hrel
    by_cases hlt : k < 4
    · have hlt' : (k : Int) < 4 := by omega
      have hi := hix.out k hlt
      cases ok with
      | false =>
        have hres : Hid (hdl l = none) := by
          rcases Sk.out.2.2 with ⟨h1, _⟩ | ⟨_, h1⟩
          · cases h1
          · exact h1
        obtain ⟨x0, x1, x2, x3, x4⟩ := Mk.out.x.bx
        have Zx := Mk.out.x.fz
        go_wp2
        obtain ⟨z0, z1, z2, z3, z4⟩ := Mk.out.x.bx.set ⟨0, 0, 0, 0, []⟩ (.slice none 0 0)
        refine bodyPost_ret (v := .tuple #[pv ⟨0, 0, 0, 0, []⟩ (.slice none 0 0), .bool false]) (by unfold pv; simp [results, Tryd.results11, go_sem, z0, z1, z2, z3, z4]) rfl ⟨Mk.out.ret hz.out.2.2 _ _ _ _ _, .inl ⟨hres.out, _, rfl⟩⟩
      | true =>
        have hrl : Hid (r.length ≤ 140737488355328) := Nat.le_trans Sk.out.2.1 lH.out
        have hst : Hid (hdl l = match Li.rdn (Li.wd 32 (Lib.trimPrefix r [32])) with
            | some x => Li.whole ((Li.ph (4 - (k + 1)) (Li.rs 32 (Lib.trimPrefix r [32]))).map fun p => ((xs ++ [x]) ++ p.1, p.2))
            | none => none) := by
          rcases Sk.out.2.2 with ⟨_, h1⟩ | ⟨h1, _⟩
          · show _ = _; rw [h1]; exact ph_step hlt r xs
          · cases h1
        have htl : Hid ((Lib.trimPrefix r [32]).length ≤ r.length) := tp_len r
        have htr := htp.out wr r
        have htrH : Hid (Calls Tryd.prog 27 #[.string (txb r), .string ⟨#[32]⟩] wr fun e w' => e = .returned (.string (txb (Lib.trimPrefix r [32]))) ∧ w' = wr) := htr
        clear htr
        obtain ⟨tr, htr2⟩ := hid_ex3 (Lib.trimPrefix r [32])
        rw [htr2.out] at hst htl htrH
        go_wp2_with fail
        refine htrH.out.mono ?_
        rintro e w' ⟨rfl, rfl⟩
        go_wp2_with fail
        refine (hcn.out _ tr Mk.out.be (by have h1 := htl.out; have h2 := hrl.out; omega)).mono ?_
        rintro e w5 ⟨B5, hcs⟩
        have M5 : Hid (HM w w5 b0 b1 xs) := Mk.out.call B5
        have hxl : xs.length = k := Sk.out.1
        have hrs2 : Hid ((Li.rs 32 tr).length ≤ l.length) := Nat.le_trans (rs_len 32 tr) (Nat.le_trans htl.out Sk.out.2.1)
        obtain ⟨z, hzc⟩ := M5.out.y.cellZ hlt
        have fz := M5.out.y.fz k
        have hM6 : Hid (∀ x : Int, HM w (w5.setCell ⟨b1, k, none⟩ (.int .i64 x)) b0 b1 (xs ++ [x])) := fun x => by
          have h9 := M5.out.set x (by omega) hz.out.1 hz.out.2.1
          rw [hxl] at h9; exact h9
        clear B5 htrH
        rcases hcs with ⟨x, hx, rfl⟩ | ⟨x, hx, rfl⟩
        · have S6 : Hid (HS l (k + 1) true (Li.rs 32 tr) (xs ++ [x])) := by
            refine ⟨by simp [hxl], hrs2.out, .inl ⟨rfl, ?_⟩⟩
            have h9 := hst.out
            rw [hx] at h9
            exact h9
          clear hx hst Sk
          generalize Li.rs 32 tr = r2 at *
          go_wp2
          go_roundw
          case rel => exact ⟨k + 1, true, r2, xs ++ [x], by omega, by go_num, rfl, rfl, S6, hM6.out x⟩
          case measure => simp [intOf]; omega
        · have S6 : Hid (HS l (k + 1) false (Li.rs 32 tr) (xs ++ [x])) := by
            refine ⟨by simp [hxl], hrs2.out, .inr ⟨rfl, ?_⟩⟩
            have h9 := hst.out
            rw [hx] at h9
            exact h9
          clear hx hst Sk
          generalize Li.rs 32 tr = r2 at *
          go_wp2
          go_roundw
          case rel => exact ⟨k + 1, false, r2, xs ++ [x], by omega, by go_num, rfl, rfl, S6, hM6.out x⟩
          case measure => simp [intOf]; omega
    · have hlt' : decide ((k : Int) < 4) = false := decide_eq_false (by omega)
      have hk4 : Hid (k = 4) := by show _ = _; omega
      obtain ⟨x0, x1, x2, x3, x4⟩ := Mk.out.x.bx
      obtain ⟨y0, y1, y2, y3, y4⟩ := Mk.out.y.bx
      have Zx := Mk.out.x.fz
      have hqe : ((txb r).toList == ([] : List UInt8)) = decide (r = []) := by
        have h9 := txb_eq r []
        rw [show (txb []).toList = [] by rw [Lib.toList_data]; rfl] at h9
        exact h9
      cases ok with
      | false =>
        have hres : Hid (hdl l = none) := by
          rcases Sk.out.2.2 with ⟨h1, _⟩ | ⟨_, h1⟩
          · cases h1
          · exact h1
        go_wp2
        obtain ⟨z0, z1, z2, z3, z4⟩ := Mk.out.x.bx.set (hdZ xs) (.slice none 0 0)
        refine bodyPost_ret (v := .tuple #[pv (hdZ xs) (.slice none 0 0), .bool false]) (by unfold pv; simp [results, Tryd.results11, go_sem, z0, z1, z2, z3, z4]) rfl ⟨Mk.out.ret hz.out.2.2 _ _ _ _ _, .inl ⟨hres.out, _, rfl⟩⟩
      | true =>
        have hres : Hid (hdl l = if r = [] then some xs else none) := by
          rcases Sk.out.2.2 with ⟨_, h1⟩ | ⟨h1, _⟩
          · show _ = _; rw [h1, hk4.out]; simp [Li.ph, Li.whole]
          · cases h1
        by_cases hr : r = []
        · rw [decide_eq_true hr] at hqe
          rw [if_pos hr] at hres
          clear hr
          go_wp2
          obtain ⟨z0, z1, z2, z3, z4⟩ := Mk.out.x.bx.set (hdZ xs) (.slice none 0 0)
          refine bodyPost_ret (v := .tuple #[pv (hdZ xs) (.slice none 0 0), .bool true]) (by unfold pv; simp [results, Tryd.results11, go_sem, z0, z1, z2, z3, z4]) rfl ⟨Mk.out.ret hz.out.2.2 _ _ _ _ _, .inr ⟨xs, hres.out, rfl⟩⟩
        · rw [decide_eq_false hr] at hqe
          rw [if_neg hr] at hres
          clear hr
          go_wp2
          obtain ⟨z0, z1, z2, z3, z4⟩ := Mk.out.x.bx.set (hdZ xs) (.slice none 0 0)
          refine bodyPost_ret (v := .tuple #[pv (hdZ xs) (.slice none 0 0), .bool false]) (by unfold pv; simp [results, Tryd.results11, go_sem, z0, z1, z2, z3, z4]) rfl ⟨Mk.out.ret hz.out.2.2 _ _ _ _ _, .inl ⟨hres.out, _, rfl⟩⟩
end Go.Proofs.YtlbnldbelfgokaaDoor
/-
  Package listing, reading: readStep.
-/
namespace Go.Proofs.YtlbnldbelfgokaaDoor
open Flo Go.RowKit
/-- the operation of a name -/
def opn (t : List UInt8) : Option Nat := [1, 2, 3, 4, 5, 6, 7, 8, 9, 10, 11].find? fun o => (nmb o).data.toList == t
theorem nmb_inj {a b : Nat} (ha : 1 ≤ a ∧ a < 12) (hb : 1 ≤ b ∧ b < 12) (h : (nmb a).data.toList = (nmb b).data.toList) : a = b := by
  have key : ∀ a : Fin 12, ∀ b : Fin 12, 1 ≤ a.val → 1 ≤ b.val → (nmb a.val).data.toList = (nmb b.val).data.toList → a = b := by decide +kernel
  exact congrArg Fin.val (key ⟨a, ha.2⟩ ⟨b, hb.2⟩ ha.1 hb.1 h)
theorem opn_some {t : List UInt8} {r : Nat} (hr : 1 ≤ r ∧ r < 12) (h : (nmb r).data.toList = t) : opn t = some r := by
  unfold opn
  cases hf : [1, 2, 3, 4, 5, 6, 7, 8, 9, 10, 11].find? fun o => (nmb o).data.toList == t with
  | none =>
    have h1 := List.find?_eq_none.1 hf r (by simp; omega)
    rw [h] at h1; simp at h1
  | some r' =>
    have h1 := List.find?_some hf
    have h2 := List.mem_of_find?_eq_some hf
    simp at h1 h2
    rw [nmb_inj (a := r') (b := r) (by omega) hr (by rw [h1, h])]
theorem opn_none {t : List UInt8} (h : ∀ j, 1 ≤ j → j < 12 → nmb j ≠ txb t) : opn t = none := by
  unfold opn
  rw [List.find?_eq_none]
  intro o ho
  simp at ho
  intro h1
  have h2 : (nmb o).data.toList = t := by simpa using h1
  exact h o (by omega) (by omega) (by rw [← txb_of (nmb o), h2])
theorem opn_of {t : List UInt8} {r : Nat} {b : Bool} (h : OpR (txb t) r b) : (b = true ∧ opn t = some r ∧ 1 ≤ r ∧ r < 12) ∨ (b = false ∧ opn t = none) := by
  rcases h with ⟨h1, h2, h3, h4⟩ | ⟨h1, h2, h3⟩
  · exact .inl ⟨h4, opn_some ⟨h1, h2⟩ (by rw [h3, txb_list]), h1, h2⟩
  · exact .inr ⟨h3, opn_none h2⟩
def stZ (o : Nat) (xs : List Int) : Sp.St := ⟨o, xs.getD 0 0, xs.getD 1 0, xs.getD 2 0, xs.getD 3 0, xs.getD 4 0, xs.getD 5 0⟩
/-- the step of a line -/
def stl (l : List UInt8) : Option Sp.St := (opn (Li.wd 32 l)).bind fun o => (Li.whole (Li.pf ltr (Li.rs 32 l))).map (stZ o)
theorem stZ_zero (o : Nat) (xs : List Int) : stZ o (xs ++ [0]) = stZ o xs := by
  have e : ∀ k, (xs ++ [(0 : Int)]).getD k 0 = xs.getD k 0 := fun k => by
    rw [List.getD_eq_getElem?_getD, List.getD_eq_getElem?_getD]
    by_cases h : k < xs.length
    · rw [List.getElem?_append_left h]
    · by_cases h2 : k = xs.length
      · rw [h2, List.getElem?_append_right (Nat.le_refl _), List.getElem?_eq_none (Nat.le_refl _)]; simp
      · rw [List.getElem?_eq_none (by simp; omega), List.getElem?_eq_none (by omega)]
  unfold stZ
  rw [e, e, e, e, e, e]
/-- a step at a block, free to be written -/
structure Bsz (w : World) (b : Nat) (s : Sp.St) : Prop where
  bx : Bst w b s.op s.dst s.src s.jump s.count s.n s.k
  fz : ∀ i, w.frozen? ⟨b, i, none⟩ = false
section
variable {w w' : World} {b : Nat} {s : Sp.St}
theorem Bsz.fr {S : Nat → Prop} (h : Bsz w b s) (hf : Fr S w w') (hS : ¬ S b) : Bsz w' b s :=
  ⟨h.bx.fr hf hS, fun i => (hf.frozen (p := ⟨b, i, none⟩) (cell_lt (a := ⟨b, 0, none⟩) h.bx.c0) hS).trans (h.fz i)⟩
theorem Bsz.new (w : World) (s : Sp.St) : Bsz (w.alloc (.cells #[.int .i64 s.op, .int .i64 s.dst, .int .i64 s.src, .int .i64 s.jump, .int .i64 s.count, .int .i64 s.n, .int .i64 s.k] 38)) w.heap.size s :=
  ⟨Bst.new w _ _ _ _ _ _ _, fun i => by simp⟩
theorem Bsz.set {o : Nat} {xs : List Int} (h : Bsz w b (stZ o xs)) (x : Int) (hx : xs.length < 6) : Bsz (w.setCell ⟨b, xs.length + 1, none⟩ (.int .i64 x)) b (stZ o (xs ++ [x])) := by
  obtain ⟨⟨c0, c1, c2, c3, c4, c5, c6⟩, fz⟩ := h
  refine ⟨?_, fun j => by rw [World.frozen?_setCell]; exact fz j⟩
  match xs, hx with
  | [], _ => simp [stZ] at c0 c1 c2 c3 c4 c5 c6; constructor <;> simp [stZ, World.cell?_setCell_other, World.cell?_setCell_same, c0, c1, c2, c3, c4, c5, c6]
  | [a], _ => simp [stZ] at c0 c1 c2 c3 c4 c5 c6; constructor <;> simp [stZ, World.cell?_setCell_other, World.cell?_setCell_same, c0, c1, c2, c3, c4, c5, c6]
  | [a, a2], _ => simp [stZ] at c0 c1 c2 c3 c4 c5 c6; constructor <;> simp [stZ, World.cell?_setCell_other, World.cell?_setCell_same, c0, c1, c2, c3, c4, c5, c6]
  | [a, a2, a3], _ => simp [stZ] at c0 c1 c2 c3 c4 c5 c6; constructor <;> simp [stZ, World.cell?_setCell_other, World.cell?_setCell_same, c0, c1, c2, c3, c4, c5, c6]
  | [a, a2, a3, a4], _ => simp [stZ] at c0 c1 c2 c3 c4 c5 c6; constructor <;> simp [stZ, World.cell?_setCell_other, World.cell?_setCell_same, c0, c1, c2, c3, c4, c5, c6]
  | [a, a2, a3, a4, a5], _ => simp [stZ] at c0 c1 c2 c3 c4 c5 c6; constructor <;> simp [stZ, World.cell?_setCell_other, World.cell?_setCell_same, c0, c1, c2, c3, c4, c5, c6]
theorem Bsz.cell (h : Bsz w b s) {k : Nat} (hk : k < 6) : ∃ z : Int, w.cell? ⟨b, k + 1, none⟩ = some (.int .i64 z) := by
  obtain ⟨⟨c0, c1, c2, c3, c4, c5, c6⟩, fz⟩ := h
  match k, hk with
  | 0, _ => exact ⟨_, c1⟩
  | 1, _ => exact ⟨_, c2⟩
  | 2, _ => exact ⟨_, c3⟩
  | 3, _ => exact ⟨_, c4⟩
  | 4, _ => exact ⟨_, c5⟩
  | 5, _ => exact ⟨_, c6⟩
end
def zst : Sp.St := ⟨0, 0, 0, 0, 0, 0, 0⟩
/-- what readStep tells -/
def StE (al : List Addr) (l : List UInt8) (w : World) (e : Ending) (w' : World) : Prop :=
  Below w.heap.size w w' ∧ ((stl l = none ∧ e = .returned (.tuple #[sv zst, ek al 5])) ∨ ∃ s, stl l = some s ∧ e = .returned (.tuple #[sv s, fev al (Sp.fm s)]))
structure SM (w wr : World) (b0 b1 : Nat) (s : Sp.St) : Prop where
  x : Bsz wr b0 zst
  y : Bsz wr b1 s
  be : Below w.heap.size w wr
theorem SM.call {w wr wx : World} {b0 b1 : Nat} {s : Sp.St} (h : SM w wr b0 b1 s) (hb : Below wr.heap.size wr wx) : SM w wx b0 b1 s := ⟨h.x.fr (Fr.bel hb) id, h.y.fr (Fr.bel hb) id, h.be.trans (hb.mono h.be.size)⟩
theorem SM.set {w wr : World} {b0 b1 o : Nat} {xs : List Int} (h : SM w wr b0 b1 (stZ o xs)) (x : Int) (hx : xs.length < 6) (h01 : ¬ b0 = b1) (hw : w.heap.size ≤ b1) : SM w (wr.setCell ⟨b1, xs.length + 1, none⟩ (.int .i64 x)) b0 b1 (stZ o (xs ++ [x])) :=
  ⟨h.x.fr (set_fr wr b1 _ _) h01, h.y.set x hx, (set_fr wr b1 _ _).below h.be h.be.size fun k _ hk => by omega⟩
theorem SM.ret {w wr : World} {b0 b1 : Nat} {s : Sp.St} (h : SM w wr b0 b1 s) (hw : w.heap.size ≤ b0) (a0 a1 a2 a3 a4 a5 a6 : Value) : Below w.heap.size w (((((((wr.setCell ⟨b0, 0, none⟩ a0).setCell ⟨b0, 1, none⟩ a1).setCell ⟨b0, 2, none⟩ a2).setCell ⟨b0, 3, none⟩ a3).setCell ⟨b0, 4, none⟩ a4).setCell ⟨b0, 5, none⟩ a5).setCell ⟨b0, 6, none⟩ a6) :=
  (set7_fr wr b0 _ _ _ _ _ _ _).below h.be h.be.size fun k _ hk => by omega
/-- how far the fields are read -/
def PS (l : List UInt8) (o k : Nat) (r : List UInt8) (xs : List Int) : Prop :=
  xs.length = k ∧ r.length ≤ l.length ∧ stl l = (Li.whole ((Li.pf (ltr.drop k) r).map fun p => (xs ++ p.1, p.2))).map (stZ o)
theorem pf_step {k : Nat} (hk : k < 6) (r : List UInt8) (xs : List Int) : (Li.pf (ltr.drop k) r).map (fun p => (xs ++ p.1, p.2)) =
    if Lib.hasPrefix r [32, ltr.getD k 0] = true then
      (match Li.rdn (Li.wd 32 (r.drop 2)) with
        | some x => if x = 0 then none else (Li.pf (ltr.drop (k + 1)) (Li.rs 32 (r.drop 2))).map fun p => ((xs ++ [x]) ++ p.1, p.2)
        | none => none)
    else (Li.pf (ltr.drop (k + 1)) r).map fun p => ((xs ++ [0]) ++ p.1, p.2) := by
  have e : ltr.drop k = ltr.getD k 0 :: ltr.drop (k + 1) := by
    match k, hk with
    | 0, _ => rfl
    | 1, _ => rfl
    | 2, _ => rfl
    | 3, _ => rfl
    | 4, _ => rfl
    | 5, _ => rfl
  rw [e, Li.pf]
  by_cases hp : Lib.hasPrefix r [32, ltr.getD k 0] = true
  · rw [if_pos hp, if_pos hp]
    cases Li.rdn (Li.wd 32 (r.drop 2)) with
    | none => rfl
    | some x =>
      simp only
      by_cases h0 : x = 0
      · rw [if_pos h0, if_pos h0]; rfl
      · rw [if_neg h0, if_neg h0, Option.map_map]
        congr 1
        funext p
        simp
  · rw [if_neg hp, if_neg hp, Option.map_map]
    congr 1
    funext p
    simp
theorem tp2 {r : List UInt8} {c : UInt8} (h : Lib.hasPrefix r [32, c] = true) : Lib.trimPrefix r [32, c] = r.drop 2 := by unfold Lib.trimPrefix; rw [if_pos h]; rfl
set_option maxHeartbeats 16000000 in
set_option maxRecDepth 100000 in
theorem lreadStep_c (l : List UInt8) (hl : l.length ≤ 140737488355328) (w : World) (al : List Addr) (h : Lf w al) :
    Calls Tryd.prog 12 #[.string (txb l)] w fun e w' => StE al l w e w' := by
  obtain ⟨b0, hb0⟩ := hid_ex3 w.heap.size
  obtain ⟨w1, ew1⟩ := hid_ex3 (w.alloc (.cells #[.int .i64 0, .int .i64 0, .int .i64 0, .int .i64 0, .int .i64 0, .int .i64 0, .int .i64 0] 38))
  have B1 : Hid (Below w.heap.size w w1) := by rw [← ew1.out]; exact (Below.refl _ _).alloc (Nat.le_refl _) _
  have X1 : Hid (Bsz w1 b0 zst) := by rw [← ew1.out, ← hb0.out]; exact Bsz.new w zst
  have LH : Hid (Lf w al) := h
  have lH : Hid (l.length ≤ 140737488355328) := hl
  have hcw : Hid (Calls Tryd.prog 25 #[.string (txb l)] w1 fun e w' => e = .returned (.tuple #[.string (txb (Li.wd 32 l)), .string (txb (Li.rs 32 l))]) ∧ Below w1.heap.size w1 w') := lcutWord_c l w1
  have hcn : Hid (∀ (W : World) (r : List UInt8), Below w.heap.size w W → r.length ≤ 140737488355328 → Calls Tryd.prog 26 #[.string (txb r)] W fun e w' => CnE r W e w') := fun W r hW hr => lcutNumber_c r hr W al (LH.out.below hW)
  have hcp : Hid (∀ (W : World) (r : List UInt8) (c : UInt8), Calls Tryd.prog 30 #[.string (txb r), .string (txb [32, c])] W fun e w' => e = .returned (.tuple #[.string (txb (Lib.trimPrefix r [32, c])), .bool (Lib.hasPrefix r [32, c])]) ∧ w' = W) := fun W r c => Tryd.strings_CutPrefix (txb r) (txb [32, c]) W
  clear h hl
  go_enter Tryd.func12, Tryd.ntmps12
  go_upto_region 1 with fail
  rw [ew1.out, hb0.out]
  go_wp2_with fail
  refine hcw.out.mono ?_
  rintro e w2 ⟨rfl, B2⟩
  have X2 : Hid (Bsz w2 b0 zst) := X1.out.fr (Fr.bel B2) id
  have R2 : Hid (Below w.heap.size w w2) := B1.out.trans (B2.mono B1.out.size)
  have hop : Hid (Calls Tryd.prog 28 #[.string (txb (Li.wd 32 l))] w2 fun e w' => OpE (txb (Li.wd 32 l)) e ∧ w2 = w') := sop_c _ w2 (LH.out.below R2.out).le.ops
  clear B2 hcw
  go_wp2_with fail
  refine hop.out.mono ?_
  rintro e w' ⟨⟨r, bo, rfl, hor⟩, rfl⟩
  have hob := opn_of hor
  clear hor hop
  have te2 : w2.cell? ⟨0, 0, none⟩ = some (ek al 5) := (LH.out.below R2.out).te
  have hgt : Hid (0 < w.heap.size) := cell_lt LH.out.te
  have hne : Hid (¬ 0 = b0) := by have := hgt.out; show ¬ _; rw [← hb0.out]; omega
  rcases hob with ⟨rfl, hop, hr1, hr2⟩ | ⟨rfl, hop⟩
  · obtain ⟨b1, hb1⟩ := hid_ex3 w2.heap.size
    obtain ⟨w3, ew3⟩ := hid_ex3 (w2.alloc (.cells #[.int .i64 (r : Int), .int .i64 0, .int .i64 0, .int .i64 0, .int .i64 0, .int .i64 0, .int .i64 0] 38))
    have L3 : Hid (Below w2.heap.size w2 w3) := by rw [← ew3.out]; exact (Below.refl _ _).alloc (Nat.le_refl _) _
    have M3 : Hid (SM w w3 b0 b1 (stZ r [])) := ⟨X2.out.fr (Fr.bel L3.out) id, by rw [← ew3.out, ← hb1.out]; exact Bsz.new w2 (stZ r []), R2.out.trans (L3.out.mono R2.out.size)⟩
    have hz : Hid (¬ b0 = b1 ∧ w.heap.size ≤ b1 ∧ w.heap.size ≤ b0) := by
      have h1 := cell_lt (a := ⟨b0, 0, none⟩) X2.out.bx.c0
      have h2 := R2.out.size
      rw [← hb1.out]
      simp only at h1
      exact ⟨by omega, h2, by rw [hb0.out]; exact Nat.le_refl _⟩
    have S3 : Hid (PS l r 0 (Li.rs 32 l) []) := by
      refine ⟨rfl, rs_len 32 l, ?_⟩
      unfold stl
      rw [hop, Option.bind_some, List.drop_zero]
      congr 2
      cases Li.pf ltr (Li.rs 32 l) <;> rfl
    have hfi : Hid (Calls Tryd.prog 29 #[.pointer (some ⟨b1, 0, none⟩)] w3 fun e w' => e = .returned (pv6 b1) ∧ Below w3.heap.size w3 w') := lfields_c b1 w3
    clear hop te2
    generalize Li.rs 32 l = rr0 at *
    go_upto_region 6 with fail
    rw [ew3.out, hb1.out]
    go_wp2_with fail
    refine hfi.out.mono ?_
    rintro e w4 ⟨rfl, B4⟩
    have M4 : Hid (SM w w4 b0 b1 (stZ r [])) := M3.out.call B4
    have hix : Hid (∀ k, k < 6 → ∀ W : World, (Instr.index 73 (pv6 b1) (.int .i64 (k : Nat))).run Tryd.prog W = .ok (.pointer (some ⟨b1, k + 1, none⟩)) W) := fun k hk W => pv6_index b1 k hk W
    generalize pv6 b1 = P6 at hix
    clear B4 hfi M3 L3
    go_wp2
    go_loopw [30, 5] (fun i u wr => ∃ (k : Nat) (q : List UInt8) (xs : List Int), k ≤ 6 ∧ i = .int .i64 k ∧ u = .string (txb q) ∧ Hid (PS l r k q xs) ∧ Hid (SM w wr b0 b1 (stZ r xs))) (fun i _ _ => 6 - (intOf i).toNat)
    case atStart => exact ⟨0, rr0, [], by decide, rfl, rfl, S3, M4⟩
    case round =>
      obtain ⟨k, q, xs, hk, rfl, rfl, Sk, Mk⟩ := hrel
      by_cases hlt : k < 6
      · have hlt' : (k : Int) < 6 := by omega
        have hi := hix.out k hlt
        have hxl : xs.length = k := Sk.out.1
        have hk0 : (0 : Int) ≤ (k : Int) := by omega
        have hk1 : (k : Int) + 1 ≤ 6 := by omega
        have hkw : IntKind.i64.wrap ((k : Int) + 1) = (k : Int) + 1 := by rw [IntKind.wrap_i64]; omega
        have hst : Hid (stl l = (Li.whole (if Lib.hasPrefix q [32, ltr.getD k 0] = true then
            (match Li.rdn (Li.wd 32 (q.drop 2)) with
              | some x => if x = 0 then none else (Li.pf (ltr.drop (k + 1)) (Li.rs 32 (q.drop 2))).map fun p => ((xs ++ [x]) ++ p.1, p.2)
              | none => none)
            else (Li.pf (ltr.drop (k + 1)) q).map fun p => ((xs ++ [0]) ++ p.1, p.2))).map (stZ r)) := by show _ = _; rw [← pf_step hlt q xs]; exact Sk.out.2.2
        have hlc : Hid ((⟨#[100, 115, 106, 99, 110, 107]⟩ : ByteArray).extract k (k + 1) = txb [ltr.getD k 0]) := ltr_cut k hlt
        obtain ⟨c, hc9⟩ := hid_ex3 (ltr.getD k 0)
        have hsl : ∀ W : World, (Instr.slice 9 (.string ⟨#[100, 115, 106, 99, 110, 107]⟩) (some (.int .i64 (k : Int))) (some (.int .i64 ((k : Int) + 1))) none).run Tryd.prog W = .ok (.string (txb [c])) W := fun W => by
          have h9 := run_slice_string (P := Tryd.prog) W 9 ⟨#[100, 115, 106, 99, 110, 107]⟩ .i64 .i64 (k : Int) ((k : Int) + 1) Tryd.underlying9 hk0 (by omega) (by show (k : Int) + 1 ≤ 6; exact hk1)
          rw [h9, show ((k : Int)).toNat = k by omega, show ((k : Int) + 1).toNat = k + 1 by omega, hlc.out, hc9.out]
        rw [hc9.out] at hst
        have a1 : ∀ W : World, (Op.stringOp .add ⟨#[32]⟩ (txb [c])).run Tryd.prog W = .ok (.string (txb [32, c])) W := fun W => sadd [32] [c] W (by simp)
        have hcpk := hcp.out wr q c
        have hcpH : Hid (Calls Tryd.prog 30 #[.string (txb q), .string (txb [32, c])] wr fun e w' => e = .returned (.tuple #[.string (txb (Lib.trimPrefix q [32, c])), .bool (Lib.hasPrefix q [32, c])]) ∧ w' = wr) := hcpk
        clear hcpk hlc
        cases hhp : Lib.hasPrefix q [32, c] with
        | false =>
          rw [hhp, if_neg (by decide)] at hst
          have S6 : Hid (PS l r (k + 1) q (xs ++ [0])) := ⟨by simp [hxl], Sk.out.2.1, hst.out⟩
          have M6 : Hid (SM w wr b0 b1 (stZ r (xs ++ [0]))) := by rw [stZ_zero]; exact Mk.out
          rw [hhp] at hcpH
          generalize txb (Lib.trimPrefix q [32, c]) = T9 at hcpH
          clear hhp hst Sk
          go_wp2_with fail
          refine hcpH.out.mono ?_
          rintro e w' ⟨rfl, rfl⟩
          go_wp2
          go_roundw
          case rel => exact ⟨k + 1, q, xs ++ [0], by omega, by go_num, rfl, S6, M6⟩
          case measure => simp [intOf]; omega
        | true =>
          rw [tp2 hhp, hhp] at hcpH
          rw [hhp, if_pos rfl] at hst
          have hql : Hid ((q.drop 2).length ≤ l.length) := by show _ ≤ _; rw [List.length_drop]; have := Sk.out.2.1; omega
          obtain ⟨q2, hq2⟩ := hid_ex3 (q.drop 2)
          rw [hq2.out] at hst hcpH hql
          clear hhp Sk
          go_wp2_with fail
          refine hcpH.out.mono ?_
          rintro e w' ⟨rfl, rfl⟩
          go_wp2_with fail
          refine (hcn.out _ q2 Mk.out.be (by have h1 := hql.out; have h2 := lH.out; omega)).mono ?_
          rintro e w5 ⟨B5, hcs⟩
          have M5 : Hid (SM w w5 b0 b1 (stZ r xs)) := Mk.out.call B5
          have hrs2 : Hid ((Li.rs 32 q2).length ≤ l.length) := Nat.le_trans (rs_len 32 q2) hql.out
          obtain ⟨z, hzc⟩ := M5.out.y.cell hlt
          have fz := M5.out.y.fz (k + 1)
          have hM6 : Hid (∀ x : Int, SM w (w5.setCell ⟨b1, k + 1, none⟩ (.int .i64 x)) b0 b1 (stZ r (xs ++ [x]))) := fun x => by
            have h9 := M5.out.set x (by omega) hz.out.1 hz.out.2.1
            rw [hxl] at h9; exact h9
          have hsc : Hid (∀ x : Int, (w5.setCell ⟨b1, k + 1, none⟩ (.int .i64 x)).cell? ⟨b1, k + 1, none⟩ = some (.int .i64 x)) := fun x => World.cell?_setCell_same _ _ _ hzc
          clear B5 hcpH
          rcases hcs with ⟨x, hx, rfl⟩ | ⟨x, hx, rfl⟩
          · rw [hx] at hst
            simp only at hst
            by_cases hx0 : x = 0
            · have hres : Hid (stl l = none) := by have h9 := hst.out; rw [if_pos hx0] at h9; exact h9
              have e0 : (x == 0) = true := by rw [hx0]; rfl
              obtain ⟨w6, ew6⟩ := hid_ex3 (w5.setCell ⟨b1, k + 1, none⟩ (.int .i64 x))
              have M6 : Hid (SM w w6 b0 b1 (stZ r (xs ++ [x]))) := by rw [← ew6.out]; exact hM6.out x
              have cx : w6.cell? ⟨b1, k + 1, none⟩ = some (.int .i64 x) := by rw [← ew6.out]; exact hsc.out x
              clear hx hst hx0
              generalize Li.rs 32 q2 = r2 at *
              go_upto_region 12 with fail
              rw [ew6.out]
              obtain ⟨x0, x1, x2, x3, x4, x5, x6⟩ := M6.out.x.bx
              simp only [zst] at x0 x1 x2 x3 x4 x5 x6
              have Zx := M6.out.x.fz
              have p5 : w6.cell? ⟨0, 0, none⟩ = some (ek al 5) := (LH.out.below M6.out.be).te
              have p6 := (set7_fr w6 b0 (.int .i64 0) (.int .i64 0) (.int .i64 0) (.int .i64 0) (.int .i64 0) (.int .i64 0) (.int .i64 0)).cell p5 hne.out
              go_wp2
              go_region
              all_goals (
                go_wp2
                obtain ⟨z0, z1, z2, z3, z4, z5, z6⟩ := M6.out.x.bx.set zst
                simp only [zst] at z0 z1 z2 z3 z4 z5 z6
                refine bodyPost_ret (v := .tuple #[sv zst, ek al 5]) (by unfold sv sva zst; simp [results, Tryd.results12, go_sem, z0, z1, z2, z3, z4, z5, z6]) rfl ⟨?_, .inl ⟨hres.out, rfl⟩⟩
                exact ((set7_fr w6 b0 _ _ _ _ _ _ _).below M6.out.be M6.out.be.size fun k _ hk => by rw [hb0.out]; omega).drew)
            · have S6 : Hid (PS l r (k + 1) (Li.rs 32 q2) (xs ++ [x])) := ⟨by simp [hxl], hrs2.out, by have h9 := hst.out; rw [if_neg hx0] at h9; exact h9⟩
              have e0 : (x == 0) = false := beq_eq_false_iff_ne.2 hx0
              obtain ⟨w6, ew6⟩ := hid_ex3 (w5.setCell ⟨b1, k + 1, none⟩ (.int .i64 x))
              have M6 : Hid (SM w w6 b0 b1 (stZ r (xs ++ [x]))) := by rw [← ew6.out]; exact hM6.out x
              have cx : w6.cell? ⟨b1, k + 1, none⟩ = some (.int .i64 x) := by rw [← ew6.out]; exact hsc.out x
              clear hx hst hx0
              generalize Li.rs 32 q2 = r2 at *
              go_upto_region 12 with fail
              rw [ew6.out]
              go_wp2
              go_roundw
              case rel => exact ⟨k + 1, r2, xs ++ [x], by omega, by go_num, rfl, S6, M6⟩
              case measure => simp [intOf]; omega
          · have hres : Hid (stl l = none) := by have h9 := hst.out; rw [hx] at h9; exact h9
            obtain ⟨w6, ew6⟩ := hid_ex3 (w5.setCell ⟨b1, k + 1, none⟩ (.int .i64 x))
            have M6 : Hid (SM w w6 b0 b1 (stZ r (xs ++ [x]))) := by rw [← ew6.out]; exact hM6.out x
            clear hx hst
            generalize Li.rs 32 q2 = r2 at *
            go_upto_region 12 with fail
            rw [ew6.out]
            obtain ⟨x0, x1, x2, x3, x4, x5, x6⟩ := M6.out.x.bx
            simp only [zst] at x0 x1 x2 x3 x4 x5 x6
            have Zx := M6.out.x.fz
            have p5 : w6.cell? ⟨0, 0, none⟩ = some (ek al 5) := (LH.out.below M6.out.be).te
            have p6 := (set7_fr w6 b0 (.int .i64 0) (.int .i64 0) (.int .i64 0) (.int .i64 0) (.int .i64 0) (.int .i64 0) (.int .i64 0)).cell p5 hne.out
            go_wp2
            go_region
            all_goals (
              go_wp2
              obtain ⟨z0, z1, z2, z3, z4, z5, z6⟩ := M6.out.x.bx.set zst
              simp only [zst] at z0 z1 z2 z3 z4 z5 z6
              refine bodyPost_ret (v := .tuple #[sv zst, ek al 5]) (by unfold sv sva zst; simp [results, Tryd.results12, go_sem, z0, z1, z2, z3, z4, z5, z6]) rfl ⟨?_, .inl ⟨hres.out, rfl⟩⟩
              exact ((set7_fr w6 b0 _ _ _ _ _ _ _).below M6.out.be M6.out.be.size fun k _ hk => by rw [hb0.out]; omega).drew)
      · have hlt' : decide ((k : Int) < 6) = false := decide_eq_false (by omega)
        have hk6 : Hid (k = 6) := by show _ = _; omega
        have hst : Hid (stl l = (if q = [] then some xs else none).map (stZ r)) := by
          have h9 := Sk.out.2.2
          rw [hk6.out] at h9
          show _ = _
          rw [h9]
          simp [ltr, Li.pf, Li.whole]
        have hqe : ((txb q).toList == ([] : List UInt8)) = decide (q = []) := by
          have h9 := txb_eq q []
          rw [show (txb []).toList = [] by rw [Lib.toList_data]; rfl] at h9
          exact h9
        by_cases hq : q = []
        · have hres : Hid (stl l = some (stZ r xs)) := by have h9 := hst.out; rw [if_pos hq] at h9; exact h9
          rw [decide_eq_true hq] at hqe
          obtain ⟨s, hs⟩ := hid_ex3 (stZ r xs)
          rw [hs.out] at hres Mk
          have hfo : Hid (∀ W, Below w.heap.size w W → Calls Tryd.prog 31 #[sv s] W fun e w' => e = .returned (fev al (Sp.fm s)) ∧ Below W.heap.size W w') := fun W hW => sform_c s al W (LH.out.below hW).le.ops (LH.out.below hW).le.pe
          unfold sv sva at hfo
          obtain ⟨fv, hfv⟩ := hid_ex3 (fev al (Sp.fm s))
          rw [hfv.out] at hfo
          obtain ⟨y0, y1, y2, y3, y4, y5, y6⟩ := Mk.out.y.bx
          clear hq hst
          obtain ⟨x0, x1, x2, x3, x4, x5, x6⟩ := Mk.out.x.bx
          go_wp2_with fail
          go_region_with (first
            | (go_at_call 31
               refine (hfo.out wr.drew Mk.out.be.drew).mono ?_
               rintro e w5 ⟨rfl, B5⟩
               have M5 : Hid (SM w w5 b0 b1 s) := Mk.out.call ((Below.refl _ _).drew.trans B5)
               clear y0 y1 y2 y3 y4 y5 y6 x0 x1 x2 x3 x4 x5 x6 B5
               obtain ⟨y0, y1, y2, y3, y4, y5, y6⟩ := M5.out.y.bx
               obtain ⟨x0, x1, x2, x3, x4, x5, x6⟩ := M5.out.x.bx
               have Zx := M5.out.x.fz))
          all_goals (
            go_wp2
            obtain ⟨z0, z1, z2, z3, z4, z5, z6⟩ := M5.out.x.bx.set s
            refine bodyPost_ret (v := .tuple #[sv s, fv]) (by unfold sv sva; simp [results, Tryd.results12, go_sem, z0, z1, z2, z3, z4, z5, z6]) rfl ⟨M5.out.ret hz.out.2.2 _ _ _ _ _ _ _, .inr ⟨s, hres.out, by rw [hfv.out]⟩⟩)
        · have hres : Hid (stl l = none) := by have h9 := hst.out; rw [if_neg hq] at h9; exact h9
          rw [decide_eq_false hq] at hqe
          clear hq hst
          obtain ⟨x0, x1, x2, x3, x4, x5, x6⟩ := Mk.out.x.bx
          simp only [zst] at x0 x1 x2 x3 x4 x5 x6
          have Zx := Mk.out.x.fz
          have p5 : wr.cell? ⟨0, 0, none⟩ = some (ek al 5) := (LH.out.below Mk.out.be).te
          have p6 := (set7_fr wr b0 (.int .i64 0) (.int .i64 0) (.int .i64 0) (.int .i64 0) (.int .i64 0) (.int .i64 0) (.int .i64 0)).cell p5 hne.out
          go_wp2
          go_region
          all_goals (
            go_wp2
            obtain ⟨z0, z1, z2, z3, z4, z5, z6⟩ := Mk.out.x.bx.set zst
            simp only [zst] at z0 z1 z2 z3 z4 z5 z6
            refine bodyPost_ret (v := .tuple #[sv zst, ek al 5]) (by unfold sv sva zst; simp [results, Tryd.results12, go_sem, z0, z1, z2, z3, z4, z5, z6]) rfl ⟨?_, .inl ⟨hres.out, rfl⟩⟩
            exact ((set7_fr wr b0 _ _ _ _ _ _ _).below Mk.out.be Mk.out.be.size fun k _ hk => by rw [hb0.out]; omega).drew)
  · have hres : Hid (stl l = none) := by unfold stl; rw [hop]; exact (rfl : _ = _)
    clear hop te2
    obtain ⟨x0, x1, x2, x3, x4, x5, x6⟩ := X2.out.bx
    simp only [zst] at x0 x1 x2 x3 x4 x5 x6
    have Zx := X2.out.fz
    have p5 : w2.cell? ⟨0, 0, none⟩ = some (ek al 5) := (LH.out.below R2.out).te
    have p6 := (set7_fr w2 b0 (.int .i64 0) (.int .i64 0) (.int .i64 0) (.int .i64 0) (.int .i64 0) (.int .i64 0) (.int .i64 0)).cell p5 hne.out
    go_wp2
    go_region
    all_goals (
      go_wp2
      obtain ⟨z0, z1, z2, z3, z4, z5, z6⟩ := X2.out.bx.set zst
      simp only [zst] at z0 z1 z2 z3 z4 z5 z6
      refine bodyPost_ret (v := .tuple #[sv zst, ek al 5]) (by unfold sv sva zst; simp [results, Tryd.results12, go_sem, z0, z1, z2, z3, z4, z5, z6]) rfl ⟨?_, .inl ⟨hres.out, rfl⟩⟩
      exact ((set7_fr w2 b0 _ _ _ _ _ _ _).below R2.out R2.out.size fun k _ hk => by rw [hb0.out]; omega).drew)
end Go.Proofs.YtlbnldbelfgokaaDoor
