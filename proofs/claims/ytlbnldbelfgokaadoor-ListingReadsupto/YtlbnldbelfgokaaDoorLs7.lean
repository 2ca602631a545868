/-
  Package listing, reading: Read.
-/
import Derived.Test.YtlbnldbelfgokaaDoorLs6
namespace Go.Proofs.YtlbnldbelfgokaaDoor
open Flo Go.RowKit
/-- the steps of lines: k is the first one's number -/
def rls : List (List UInt8) → Nat → Except (Nat × Bool) (List Sp.St)
  | [], _ => .ok []
  | [l], k => if l = [] then .ok [] else .error (k, false)
  | l :: l' :: ls, k => match stl l with
    | none => .error (k, false)
    | some s => if Sp.fm s = true then (rls (l' :: ls) (k + 1)).map (s :: ·) else .error (k, true)
def pgw (xs : List Int) (ss : List Sp.St) : Sp.Pg := ⟨xs.getD 0 0, xs.getD 1 0, xs.getD 2 0, xs.getD 3 0, ss⟩
/-- the program of a listing -/
def rdt (t : List UInt8) : Except (Nat × Bool) Sp.Pg := match hdl (Li.wd 10 t) with
  | none => .error (1, false)
  | some xs => if Li.rs 10 t = [] then .error (1, false) else (rls (Li.sp 10 ((Li.rs 10 t).drop 1)) 2).map (pgw xs)
theorem sp_cut (c : UInt8) : ∀ l : List UInt8, Li.sp c l = Li.wd c l :: (if Li.rs c l = [] then [] else Li.sp c ((Li.rs c l).drop 1))
  | [] => rfl
  | b :: l => by
    rw [Li.wd_cons, Li.rs_cons]
    by_cases hb : b = c
    · rw [if_pos hb, if_pos hb, if_neg (by simp)]
      simp [Li.sp, hb]
    · rw [if_neg hb, if_neg hb]
      simp only [Li.sp, if_neg hb]
      rw [sp_cut c l]
theorem sp_ne (c : UInt8) (l : List UInt8) : ∃ w ws, Li.sp c l = w :: ws := ⟨_, _, sp_cut c l⟩
theorem rls_more {l r : List UInt8} (k : Nat) : rls (l :: Li.sp 10 r) k = match stl l with
    | none => .error (k, false)
    | some s => if Sp.fm s = true then (rls (Li.sp 10 r) (k + 1)).map (s :: ·) else .error (k, true) := by
  obtain ⟨u, us, h⟩ := sp_ne 10 r
  rw [h, rls]
/-- what Read tells -/
def RdE (al : List Addr) (t : List UInt8) (w : World) (e : Ending) (w' : World) : Prop :=
  Below w.heap.size w w' ∧ ((∃ (k : Nat) (b : Bool), rdt t = .error (k, b) ∧ e = .returned (.tuple #[zp, .int .i64 (k : Int), ek al (bif b then 8 else 5)])) ∨
    ∃ (p : Sp.Pg) (v : Value), rdt t = .ok p ∧ e = .returned (.tuple #[pv p v, .int .i64 0, .nilIface]) ∧ OwS w' w.heap.size v p.steps)
structure RM (w wr : World) (b0 b1 : Nat) (hd : Sp.Pg) (B : Nat) (v : Value) (ss : List Sp.St) : Prop where
  x : Bpf wr b0 ⟨0, 0, 0, 0, []⟩ (.slice none 0 0)
  y : Bpf wr b1 hd v
  ow : OwS wr B v ss
  be : Below w.heap.size w wr
  bb : w.heap.size ≤ b0 ∧ b0 < b1 ∧ b1 < B ∧ B ≤ wr.heap.size
section
variable {w wr wx : World} {b0 b1 B : Nat} {hd : Sp.Pg} {v : Value} {ss : List Sp.St}
theorem RM.row (h : RM w wr b0 b1 hd B v ss) : ∀ b, v.ownBlock = some b → B ≤ b ∧ b < wr.heap.size := fun b hb => World.ownsRow.lt h.ow b hb
theorem RM.call (h : RM w wr b0 b1 hd B v ss) (hb : Below wr.heap.size wr wx) : RM w wx b0 b1 hd B v ss :=
  ⟨h.x.fr (Fr.bel hb) id, h.y.fr (Fr.bel hb) id, h.ow.fr (Fr.bel hb) (fun _ _ h => h), h.be.trans (hb.mono h.be.size), ⟨h.bb.1, h.bb.2.1, h.bb.2.2.1, Nat.le_trans h.bb.2.2.2 hb.size⟩⟩
theorem RM.push (h : RM w wr b0 b1 hd B v ss) {v' : Value} {ss' : List Sp.St} (ho : OwS wx B v' ss') (hg : wr.grownBy wx v.ownBlock) (hn : ∀ b, v'.ownBlock = some b → v.ownBlock = some b ∨ wr.heap.size ≤ b) :
    Bpf wx b1 hd v ∧ RM w (wx.setCell ⟨b1, 4, none⟩ v') b0 b1 hd B v' ss' := by
  have f1 : Fr (fun k => v.ownBlock = some k) wr wx := (Fr.refl _ wr).grown hg fun _ hk => hk
  have hbb := h.bb
  have nb : ∀ k, k < B → ¬ v.ownBlock = some k := fun k hk e => by have := (h.row _ e).1; omega
  have y1 := h.y.fr f1 (nb _ (by omega))
  have f2 := set_fr wx b1 4 v'
  refine ⟨y1, ⟨(h.x.fr f1 (nb _ (by omega))).fr f2 (by omega), y1.set4 v', ?_, ?_, ⟨hbb.1, hbb.2.1, hbb.2.2.1, ?_⟩⟩⟩
  · refine OwS.fr ho f2 fun b hb => ?_
    rcases hn b hb with a1 | a1
    · have := (h.row _ a1).1; omega
    · omega
  · exact f2.below (f1.below h.be h.be.size fun k _ hk => by have := (h.row _ hk).1; omega) (Nat.le_trans h.be.size f1.size) fun k _ hk => by omega
  · have := hg.size
    have h3 := f2.size
    omega
end
/-- how far the lines are read -/
def RS (t : List UInt8) (k : Nat) (r : List UInt8) (xs : List Int) (ss : List Sp.St) : Prop :=
  2 ≤ k ∧ ss.length ≤ k ∧ k + r.length ≤ t.length + 2 ∧ rdt t = (rls (Li.sp 10 r) k).map fun zs => pgw xs (ss ++ zs)
set_option maxHeartbeats 16000000 in
set_option maxRecDepth 100000 in
theorem lread_c (t : List UInt8) (hl : t.length ≤ 2000000) (w : World) (al : List Addr) (h : Lf w al) :
    Calls Tryd.prog 5 #[.string (txb t)] w fun e w' => RdE al t w e w' := by
  obtain ⟨b0, hb0⟩ := hid_ex3 w.heap.size
  obtain ⟨w1, ew1⟩ := hid_ex3 (w.alloc (.cells #[.int .i64 0, .int .i64 0, .int .i64 0, .int .i64 0, .slice none 0 0] 25))
  have B1 : Hid (Below w.heap.size w w1) := by rw [← ew1.out]; exact (Below.refl _ _).alloc (Nat.le_refl _) _
  have X1 : Hid (Bpf w1 b0 ⟨0, 0, 0, 0, []⟩ (.slice none 0 0)) := by rw [← ew1.out, ← hb0.out]; exact Bpf.new w ⟨0, 0, 0, 0, []⟩ _
  have LH : Hid (Lf w al) := h
  have lH : Hid (t.length ≤ 2000000) := hl
  have hgt : Hid (0 < w.heap.size) := cell_lt h.te
  have hne : Hid (¬ 0 = b0) := by have := hgt.out; show ¬ _; rw [← hb0.out]; omega
  have hcut : Hid (∀ (W : World) (r : List UInt8), r.length ≤ 140737488355328 → Calls Tryd.prog 10 #[.string (txb r), .string ⟨#[10]⟩] W fun e w' => e = .returned (cutv r) ∧ Below W.heap.size W w') := fun W r hr => scut_c r hr W
  have hrh : Hid (∀ (W : World) (r : List UInt8), Below w.heap.size w W → r.length ≤ 140737488355328 → Calls Tryd.prog 11 #[.string (txb r)] W fun e w' => HdE r W e w') := fun W r hW hr => lreadHead_c r hr W al (LH.out.below hW)
  have hrst : Hid (∀ (W : World) (r : List UInt8), Below w.heap.size w W → r.length ≤ 140737488355328 → Calls Tryd.prog 12 #[.string (txb r)] W fun e w' => StE al r W e w') := fun W r hW hr => lreadStep_c r hr W al (LH.out.below hW)
  clear h hl
  go_enter Tryd.func5, Tryd.ntmps5
  go_upto_region 1 with fail
  rw [ew1.out, hb0.out]
  go_wp2_with fail
  refine (hcut.out w1 t (by have := lH.out; omega)).mono ?_
  rintro e w2 ⟨rfl, B2⟩
  have R2 : Hid (Below w.heap.size w w2) := B1.out.trans (B2.mono B1.out.size)
  have X2 : Hid (Bpf w2 b0 ⟨0, 0, 0, 0, []⟩ (.slice none 0 0)) := X1.out.fr (Fr.bel B2) id
  have hwl : Hid ((Li.wd 10 t).length ≤ 2000000) := Nat.le_trans (wd_len 10 t) lH.out
  have hrdt : Hid (rdt t = match hdl (Li.wd 10 t) with
      | none => .error (1, false)
      | some xs => if Li.rs 10 t = [] then .error (1, false) else (rls (Li.sp 10 ((Li.rs 10 t).drop 1)) 2).map (pgw xs)) := (rfl : _ = _)
  have hrsl : Hid (((Li.rs 10 t).drop 1).length ≤ t.length) := by show _ ≤ _; rw [List.length_drop]; have := rs_len 10 t; omega
  clear B2 B1 X1
  unfold cutv
  generalize Li.wd 10 t = l0 at *
  obtain ⟨rr, hrr⟩ := hid_ex3 (Li.rs 10 t)
  rw [hrr.out] at hrdt hrsl ⊢
  obtain ⟨r1, hr1⟩ := hid_ex3 (rr.drop 1)
  rw [hr1.out] at hrdt hrsl ⊢
  obtain ⟨en, hen⟩ := hid_ex3 (!rr.isEmpty)
  rw [hen.out]
  go_wp2_with fail
  refine (hrh.out w2 l0 R2.out (by have := hwl.out; omega)).mono ?_
  rintro e w3 ⟨B3, hcs⟩
  have R3 : Hid (Below w.heap.size w w3) := R2.out.trans (B3.mono R2.out.size)
  have X3 : Hid (Bpf w3 b0 ⟨0, 0, 0, 0, []⟩ (.slice none 0 0)) := X2.out.fr (Fr.bel B3) id
  obtain ⟨b1, hb1⟩ := hid_ex3 w3.heap.size
  have hb01 : Hid (b0 < b1) := by rw [← hb1.out]; exact cell_lt (a := ⟨b0, 0, none⟩) X3.out.bx.c0
  clear B3 X2 hrh
  rcases hcs with ⟨hno, q, rfl⟩ | ⟨xs, hso, rfl⟩
  · have hres : Hid (rdt t = .error (1, false)) := by have h9 := hrdt.out; rw [hno] at h9; exact h9
    obtain ⟨w4, ew4⟩ := hid_ex3 (w3.alloc (.cells #[.int .i64 q.len, .int .i64 q.cells, .int .i64 q.inn, .int .i64 q.out, .slice none 0 0] 25))
    have L4 : Below w3.heap.size w3 w4 := by rw [← ew4.out]; exact (Below.refl _ _).alloc (Nat.le_refl _) _
    have R4 : Hid (Below w.heap.size w w4) := R3.out.trans (L4.mono R3.out.size)
    have X4 : Hid (Bpf w4 b0 ⟨0, 0, 0, 0, []⟩ (.slice none 0 0)) := X3.out.fr (Fr.bel L4) id
    clear hno hrdt L4
    unfold pv
    go_upto_region 3 with fail
    rw [ew4.out, hb1.out]
    obtain ⟨x0, x1, x2, x3, x4⟩ := X4.out.bx
    have Zx := X4.out.fz
    have p5 : w4.cell? ⟨0, 0, none⟩ = some (ek al 5) := (LH.out.below R4.out).te
    have p6 := (set5_fr w4 b0 (.int .i64 0) (.int .i64 0) (.int .i64 0) (.int .i64 0) (.slice none 0 0)).cell p5 hne.out
    go_wp2
    go_region
    all_goals (
      go_wp2
      obtain ⟨z0, z1, z2, z3, z4⟩ := X4.out.bx.set ⟨0, 0, 0, 0, []⟩ (.slice none 0 0)
      refine bodyPost_ret (v := .tuple #[zp, .int .i64 1, ek al 5]) (by unfold zp; simp [results, Tryd.results5, go_sem, z0, z1, z2, z3, z4]) rfl ⟨?_, .inl ⟨_, _, hres.out, rfl⟩⟩
      exact ((set5_fr w4 b0 _ _ _ _ _).below R4.out R4.out.size fun k _ hk => by rw [hb0.out]; omega).drew)
  · have hrd2 : Hid (rdt t = if rr = [] then .error (1, false) else (rls (Li.sp 10 r1) 2).map (pgw xs)) := by have h9 := hrdt.out; rw [hso] at h9; exact h9
    obtain ⟨w4, ew4⟩ := hid_ex3 (w3.alloc (.cells #[.int .i64 (hdZ xs).len, .int .i64 (hdZ xs).cells, .int .i64 (hdZ xs).inn, .int .i64 (hdZ xs).out, .slice none 0 0] 25))
    have L4 : Below w3.heap.size w3 w4 := by rw [← ew4.out]; exact (Below.refl _ _).alloc (Nat.le_refl _) _
    have R4 : Hid (Below w.heap.size w w4) := R3.out.trans (L4.mono R3.out.size)
    have X4 : Hid (Bpf w4 b0 ⟨0, 0, 0, 0, []⟩ (.slice none 0 0)) := X3.out.fr (Fr.bel L4) id
    have Y4 : Hid (Bpf w4 b1 (hdZ xs) (.slice none 0 0)) := by rw [← ew4.out, ← hb1.out]; exact Bpf.new w3 (hdZ xs) _
    clear hso hrdt L4
    unfold pv
    go_upto_region 3 with fail
    rw [ew4.out, hb1.out]
    by_cases hre : rr = []
    · have hres : Hid (rdt t = .error (1, false)) := by have h9 := hrd2.out; rw [if_pos hre] at h9; exact h9
      have e1 : en = false := by rw [← hen.out, hre]; rfl
      clear hre hrd2
      subst e1
      obtain ⟨x0, x1, x2, x3, x4⟩ := X4.out.bx
      have Zx := X4.out.fz
      have p5 : w4.cell? ⟨0, 0, none⟩ = some (ek al 5) := (LH.out.below R4.out).te
      have p6 := (set5_fr w4 b0 (.int .i64 0) (.int .i64 0) (.int .i64 0) (.int .i64 0) (.slice none 0 0)).cell p5 hne.out
      go_wp2
      go_region
      all_goals (
        go_wp2
        obtain ⟨z0, z1, z2, z3, z4⟩ := X4.out.bx.set ⟨0, 0, 0, 0, []⟩ (.slice none 0 0)
        refine bodyPost_ret (v := .tuple #[zp, .int .i64 1, ek al 5]) (by unfold zp; simp [results, Tryd.results5, go_sem, z0, z1, z2, z3, z4]) rfl ⟨?_, .inl ⟨_, _, hres.out, rfl⟩⟩
        exact ((set5_fr w4 b0 _ _ _ _ _).below R4.out R4.out.size fun k _ hk => by rw [hb0.out]; omega).drew)
    · have e1 : en = true := by
        rw [← hen.out]
        cases hx : rr with
        | nil => exact absurd hx hre
        | cons a b => rfl
      have S4 : Hid (RS t 2 r1 xs []) := ⟨Nat.le_refl _, by simp, by have := hrsl.out; omega, by have h9 := hrd2.out; rw [if_neg hre] at h9; exact h9⟩
      have M4 : Hid (RM w w4 b0 b1 (hdZ xs) w4.heap.size (.slice none 0 0) []) := ⟨X4.out, Y4.out, World.ownsRow_nil _ _ _ _, R4.out, ⟨by rw [hb0.out]; exact Nat.le_refl _, hb01.out, cell_lt (a := ⟨b1, 0, none⟩) Y4.out.bx.c0, Nat.le_refl _⟩⟩
      subst e1
      clear hre hrd2 hen hr1 hrr
      go_wp2
      go_loopw [10, 6] (fun i u wr => ∃ (k B : Nat) (r : List UInt8) (v : Value) (ss : List Sp.St), i = .int .i64 k ∧ u = .string (txb r) ∧ Hid (RS t k r xs ss) ∧ Hid (RM w wr b0 b1 (hdZ xs) B v ss)) (fun i _ _ => t.length + 3 - (intOf i).toNat)
      case atStart => exact ⟨2, _, r1, _, [], rfl, rfl, S4, M4⟩
      case round =>
        obtain ⟨k, B, r, v, ss, rfl, rfl, Sk, Mk⟩ := hrel
        have hkb : k ≤ 2000002 := by have h1 := Sk.out.2.2.1; have h2 := lH.out; omega
        have hrl : Hid (r.length ≤ 2000000) := by have h1 := Sk.out.2.2.1; have h0 := Sk.out.1; have h2 := lH.out; show _ ≤ _; omega
        have hqe : ((txb r).toList == ([] : List UInt8)) = decide (r = []) := by
          have h9 := txb_eq r []
          rw [show (txb []).toList = [] by rw [Lib.toList_data]; rfl] at h9
          exact h9
        by_cases hr : r = []
        · rw [decide_eq_true hr] at hqe
          have hres : Hid (rdt t = .ok (pgw xs ss)) := by
            have h9 := Sk.out.2.2.2
            rw [hr] at h9
            show _ = _
            rw [h9]
            simp [Li.sp, rls, Except.map]
          obtain ⟨x0, x1, x2, x3, x4⟩ := Mk.out.x.bx
          obtain ⟨y0, y1, y2, y3, y4⟩ := Mk.out.y.bx
          have Zx := Mk.out.x.fz
          obtain ⟨ao', cap', hv'⟩ := owns_slice Mk.out.ow
          subst hv'
          obtain ⟨m, hm⟩ := hid_ex3 ss.length
          rw [hm.out] at Mk y4
          clear hr Sk
          go_wp2
          obtain ⟨z0, z1, z2, z3, z4⟩ := Mk.out.x.bx.set (hdZ xs) (.slice ao' m cap')
          refine bodyPost_ret (v := .tuple #[pv (pgw xs ss) (.slice ao' m cap'), .int .i64 0, .nilIface]) (by show _ = Result.ok (Value.tuple #[pv (hdZ xs) (.slice ao' m cap'), _, _]) _; unfold pv; simp [results, Tryd.results5, go_sem, z0, z1, z2, z3, z4]) rfl ⟨?_, .inr ⟨pgw xs ss, _, hres.out, rfl, ?_⟩⟩
          · exact (set5_fr wr b0 _ _ _ _ _).below Mk.out.be Mk.out.be.size fun k _ hk => by rw [hb0.out]; omega
          · have h9 : OwS wr w.heap.size (.slice ao' m cap') ss := Mk.out.ow.base (C := w.heap.size) (by have h1 := Mk.out.bb; omega)
            exact h9.fr (set5_fr wr b0 _ _ _ _ _) fun b hb h1 => by have h2 := (Mk.out.row b hb).1; have h3 := Mk.out.bb; omega
        · rw [decide_eq_false hr] at hqe
          have hsp : Hid (rdt t = (rls (Li.wd 10 r :: (if Li.rs 10 r = [] then [] else Li.sp 10 ((Li.rs 10 r).drop 1))) k).map fun zs => pgw xs (ss ++ zs)) := by show _ = _; rw [← sp_cut]; exact Sk.out.2.2.2
          go_wp2_with fail
          refine (hcut.out wr r (by have := hrl.out; omega)).mono ?_
          rintro e w5 ⟨rfl, B5⟩
          have M5 : Hid (RM w w5 b0 b1 (hdZ xs) B v ss) := Mk.out.call B5
          have hwl2 : Hid ((Li.wd 10 r).length ≤ 2000000) := Nat.le_trans (wd_len 10 r) hrl.out
          have hrs3 : Hid (Li.rs 10 r ≠ [] → k + 1 + ((Li.rs 10 r).drop 1).length ≤ t.length + 2) := fun hne' => by
            have h1 := Sk.out.2.2.1
            have h2 := rs_len 10 r
            have h3 : 0 < (Li.rs 10 r).length := List.length_pos_iff.2 hne'
            rw [List.length_drop]; omega
          have hwdr : Hid (Li.rs 10 r = [] → Li.wd 10 r ≠ []) := fun e1 e2 => by
            have h9 := Li.wd_rs 10 r
            rw [e1, e2] at h9
            exact hr h9.symm
          clear B5 Mk hr
          unfold cutv
          generalize Li.wd 10 r = l1 at *
          obtain ⟨rq, hrq⟩ := hid_ex3 (Li.rs 10 r)
          rw [hrq.out] at hsp hrs3 hwdr ⊢
          obtain ⟨r3, hr3⟩ := hid_ex3 (rq.drop 1)
          rw [hr3.out] at hsp hrs3 ⊢
          obtain ⟨en2, hen2⟩ := hid_ex3 (!rq.isEmpty)
          rw [hen2.out]
          by_cases hre : rq = []
          · have hres : Hid (rdt t = .error (k, false)) := by
              have h9 := hsp.out
              rw [if_pos hre] at h9
              show _ = _
              rw [h9]
              simp [rls, hwdr.out hre, Except.map]
            have e1 : en2 = false := by rw [← hen2.out, hre]; rfl
            subst e1
            clear hre hsp Sk hen2
            obtain ⟨x0, x1, x2, x3, x4⟩ := M5.out.x.bx
            have Zx := M5.out.x.fz
            have p5 : w5.cell? ⟨0, 0, none⟩ = some (ek al 5) := (LH.out.below M5.out.be).te
            have p6 := (set5_fr w5 b0 (.int .i64 0) (.int .i64 0) (.int .i64 0) (.int .i64 0) (.slice none 0 0)).cell p5 hne.out
            go_wp2
            go_region
            all_goals (
              go_wp2
              obtain ⟨z0, z1, z2, z3, z4⟩ := M5.out.x.bx.set ⟨0, 0, 0, 0, []⟩ (.slice none 0 0)
              refine bodyPost_ret (v := .tuple #[zp, .int .i64 (k : Int), ek al 5]) (by unfold zp; simp [results, Tryd.results5, go_sem, z0, z1, z2, z3, z4]) rfl ⟨?_, .inl ⟨_, _, hres.out, rfl⟩⟩
              exact ((set5_fr w5 b0 _ _ _ _ _).below M5.out.be M5.out.be.size fun k _ hk => by rw [hb0.out]; omega).drew)
          · have e1 : en2 = true := by
              rw [← hen2.out]
              cases hx : rq with
              | nil => exact absurd hx hre
              | cons a b => rfl
            have hsp2 : Hid (rdt t = (match stl l1 with
                | none => .error (k, false)
                | some s => if Sp.fm s = true then (rls (Li.sp 10 r3) (k + 1)).map (s :: ·) else .error (k, true) : Except (Nat × Bool) (List Sp.St)).map fun zs => pgw xs (ss ++ zs)) := by
              have h9 := hsp.out
              rw [if_neg hre, rls_more] at h9
              exact h9
            have hr3b := hrs3.out hre
            subst e1
            clear hre hsp hen2
            go_wp2_with fail
            refine (hrst.out w5 l1 M5.out.be (by have := hwl2.out; omega)).mono ?_
            rintro e w6 ⟨B6, hcs⟩
            have M6 : Hid (RM w w6 b0 b1 (hdZ xs) B v ss) := M5.out.call B6
            clear B6
            obtain ⟨b2, hb2⟩ := hid_ex3 w6.heap.size
            rcases hcs with ⟨hno, rfl⟩ | ⟨s, hso, rfl⟩
            · have hres : Hid (rdt t = .error (k, false)) := by have h9 := hsp2.out; rw [hno] at h9; exact h9
              obtain ⟨w7, ew7⟩ := hid_ex3 (w6.alloc (.cells #[.int .i64 0, .int .i64 0, .int .i64 0, .int .i64 0, .int .i64 0, .int .i64 0, .int .i64 0] 38))
              have M7 : Hid (RM w w7 b0 b1 (hdZ xs) B v ss) := by rw [← ew7.out]; exact M6.out.call ((Below.refl _ _).alloc (Nat.le_refl _) _)
              have hq := nnil_c al 5
              have hgd := guard_c al 5
              clear hno hsp2 Sk
              unfold sv sva zst
              go_upto_region 12 with fail
              rw [ew7.out, hb2.out]
              obtain ⟨x0, x1, x2, x3, x4⟩ := M7.out.x.bx
              have Zx := M7.out.x.fz
              go_wp2
              obtain ⟨z0, z1, z2, z3, z4⟩ := M7.out.x.bx.set ⟨0, 0, 0, 0, []⟩ (.slice none 0 0)
              refine bodyPost_ret (v := .tuple #[zp, .int .i64 (k : Int), ek al 5]) (by unfold zp; simp [results, Tryd.results5, go_sem, z0, z1, z2, z3, z4]) rfl ⟨?_, .inl ⟨_, _, hres.out, rfl⟩⟩
              exact (set5_fr w7 b0 _ _ _ _ _).below M7.out.be M7.out.be.size fun k _ hk => by rw [hb0.out]; omega
            · obtain ⟨w7, ew7⟩ := hid_ex3 (w6.alloc (.cells #[.int .i64 s.op, .int .i64 s.dst, .int .i64 s.src, .int .i64 s.jump, .int .i64 s.count, .int .i64 s.n, .int .i64 s.k] 38))
              have M7 : Hid (RM w w7 b0 b1 (hdZ xs) B v ss) := by rw [← ew7.out]; exact M6.out.call ((Below.refl _ _).alloc (Nat.le_refl _) _)
              have Y7 : Hid (Bst w7 b2 s.op s.dst s.src s.jump s.count s.n s.k) := by show Bst _ _ _ _ _ _ _ _ _; rw [← ew7.out, ← hb2.out]; exact Bst.new w6 _ _ _ _ _ _ _
              cases hfm : Sp.fm s with
              | false =>
                have hres : Hid (rdt t = .error (k, true)) := by have h9 := hsp2.out; rw [hso] at h9; simp only at h9; rw [if_neg (by rw [hfm]; decide)] at h9; exact h9
                have hq := nnil_c al 8
                have hgd := guard_c al 8
                have e8 : fev al false = ek al 8 := rfl
                clear hso hsp2 Sk hfm
                unfold sv sva
                go_upto_region 12 with fail
                rw [ew7.out, hb2.out]
                obtain ⟨x0, x1, x2, x3, x4⟩ := M7.out.x.bx
                have Zx := M7.out.x.fz
                go_wp2
                obtain ⟨z0, z1, z2, z3, z4⟩ := M7.out.x.bx.set ⟨0, 0, 0, 0, []⟩ (.slice none 0 0)
                refine bodyPost_ret (v := .tuple #[zp, .int .i64 (k : Int), ek al 8]) (by unfold zp; simp [results, Tryd.results5, go_sem, z0, z1, z2, z3, z4]) rfl ⟨?_, .inl ⟨_, _, hres.out, rfl⟩⟩
                exact (set5_fr w7 b0 _ _ _ _ _).below M7.out.be M7.out.be.size fun k _ hk => by rw [hb0.out]; omega
              | true =>
                have e8 : fev al true = .nilIface := rfl
                have hl2 : Hid ((ss ++ [s]).length = ss.length + 1) := by simp [Hid]
                have S8 : Hid (RS t (k + 1) r3 xs (ss ++ [s])) := by
                  refine ⟨by have := Sk.out.1; omega, by have := Sk.out.2.1; simp; omega, by omega, ?_⟩
                  have h9 := hsp2.out
                  rw [hso] at h9
                  simp only at h9
                  rw [if_pos hfm] at h9
                  rw [h9]
                  cases rls (Li.sp 10 r3) (k + 1) with
                  | error e => rfl
                  | ok zs => simp [Except.map]
                have Q7 : Hid (∀ o, RM w (w7.alloc o) b0 b1 (hdZ xs) B v ss) := fun o => M7.out.call ((Below.refl _ _).alloc (Nat.le_refl _) o)
                have C7 : Hid (SAt (w7.alloc (.cells #[.int .i64 s.op, .int .i64 s.dst, .int .i64 s.src, .int .i64 s.jump, .int .i64 s.count, .int .i64 s.n, .int .i64 s.k] 38)) w7.heap.size 0 s) := ⟨by simp, by simp, by simp, by simp, by simp, by simp, by simp⟩
                have hkb2 : Hid ((ss.length + 1) * 56 ≤ 140737488355328) := by show _ ≤ _; have := Sk.out.2.1; omega
                clear hso hsp2 Sk hfm
                unfold sv sva
                go_upto_region 12 with fail
                rw [ew7.out, hb2.out]
                obtain ⟨y0, y1, y2, y3, y4, y5, y6⟩ := Y7.out
                have v4 := M7.out.y.bx.c4
                go_wp2_with (first | (at_builtin; refine appSt _ rfl _ _ rfl B ss s w7.heap.size v rfl rfl (Q7.out _).ow C7.out hkb2.out (Q7.out _).bb.2.2.2 ?_) | fail)
                intro v' w8 ho hgr hn
                obtain ⟨yb, hS8⟩ := (Q7.out _).push ho hgr (by simpa using hn)
                have hS8H : Hid (RM w (w8.setCell ⟨b1, 4, none⟩ v') b0 b1 (hdZ xs) B v' (ss ++ [s])) := hS8
                have v8 := yb.bx.c4
                have f8 := yb.fz 4
                obtain ⟨ao', cap', hv'⟩ := owns_slice ho
                rw [hl2.out] at hv'
                subst hv'
                clear ho hgr hn hS8 yb y0 y1 y2 y3 y4 y5 y6
                go_wp2
                go_roundw
                case rel => exact ⟨k + 1, B, r3, _, ss ++ [s], by go_num, rfl, S8, hS8H⟩
                case measure => simp [intOf]; omega
end Go.Proofs.YtlbnldbelfgokaaDoor
