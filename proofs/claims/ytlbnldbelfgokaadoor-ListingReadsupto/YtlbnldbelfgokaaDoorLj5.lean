/-
  timbreref16: Read.
-/
import Derived.Test.YtlbnldbelfgokaaDoorLj4
import Derived.Test.YtlbnldbelfgokaaDoorLs7
namespace Go.Proofs.YtlbnldbelfgokaaDoor
open Flo Go.RowKit
/-- what the document's Read tells -/
def DqE (t : List UInt8) (w : World) (e : Ending) (w' : World) : Prop :=
  Below w.heap.size w w' ∧ ((∃ (k : Nat) (b : Bool), rdt t = .error (k, b) ∧ e = .returned (.tuple #[zp, .int .i64 (k : Int), .int .i64 (bif b then 9 else 6)])) ∨
    ∃ (p : Sp.Pg) (v : Value), rdt t = .ok p ∧ e = .returned (.tuple #[pv p v, .int .i64 0, .int .i64 0]) ∧ OwS w' w.heap.size v p.steps)
/-- memory while the lines are read -/
structure QM (w wr : World) (b0 b1 bw : Nat) (us : List (List UInt8)) (hd : Sp.Pg) (B : Nat) (v : Value) (ss : List Sp.St) : Prop where
  m : RM w wr b0 b1 hd B v ss
  t : ∀ (i : Nat) (u : List UInt8), us[i]? = some u → wr.cell? ⟨bw, i, none⟩ = some (.string (txb u))
  bb : bw < b1 ∧ bw ≠ b0
section
variable {w wr wx : World} {b0 b1 bw B : Nat} {us : List (List UInt8)} {hd : Sp.Pg} {v : Value} {ss : List Sp.St}
theorem QM.call (h : QM w wr b0 b1 bw us hd B v ss) (hb : Below wr.heap.size wr wx) : QM w wx b0 b1 bw us hd B v ss :=
  ⟨h.m.call hb, fun i u hi => (hb.cell (p := ⟨bw, i, none⟩) (cell_lt (h.t i u hi))).trans (h.t i u hi), h.bb⟩
theorem QM.push (h : QM w wr b0 b1 bw us hd B v ss) {v' : Value} {ss' : List Sp.St} (ho : OwS wx B v' ss') (hg : wr.grownBy wx v.ownBlock) (hn : ∀ b, v'.ownBlock = some b → v.ownBlock = some b ∨ wr.heap.size ≤ b) :
    Bpf wx b1 hd v ∧ QM w (wx.setCell ⟨b1, 4, none⟩ v') b0 b1 bw us hd B v' ss' := by
  obtain ⟨h1, h2⟩ := h.m.push ho hg hn
  have hbb := h.m.bb
  have f1 : Fr (fun k => v.ownBlock = some k) wr wx := (Fr.refl _ wr).grown hg fun _ hk => hk
  refine ⟨h1, ⟨h2, fun i u hi => ?_, h.bb⟩⟩
  have c1 := f1.cell (h.t i u hi) (by intro e; have := (h.m.row _ e).1; have := h.bb; simp only at *; omega)
  exact (set_fr wx b1 4 v').cell c1 (by have := h.bb; show ¬ bw = b1; omega)
theorem Bpf.set5 {b : Nat} {p : Sp.Pg} (h : Bpf w b p v) (p' : Sp.Pg) (v' : Value) : Bpf (((((w.setCell ⟨b, 0, none⟩ (.int .i64 p'.len)).setCell ⟨b, 1, none⟩ (.int .i64 p'.cells)).setCell ⟨b, 2, none⟩ (.int .i64 p'.inn)).setCell ⟨b, 3, none⟩ (.int .i64 p'.out)).setCell ⟨b, 4, none⟩ (v')) b p' v' :=
  ⟨h.bx.set p' v', fun i => by rw [World.frozen?_setCell, World.frozen?_setCell, World.frozen?_setCell, World.frozen?_setCell, World.frozen?_setCell]; exact h.fz i⟩
theorem QM.set5 (h : QM w wr b0 b1 bw us hd B v ss) (p' : Sp.Pg) : QM w (((((wr.setCell ⟨b1, 0, none⟩ (.int .i64 p'.len)).setCell ⟨b1, 1, none⟩ (.int .i64 p'.cells)).setCell ⟨b1, 2, none⟩ (.int .i64 p'.inn)).setCell ⟨b1, 3, none⟩ (.int .i64 p'.out)).setCell ⟨b1, 4, none⟩ (.slice none 0 0)) b0 b1 bw us p' B (.slice none 0 0) [] := by
  have hbb := h.m.bb
  have f := set5_fr wr b1 (.int .i64 p'.len) (.int .i64 p'.cells) (.int .i64 p'.inn) (.int .i64 p'.out) (.slice none 0 0)
  exact ⟨⟨h.m.x.fr f (by omega), h.m.y.set5 p' _, World.ownsRow_nil _ _ _ _, f.below h.m.be h.m.be.size fun k _ hk => by omega, ⟨hbb.1, hbb.2.1, hbb.2.2.1, Nat.le_trans hbb.2.2.2 f.size⟩⟩, fun i u hi => f.cell (h.t i u hi) (by have := h.bb; show ¬ bw = b1; omega), h.bb⟩
end
/-- how far the lines are read: i of them, the first one among them -/
def QS (t : List UInt8) (ws : List (List UInt8)) (i : Nat) (xs : List Int) (ss : List Sp.St) : Prop :=
  1 ≤ i ∧ i ≤ ws.length ∧ ss.length + 1 = i ∧ rdt t = (rls (ws.drop (i - 1)) (i + 1)).map fun zs => pgw xs (ss ++ zs)
theorem text_lines (t : List UInt8) : ∃ w0 ws, Li.sp 10 t = w0 :: ws ∧ w0.length ≤ t.length ∧ (∀ v ∈ ws, v.length ≤ t.length) ∧ ws.length ≤ t.length ∧
    rdt t = match hdl w0 with | none => .error (1, false) | some xs => if ws = [] then .error (1, false) else (rls ws 2).map (pgw xs) := by
  obtain ⟨w0, ws, h1, h2, h3, h4⟩ := Li.sp_parts 10 t
  have h9 := congrArg List.length h2
  rw [List.length_append] at h9
  have hs := sp_cut 10 t
  rw [h1] at hs
  injection hs with e1 e2
  refine ⟨w0, ws, h1, by omega, ?_, ?_, ?_⟩
  · intro v hv
    have : ∀ us : List (List UInt8), v ∈ us → v.length ≤ (Li.jn 10 us).length := fun us => by
      induction us with
      | nil => intro h; cases h
      | cons u us ih =>
        intro h
        rw [Li.jn_cons]; simp only [List.length_cons, List.length_append]
        rcases List.mem_cons.1 h with rfl | h
        · omega
        · have := ih h; omega
    have := this ws hv; omega
  · have : ∀ us : List (List UInt8), us.length ≤ (Li.jn 10 us).length := fun us => by
      induction us with
      | nil => exact Nat.zero_le _
      | cons u us ih => rw [Li.jn_cons]; simp only [List.length_cons, List.length_append]; omega
    have := this ws; omega
  · unfold rdt
    rw [← e1]
    cases hdl w0 with
    | none => rfl
    | some xs =>
      simp only
      by_cases hr : Li.rs 10 t = []
      · rw [if_pos hr]
        rw [if_pos hr] at e2
        rw [if_pos e2]
      · rw [if_neg hr] at e2 ⊢
        obtain ⟨u, us, hu⟩ := sp_ne 10 ((Li.rs 10 t).drop 1)
        rw [if_neg (by rw [e2, hu]; simp), e2]
section
variable {t : List UInt8} {ws : List (List UInt8)} {i : Nat} {xs : List Int} {ss : List Sp.St} {u : List UInt8}
theorem QS.last (h : QS t ws i xs ss) (hi : i = ws.length) (hu : ws[i - 1]? = some u) : rdt t = if u = [] then .ok (pgw xs ss) else .error (i + 1, false) := by
  obtain ⟨h1, h2, h3, h4⟩ := h
  have e : ws.drop (i - 1) = [u] := by
    rw [us_at hu, List.drop_of_length_le (by omega)]
  rw [h4, e, rls]
  split <;> simp [Except.map]
theorem QS.more (h : QS t ws i xs ss) (hi : i < ws.length) (hu : ws[i - 1]? = some u) :
    (stl u = none → rdt t = .error (i + 1, false)) ∧ ∀ s, stl u = some s → (Sp.fm s = false → rdt t = .error (i + 1, true)) ∧ (Sp.fm s = true → QS t ws (i + 1) xs (ss ++ [s])) := by
  obtain ⟨h1, h2, h3, h4⟩ := h
  have e : ws.drop (i - 1) = u :: ws.drop i := by
    rw [us_at hu, show i - 1 + 1 = i by omega]
  obtain ⟨u', hu'⟩ : ∃ u', ws[i]? = some u' := ⟨_, List.getElem?_eq_getElem hi⟩
  have e' := us_at hu'
  rw [e, e', rls] at h4
  refine ⟨fun hn => by rw [h4, hn]; rfl, fun s hs => ⟨fun hf => by rw [h4, hs]; simp [hf, Except.map], fun hf => ⟨by omega, by omega, by simp; omega, ?_⟩⟩⟩
  rw [h4, hs, show i + 1 - 1 = i by omega, e']
  simp only [hf, if_true]
  cases rls (u' :: ws.drop (i + 1)) (i + 1 + 1) with
  | error e => rfl
  | ok zs => simp [Except.map]
end
set_option maxHeartbeats 16000000 in
set_option maxRecDepth 100000 in
theorem dRead_c (t : List UInt8) (hl : t.length ≤ 2000000) (w : World) :
    Calls Tryd.prog 6 #[.string (txb t)] w fun e w' => DqE t w e w' := by
  obtain ⟨w0, ws, hsp, hw0l, hvl, hwl, hrdt⟩ := text_lines t
  obtain ⟨b0, hb0⟩ := hid_ex3 w.heap.size
  obtain ⟨w1, ew1⟩ := hid_ex3 (w.alloc (.cells #[.int .i64 0, .int .i64 0, .int .i64 0, .int .i64 0, .slice none 0 0] 25))
  have B1 : Hid (Below w.heap.size w w1) := by rw [← ew1.out]; exact (Below.refl _ _).alloc (Nat.le_refl _) _
  have X1 : Hid (Bpf w1 b0 ⟨0, 0, 0, 0, []⟩ (.slice none 0 0)) := by rw [← ew1.out, ← hb0.out]; exact Bpf.new w ⟨0, 0, 0, 0, []⟩ _
  have hcut : Hid (Calls Tryd.prog 13 #[.string (txb t), .int .u8 10] w1 fun e w' => ∃ v, e = .returned v ∧ OwT w' w1.heap.size v (w0 :: ws) ∧ Below w1.heap.size w1 w') := by rw [← hsp]; exact dcut_c t 10 hl w1
  have hhd : Hid (∀ W : World, Calls Tryd.prog 14 #[.string (txb w0)] W fun e w' => DhE w0 W e w') := fun W => dhead_c w0 (by omega) W
  have hstp : Hid (∀ (u : List UInt8) (W : World), u ∈ ws → Calls Tryd.prog 15 #[.string (txb u)] W fun e w' => DsE u W e w') := fun u W hu => dstepl_c u (by have := hvl u hu; omega) W
  have hfo : Hid (∀ (s : Sp.St) (W : World), Calls Tryd.prog 16 #[sv s] W fun e w' => e = .returned (.int .i64 (fnn (Sp.fm s))) ∧ Below W.heap.size W w') := fun s W => dform_c s W
  have hrH : Hid (rdt t = match hdl w0 with | none => .error (1, false) | some xs => if ws = [] then .error (1, false) else (rls ws 2).map (pgw xs)) := hrdt
  have hwlH : Hid (ws.length ≤ 2000000) := by show _ ≤ _; omega
  clear hl hsp hw0l hvl hwl hrdt
  go_enter Tryd.func6, Tryd.ntmps6
  go_upto_region 1 with fail
  rw [ew1.out, hb0.out]
  go_wp2_with fail
  refine hcut.out.mono ?_
  rintro e w2 ⟨v, rfl, ho, B2⟩
  have R2 : Hid (Below w.heap.size w w2) := B1.out.trans (B2.mono B1.out.size)
  have X2 : Hid (Bpf w2 b0 ⟨0, 0, 0, 0, []⟩ (.slice none 0 0)) := X1.out.fr (Fr.bel B2) id
  obtain ⟨bw, cap, rfl, hcap, hbw1, hbw2, hcl⟩ := OwT.blk ho
  obtain ⟨m, hm⟩ := hid_ex3 ws.length
  have hmb : m ≤ 2000000 := by have h1 := hm.out; have h2 := hwlH.out; omega
  rw [hm.out] at hcap ⊢
  obtain ⟨b1, hb1⟩ := hid_ex3 w2.heap.size
  obtain ⟨w3, ew3⟩ := hid_ex3 (w2.alloc (.cells #[.int .i64 0, .int .i64 0, .int .i64 0, .int .i64 0, .slice none 0 0] 25))
  have L3 : Below w2.heap.size w2 w3 := by rw [← ew3.out]; exact (Below.refl _ _).alloc (Nat.le_refl _) _
  have Y3 : Bpf w3 b1 ⟨0, 0, 0, 0, []⟩ (.slice none 0 0) := by rw [← ew3.out, ← hb1.out]; exact Bpf.new w2 ⟨0, 0, 0, 0, []⟩ _
  have hb01 : b0 < w1.heap.size := cell_lt (a := ⟨b0, 0, none⟩) X1.out.bx.c0
  have Q3 : Hid (QM w w3 b0 b1 bw (w0 :: ws) ⟨0, 0, 0, 0, []⟩ w3.heap.size (.slice none 0 0) []) :=
    ⟨⟨X2.out.fr (Fr.bel L3) id, Y3, World.ownsRow_nil _ _ _ _, R2.out.trans (L3.mono R2.out.size), ⟨by rw [hb0.out]; exact Nat.le_refl _, by have := hb1.out; omega, cell_lt (a := ⟨b1, 0, none⟩) Y3.bx.c0, Nat.le_refl _⟩⟩, fun i u hi => (L3.cell (p := ⟨bw, i, none⟩) hbw2).trans (hcl i u hi), by have := hb1.out; constructor <;> omega⟩
  obtain ⟨N5, hN5⟩ := hid_ex3 (m + 1)
  rw [hN5.out]
  have hN5b : N5 ≤ 2000001 := by have := hN5.out; omega
  have hN1 : IntKind.i64.wrap ((N5 : Int) - 1) = (m : Int) := by rw [IntKind.wrap_i64]; have := hN5.out; omega
  clear B2 hcut ho B1 X1 hbw1 hbw2 hcl L3 Y3 hb01 hcap X2
  go_upto_region 4 with fail
  rw [ew3.out, hb1.out]
  go_wp2_with fail
  go_loopw [23] (fun x wr => ∃ (i B : Nat) (hd : Sp.Pg) (v : Value) (ss : List Sp.St), x = .int .i64 i ∧ i ≤ m ∧ Hid (QM w wr b0 b1 bw (w0 :: ws) hd B v ss) ∧ Hid (i = 0 ∨ ∃ xs, hd = hdZ xs ∧ QS t ws i xs ss)) (fun x _ => N5 - (intOf x).toNat)
  case atStart => exact ⟨0, _, _, _, _, rfl, Nat.zero_le _, Q3, .inl rfl⟩
  case round =>
    obtain ⟨i, B, hd, v, ss, rfl, him, Qk, hcs⟩ := hrel
    have hlt' : (i : Int) < (N5 : Int) := by have := hN5.out; omega
    have hi1 : IntKind.i64.wrap ((i : Int) + 1) = (i : Int) + 1 := by rw [IntKind.wrap_i64]; omega
    rcases hcs.out with h0 | ⟨xs, rfl, hqs⟩
    · subst h0
      have hc1 : wr.cell? ⟨bw, 0, none⟩ = some (.string (txb w0)) := Qk.out.t 0 w0 rfl
      clear hcs
      go_upto_region 7 with fail
      go_cut [38] (fun sb wx => sb = .bool false ∧ wx = wr)
      case first =>
        by_cases hm0 : m = 0
        · have q1 : ((m : Int) == 0) = true := by rw [hm0]; rfl
          have q1' : ((0 : Int) == (m : Int)) = true := by rw [hm0]; rfl
          have hqe : ((txb w0).toList == ([] : List UInt8)) = decide (w0 = []) := by
            have h9 := txb_eq w0 []
            rw [show (txb []).toList = [] by rw [Lib.toList_data]; rfl] at h9
            exact h9
          by_cases hw0 : w0 = []
          · rw [decide_eq_true hw0] at hqe
            clear hw0 hm0
            go_wp2_with fail
            go_meet
            case rel => exact ⟨rfl, rfl⟩
          · rw [decide_eq_false hw0] at hqe
            clear hw0 hm0
            go_wp2_with fail
            go_meet
            case rel => exact ⟨rfl, rfl⟩
        · have q1' : ((0 : Int) == (m : Int)) = false := beq_eq_false_iff_ne.2 (by omega)
          clear hm0
          go_wp2_with fail
          go_meet
          case rel => exact ⟨rfl, rfl⟩
      case rest =>
        obtain ⟨rfl, rfl⟩ := hcut
        rename World => wr
        go_wp2_with fail
        refine (hhd.out wr).mono ?_
        rintro e w4 ⟨B4, hds⟩
        have Q4 : Hid (QM w w4 b0 b1 bw (w0 :: ws) hd B v ss) := Qk.out.call B4
        obtain ⟨b4, hb4⟩ := hid_ex3 w4.heap.size
        clear B4 hc1
        rcases hds with ⟨hno, rfl⟩ | ⟨xs, hso, rfl⟩
        · have hres : Hid (rdt t = .error (1, false)) := by have h9 := hrH.out; rw [hno] at h9; exact h9
          obtain ⟨w5, ew5⟩ := hid_ex3 (w4.alloc (.cells #[.int .i64 0, .int .i64 0, .int .i64 0, .int .i64 0, .slice none 0 0] 25))
          have Q5 : Hid (QM w w5 b0 b1 bw (w0 :: ws) hd B v ss) := by rw [← ew5.out]; exact Q4.out.call ((Below.refl _ _).alloc (Nat.le_refl _) _)
          clear hno
          unfold pv
          go_upto_region 11 with fail
          rw [ew5.out, hb4.out]
          obtain ⟨x0, x1, x2, x3, x4⟩ := Q5.out.m.x.bx
          have Zx := Q5.out.m.x.fz
          go_wp2_with fail
          obtain ⟨z0, z1, z2, z3, z4⟩ := Q5.out.m.x.bx.set ⟨0, 0, 0, 0, []⟩ (.slice none 0 0)
          refine bodyPost_ret (v := .tuple #[zp, .int .i64 1, .int .i64 6]) (by unfold zp; simp [results, Tryd.results6, go_sem, z0, z1, z2, z3, z4]) rfl ⟨?_, .inl ⟨_, _, hres.out, rfl⟩⟩
          exact (set5_fr _ b0 _ _ _ _ _).below Q5.out.m.be Q5.out.m.be.size fun k _ hk => by rw [hb0.out]; omega
        · have hr2 : Hid (rdt t = if ws = [] then .error (1, false) else (rls ws 2).map (pgw xs)) := by have h9 := hrH.out; rw [hso] at h9; exact h9
          obtain ⟨w5, ew5⟩ := hid_ex3 (w4.alloc (.cells #[.int .i64 (hdZ xs).len, .int .i64 (hdZ xs).cells, .int .i64 (hdZ xs).inn, .int .i64 (hdZ xs).out, .slice none 0 0] 25))
          have Q5 : Hid (QM w w5 b0 b1 bw (w0 :: ws) hd B v ss) := by rw [← ew5.out]; exact Q4.out.call ((Below.refl _ _).alloc (Nat.le_refl _) _)
          have Y5 : Hid (Bpg w5 b4 (hdZ xs) (.slice none 0 0)) := by rw [← ew5.out, ← hb4.out]; exact Bpg.new w4 (hdZ xs) _
          clear hso
          unfold pv
          go_upto_region 11 with fail
          rw [ew5.out, hb4.out]
          by_cases hm0 : m = 0
          · have q1' : ((0 : Int) == (m : Int)) = true := by rw [hm0]; rfl
            have hres : Hid (rdt t = .error (1, false)) := by
              have h9 := hr2.out
              rw [if_pos (List.eq_nil_of_length_eq_zero (by rw [hm.out, hm0]))] at h9; exact h9
            clear hm0 hr2
            obtain ⟨x0, x1, x2, x3, x4⟩ := Q5.out.m.x.bx
            have Zx := Q5.out.m.x.fz
            go_wp2_with fail
            obtain ⟨z0, z1, z2, z3, z4⟩ := Q5.out.m.x.bx.set ⟨0, 0, 0, 0, []⟩ (.slice none 0 0)
            refine bodyPost_ret (v := .tuple #[zp, .int .i64 1, .int .i64 6]) (by unfold zp; simp [results, Tryd.results6, go_sem, z0, z1, z2, z3, z4]) rfl ⟨?_, .inl ⟨_, _, hres.out, rfl⟩⟩
            exact (set5_fr _ b0 _ _ _ _ _).below Q5.out.m.be Q5.out.m.be.size fun k _ hk => by rw [hb0.out]; omega
          · have q1' : ((0 : Int) == (m : Int)) = false := beq_eq_false_iff_ne.2 (by omega)
            have S6 : Hid (QS t ws 1 xs []) := by
              refine ⟨Nat.le_refl _, by rw [hm.out]; omega, rfl, ?_⟩
              have h9 := hr2.out
              rw [if_neg (fun e => hm0 (by rw [← hm.out, e]; rfl))] at h9
              rw [h9]; simp
            have Q6 : Hid (QM w (((((w5.setCell ⟨b1, 0, none⟩ (.int .i64 (hdZ xs).len)).setCell ⟨b1, 1, none⟩ (.int .i64 (hdZ xs).cells)).setCell ⟨b1, 2, none⟩ (.int .i64 (hdZ xs).inn)).setCell ⟨b1, 3, none⟩ (.int .i64 (hdZ xs).out)).setCell ⟨b1, 4, none⟩ (.slice none 0 0)) b0 b1 bw (w0 :: ws) (hdZ xs) B (.slice none 0 0) []) := Q5.out.set5 (hdZ xs)
            have hm1 : Hid (1 ≤ m) := by show _ ≤ _; omega
            clear hm0 hr2
            obtain ⟨x0, x1, x2, x3, x4⟩ := Y5.out
            obtain ⟨y0, y1, y2, y3, y4⟩ := Q5.out.m.y.bx
            have Zy := Q5.out.m.y.fz
            go_wp2_with fail
            go_roundw
            case rel => exact ⟨1, B, _, _, _, rfl, hm1.out, Q6, .inr ⟨xs, rfl, S6⟩⟩
            case measure => simp [intOf]; have := hN5.out; omega
    · have hi0 : 1 ≤ i := hqs.1
      have SkH : Hid (QS t ws i xs ss) := hqs
      obtain ⟨u, hu⟩ : ∃ u, ws[i - 1]? = some u := ⟨_, List.getElem?_eq_getElem (by rw [hm.out]; omega)⟩
      have huH : Hid (ws[i - 1]? = some u) := hu
      have hmem : Hid (u ∈ ws) := List.mem_of_getElem? hu
      have hc1 : wr.cell? ⟨bw, i, none⟩ = some (.string (txb u)) := Qk.out.t i u (by rw [show i = (i - 1) + 1 by omega, List.getElem?_cons_succ]; exact hu)
      have q0 : ((i : Int) == 0) = false := beq_eq_false_iff_ne.2 (by omega)
      have q9 : (i : Int) > 0 := by omega
      have hiH : Hid (1 ≤ i ∧ i ≤ m) := ⟨hi0, him⟩
      have hlast : Hid (i = m → rdt t = if u = [] then .ok (pgw xs ss) else .error (i + 1, false)) := fun h => hqs.last (by rw [hm.out]; exact h) hu
      have hmore : Hid (i < m → (stl u = none → rdt t = .error (i + 1, false)) ∧ ∀ s, stl u = some s → (Sp.fm s = false → rdt t = .error (i + 1, true)) ∧ (Sp.fm s = true → QS t ws (i + 1) xs (ss ++ [s]))) := fun h => hqs.more (by rw [hm.out]; exact h) hu
      clear hcs hqs hu
      obtain ⟨la, hla⟩ := hid_ex3 (decide (i = m))
      obtain ⟨ue, hue⟩ := hid_ex3 (decide (u = []))
      have q1 : ((i : Int) == (m : Int)) = la := by
        rw [← hla.out]
        by_cases h : i = m
        · rw [decide_eq_true h, h]; exact beq_self_eq_true _
        · rw [decide_eq_false h]; exact beq_eq_false_iff_ne.2 (by omega)
      have hqe : ((txb u).toList == ([] : List UInt8)) = ue := by
        have h9 := txb_eq u []
        rw [show (txb []).toList = [] by rw [Lib.toList_data]; rfl] at h9
        rw [← hue.out]; exact h9
      by_cases hfin : la = true ∧ ue = true
      · obtain ⟨rfl, rfl⟩ := hfin
        have hres : Hid (rdt t = .ok (pgw xs ss)) := by
          have h9 := hlast.out (of_decide_eq_true hla.out)
          rw [if_pos (of_decide_eq_true hue.out)] at h9; exact h9
        obtain ⟨x0, x1, x2, x3, x4⟩ := Qk.out.m.x.bx
        obtain ⟨y0, y1, y2, y3, y4⟩ := Qk.out.m.y.bx
        have Zx := Qk.out.m.x.fz
        obtain ⟨ao', cap', hv'⟩ := owns_slice Qk.out.m.ow
        obtain ⟨m9, hm9⟩ := hid_ex3 ss.length
        rw [hm9.out] at hv'
        subst hv'
        go_wp2_with fail
        obtain ⟨z0, z1, z2, z3, z4⟩ := Qk.out.m.x.bx.set (hdZ xs) (.slice ao' m9 cap')
        refine bodyPost_ret (v := .tuple #[pv (pgw xs ss) (.slice ao' m9 cap'), .int .i64 0, .int .i64 0]) (by show _ = Result.ok (Value.tuple #[pv (hdZ xs) (.slice ao' m9 cap'), _, _]) _; unfold pv; simp [results, Tryd.results6, go_sem, z0, z1, z2, z3, z4]) rfl ⟨?_, .inr ⟨pgw xs ss, _, hres.out, rfl, ?_⟩⟩
        · exact (set5_fr wr b0 _ _ _ _ _).below Qk.out.m.be Qk.out.m.be.size fun k _ hk => by rw [hb0.out]; omega
        · have h9 : OwS wr w.heap.size (.slice ao' m9 cap') ss := Qk.out.m.ow.base (C := w.heap.size) (by have h1 := Qk.out.m.bb; omega)
          exact h9.fr (set5_fr wr b0 _ _ _ _ _) fun b hb h1 => by have h2 := (Qk.out.m.row b hb).1; have h3 := Qk.out.m.bb; omega
      · have hfH : Hid (¬ (la = true ∧ ue = true)) := hfin
        go_upto_region 7 with fail
        go_cut [38] (fun sb wx => sb = .bool false ∧ wx = wr)
        case first =>
          cases la
          · clear hfin
            go_wp2_with fail
            go_meet
            case rel => exact ⟨rfl, rfl⟩
          · cases ue
            · clear hfin
              go_wp2_with fail
              go_meet
              case rel => exact ⟨rfl, rfl⟩
            · exact absurd ⟨rfl, rfl⟩ hfin
        case rest =>
          obtain ⟨rfl, rfl⟩ := hcut
          rename World => wr
          have hst : Hid (Calls Tryd.prog 15 #[.string (txb u)] wr fun e w' => DsE u wr e w') := hstp.out u wr hmem.out
          clear hfin hqe hc1
          go_wp2_with fail
          refine hst.out.mono ?_
          rintro e w4 ⟨B4, hds⟩
          have Q4 : Hid (QM w w4 b0 b1 bw (w0 :: ws) (hdZ xs) B v ss) := Qk.out.call B4
          obtain ⟨b4, hb4⟩ := hid_ex3 w4.heap.size
          have hbad : Hid (la = true → rdt t = .error (i + 1, false)) := fun h => by
            have h9 := hlast.out (of_decide_eq_true (by rw [hla.out, h]))
            rw [if_neg (fun e => hfH.out ⟨h, by rw [← hue.out]; exact decide_eq_true e⟩)] at h9; exact h9
          have hlt2 : Hid (la = false → i < m) := fun h => by
            have h8 := of_decide_eq_false (show decide (i = m) = false by rw [hla.out, h])
            have h9 := hiH.out; omega
          have kc : Hid ((i : Int) + 1 = ((i + 1 : Nat) : Int)) := by show _ = _; omega
          clear B4
          rcases hds with ⟨hno, rfl⟩ | ⟨s, hso, rfl⟩
          · have hres : Hid (rdt t = .error (i + 1, false)) := by
              cases la
              · exact (hmore.out (hlt2.out rfl)).1 hno
              · exact hbad.out rfl
            obtain ⟨w5, ew5⟩ := hid_ex3 (w4.alloc (.cells #[.int .i64 0, .int .i64 0, .int .i64 0, .int .i64 0, .int .i64 0, .int .i64 0, .int .i64 0] 38))
            have Q5 : Hid (QM w w5 b0 b1 bw (w0 :: ws) (hdZ xs) B v ss) := by rw [← ew5.out]; exact Q4.out.call ((Below.refl _ _).alloc (Nat.le_refl _) _)
            clear hno
            unfold sv sva zst
            go_upto_region 15 with fail
            rw [ew5.out, hb4.out]
            obtain ⟨x0, x1, x2, x3, x4⟩ := Q5.out.m.x.bx
            have Zx := Q5.out.m.x.fz
            go_wp2_with fail
            obtain ⟨z0, z1, z2, z3, z4⟩ := Q5.out.m.x.bx.set ⟨0, 0, 0, 0, []⟩ (.slice none 0 0)
            refine bodyPost_ret (v := .tuple #[zp, .int .i64 ((i : Int) + 1), .int .i64 6]) (by unfold zp; simp [results, Tryd.results6, go_sem, z0, z1, z2, z3, z4]) rfl ⟨?_, .inl ⟨_, _, hres.out, by rw [kc.out]; rfl⟩⟩
            exact (set5_fr _ b0 _ _ _ _ _).below Q5.out.m.be Q5.out.m.be.size fun k _ hk => by rw [hb0.out]; omega
          · obtain ⟨w5, ew5⟩ := hid_ex3 (w4.alloc (.cells #[.int .i64 s.op, .int .i64 s.dst, .int .i64 s.src, .int .i64 s.jump, .int .i64 s.count, .int .i64 s.n, .int .i64 s.k] 38))
            have Q5 : Hid (QM w w5 b0 b1 bw (w0 :: ws) (hdZ xs) B v ss) := by rw [← ew5.out]; exact Q4.out.call ((Below.refl _ _).alloc (Nat.le_refl _) _)
            have Y5 : Hid (Bst w5 b4 s.op s.dst s.src s.jump s.count s.n s.k) := by show Bst _ _ _ _ _ _ _ _ _; rw [← ew5.out, ← hb4.out]; exact Bst.new w4 _ _ _ _ _ _ _
            cases la
            · have hmo : Hid ((Sp.fm s = false → rdt t = .error (i + 1, true)) ∧ (Sp.fm s = true → QS t ws (i + 1) xs (ss ++ [s]))) := (hmore.out (hlt2.out rfl)).2 s hso
              have him2 : Hid (i + 1 ≤ m) := by have h9 := hlt2.out rfl; show _ ≤ _; omega
              obtain ⟨fb, hfb⟩ := hid_ex3 (Sp.fm s)
              obtain ⟨FX, hFX⟩ := hid_ex3 (fnn fb)
              have hfoW : Hid (Calls Tryd.prog 16 #[.agg #[.int .i64 s.op, .int .i64 s.dst, .int .i64 s.src, .int .i64 s.jump, .int .i64 s.count, .int .i64 s.n, .int .i64 s.k]] w5 fun e w' => e = .returned (.int .i64 FX) ∧ Below w5.heap.size w5 w') := by
                have h9 := hfo.out s w5
                rw [hfb.out, hFX.out] at h9; exact h9
              rw [hfb.out] at hmo
              clear hso
              unfold sv sva
              go_upto_region 15 with fail
              rw [ew5.out, hb4.out]
              obtain ⟨y0, y1, y2, y3, y4, y5, y6⟩ := Y5.out
              go_wp2_with fail
              refine hfoW.out.mono ?_
              rintro e w6 ⟨rfl, B6⟩
              have Q6 : Hid (QM w w6 b0 b1 bw (w0 :: ws) (hdZ xs) B v ss) := Q5.out.call B6
              have Y6 : Hid (Bst w6 b4 s.op s.dst s.src s.jump s.count s.n s.k) := Bst.below Y5.out B6
              clear B6 y0 y1 y2 y3 y4 y5 y6
              cases fb
              · have hres : Hid (rdt t = .error (i + 1, true)) := hmo.out.1 rfl
                have hF9 : FX = 9 := hFX.out.symm
                subst hF9
                clear hmo
                obtain ⟨x0, x1, x2, x3, x4⟩ := Q6.out.m.x.bx
                have Zx := Q6.out.m.x.fz
                go_wp2_with fail
                obtain ⟨z0, z1, z2, z3, z4⟩ := Q6.out.m.x.bx.set ⟨0, 0, 0, 0, []⟩ (.slice none 0 0)
                refine bodyPost_ret (v := .tuple #[zp, .int .i64 ((i : Int) + 1), .int .i64 9]) (by unfold zp; simp [results, Tryd.results6, go_sem, z0, z1, z2, z3, z4]) rfl ⟨?_, .inl ⟨_, _, hres.out, by rw [kc.out]; rfl⟩⟩
                exact (set5_fr _ b0 _ _ _ _ _).below Q6.out.m.be Q6.out.m.be.size fun k _ hk => by rw [hb0.out]; omega
              · have S7 : Hid (QS t ws (i + 1) xs (ss ++ [s])) := hmo.out.2 rfl
                have hF9 : FX = 0 := hFX.out.symm
                subst hF9
                have hl2 : Hid ((ss ++ [s]).length = ss.length + 1) := by simp [Hid]
                have Q7 : Hid (∀ o, QM w (w6.alloc o) b0 b1 bw (w0 :: ws) (hdZ xs) B v ss) := fun o => Q6.out.call ((Below.refl _ _).alloc (Nat.le_refl _) o)
                have C7 : Hid (SAt (w6.alloc (.cells #[.int .i64 s.op, .int .i64 s.dst, .int .i64 s.src, .int .i64 s.jump, .int .i64 s.count, .int .i64 s.n, .int .i64 s.k] 38)) w6.heap.size 0 s) := ⟨by simp, by simp, by simp, by simp, by simp, by simp, by simp⟩
                have hkb2 : Hid ((ss.length + 1) * 56 ≤ 140737488355328) := by show _ ≤ _; have h9 := SkH.out.2.2.1; omega
                clear hmo
                obtain ⟨y0, y1, y2, y3, y4, y5, y6⟩ := Y6.out
                have v4 := Q6.out.m.y.bx.c4
                go_wp2_with (first | (at_builtin; refine appSt _ rfl _ _ rfl B ss s w6.heap.size v rfl rfl (Q7.out _).m.ow C7.out hkb2.out (Q7.out _).m.bb.2.2.2 ?_) | fail)
                intro v' w8 ho hgr hn
                obtain ⟨yb, hS8⟩ := (Q7.out _).push ho hgr (by simpa using hn)
                have hS8H : Hid (QM w (w8.setCell ⟨b1, 4, none⟩ v') b0 b1 bw (w0 :: ws) (hdZ xs) B v' (ss ++ [s])) := hS8
                have v8 := yb.bx.c4
                have f8 := yb.fz 4
                obtain ⟨ao', cap', hv'⟩ := owns_slice ho
                rw [hl2.out] at hv'
                subst hv'
                clear ho hgr hn hS8 yb y0 y1 y2 y3 y4 y5 y6
                go_wp2
                go_roundw
                case rel => exact ⟨i + 1, B, _, _, _, by go_num, him2.out, hS8H, .inr ⟨xs, rfl, S7⟩⟩
                case measure => simp [intOf]; have := hN5.out; omega
            · have hres : Hid (rdt t = .error (i + 1, false)) := hbad.out rfl
              clear hso
              unfold sv sva
              go_upto_region 15 with fail
              rw [ew5.out, hb4.out]
              obtain ⟨x0, x1, x2, x3, x4⟩ := Q5.out.m.x.bx
              have Zx := Q5.out.m.x.fz
              go_wp2_with fail
              obtain ⟨z0, z1, z2, z3, z4⟩ := Q5.out.m.x.bx.set ⟨0, 0, 0, 0, []⟩ (.slice none 0 0)
              refine bodyPost_ret (v := .tuple #[zp, .int .i64 ((i : Int) + 1), .int .i64 6]) (by unfold zp; simp [results, Tryd.results6, go_sem, z0, z1, z2, z3, z4]) rfl ⟨?_, .inl ⟨_, _, hres.out, by rw [kc.out]; rfl⟩⟩
              exact (set5_fr _ b0 _ _ _ _ _).below Q5.out.m.be Q5.out.m.be.size fun k _ hk => by rw [hb0.out]; omega
end Go.Proofs.YtlbnldbelfgokaaDoor
