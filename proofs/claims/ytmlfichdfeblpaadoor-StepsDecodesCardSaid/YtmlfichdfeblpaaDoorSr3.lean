/-
  Package steps, reading: readProgram.
-/
import Derived.Test.YtmlfichdfeblpaaDoorSl1
namespace Go.Proofs.YtmlfichdfeblpaaDoor
open Flo Go.RowKit
def zp : Value := .agg #[.int .i64 0, .int .i64 0, .int .i64 0, .int .i64 0, .slice none 0 0]
/-- what readProgram tells -/
def RpE (al : List Addr) (bs : List Nat) (R : Nat → Prop) (g : Nat) (w : World) (e : Ending) (w' : World) : Prop :=
  Fr (fun k => k = g) w w' ∧ ((Sp.rp bs = none ∧ ∃ c, e = .returned (.tuple #[zp, ek al c])) ∨
    ∃ (p : Sp.Pg) (j : Nat) (v : Value), Sp.rp bs = some (p, j) ∧ e = .returned (.tuple #[pv p v, .nilIface]) ∧ Rr R w' g bs j ∧ OwS w' w.heap.size v p.steps)
section
variable {bs : List Nat}
theorem rp_n1 (h : Sp.rf bs [true, true, true, true] 0 = none) : Sp.rp bs = none := by unfold Sp.rp; rw [h]; rfl
theorem rp_n2 {xs : List Nat} {j : Nat} (h : Sp.rf bs [true, true, true, true] 0 = some (xs, j)) (h2 : Sp.rn bs 65536 j = none) : Sp.rp bs = none := by unfold Sp.rp; rw [h, Option.bind_some]; simp only; rw [h2]; rfl
theorem rp_n3 {xs : List Nat} {j c i : Nat} (h : Sp.rf bs [true, true, true, true] 0 = some (xs, j)) (h2 : Sp.rn bs 65536 j = some (c, i)) (h3 : Sp.rss bs c i = none) : Sp.rp bs = none := by
  unfold Sp.rp; rw [h, Option.bind_some]; simp only; rw [h2, Option.bind_some]; simp only; rw [h3]; rfl
theorem rp_s {xs : List Nat} {j c i m : Nat} {ss : List Sp.St} (h : Sp.rf bs [true, true, true, true] 0 = some (xs, j)) (h2 : Sp.rn bs 65536 j = some (c, i)) (h3 : Sp.rss bs c i = some (ss, m)) : Sp.rp bs = some (Sp.pgo xs ss, m) := by
  unfold Sp.rp; rw [h, Option.bind_some]; simp only; rw [h2, Option.bind_some]; simp only; rw [h3]; rfl
end
/-- a box of a program: its cells, and that they may be written -/
structure Bpf (w : World) (b : Nat) (p : Sp.Pg) (v : Value) : Prop where
  bx : Bpg w b p v
  fz : ∀ i, w.frozen? ⟨b, i, none⟩ = false
theorem Bpf.fr {S : Nat → Prop} {w w' : World} {b : Nat} {p : Sp.Pg} {v : Value} (h : Bpf w b p v) (hf : Fr S w w') (hS : ¬ S b) : Bpf w' b p v :=
  ⟨h.bx.fr hf hS, fun i => (hf.frozen (p := ⟨b, i, none⟩) (cell_lt (a := ⟨b, 0, none⟩) h.bx.c0) hS).trans (h.fz i)⟩
theorem Bpf.new (w : World) (p : Sp.Pg) (v : Value) : Bpf (w.alloc (.cells #[.int .i64 p.len, .int .i64 p.cells, .int .i64 p.inn, .int .i64 p.out, v] 26)) w.heap.size p v := ⟨Bpg.new w p v, fun i => by simp⟩
theorem Bpf.set4 {w : World} {b : Nat} {p : Sp.Pg} {v : Value} (h : Bpf w b p v) (v' : Value) : Bpf (w.setCell ⟨b, 4, none⟩ v') b p v' :=
  ⟨⟨by simp [World.cell?_setCell_other, h.bx.c0], by simp [World.cell?_setCell_other, h.bx.c1], by simp [World.cell?_setCell_other, h.bx.c2], by simp [World.cell?_setCell_other, h.bx.c3], World.cell?_setCell_same _ _ _ h.bx.c4⟩, fun i => by rw [World.frozen?_setCell]; exact h.fz i⟩
theorem fr_new (S : Nat → Prop) (w : World) (o : Obj) : Fr S w (w.alloc o) := (Fr.refl S w).alloc o
theorem Fr.up {S : Nat → Prop} {a b c : World} (h : Fr S a b) (h2 : Fr (fun _ => False) b c) : Fr S a c := h.trans h2 fun _ h => h.elim
theorem Fr.bel {w w' : World} (h : Below w.heap.size w w') : Fr (fun _ => False) w w' := Fr.of_below h fun k h1 h2 => by omega
/-- readProgram's own memory -/
structure StP (R : Nat → Prop) (g b0 b1 : Nat) (bs : List Nat) (w wx : World) (hd : Sp.Pg) (B : Nat) (v : Value) (ss : List Sp.St) (j : Nat) : Prop where
  rr : Rr R wx g bs j
  x : Bpf wx b0 ⟨0, 0, 0, 0, []⟩ (.slice none 0 0)
  y : Bpf wx b1 hd v
  ow : OwS wx B v ss
  fr : Fr (fun k => k = g) w wx
  bb : b0 < b1 ∧ b1 < B ∧ B ≤ wx.heap.size
  gb : g < b0
  b0w : w.heap.size = b0
  hR : ∀ k, R k → k < b0
section
variable {R : Nat → Prop} {g b0 b1 B j : Nat} {bs : List Nat} {w wx wy : World} {hd : Sp.Pg} {v : Value} {ss : List Sp.St}
theorem StP.row (h : StP R g b0 b1 bs w wx hd B v ss j) : ∀ b, v.ownBlock = some b → B ≤ b ∧ b < wx.heap.size := fun b hb => World.ownsRow.lt h.ow b hb
theorem StP.call (h : StP R g b0 b1 bs w wx hd B v ss j) (hf : Fr (fun k => k = g) wx wy) {i : Nat} (hr : Rr R wy g bs i) : StP R g b0 b1 bs w wy hd B v ss i :=
  ⟨hr, h.x.fr hf (by have := h.gb; omega), h.y.fr hf (by have := h.gb; have := h.bb; omega), h.ow.fr hf fun b hb => by have := (h.row b hb).1; have := h.gb; have := h.bb; omega, h.fr.then hf, ⟨h.bb.1, h.bb.2.1, Nat.le_trans h.bb.2.2 hf.size⟩, h.gb, h.b0w, h.hR⟩
theorem StP.new (h : StP R g b0 b1 bs w wx hd B v ss j) (o : Obj) : StP R g b0 b1 bs w (wx.alloc o) hd B v ss j :=
  h.call (fr_new _ _ _) (h.rr.under (fr_new (fun _ => False) wx o) fun _ _ h => h.elim)
/-- behind an append and the store of what it gave -/
theorem StP.push (h : StP R g b0 b1 bs w wx hd B v ss j) {v' : Value} {ss' : List Sp.St} (ho : OwS wy B v' ss') (hg : wx.grownBy wy v.ownBlock) (hn : ∀ b, v'.ownBlock = some b → v.ownBlock = some b ∨ wx.heap.size ≤ b) :
    Bpf wy b1 hd v ∧ StP R g b0 b1 bs w (wy.setCell ⟨b1, 4, none⟩ v') hd B v' ss' j := by
  have f1 : Fr (fun k => v.ownBlock = some k) wx wy := (Fr.refl _ wx).grown hg fun _ hk => hk
  have hbb := h.bb
  have n0 : ¬ v.ownBlock = some b0 := fun e => by have := (h.row _ e).1; omega
  have n1 : ¬ v.ownBlock = some b1 := fun e => by have := (h.row _ e).1; omega
  have ng : ¬ v.ownBlock = some g := fun e => by have := (h.row _ e).1; have := h.gb; omega
  have y1 := h.y.fr f1 n1
  have f2 := set_fr wy b1 4 v'
  refine ⟨y1, ⟨?_, ?_, y1.set4 v', ?_, ?_, ⟨hbb.1, hbb.2.1, ?_⟩, h.gb, h.b0w, h.hR⟩⟩
  · exact (h.rr.under f1 fun k _ h1 h2 => by have := (h.row _ h1).1; have := h.hR k h2; omega).under f2 fun k _ h1 h2 => by have := h.hR k h2; omega
  · exact (h.x.fr f1 n0).fr f2 (by omega)
  · refine OwS.fr ho f2 fun b hb => ?_
    rcases hn b hb with h1 | h1
    · have := (h.row _ h1).1; omega
    · omega
  · refine (h.fr.trans f1 fun k hk => .inr ?_).trans f2 fun k hk => .inr ?_
    · have := (h.row _ hk).1; have := h.b0w; omega
    · have := h.b0w; omega
  · have := hg.size
    have h3 := f2.size
    omega
end
set_option maxHeartbeats 8000000 in
set_option maxRecDepth 100000 in
theorem sreadProgram_c (R : Nat → Prop) (g : Nat) (bs : List Nat) (al : List Addr) (w : World) (h : Rr R w g bs 0) (he : E4 w al) (hO : Ops w) (hg : Ng g) (hR : ∀ k, R k → k < w.heap.size) :
    Calls Tryd.prog 15 #[.pointer (some ⟨g, 0, none⟩)] w fun e w' => RpE al bs R g w e w' := by
  have hgl := h.lt
  obtain ⟨b0, hb0⟩ : ∃ b, Hid (w.heap.size = b) := ⟨_, (rfl : _ = _)⟩
  obtain ⟨w1, ew1⟩ : ∃ wa, Hid (w.alloc (.cells #[.int .i64 0, .int .i64 0, .int .i64 0, .int .i64 0, .slice none 0 0] 26) = wa) := ⟨_, (rfl : _ = _)⟩
  have F1 : Hid (Fr (fun _ => False) w w1) := by rw [← ew1.out]; exact fr_new _ _ _
  have X1 : Hid (Bpf w1 b0 ⟨0, 0, 0, 0, []⟩ (.slice none 0 0)) := by rw [← ew1.out, ← hb0.out]; exact Bpf.new w ⟨0, 0, 0, 0, []⟩ _
  have R1 : Hid (Rr R w1 g bs 0) := h.under F1.out fun k _ h => h.elim
  have s1 : Hid (w1.heap.size = b0 + 1) := by show _ = _; rw [← ew1.out, ← hb0.out]; simp
  have heH : Hid (E4 w al) := he
  have hOH : Hid (Ops w) := hO
  have hgH : Hid (Ng g) := hg
  have hRH : Hid (∀ k, R k → k < b0) := by rw [← hb0.out]; exact hR
  have hgb : Hid (g < b0) := by show _ < _; rw [← hb0.out]; exact hgl
  have hhd : Hid (Calls Tryd.prog 31 #[.pointer (some ⟨g, 0, none⟩)] w1 fun e w' => RhE al bs 0 R g w1 e w') := sreadHead_c R g 0 bs al w1 R1.out (he.below (by rw [← ew1.out]; exact (Below.refl _ _).alloc (Nat.le_refl _) _)) hg (fun k hk => by have := hRH.out k hk; have := s1.out; omega)
  clear h he hg hR hgl hO
  go_enter Tryd.func15, Tryd.ntmps15
  go_upto_region 1 with fail
  rw [ew1.out, hb0.out]
  go_wp2_with fail
  refine hhd.out.mono ?_
  rintro e w2 ⟨F2, hcs⟩
  have F2H : Hid (Fr (fun k => k = g) w w2) := ((F1.out.mono fun k _ h => h.elim).then F2)
  have X2 : Hid (Bpf w2 b0 ⟨0, 0, 0, 0, []⟩ (.slice none 0 0)) := X1.out.fr F2 (by have := hgb.out; simp; omega)
  have s2 : Hid (b0 < w2.heap.size) := by have h1 := s1.out; have h2 := F2.size; show _ < _; omega
  clear F2 hhd X1 R1 F1
  obtain ⟨b1, hb1⟩ : ∃ b, Hid (w2.heap.size = b) := ⟨_, (rfl : _ = _)⟩
  have hb01 : Hid (b0 < b1) := by show _ < _; rw [← hb1.out]; exact s2.out
  rcases hcs with ⟨hnone, c, rfl⟩ | ⟨xs, J, hsome, rfl, R2⟩
  · have hres : Hid (Sp.rp bs = none) := rp_n1 hnone
    have hq := nnil_c al c
    have hgd := guard_c al c
    obtain ⟨w3, ew3⟩ : ∃ wa, Hid (w2.alloc (.cells #[.int .i64 0, .int .i64 0, .int .i64 0, .int .i64 0, .slice none 0 0] 26) = wa) := ⟨_, (rfl : _ = _)⟩
    have F3 : Hid (Fr (fun k => k = g) w w3) := by rw [← ew3.out]; exact F2H.out.up (fr_new _ _ _)
    have X3 : Hid (Bpf w3 b0 ⟨0, 0, 0, 0, []⟩ (.slice none 0 0)) := X2.out.fr (by rw [← ew3.out]; exact fr_new (fun _ => False) _ _) id
    clear hnone X2
    go_upto_region 2 with fail
    rw [ew3.out, hb1.out]
    obtain ⟨x0, x1, x2, x3, x4⟩ := X3.out.bx
    have Z3 := X3.out.fz
    go_wp2
    obtain ⟨z0, z1, z2, z3, z4⟩ := X3.out.bx.set ⟨0, 0, 0, 0, []⟩ (.slice none 0 0)
    refine bodyPost_ret (v := .tuple #[zp, ek al c]) (by unfold zp; simp [results, Tryd.results15, go_sem, z0, z1, z2, z3, z4]) rfl ⟨?_, .inl ⟨hres.out, c, rfl⟩⟩
    exact F3.out.trans (set5_fr w3 b0 _ _ _ _ _) fun k hk => .inr (by rw [hb0.out, hk]; exact Nat.le_refl _)
  · have hsH : Hid (Sp.rf bs [true, true, true, true] 0 = some (xs, J)) := hsome
    obtain ⟨X0', e0⟩ : ∃ X, Hid (xs.getD 0 0 = X) := ⟨_, (rfl : _ = _)⟩
    obtain ⟨X1', e1⟩ : ∃ X, Hid (xs.getD 1 0 = X) := ⟨_, (rfl : _ = _)⟩
    obtain ⟨X2', e2⟩ : ∃ X, Hid (xs.getD 2 0 = X) := ⟨_, (rfl : _ = _)⟩
    obtain ⟨X3', e3⟩ : ∃ X, Hid (xs.getD 3 0 = X) := ⟨_, (rfl : _ = _)⟩
    rw [e0.out, e1.out, e2.out, e3.out]
    obtain ⟨w3, ew3⟩ : ∃ wa, Hid (w2.alloc (.cells #[.int .i64 (X0' : Int), .int .i64 (X1' : Int), .int .i64 (X2' : Int), .int .i64 (X3' : Int), .slice none 0 0] 26) = wa) := ⟨_, (rfl : _ = _)⟩
    have F23 : Hid (Fr (fun _ => False) w2 w3) := by rw [← ew3.out]; exact fr_new _ _ _
    have F3 : Hid (Fr (fun k => k = g) w w3) := F2H.out.up F23.out
    have X3 : Hid (Bpf w3 b0 ⟨0, 0, 0, 0, []⟩ (.slice none 0 0)) := X2.out.fr F23.out id
    have Y3 : Hid (Bpf w3 b1 ⟨X0', X1', X2', X3', []⟩ (.slice none 0 0)) := by rw [← ew3.out, ← hb1.out]; exact Bpf.new w2 ⟨X0', X1', X2', X3', []⟩ _
    have R3 : Hid (Rr R w3 g bs J) := R2.under F23.out fun k _ h => h.elim
    have hup : Hid (Calls Tryd.prog 32 #[.pointer (some ⟨g, 0, none⟩), .int .i64 65536] w3 fun e w' => UpE al bs 65536 J R g w3 e w') := srn_c R g J 65536 bs al w3 R3.out (heH.out.fr F3.out hgH.out) hgH.out.2.2.2.2.1 (by decide)
    clear hsome X2 R2 F23
    go_upto_region 2 with fail
    rw [ew3.out, hb1.out]
    go_wp2_with fail
    refine hup.out.mono ?_
    rintro e w4 ⟨F4, hcs⟩
    have F4H : Hid (Fr (fun k => k = g) w w4) := F3.out.then F4
    have X4 : Hid (Bpf w4 b0 ⟨0, 0, 0, 0, []⟩ (.slice none 0 0)) := X3.out.fr F4 (by have := hgb.out; simp; omega)
    have Y4 : Hid (Bpf w4 b1 ⟨X0', X1', X2', X3', []⟩ (.slice none 0 0)) := Y3.out.fr F4 (by have := hgb.out; have := hb01.out; simp; omega)
    clear F4 hup X3 Y3 R3
    rcases hcs with ⟨hnone, c, rfl⟩ | ⟨cnt, L, hsome, rfl, R4⟩
    · have hres : Hid (Sp.rp bs = none) := rp_n2 hsH.out hnone
      have hq := nnil_c al c
      have hgd := guard_c al c
      obtain ⟨x0, x1, x2, x3, x4⟩ := X4.out.bx
      have Z3 := X4.out.fz
      clear hnone
      go_wp2
      obtain ⟨z0, z1, z2, z3, z4⟩ := X4.out.bx.set ⟨0, 0, 0, 0, []⟩ (.slice none 0 0)
      refine bodyPost_ret (v := .tuple #[zp, ek al c]) (by unfold zp; simp [results, Tryd.results15, go_sem, z0, z1, z2, z3, z4]) rfl ⟨?_, .inl ⟨hres.out, c, rfl⟩⟩
      exact F4H.out.trans (set5_fr w4 b0 _ _ _ _ _) fun k hk => .inr (by rw [hb0.out, hk]; exact Nat.le_refl _)
    · have hcH : Hid (Sp.rn bs 65536 J = some (cnt, L)) := hsome
      have hcn : cnt ≤ 65536 := rn_lt hsome
      have hle : Hid (Calls Tryd.prog 33 #[.pointer (some ⟨g, 0, none⟩)] w4 fun e w' => ∃ m : Nat, e = .returned (.int .i64 (m : Int)) ∧ Hid (m = bs.length - L) ∧ Qt w4 w') := rleft_c R g L bs w4 R4
      have R4H : Hid (Rr R w4 g bs L) := R4
      have hbig : bs.length ≤ 140737488355328 := R4.big
      clear hsome R4
      go_upto_region 7 with fail
      go_cut [] (fun wx => ∃ (B : Nat) (v : Value), Hid (StP R g b0 b1 bs w wx ⟨X0', X1', X2', X3', []⟩ B v [] L))
      case first =>
        go_wp2_with fail
        refine hle.out.mono ?_
        rintro e w5 ⟨m, rfl, hm, Q5⟩
        have F45 : Fr (fun _ => False) w4 w5 := Q5.fr _
        obtain ⟨Q, hQ⟩ : ∃ Q, Hid (m / 3 = Q) := ⟨_, (rfl : _ = _)⟩
        have hQ1 : (m : Int) / 3 = (Q : Int) := by have := hQ.out; omega
        have hQw : wrap64 (Q : Int) = (Q : Int) := by have h1 := hQ.out; have h2 := hm.out; clear hQ1; unfold wrap64; omega
        obtain ⟨M, hM⟩ : ∃ M, Hid (min cnt Q = M) := ⟨_, (rfl : _ = _)⟩
        obtain ⟨w6, hmk, hO6, hB6⟩ := makeS w5 M (by have := hM.out; omega)
        have F46 : Fr (fun _ => False) w4 w6 := F45.up (Fr.bel hB6.out)
        have Y6 := Y4.out.fr F46 id
        have hs6 : Hid (StP R g b0 b1 bs w (w6.setCell ⟨b1, 4, none⟩ (.slice (some ⟨w5.heap.size, 0, none⟩) 0 M)) ⟨X0', X1', X2', X3', []⟩ w5.heap.size (.slice (some ⟨w5.heap.size, 0, none⟩) 0 M) [] L) := by
          have b1lt : b1 < w5.heap.size := Nat.lt_of_lt_of_le (cell_lt (a := ⟨b1, 0, none⟩) Y4.out.bx.c0) F45.size
          have f2 := set_fr w6 b1 4 (.slice (some ⟨w5.heap.size, 0, none⟩) 0 M)
          have hbb := hb01.out
          refine ⟨(R4H.out.under F46 fun k _ h => h.elim).under f2 fun k _ h1 h2 => by have := hRH.out k h2; omega, (X4.out.fr F46 id).fr f2 (by omega), Y6.set4 _, OwS.fr hO6.out f2 fun b hb => ?_, (F4H.out.up F46).trans f2 fun k hk => .inr (by rw [hb0.out]; omega), ⟨hbb, b1lt, Nat.le_trans hB6.out.size f2.size⟩, hgb.out, hb0.out, hRH.out⟩
          cases hb
          show ¬ w5.heap.size = b1
          omega
        have y4 := Y6.bx.c4
        have yz := Y6.fz 4
        clear Q5 hle hO6 hB6 F45 F46 Y6
        by_cases hqc : Q < cnt
        · have e9 : M = Q := by have := hM.out; omega
          subst e9
          clear hM
          go_wp2_with fail
          go_meet
          case rel => exact ⟨_, _, hs6⟩
        · have e9 : M = cnt := by have := hM.out; omega
          subst e9
          clear hM
          go_wp2_with fail
          go_meet
          case rel => exact ⟨_, _, hs6⟩
      case rest =>
        obtain ⟨B, v, hst⟩ := hcut
        clear X4 Y4 R4H hle F4H hbig F3 F2H hb01 s2 s1
        go_wp2
        go_loopw [35] (fun i wr => ∃ (k : Nat) (v : Value) (ss : List Sp.St) (j : Nat), k ≤ cnt ∧ ss.length = k ∧ i = .int .i64 k ∧ Hid (Sp.rss bs k L = some (ss, j)) ∧ Hid (StP R g b0 b1 bs w wr ⟨X0', X1', X2', X3', []⟩ B v ss j)) (fun i _ => cnt - (intOf i).toNat)
        case atStart => exact ⟨0, v, [], L, Nat.zero_le _, rfl, rfl, (rfl : _ = _), hst⟩
        case round =>
          obtain ⟨k, v, ss, j, hk, hsl, rfl, hrs, hS⟩ := hrel
          by_cases hlt : k < cnt
          · have hlt' : (k : Int) < (cnt : Int) := by omega
            have hrd : Hid (Calls Tryd.prog 34 #[.pointer (some ⟨g, 0, none⟩)] wr fun e w' => RsE al bs j R g wr e w') := sreadStep_c R g j bs al wr hS.out.rr (heH.out.fr hS.out.fr hgH.out) (hOH.out.fr hS.out.fr hgH.out.1) hgH.out (fun k hk => by have := hS.out.hR k hk; have := hS.out.bb; omega)
            go_wp2_with fail
            refine hrd.out.mono ?_
            rintro e w5 ⟨F5, hcs⟩
            have F5H : Hid (Fr (fun k => k = g) wr w5) := F5
            clear F5 hrd
            rcases hcs with ⟨hnone, s, c, rfl⟩ | ⟨s, i, hsome, rfl, R5⟩
            · have hres : Hid (Sp.rp bs = none) := rp_n3 hsH.out hcH.out (rss_stop hlt hrs.out hnone)
              have hq := nnil_c al c
              have hgd := guard_c al c
              obtain ⟨w6, ew6⟩ : ∃ wa, Hid (w5.alloc (.cells #[.int .i64 s.op, .int .i64 s.dst, .int .i64 s.src, .int .i64 s.jump, .int .i64 s.count, .int .i64 s.n, .int .i64 s.k] 36) = wa) := ⟨_, (rfl : _ = _)⟩
              have F6 : Hid (Fr (fun k => k = g) wr w6) := by rw [← ew6.out]; exact F5H.out.up (fr_new _ _ _)
              have X6 : Hid (Bpf w6 b0 ⟨0, 0, 0, 0, []⟩ (.slice none 0 0)) := hS.out.x.fr F6.out (by have := hgb.out; simp; omega)
              have Fw : Hid (Fr (fun k => k = g) w w6) := hS.out.fr.then F6.out
              clear hnone
              unfold sv sva
              go_upto_region 11 with fail
              rw [ew6.out]
              obtain ⟨x0, x1, x2, x3, x4⟩ := X6.out.bx
              have Z3 := X6.out.fz
              go_wp2
              obtain ⟨z0, z1, z2, z3, z4⟩ := X6.out.bx.set ⟨0, 0, 0, 0, []⟩ (.slice none 0 0)
              refine bodyPost_ret (v := .tuple #[zp, ek al c]) (by unfold zp; simp [results, Tryd.results15, go_sem, z0, z1, z2, z3, z4]) rfl ⟨?_, .inl ⟨hres.out, c, rfl⟩⟩
              exact Fw.out.trans (set5_fr w6 b0 _ _ _ _ _) fun k hk => .inr (by rw [hb0.out, hk]; exact Nat.le_refl _)
            · have hrs2 : Hid (Sp.rss bs (k + 1) L = some (ss ++ [s], i)) := rss_snoc hrs.out hsome
              have hl2 : Hid ((ss ++ [s]).length = k + 1) := by simp [Hid, hsl]
              have S5 : StP R g b0 b1 bs w w5 ⟨X0', X1', X2', X3', []⟩ B v ss i := hS.out.call F5H.out R5
              obtain ⟨w6, ew6⟩ : ∃ wa, Hid (w5.alloc (.cells #[.int .i64 s.op, .int .i64 s.dst, .int .i64 s.src, .int .i64 s.jump, .int .i64 s.count, .int .i64 s.n, .int .i64 s.k] 36) = wa) := ⟨_, (rfl : _ = _)⟩
              obtain ⟨b2, hb2⟩ : ∃ b, Hid (w5.heap.size = b) := ⟨_, (rfl : _ = _)⟩
              have S6 : Hid (StP R g b0 b1 bs w w6 ⟨X0', X1', X2', X3', []⟩ B v ss i) := by show StP _ _ _ _ _ _ _ _ _ _ _ _; rw [← ew6.out]; exact S5.new _
              have Y6 : Hid (Bst w6 b2 s.op s.dst s.src s.jump s.count s.n s.k) := by show Bst _ _ _ _ _ _ _ _ _; rw [← ew6.out, ← hb2.out]; exact Bst.new w5 _ _ _ _ _ _ _
              have S7 : Hid (∀ o, StP R g b0 b1 bs w (w6.alloc o) ⟨X0', X1', X2', X3', []⟩ B v ss i) := fun o => S6.out.new o
              have C7 : Hid (SAt (w6.alloc (.cells #[.int .i64 s.op, .int .i64 s.dst, .int .i64 s.src, .int .i64 s.jump, .int .i64 s.count, .int .i64 s.n, .int .i64 s.k] 36)) w6.heap.size 0 s) := ⟨by simp, by simp, by simp, by simp, by simp, by simp, by simp⟩
              clear hsome R5 S5
              unfold sv sva
              go_upto_region 11 with fail
              rw [ew6.out, hb2.out]
              obtain ⟨y0, y1, y2, y3, y4, y5, y6⟩ := Y6.out
              have v4 := S6.out.y.bx.c4
              have hkb : Hid ((ss.length + 1) * 56 ≤ 140737488355328) := by show _ ≤ _; omega
              go_wp2_with (first | (at_builtin; refine appSt _ rfl _ _ rfl B ss s w6.heap.size v rfl rfl (S7.out _).ow C7.out hkb.out (S7.out _).bb.2.2 ?_) | fail)
              intro v' w8 ho hgr hn
              obtain ⟨yb, hS8⟩ := (S7.out _).push ho hgr (by simpa using hn)
              have hS8H : Hid (StP R g b0 b1 bs w (w8.setCell ⟨b1, 4, none⟩ v') ⟨X0', X1', X2', X3', []⟩ B v' (ss ++ [s]) i) := hS8
              have v8 := yb.bx.c4
              have f8 := yb.fz 4
              obtain ⟨ao, cap, hv'⟩ := owns_slice ho
              rw [hl2.out] at hv'
              subst hv'
              clear ho hgr hn hS8 yb y0 y1 y2 y3 y4 y5 y6
              go_wp2
              go_roundw
              case rel => exact ⟨k + 1, _, ss ++ [s], i, by omega, hl2.out, by go_num, hrs2, hS8H⟩
              case measure => simp [intOf]; omega
          · have hlt' : decide ((k : Int) < (cnt : Int)) = false := decide_eq_false (by omega)
            have hlt2 : ¬ k < cnt := hlt
            have hkc : k = cnt := by omega
            rw [hkc] at hrs
            have hres : Hid (Sp.rp bs = some (Sp.pgo xs ss, j)) := rp_s hsH.out hcH.out hrs.out
            obtain ⟨x0, x1, x2, x3, x4⟩ := hS.out.x.bx
            obtain ⟨y0, y1, y2, y3, y4⟩ := hS.out.y.bx
            have Z3 := hS.out.x.fz
            obtain ⟨ao, cap, hv'⟩ := owns_slice hS.out.ow
            rw [hsl] at hv'
            subst hv'
            clear hrs hkc
            go_wp2
            obtain ⟨z0, z1, z2, z3, z4⟩ := hS.out.x.bx.set ⟨X0', X1', X2', X3', []⟩ (.slice ao k cap)
            refine bodyPost_ret (v := .tuple #[pv (Sp.pgo xs ss) (.slice ao k cap), .nilIface]) (by unfold pv Sp.pgo; simp only [e0.out, e1.out, e2.out, e3.out]; simp [results, Tryd.results15, go_sem, z0, z1, z2, z3, z4]) rfl ⟨?_, .inr ⟨Sp.pgo xs ss, j, _, hres.out, rfl, ?_, ?_⟩⟩
            · exact hS.out.fr.trans (set5_fr wr b0 _ _ _ _ _) fun k hk => .inr (by rw [hb0.out, hk]; exact Nat.le_refl _)
            · exact hS.out.rr.under (set5_fr wr b0 _ _ _ _ _) fun k _ h1 h2 => by have := hRH.out k h2; omega
            · have h9 := (hS.out.ow.base (C := w.heap.size) (by have := hS.out.bb; rw [hb0.out]; omega))
              exact h9.fr (set5_fr wr b0 _ _ _ _ _) fun b hb h1 => by have := (hS.out.row b hb).1; have := hS.out.bb; omega
end Go.Proofs.YtmlfichdfeblpaaDoor
