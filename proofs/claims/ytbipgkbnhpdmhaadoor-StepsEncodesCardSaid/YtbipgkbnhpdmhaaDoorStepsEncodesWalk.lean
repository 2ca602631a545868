/-
  The statement StepsEncodes: the walk.
-/
import Derived.Test.YtbipgkbnhpdmhaaDoorSv1
import Derived.Test.YtbipgkbnhpdmhaaDoorSd4
import Derived.Test.YtbipgkbnhpdmhaaDoorSd7
import Derived.Test.YtbipgkbnhpdmhaaDoorSl2
import Derived.Test.YtbipgkbnhpdmhaaDoorQkg
import Derived.Test.YtbipgkbnhpdmhaaDoorQke
import Derived.Test.YtbipgkbnhpdmhaaDoorQn1
import Derived.Deep.LoopGhost
namespace Go.Proofs.YtbipgkbnhpdmhaaDoor
open Flo Go.RowKit
theorem num_fevE (al : List Addr) (b : Bool) (w : World) (he : Errs w al) : Calls Tryd.prog 15 #[fev al b] w fun e w' => e = .returned (.int .i64 (fnn b)) ∧ Below w.heap.size w w' := by
  cases b
  · exact num_err al 8 (by decide) w he
  · refine (num_nil w).mono ?_
    rintro e w' ⟨rfl, rfl⟩
    exact ⟨rfl, Below.refl _ _⟩
theorem bc_setE (ys : List Nat) (i y : Nat) : bc (ys.set i y) = (bc ys).set i (.int .u8 (y : Int)) := by unfold bc; rw [List.map_set]
theorem ownB_setE {w : World} {g cap n i y : Nat} {ys : List Nat} (hn : n = ys.length) (h : OwB w (.slice (some ⟨g, 0, none⟩) n cap) ys) : OwB (w.setCell ⟨g, i, none⟩ (.int .u8 (y : Int))) (.slice (some ⟨g, 0, none⟩) n cap) (ys.set i y) ∧ w.frozen? ⟨g, i, none⟩ = false := by
  subst hn
  have h1 := (World.ownsRow.stored h i (.int .u8 (y : Int))).1
  refine ⟨?_, World.ownsRow.frozenAt h i⟩
  unfold OwB
  rw [List.length_set, bc_setE]
  exact h1
theorem xor90 (x : Nat) (h : x < 256) : ∃ y : Nat, bits .xor .u8 (x : Int) 90 = (y : Int) ∧ y < 256 := by
  have key : ∀ x : Fin 256, ∃ y : Fin 256, bits .xor .u8 ((x.val : Nat) : Int) 90 = ((y.val : Nat) : Int) := by decide +kernel
  obtain ⟨y, hy⟩ := key ⟨x, h⟩
  exact ⟨y.val, hy, y.isLt⟩
/-- the bytes that a program is written as, none where it isn't in form -/
def eb (p : Sp.Pg) : List Nat := bif Sp.inf p then Sp.encP p else []
theorem eb_byte (p : Sp.Pg) : ∀ b ∈ eb p, b < 256 := by
  unfold eb
  cases Sp.inf p
  · simp
  · exact Sp.encP_byte p
theorem eb_len (p : Sp.Pg) : (eb p).length ≤ 5000000 := by
  unfold eb
  cases h : Sp.inf p
  · simp
  · obtain ⟨_, h1, h2⟩ := Sp.inf_parts h
    have h3 := hdk_len h 4 (by decide)
    have h4 := Pk.vi_len (x := p.steps.length) (by omega)
    have h5 := encs_len p.steps h2
    show (Sp.encP p).length ≤ _
    rw [encP_eq, List.length_append, List.length_append]
    omega
theorem newB_none {w w' : World} (h : Below w.heap.size w w') : NewB w w' (.slice none 0 0) [] := ⟨⟨rfl, .inl ⟨rfl, rfl⟩⟩, (fun b hb => by cases hb), h⟩
theorem enc_u {al : List Addr} {p : Sp.Pg} {w w' : World} {e : Ending} (h : EncE al p w e w') : ∃ ao n cap, e = .returned (.tuple #[.slice ao n cap, fev al (Sp.inf p)]) ∧ Hid (n = (eb p).length) ∧ NewB w w' (.slice ao n cap) (eb p) := by
  rcases h with ⟨hi, rfl, hB⟩ | ⟨hi, v, rfl, hN⟩
  · unfold eb; rw [hi]; exact ⟨none, 0, 0, rfl, rfl, newB_none hB⟩
  · obtain ⟨n, ao, cap, rfl, hn⟩ := hN.own.slice
    unfold eb; rw [hi]; exact ⟨ao, n, cap, rfl, hn, hN⟩
theorem den_u {p : Sp.Pg} {w w' : World} {e : Ending} (h : DEn p w e w') : ∃ ao n cap, e = .returned (.tuple #[.slice ao n cap, .int .i64 (fnn (Sp.inf p))]) ∧ NewB w w' (.slice ao n cap) (eb p) := by
  rcases h with ⟨hi, rfl, hB⟩ | ⟨hi, v, rfl, hN⟩
  · unfold eb; rw [hi]; exact ⟨none, 0, 0, rfl, newB_none hB⟩
  · obtain ⟨n, ao, cap, rfl, hn⟩ := hN.own.slice
    unfold eb; rw [hi]; exact ⟨ao, n, cap, rfl, hN⟩
set_option maxHeartbeats 16000000 in
set_option maxRecDepth 100000 in
theorem stepsEncodes.walk (p : Sp.Pg) (ao : Option Addr) (c : Nat) (al : List Addr) (w : World) (ha : Ss w ao p.steps) (hc : ao = none → c = 0) (hb : p.steps.length * 56 ≤ 140737488351232) (he : E4 w al) (hO : Ops w) (hE : Errs w al) :
    Calls Tryd.prog 5 #[pv p (.slice ao p.steps.length c)] w fun e w' => e = .returned (.bool true) ∧ Below w.heap.size w w' := by
  obtain ⟨n, hn⟩ : ∃ n, Hid (p.steps.length = n) := ⟨_, (rfl : _ = _)⟩
  rw [hn.out] at hb ⊢
  obtain ⟨g, hg⟩ : ∃ g, Hid (w.heap.size = g) := ⟨_, (rfl : _ = _)⟩
  obtain ⟨wa, ewa⟩ : ∃ wa, Hid (w.alloc (.cells #[.int .i64 p.len, .int .i64 p.cells, .int .i64 p.inn, .int .i64 p.out, .slice ao n c] 38) = wa) := ⟨_, (rfl : _ = _)⟩
  have Ba : Hid (Below w.heap.size w wa) := by rw [← ewa.out]; exact (Below.refl _ _).alloc (Nat.le_refl _) _
  have X1 : Hid (Bpg wa g p (.slice ao n c)) := by rw [← ewa.out, ← hg.out]; exact Bpg.new w p _
  have e1 : Hid (E4 wa al) := he.below Ba.out
  have o1 : Hid (Ops wa) := hO.below Ba.out
  have r1 : Hid (Errs wa al) := hE.below Ba.out
  have s1 : Hid (Ss wa ao p.steps) := ha.below Ba.out
  have hlv : Hid (Calls Tryd.prog 9 #[] wa fun e w' => e = .returned (.bool true) ∧ Below wa.heap.size wa w') := slives_c al wa e1.out o1.out
  have hbH : Hid (n * 56 ≤ 140737488351232) := hb
  have hcH : Hid (ao = none → c = 0) := hc
  obtain ⟨fi, hfi⟩ : ∃ b, Hid (Sp.inf p = b) := ⟨_, (rfl : _ = _)⟩
  obtain ⟨bs, hbs⟩ : ∃ bs, Hid (eb p = bs) := ⟨_, (rfl : _ = _)⟩
  have hbyt : Hid (∀ b ∈ bs, b < 256) := by rw [← hbs.out]; exact eb_byte p
  have hlen : Hid (bs.length ≤ 5000000) := by rw [← hbs.out]; exact eb_len p
  obtain ⟨fv, hfv⟩ : ∃ v, Hid (fev al fi = v) := ⟨_, (rfl : _ = _)⟩
  obtain ⟨fx, hfx⟩ : ∃ v, Hid (fnn fi = v) := ⟨_, (rfl : _ = _)⟩
  have hnum : Hid (∀ W, Below wa.heap.size wa W → Calls Tryd.prog 15 #[fv] W fun e w' => e = .returned (.int .i64 fx) ∧ Below W.heap.size W w') := fun W hW => by
    rw [← hfv.out, ← hfx.out]; exact num_fevE al fi W (r1.out.below hW)
  clear he hO hE ha hc hb
  unfold pv
  go_enter Tryd.func5, Tryd.ntmps5
  go_upto_region 1 with fail
  rw [ewa.out, hg.out]
  go_wp2_with fail
  refine hlv.out.mono ?_
  rintro e w2 ⟨rfl, B2⟩
  have B2H : Hid (Below wa.heap.size wa w2) := B2
  have X2 := X1.out.below B2
  have hcp : Hid (Calls Tryd.prog 18 #[.agg #[.int .i64 p.len, .int .i64 p.cells, .int .i64 p.inn, .int .i64 p.out, .slice ao n c]] w2 fun e w' => CpE p n w2 e w') := copied_c p ao n c w2 (s1.out.below B2) hcH.out hn.out.symm hbH.out
  clear B2 hlv
  obtain ⟨x0, x1, x2, x3, x4⟩ := X2
  go_wp2_with fail
  refine hcp.out.mono ?_
  rintro e w3 ⟨q, cap, rfl, O3, B3⟩
  have B3H : Hid (Below wa.heap.size wa w3) := B2H.out.trans (B3.mono B2H.out.size)
  obtain ⟨g1, hg1⟩ : ∃ g, Hid (w3.heap.size = g) := ⟨_, (rfl : _ = _)⟩
  obtain ⟨w4, ew4⟩ : ∃ wx, Hid (w3.alloc (.cells #[.int .i64 p.len, .int .i64 p.cells, .int .i64 p.inn, .int .i64 p.out, .slice (some ⟨q, 0, none⟩) n cap] 38) = wx) := ⟨_, (rfl : _ = _)⟩
  have B34 : Below w3.heap.size w3 w4 := by rw [← ew4.out]; exact (Below.refl _ _).alloc (Nat.le_refl _) _
  have B4 : Hid (Below wa.heap.size wa w4) := B3H.out.trans (B34.mono B3H.out.size)
  have Y4 : Hid (Bpg w4 g1 p (.slice (some ⟨q, 0, none⟩) n cap)) := by rw [← ew4.out, ← hg1.out]; exact Bpg.new w3 p _
  have sf4 : Hid (Ss w4 (some ⟨q, 0, none⟩) (p.steps ++ [s77])) := by
    obtain ⟨a', c', h1, h2⟩ := O3.ss
    injection h1 with i1 i2 i3
    rw [← i1] at h2
    exact h2.below B34
  have s4 : Hid (Ss w4 (some ⟨q, 0, none⟩) p.steps) := sf4.out.pre
  have hcap : Hid (n + 1 ≤ cap) := by
    have hh : w3.ownsRow w2.heap.size 30 7 (.slice (some ⟨q, 0, none⟩) (n + 1) cap) (p.steps ++ [s77]).length (scs (p.steps ++ [s77])) := O3
    rcases hh.2 with ⟨h1, _⟩ | ⟨g', cap', cur, h1, h2, h3, h4, h5⟩
    · cases h1
    · injection h1 with h6 h7 h8
      show _ ≤ _
      omega
  have henA : Hid (∀ W, Below w4.heap.size w4 W → Calls Tryd.prog 19 #[.agg #[.int .i64 p.len, .int .i64 p.cells, .int .i64 p.inn, .int .i64 p.out, .slice (some ⟨q, 0, none⟩) n cap]] W fun e w' => ∃ a m k, e = .returned (.tuple #[.slice a m k, fv]) ∧ Hid (m = bs.length) ∧ NewB W w' (.slice a m k) bs) := fun W hW => by
    have hW2 := B4.out.trans (hW.mono B4.out.size)
    refine (sencode_c p (some ⟨q, 0, none⟩) n cap al W (s4.out.below hW) hn.out.symm (o1.out.below hW2) (e1.out.below hW2).prog).mono fun e w' h => ?_
    obtain ⟨a, m, k, h1, h2, h3⟩ := enc_u h
    rw [hfi.out, hfv.out] at h1
    rw [hbs.out] at h2 h3
    exact ⟨a, m, k, h1, h2, h3⟩
  have hden : Hid (∀ W, Below wa.heap.size wa W → Calls Tryd.prog 20 #[.agg #[.int .i64 p.len, .int .i64 p.cells, .int .i64 p.inn, .int .i64 p.out, .slice ao n c]] W fun e w' => ∃ a m k, e = .returned (.tuple #[.slice a m k, .int .i64 fx]) ∧ NewB W w' (.slice a m k) bs) := fun W hW => by
    refine (dencode_c p ao n c W (s1.out.below hW) hn.out.symm).mono fun e w' h => ?_
    obtain ⟨a, m, k, h1, h3⟩ := den_u h
    rw [hfi.out, hfx.out] at h1
    rw [hbs.out] at h3
    exact ⟨a, m, k, h1, h3⟩
  clear x0 x1 x2 x3 x4 O3 B3 B34 hcp
  unfold pv
  go_upto_region 4 with fail
  rw [ew4.out, hg1.out]
  obtain ⟨x0, x1, x2, x3, x4⟩ := Y4.out
  go_wp2_with fail
  refine (henA.out w4 (Below.refl _ _)).mono ?_
  rintro e w5 ⟨a1, n1, c1, rfl, hn1, N1⟩
  have N1H : Hid (NewB w4 w5 (.slice a1 n1 c1) bs) := N1
  have Y5 := Y4.out.below N1.below
  clear x0 x1 x2 x3 x4 N1
  obtain ⟨x0, x1, x2, x3, x4⟩ := Y5
  go_wp2_with fail
  refine (henA.out w5 N1H.out.below).mono ?_
  rintro e w6 ⟨a2, n2, c2, rfl, hn2, N2⟩
  have N2H : Hid (NewB w5 w6 (.slice a2 n2 c2) bs) := N2
  have B46 : Hid (Below w4.heap.size w4 w6) := N1H.out.below.trans (N2.below.mono N1H.out.below.size)
  have Ba6 : Hid (Below wa.heap.size wa w6) := B4.out.trans (B46.out.mono B4.out.size)
  have Z6 := X1.out.below Ba6.out
  clear x0 x1 x2 x3 x4 N2
  obtain ⟨x0, x1, x2, x3, x4⟩ := Z6
  go_wp2_with fail
  refine (hden.out w6 Ba6.out).mono ?_
  rintro e w7 ⟨a3, n3, c3, rfl, N3⟩
  have N3H : Hid (NewB w6 w7 (.slice a3 n3 c3) bs) := N3
  have Ba7 : Hid (Below wa.heap.size wa w7) := Ba6.out.trans (N3.below.mono Ba6.out.size)
  clear x0 x1 x2 x3 x4 N3 henA hden
  go_wp2_with fail
  refine (hnum.out w7 Ba7.out).mono ?_
  rintro e w8 ⟨rfl, B78⟩
  have B78H : Hid (Below w7.heap.size w7 w8) := B78
  have Ba8 : Hid (Below wa.heap.size wa w8) := Ba7.out.trans (B78.mono Ba7.out.size)
  clear B78
  go_wp2_with fail
  refine (hnum.out w8 Ba8.out).mono ?_
  rintro e w9 ⟨rfl, B89⟩
  have B79 : Hid (Below w7.heap.size w7 w9) := B78H.out.trans (B89.mono B78H.out.size)
  have Ba9 : Hid (Below wa.heap.size wa w9) := Ba7.out.trans (B79.out.mono Ba7.out.size)
  have N3' : Hid (NewB w6 w9 (.slice a3 n3 c3) bs) := N3H.out.under B79.out
  have B69 : Hid (Below w6.heap.size w6 w9) := N3'.out.below
  have N2' : Hid (NewB w5 w9 (.slice a2 n2 c2) bs) := N2H.out.under B69.out
  have N1' : Hid (NewB w4 w9 (.slice a1 n1 c1) bs) := N1H.out.under N2'.out.below
  have B49 : Hid (Below w4.heap.size w4 w9) := N1'.out.below
  have q12 : Hid (∀ b d, (Value.slice a1 n1 c1).ownBlock = some b → (Value.slice a2 n2 c2).ownBlock = some d → b ≠ d) := fun b d h1 h2 h3 => by
    have k1 := (World.ownsRow.lt N1H.out.own b h1).2
    have k2 := N2H.out.new d h2
    omega
  have q13 : Hid (∀ b d, (Value.slice a1 n1 c1).ownBlock = some b → (Value.slice a3 n3 c3).ownBlock = some d → b ≠ d) := fun b d h1 h2 h3 => by
    have k1 := (World.ownsRow.lt N1H.out.own b h1).2
    have k2 := N3H.out.new d h2
    have k3 := N2H.out.below.size
    omega
  obtain ⟨S, hS⟩ : ∃ S, Hid (mkS bs = S) := ⟨_, (rfl : _ = _)⟩
  have cv : Hid (∀ (W : World) (v : Value), OwB W v bs → (convert 41 9 v).run Tryd.prog W = .ok (.string S) W) := fun W v h => by rw [← hS.out]; exact conv_src h.src hbyt.out
  have cv1 := cv.out w9 _ N1'.out.own
  have cv2 := cv.out w9 _ N2'.out.own
  have cv3 := cv.out w9 _ N3'.out.own
  clear B89 hnum
  have hn1b : n1 ≤ 5000000 := by rw [hn1.out]; exact hlen.out
  go_wp2_with fail
  clear cv1 cv2 cv3
  go_loopw [61] (fun i wr => ∃ (k : Nat) (ys : List Nat), k ≤ n1 ∧ i = .int .i64 k ∧ Hid (OwB wr (.slice a1 n1 c1) ys) ∧ Hid (ys.length = n1 ∧ ∀ b ∈ ys, b < 256) ∧ Hid (Fr (fun k => (Value.slice a1 n1 c1).ownBlock = some k) w9 wr)) (fun i _ => n1 - (intOf i).toNat)
  case atStart => exact ⟨0, bs, Nat.zero_le _, rfl, N1'.out.own, ⟨hn1.out.symm, hbyt.out⟩, Fr.refl _ _⟩
  case round =>
    obtain ⟨k, ys, hk, rfl, hOl, hzl, hfl⟩ := hrel
    by_cases hlt : k < n1
    · have hlt' : (k : Int) < (n1 : Int) := by omega
      obtain ⟨qa, rfl, hcap1, hcells⟩ := rowB hOl.out (fun hh => by have h8 := hzl.out.1; rw [hh, List.length_nil] at h8; omega)
      have hcl := hcells k (by rw [hzl.out.1]; exact hlt)
      obtain ⟨y, hy, hy2⟩ := xor90 (ys.getD k 0) (hzl.out.2 _ (by rw [List.getD_eq_getElem?_getD, List.getElem?_eq_getElem (by rw [hzl.out.1]; exact hlt), Option.getD_some]; exact List.getElem_mem _))
      generalize ys.getD k 0 = z0 at hcl hy
      have hst := ownB_setE (i := k) (y := y) hzl.out.1.symm hOl.out
      have hfz := hst.2
      have hO2 : Hid (OwB (wr.setCell ⟨qa, k, none⟩ (.int .u8 (y : Int))) (.slice (some ⟨qa, 0, none⟩) n1 c1) (ys.set k y)) := hst.1
      have hz2 : Hid ((ys.set k y).length = n1 ∧ ∀ b ∈ ys.set k y, b < 256) := ⟨by rw [List.length_set]; exact hzl.out.1, fun b hb => by
        rcases List.mem_or_eq_of_mem_set hb with h8 | h8
        · exact hzl.out.2 b h8
        · rw [h8]; exact hy2⟩
      clear hst hcells hy2
      go_wp2_with fail
      go_roundw
      case rel => exact ⟨k + 1, _, by omega, by go_num, hO2, hz2, hfl.out.setCell (p := ⟨qa, k, none⟩) rfl _⟩
      case measure => simp [intOf]; omega
    · have hlt' : decide ((k : Int) < (n1 : Int)) = false := decide_eq_false (by omega)
      have hO3 : Hid (OwB (wr.alloc (.cells #[.int .u8 3] 5)) (.slice a1 n1 c1) ys) := World.ownsRow.alloc hOl.out _
      have hS3 : Hid (SrcB (wr.alloc (.cells #[.int .u8 3] 5)) (.slice (some ⟨wr.heap.size, 0, none⟩) 1 1) [3]) := by
        refine .inr ⟨⟨wr.heap.size, 0, none⟩, 1, rfl, fun j u hj => ?_⟩
        match j, hj with
        | 0, hj => simp [bc] at hj; subst hj; simp [Addr.add]
      have hll : Hid (ys.length + [3].length ≤ 140737488355328) := by rw [hzl.out.1]; show _ ≤ _; simp; omega
      go_wp2_with (first | (at_builtin; refine appY _ rfl _ _ rfl ys [3] (.slice a1 n1 c1) (.slice (some ⟨wr.heap.size, 0, none⟩) 1 1) rfl rfl hO3.out hS3.out hll.out ?_) | fail)
      intro v6 wx hO6 hg6 _
      have hF : Hid (Fr (fun k => (Value.slice a1 n1 c1).ownBlock = some k) w9 wx) := (hfl.out.alloc _).grown hg6 fun _ hk => hk
      have B4x : Hid (Below w4.heap.size w4 wx) := hF.out.below B49.out B49.out.size fun k _ hk => N1'.out.new k hk
      have Bax : Hid (Below wa.heap.size wa wx) := B4.out.trans (B4x.out.mono B4.out.size)
      obtain ⟨n6, a6, c6, rfl, hn6⟩ := hO6.slice
      have hn6e : n6 = n1 + 1 := by rw [hn6.out, List.length_append, hzl.out.1]; rfl
      subst hn6e
      obtain ⟨q6, rfl, hcap6, hcells⟩ := rowB hO6 (by simp)
      have hlast : wx.cell? ⟨q6, n1, none⟩ = some (.int .u8 3) := by
        have h1 := hcells n1 (by rw [List.length_append, hzl.out.1]; simp)
        rw [h1, List.getD_eq_getElem?_getD, ← hzl.out.1, List.getElem?_append_right (Nat.le_refl _)]
        simp
      have cv2 := cv.out wx _ (hF.out.owns N2'.out.own fun b hb hk => q12.out b b hk hb rfl)
      have cv3 := cv.out wx _ (hF.out.owns N3'.out.own fun b hb hk => q13.out b b hk hb rfl)
      have hsm : Hid (Calls Tryd.prog 21 #[.agg #[.int .i64 p.len, .int .i64 p.cells, .int .i64 p.inn, .int .i64 p.out, .slice (some ⟨q, 0, none⟩) n cap], .agg #[.int .i64 p.len, .int .i64 p.cells, .int .i64 p.inn, .int .i64 p.out, .slice ao n c]] wx fun e w' => e = .returned (.bool true) ∧ Below wx.heap.size wx w') := by
        have h1 := dsame_c p p (some ⟨q, 0, none⟩) ao n n cap c wx (s4.out.below B4x.out) (s1.out.below Bax.out) hn.out.symm hn.out.symm (by have := hbH.out; omega)
        rw [pgeq_iff.2 rfl] at h1
        exact h1
      obtain ⟨x0, x1, x2, x3, x4⟩ := X1.out.below Bax.out
      obtain ⟨y0, y1, y2, y3, y4⟩ := Y4.out.below B4x.out
      have hn6w : wrap64 ((n1 : Int) + 1 - 1) = (n1 : Int) := by
        rw [show (n1 : Int) + 1 - 1 = (n1 : Int) by omega]
        unfold wrap64; omega
      clear hO6 hg6 hcells hOl hO3 hS3
      go_wp2_with fail
      refine hsm.out.mono ?_
      rintro e wz ⟨rfl, Bz⟩
      have Bwz : Hid (Below w.heap.size w wz) := (Ba.out.trans (Bax.out.mono Ba.out.size)).trans (Bz.mono (Ba.out.trans (Bax.out.mono Ba.out.size)).size)
      have hop : wz.cell? ⟨q, n * 7, none⟩ = some (.int .i64 (-77)) := by
        obtain ⟨q', o', h1, h2⟩ := (sf4.out.below (B4x.out.trans (Bz.mono B4x.out.size))) n s77 (by rw [List.getElem?_append_right (by rw [hn.out]; exact Nat.le_refl _), hn.out]; simp)
        injection h1 with h1
        injection h1 with i1 i2
        subst i1 i2
        have h3 := h2.c0
        rw [Nat.zero_add] at h3
        exact h3
      have hcapn : n + 1 ≤ cap := hcap.out
      have hnbb := hbH.out
      clear x0 x1 x2 x3 x4 y0 y1 y2 y3 y4 Bz hsm hlast cv2 cv3
      go_wp2_with fail
      go_ret
      exact ⟨rfl, Bwz.out⟩
end Go.Proofs.YtbipgkbnhpdmhaaDoor
