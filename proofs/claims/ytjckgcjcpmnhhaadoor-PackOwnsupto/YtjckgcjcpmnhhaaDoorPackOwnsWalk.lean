/-
  The statement PackOwns, walked.
-/
import Derived.Test.YtjckgcjcpmnhhaaDoorMpb
import Derived.Test.YtjckgcjcpmnhhaaDoorPkl
import Derived.Test.YtjckgcjcpmnhhaaDoorLaid
import Derived.Deep.RegionWith
import Derived.Deep.RegionHeld3
import Derived.BigRegion
import Derived.Deep.DeepCutAuto
import Derived.Deep.CutBlock
import Derived.Deep.LoopGhost
namespace Go.Proofs.YtjckgcjcpmnhhaaDoor
open Flo Go.RowKit
theorem halfle {n : Nat} (h : n ≤ 1048576) : n / 2 ≤ 1048576 := by omega
theorem half_two (n : Nat) : 2 * (n / 2) ≤ n := by omega
theorem wrapI {n : Nat} (h : n ≤ 140737488355328) : IntKind.i64.wrap (n : Int) = (n : Int) := by rw [IntKind.wrap_i64]; omega
theorem Wr.belowO {F : Nat → Prop} {w w' : World} {g : Nat} {ys : List Nat} (h : Wr F w g ys) (hb : Below w.heap.size w w') : Wr F w' g ys := h.under (Fr.of_below (S := fun _ => False) hb fun j hj hj2 => by omega) fun _ _ hh => hh.elim
theorem own_belowO {w w' : World} {v : Value} {ys : List Nat} (h : OwB w v ys) (hb : Below w.heap.size w w') : OwB w' v ys := owns_block h fun b hb' => hb.block b (World.ownsRow.lt h b hb').2
theorem ownB_parts {w : World} {ab : Option Addr} {nb cb : Nat} {bs : List Nat} (h : OwB w (.slice ab nb cb) bs) (hne : bs ≠ []) : ∃ q, ab = some ⟨q, 0, none⟩ ∧ nb ≤ cb ∧ ∀ i, i < bs.length → w.cell? ⟨q, 0 + i, none⟩ = some (.int .u8 (bs.getD i 0 : Nat)) := by
  have hh : w.ownsRow 0 5 1 (.slice ab nb cb) bs.length (bc bs) := h
  rcases hh.2 with ⟨_, h1⟩ | ⟨q, cap, cur, he, hbg, hg, hnc, hcm, hcs, htake⟩
  · exact absurd (List.eq_nil_of_length_eq_zero h1) hne
  · injection he with e1 e2 e3
    subst e1; subst e2; subst e3
    refine ⟨q, rfl, hnc, fun i hi => ?_⟩
    have h1 := hh.cellAt i (by omega)
    rw [Nat.zero_add, h1]
    simp [bc, List.getD, hi]
theorem Wr.qt {F : Nat → Prop} {w w' : World} {g : Nat} {ys : List Nat} (h : Wr F w g ys) (hq : Qt w w') : Wr F w' g ys := h.under (hq.fr (fun _ => False)) fun _ _ h => h.elim
theorem OwB.qt {w w' : World} {v : Value} {ys : List Nat} (h : OwB w v ys) (hq : Qt w w') : OwB w' v ys := owns_block h fun b _ => by rw [hq.heap]
set_option maxRecDepth 100000 in
set_option maxHeartbeats 8000000 in
theorem owns_w (ao : Option Addr) (m cap : Nat) (al : List Addr) (w : World) (hV : InV w ao m) (hm : m ≤ 1048576) (he : Errs w al) :
    Calls Tryd.prog 6 #[.slice ao m cap] w fun e w' => e = .returned (.bool true) ∧ Below w.heap.size w w' := by
  have hVH : Hid (InV w ao m) := hV
  have heH : Hid (Errs w al) := he
  have h5 : Hid (5 ≤ w.heap.size) := by
    have he5 := e5_of he
    have h0 := cell_lt he5.short; have h1 := cell_lt he5.varint; have h2 := cell_lt he5.limit; have h3 := cell_lt he5.tail; have h4 := cell_lt he5.number
    show _ ≤ _
    simp only at h0 h1 h2 h3 h4
    omega
  clear hV he
  go_enter Tryd.func6, Tryd.ntmps6
  go_wp2_with fail
  refine (plives_c w al (e5_of heH.out)).mono ?_
  rintro e w1 ⟨rfl, hb1⟩
  have hB1 : Hid (Below w.heap.size w w1) := hb1
  clear hb1
  go_wp2_with fail
  refine (wnew_c w1 (fun k => k = w1.heap.size) rfl).mono ?_
  rintro e w2 ⟨rfl, h1, h2, h3⟩
  obtain ⟨g, hg⟩ : ∃ g, w1.heap.size = g := ⟨_, rfl⟩
  rw [hg] at h1 h3 ⊢
  have hgw : Hid (w.heap.size ≤ g ∧ g < w2.heap.size) := by have := hB1.out.size; exact ⟨by omega, by omega⟩
  have hW2 : Hid (Wr (fun k => k = g) w2 g []) := h1
  have hB2 : Hid (Below w.heap.size w w2) := hB1.out.trans (h2.mono hB1.out.size)
  clear h1 h2 h3 hg hB1
  go_wp2
  go_loopg [4, 31] m (fun gk so si wr => ∃ i : Nat, ∃ ys : List Nat, ∃ F : Nat → Prop, si = .int .i64 (i : Int) ∧ gk + i = m ∧ Hid (Wr F wr g ys) ∧ Hid (OwB wr so ys) ∧ Hid (∀ b, so.ownBlock = some b → w.heap.size ≤ b ∧ ¬ F b) ∧ Hid (Below w.heap.size w wr) ∧ Hid (∀ k, F k → w.heap.size ≤ k) ∧ Hid (ys.length ≤ 8388618 * i) ∧ Hid (∀ b ∈ ys, b < 256))
  case atStart =>
    refine ⟨0, [], (fun k => k = g), rfl, rfl, hW2.out.under ((Fr.refl (fun _ => False) w2).alloc _) (fun _ _ hh => hh.elim), World.ownsRow_made w2 #[] 0 (Nat.zero_le _) (by decide) rfl, fun b hb => ?_, hB2.out.alloc hB2.out.size _, fun k hk => ?_, by show _ ≤ _; simp, fun b hb => by cases hb⟩
    · cases hb
      have := hgw.out
      exact ⟨by show _ ≤ w2.heap.size; omega, by show ¬ w2.heap.size = g; omega⟩
    · have := hgw.out; have h5 : k = g := hk; omega
  case round =>
    obtain ⟨i, ys, F, rfl, hi, hW, hO, hN, hB, hF, hL, hY⟩ := hrel
    clear hW2 hB2
    by_cases hlt : i < m
    · have hlt' : (i : Int) < (m : Int) := by omega
      obtain ⟨q, o, k, n, u, v, s, l, zs, rfl, hq, hva, hvo⟩ := hVH.out i hlt
      have hqH : Hid (q < w.heap.size) := hq
      have hvoH : Hid (Vok w u v s l zs) := hvo
      have c0 : wr.cell? ⟨q, o + i * 6, none⟩ = _ := (hB.out.cell (p := ⟨q, o + i * 6, none⟩) hq).trans hva.c0
      have c1 : wr.cell? ⟨q, o + i * 6 + 1, none⟩ = _ := (hB.out.cell (p := ⟨q, o + i * 6 + 1, none⟩) hq).trans hva.c1
      have c2 : wr.cell? ⟨q, o + i * 6 + 2, none⟩ = _ := (hB.out.cell (p := ⟨q, o + i * 6 + 2, none⟩) hq).trans hva.c2
      have c3 : wr.cell? ⟨q, o + i * 6 + 3, none⟩ = _ := (hB.out.cell (p := ⟨q, o + i * 6 + 3, none⟩) hq).trans hva.c3
      have c4 : wr.cell? ⟨q, o + i * 6 + 4, none⟩ = _ := (hB.out.cell (p := ⟨q, o + i * 6 + 4, none⟩) hq).trans hva.c4
      have c5 : wr.cell? ⟨q, o + i * 6 + 5, none⟩ = _ := (hB.out.cell (p := ⟨q, o + i * 6 + 5, none⟩) hq).trans hva.c5
      clear hva hvo hq
      obtain ⟨lo, ln, lc, rfl⟩ : ∃ lo ln lc, l = .slice lo ln lc := by obtain ⟨a, c, rfl, _⟩ := hvoH.out.hl; exact ⟨_, _, _, rfl⟩
      obtain ⟨wa, hwa⟩ : ∃ wa, Hid (wa = wr.alloc (.cells #[.int .i64 k, .int .u64 (u : Int), .int .u64 (v : Int), .string s, .slice lo ln lc, .int .i64 n] 30)) := ⟨_, rfl⟩
      have hba : Hid (Below wr.heap.size wr wa ∧ wa.heap.size = wr.heap.size + 1) := by rw [hwa.out]; exact ⟨(Below.refl _ _).alloc (Nat.le_refl _) _, by simp⟩
      have hbx : Hid (Bx wa wr.heap.size k u v s (.slice lo ln lc) n) := by rw [hwa.out]; exact box_bx wr k u v s _ n
      have hWa : Hid (Wr (fun j => F j ∧ j < wr.heap.size) wa g ys) := (hW.out.to fun j hj hf => ⟨hf, hj⟩).under (Fr.of_below (S := fun _ => False) hba.out.1 fun j hj hj2 => by omega) fun _ _ hh => hh.elim
      have hBa : Hid (Below w.heap.size w wa) := hB.out.trans (hba.out.1.mono hB.out.size)
      have hva : Hid (Vok wa u v s (.slice lo ln lc) zs) := ⟨hvoH.out.hu, hvoH.out.hv, hvoH.out.hs, hvoH.out.hl.below hBa.out, hvoH.out.hz, hvoH.out.hb⟩
      have hOa : Hid (OwB wa u4 ys) := owns_block hO.out fun b hb => hba.out.1.block b (World.ownsRow.lt hO.out b hb).2
      have hu4 : Hid (∀ b, u4.ownBlock = some b → b < wr.heap.size) := fun b hb => (World.ownsRow.lt hO.out b hb).2
      have hl1 : Hid (ys.length ≤ 140737400000000) := by show _ ≤ _; have := hL.out; omega
      have hbc := hbx.out
      have d0 := hbc.c0
      have d1 := hbc.c1
      have d2 := hbc.c2
      have d3 := hbc.c3
      have d4 := hbc.c4
      have d5 := hbc.c5
      clear hbc
      go_upto_region 10 with fail
      rw [← hwa.out]
      clear c0 c1 c2 c3 c4 c5
      go_wp2_with fail
      refine (write_c (fun j => F j ∧ j < wr.heap.size) g ys k n u v s (.slice lo ln lc) zs wa hWa.out hl1.out hva.out).mono ?_
      rintro e wb' ⟨v2, rfl, hwo⟩
      obtain ⟨wb, hwb⟩ : ∃ wb, Hid (wb = wbs k u v s zs) := ⟨_, rfl⟩
      rw [← hwb.out] at hwo
      have hwbl : Hid (wb.length ≤ 8388618) := by rw [hwb.out]; exact wbs_len hva.out k
      have hwbb : Hid (∀ b ∈ wb, b < 256) := by rw [hwb.out]; exact wbs_byte k u v s zs
      obtain ⟨⟨F2, hW2, hF2, hv2⟩, hfr, hO2, hn2⟩ := hwo
      have hbx2 : Hid (Bx wb' wr.heap.size k u v s (.slice lo ln lc) n) := hbx.out.under hfr (fun hh => absurd hh.2 (Nat.lt_irrefl _))
      have hfrs : Hid (wa.heap.size ≤ wb'.heap.size) := hfr.size
      have hB2 : Hid (Below w.heap.size w wb') := hfr.below hBa.out hBa.out.size (fun j _ hj => hF.out j hj.1)
      have hOu : Hid (OwB wb' u4 ys) := Fr.owns hfr hOa.out fun b hb hh => (hN.out b hb).2 hh.1
      have hS2 : Hid (SrcB wb' v2 wb) := hO2.src
      have hW2H : Hid (Wr F2 wb' g (ys ++ wb)) := hW2
      have hF2H : Hid (∀ j, F2 j → (F j ∧ j < wr.heap.size) ∨ wa.heap.size ≤ j) := hF2
      have hal1 : Hid (ys.length + wb.length ≤ 140737488355328) := by show _ ≤ _; have := hl1.out; have := hwbl.out; omega
      clear hW2 hF2 hv2 hfr hO2 hn2 d0 d1 d2 d3 d4 d5 hOa hWa
      go_wp2_with (first | (at_builtin; refine appY _ rfl _ _ rfl ys wb u4 v2 rfl rfl hOu.out hS2.out hal1.out ?_) | fail)
      intro v3 w3 ho hg3 hn3
      have hun : Hid (∀ j, F2 j → u4.ownBlock ≠ some j) := fun j hj e => by
        have h1 := hN.out j e
        have h2 := hu4.out j e
        rcases hF2H.out j hj with h3 | h3
        · exact h1.2 h3.1
        · have := hba.out.2; omega
      obtain ⟨F3, hF3e⟩ : ∃ F3 : Nat → Prop, Hid (F3 = fun j => F2 j ∧ j < wb'.heap.size) := ⟨_, rfl⟩
      have hW3 : Hid (Wr F3 w3 g (ys ++ wb)) := by
        rw [hF3e.out]
        exact (hW2H.out.to fun j hj hf => ⟨hf, hj⟩).under ((Fr.refl (fun j => u4.ownBlock = some j) wb').grown hg3 fun j hj => hj) fun j _ hj hf => hun.out j hf.1 hj
      have hO3 : Hid (OwB w3 v3 (ys ++ wb)) := ho
      have hB3 : Hid (Below w.heap.size w w3) := hB2.out.grown hg3 hB2.out.size fun j hj => (hN.out j hj).1
      have hN3 : Hid (∀ b, v3.ownBlock = some b → w.heap.size ≤ b ∧ ¬ F3 b) := fun b hb => by
        rw [hF3e.out]
        rcases hn3 b hb with h1 | h1
        · exact ⟨(hN.out b h1).1, fun hf => hun.out b hf.1 h1⟩
        · exact ⟨by have := hB2.out.size; omega, fun hf => by have := hf.2; omega⟩
      have hF3 : Hid (∀ j, F3 j → w.heap.size ≤ j) := fun j hj => by
        rw [hF3e.out] at hj
        rcases hF2H.out j hj.1 with h1 | h1
        · exact hF.out j h1.1
        · have := hBa.out.size; omega
      have hL3 : Hid ((ys ++ wb).length ≤ 8388618 * (i + 1)) := by show _ ≤ _; rw [List.length_append]; have := hL.out; have := hwbl.out; omega
      have hL4 : Hid ((ys ++ wb).length ≤ 140737488355328) := by show _ ≤ _; rw [List.length_append]; exact hal1.out
      have hY3 : Hid (∀ b ∈ ys ++ wb, b < 256) := fun b hb => (List.mem_append.1 hb).elim (hY.out b) (hwbb.out b)
      have hbx3 : Hid (Bx w3 wr.heap.size k u v s (.slice lo ln lc) n) := hbx2.out.under ((Fr.refl (fun j => u4.ownBlock = some j) wb').grown hg3 fun j hj => hj) fun e => by
        have h8 := hu4.out wr.heap.size e; omega
      have hv3 : Hid (Vok w u v s (.slice lo ln lc) zs) := hvoH.out
      obtain ⟨n3, ao3, cap3, rfl, hlen3⟩ := hO3.out.slice
      obtain ⟨Y, hYe⟩ : ∃ Y, Hid (Y = ys ++ wb) := ⟨_, rfl⟩
      rw [← hYe.out] at hW3 hO3 hL3 hL4 hY3
      obtain ⟨bx, hbxe⟩ : ∃ bx, bx = wr.heap.size := ⟨_, rfl⟩
      rw [← hbxe] at hbx3 ⊢
      clear hbxe ho hg3 hn3 hbx2 hOu hS2 hW2H hF2H hun hF3e hwb hwa hbx hba hBa hva hB2 hYe hW hO hN hB hF hL hY hu4 hl1 hwbl hwbb hfrs hal1 hlen3
      go_wp2_with fail
      refine (wout_c F3 g Y w3 hW3.out hL4.out).mono ?_
      rintro e w4 ⟨va, rfl, h1⟩
      have hK4 : Hid (Below w3.heap.size w3 w4) := h1.below
      have hOa4 : Hid (OwB w4 va Y) := h1.own
      have hva : Hid (∀ b, va.ownBlock = some b → w3.heap.size ≤ b ∧ b < w4.heap.size) := fun b hb => ⟨h1.new b hb, (World.ownsRow.lt h1.own b hb).2⟩
      clear h1
      go_wp2_with fail
      refine (wout_c F3 g Y w4 (hW3.out.belowO hK4.out) hL4.out).mono ?_
      rintro e w5 ⟨vb, rfl, h1⟩
      have hK5 : Hid (Below w3.heap.size w3 w5) := hK4.out.trans (h1.below.mono hK4.out.size)
      have hOa5 : Hid (OwB w5 va Y) := own_belowO hOa4.out h1.below
      have hOb5 : Hid (OwB w5 vb Y) := h1.own
      have hvb : Hid (∀ b, vb.ownBlock = some b → w4.heap.size ≤ b) := h1.new
      obtain ⟨na, aa, ca, rfl, hna⟩ := hOa5.out.slice
      obtain ⟨nb, ab, cb, rfl, hnb⟩ := hOb5.out.slice
      have hnab : na ≤ 140737488355328 := by rw [hna.out]; exact hL4.out
      clear h1 hOa4 hK4 hnb
      go_wp2_with fail
      go_loopg [52] na (fun gq sj wl => ∃ (j : Nat) (zs' : List Nat), sj = .int .i64 (j : Int) ∧ gq + j = na ∧ Hid (OwB wl (.slice aa na ca) zs') ∧ Hid (zs'.length = na ∧ ∀ b ∈ zs', b < 256) ∧ Hid (Fr (fun b => (Value.slice aa na ca).ownBlock = some b) w5 wl))
      case atStart => exact ⟨0, Y, rfl, rfl, hOa5, ⟨hna.out.symm, hY3.out⟩, Fr.refl _ _⟩
      case round =>
        obtain ⟨j, zs', rfl, hj, hOl, hzl, hfl⟩ := hrel
        clear hOa5
        by_cases hlt2 : j < na
        · have hlt2' : (j : Int) < (na : Int) := by omega
          obtain ⟨qa, hqa, hcap, hcells⟩ := ownB_parts hOl.out (fun hh => by have h8 := hzl.out.1; rw [hh, List.length_nil] at h8; omega)
          subst hqa
          have hc := hcells j (by rw [hzl.out.1]; exact hlt2)
          rw [Nat.zero_add] at hc
          obtain ⟨y, hy, hy2⟩ := xor255 (zs'.getD j 0) (hzl.out.2 _ (getD_in (by rw [hzl.out.1]; exact hlt2) _))
          generalize zs'.getD j 0 = z0 at hc hy
          have hst := ownB_set (i := j) (y := y) hzl.out.1.symm hOl.out
          have hfz := hst.2
          have hO2 : Hid (OwB (wr.setCell ⟨qa, j, none⟩ (.int .u8 (y : Int))) (.slice (some ⟨qa, 0, none⟩) na ca) (zs'.set j y)) := hst.1
          have hz2 : Hid ((zs'.set j y).length = na ∧ ∀ b ∈ zs'.set j y, b < 256) := ⟨by rw [List.length_set]; exact hzl.out.1, fun b hb => by
            rcases List.mem_or_eq_of_mem_set hb with h8 | h8
            · exact hzl.out.2 b h8
            · rw [h8]; exact hy2⟩
          clear hst hcells hy2
          go_wp2_with fail
          go_roundg (gk - 1)
          case measure => omega
          case rel => exact ⟨j + 1, _, by go_num, by omega, hO2, hz2, hfl.out.setCell (p := ⟨qa, j, none⟩) rfl _⟩
        · have hlt2' : decide ((j : Int) < (na : Int)) = false := decide_eq_false (by omega)
          have hKl : Hid (Below w3.heap.size w3 wr) := hfl.out.below hK5.out hK5.out.size fun b _ hb => (hva.out b hb).1
          have hOb6 : Hid (OwB wr (.slice ab nb cb) Y) := Fr.owns hfl.out hOb5.out fun b hb hh => by have h8 := (hva.out b hh).2; have h9 := hvb.out b hb; omega
          clear hj hK5 hOb5 hfl
          go_wp2_with (first | (at_builtin; refine appB _ rfl _ _ rfl zs' 9 wr.heap.size (.slice aa na ca) rfl rfl (World.ownsRow.alloc hOl.out _) (by simp) (by rw [hzl.out.1]; have := hna.out; have := hL3.out; omega) ?_) | fail)
          intro v9 w7 ho hgr hn9
          have hO9 : Hid (OwB w7 v9 (zs' ++ [9])) := ho
          have hK7 : Hid (Below w3.heap.size w3 w7) := (hKl.out.alloc hKl.out.size _).grown hgr (by have := hKl.out.size; simp; omega) fun k hk => (hva.out k hk).1
          have hOb7 : Hid (OwB w7 (.slice ab nb cb) Y) := Fr.owns (((Fr.refl (fun b => (Value.slice aa na ca).ownBlock = some b) wr).alloc _).grown hgr fun k hk => hk) hOb6.out fun b hb hh => by have h8 := (hva.out b hh).2; have h9 := hvb.out b hb; omega
          clear ho hgr hn9 hOb6 hKl hOl
          obtain ⟨n9, a9, c9, rfl, hn9⟩ := hO9.out.slice
          obtain ⟨q9, hq9, hc9, hcells9⟩ := ownB_parts hO9.out (by simp)
          subst hq9
          have hlast : w7.cell? ⟨q9, na, none⟩ = some (.int .u8 9) := by
            have h8 := hcells9 na (by rw [List.length_append, hzl.out.1]; simp)
            rw [Nat.zero_add] at h8
            rw [h8]
            simp [List.getD, hzl.out.1]
          have hn91 : (n9 : Int) - 1 = (na : Int) := by rw [hn9.out, List.length_append, hzl.out.1]; simp
          have hwn := wrapI hnab
          have hn92 : na < n9 := by omega
          have hn93 : (na : Int) < (n9 : Int) := by omega
          have hn94 : (0 : Int) ≤ (na : Int) := by omega
          have hcb : Hid (∀ W, Below w7.heap.size w7 W → (convert 26 9 (.slice ab nb cb)).run Tryd.prog W = .ok (.string (mkS Y)) W) := fun W hW => conv_src (hOb7.out.src.below hW) hY3.out
          have hcw : Hid (∀ W, Below w7.heap.size w7 W → (convert 26 9 (.slice ao3 n3 cap3)).run Tryd.prog W = .ok (.string (mkS Y)) W) := fun W hW => conv_src ((own_belowO hO3.out hK7.out).src.below hW) hY3.out
          have hlt9 : Hid (q9 < w7.heap.size) := World.block_lt_of_cell? w7 _ hlast
          have hW7 : Hid (Wr F3 w7.drew g Y) := (hW3.out.belowO hK7.out).qt (Qt.drew w7)
          clear hcells9 hOb7
          go_wp2_with fail
          refine wp_region_held_drew (S := fun W => Hid (Below w7.heap.size w7 W)) (by kernel_rfl) ((Qt.drew w7).below _) (fun hHeld => ?_)
          refine wpAnyH_take (i := 0) (oi := { dst := some 65, op := Go.Op.move (Go.Operand.tmp 10), type := 26, pos := "law.go:417", after := #[], guard := none }) (v := .slice ab nb cb) rfl (by kernel_rfl) (by kernel_rfl) (by kernel_rfl) (fun _ _ _ h => h) (Or.inl ⟨by kernel_rfl, ?_⟩) hHeld ?_
          · intro W hW
            clear hW
            go_simp
          simp only [Act.put, List.setIfInBounds_toArray, List.set_cons_zero, List.set_cons_succ]
          refine wpAnyH_take (i := 1) (oi := { dst := some 66, op := Go.Op.convert 26 9 (Go.Operand.tmp 65), type := 9, pos := "law.go:417", after := #[{ on := 0, ground := Go.Ground.data }], guard := none }) (v := .string (mkS Y)) rfl (by kernel_rfl) (by kernel_rfl) (by kernel_rfl) (fun _ _ _ h => h) (Or.inl ⟨by kernel_rfl, ?_⟩) hHeld ?_
          · intro W hW
            have c9 := hcb.out W hW.out
            clear hW
            go_simp
          simp only [Act.put, List.setIfInBounds_toArray, List.set_cons_zero, List.set_cons_succ]
          refine wpAnyH_take (i := 2) (oi := { dst := some 67, op := Go.Op.move (Go.Operand.tmp 4), type := 26, pos := "law.go:417", after := #[], guard := none }) (v := .slice ao3 n3 cap3) rfl (by kernel_rfl) (by kernel_rfl) (by kernel_rfl) (fun _ _ _ h => h) (Or.inl ⟨by kernel_rfl, ?_⟩) hHeld ?_
          · intro W hW
            clear hW
            go_simp
          simp only [Act.put, List.setIfInBounds_toArray, List.set_cons_zero, List.set_cons_succ]
          refine wpAnyH_take (i := 3) (oi := { dst := some 68, op := Go.Op.convert 26 9 (Go.Operand.tmp 67), type := 9, pos := "law.go:417", after := #[{ on := 2, ground := Go.Ground.data }], guard := none }) (v := .string (mkS Y)) rfl (by kernel_rfl) (by kernel_rfl) (by kernel_rfl) (fun _ _ _ h => h) (Or.inl ⟨by kernel_rfl, ?_⟩) hHeld ?_
          · intro W hW
            have c9 := hcw.out W hW.out
            clear hW
            go_simp
          simp only [Act.put, List.setIfInBounds_toArray, List.set_cons_zero, List.set_cons_succ]
          refine wpAnyH_take (i := 4) (oi := { dst := some 69, op := Go.Op.binOp Go.BinOp.neq 9 (Go.Operand.tmp 66) (Go.Operand.tmp 68) 9, type := 4, pos := "law.go:417", after := #[{ on := 1, ground := Go.Ground.data }, { on := 3, ground := Go.Ground.data }], guard := none }) (v := .bool false) rfl (by kernel_rfl) (by kernel_rfl) (by kernel_rfl) (fun _ _ _ h => h) (Or.inl ⟨by kernel_rfl, ?_⟩) hHeld ?_
          · intro W hW
            clear hW
            go_simp
          simp only [Act.put, List.setIfInBounds_toArray, List.set_cons_zero, List.set_cons_succ]
          refine wpAnyH_take (i := 5) (oi := { dst := some 70, op := Go.Op.move (Go.Operand.tmp 69), type := 4, pos := "law.go:417", after := #[{ on := 4, ground := Go.Ground.data }], guard := none }) (v := .bool false) rfl (by kernel_rfl) (by kernel_rfl) (by kernel_rfl) (fun _ _ _ h => h) (Or.inl ⟨by kernel_rfl, ?_⟩) hHeld ?_
          · intro W hW
            clear hW
            go_simp
          simp only [Act.put, List.setIfInBounds_toArray, List.set_cons_zero, List.set_cons_succ]
          refine wpAnyH_take (i := 6) (oi := { dst := some 71, op := Go.Op.move (Go.Operand.tmp 3), type := 24, pos := "law.go:417", after := #[{ on := 5, ground := Go.Ground.guard }], guard := some (5, false) }) (v := .pointer (some ⟨g, 0, none⟩)) rfl (by kernel_rfl) (by kernel_rfl) (by kernel_rfl) (fun _ _ _ h => h) (Or.inl ⟨by kernel_rfl, ?_⟩) hHeld ?_
          · intro W hW
            clear hW
            go_simp
          simp only [Act.put, List.setIfInBounds_toArray, List.set_cons_zero, List.set_cons_succ]
          refine wpAnyH_take (i := 9) (oi := { dst := some 74, op := Go.Op.move (Go.Operand.tmp 4), type := 26, pos := "law.go:417", after := #[{ on := 5, ground := Go.Ground.guard }], guard := some (5, false) }) (v := .slice ao3 n3 cap3) rfl (by kernel_rfl) (by kernel_rfl) (by kernel_rfl) (fun _ _ _ h => h) (Or.inl ⟨by kernel_rfl, ?_⟩) hHeld ?_
          · intro W hW
            clear hW
            go_simp
          simp only [Act.put, List.setIfInBounds_toArray, List.set_cons_zero, List.set_cons_succ]
          refine wpAnyH_take (i := 10) (oi := { dst := some 75, op := Go.Op.convert 26 9 (Go.Operand.tmp 74), type := 9, pos := "law.go:417", after := #[{ on := 9, ground := Go.Ground.data }, { on := 5, ground := Go.Ground.guard }], guard := some (5, false) }) (v := .string (mkS Y)) rfl (by kernel_rfl) (by kernel_rfl) (by kernel_rfl) (fun _ _ _ h => h) (Or.inl ⟨by kernel_rfl, ?_⟩) hHeld ?_
          · intro W hW
            have c9 := hcw.out W hW.out
            clear hW
            go_simp
          simp only [Act.put, List.setIfInBounds_toArray, List.set_cons_zero, List.set_cons_succ]
          refine wpAnyH_ready (rs := [7]) (by kernel_rfl) (by simp) ?_
          refine AllReadyH.cons (o := { dst := some 72, op := Go.Op.call { callee := Go.Callee.value (Go.Operand.func 11), args := #[Go.Operand.tmp 71], argTypes := #[24] }, type := 26, pos := "law.go:417", after := #[{ on := 6, ground := Go.Ground.data }, { on := 5, ground := Go.Ground.chain }, { on := 5, ground := Go.Ground.guard }], guard := some (5, false) }) rfl (fun K0 hK0 => ?_) AllReadyH.nil
          rw [if_pos (by kernel_rfl)]
          go_wp2_with fail
          refine (wout_c F3 g Y w7.drew hW7.out hL4.out).mono ?_
          rintro e w8 ⟨v8, rfl, hn8⟩
          have c8 := conv_src hn8.own.src hY3.out
          have b8 : Hid (Below w7.heap.size w7 w8) := ((Qt.drew w7).below _).trans hn8.below
          clear hn8
          refine hK0.out _ _ b8 (fun hHeld => ?_)
          clear hK0 K0
          try simp only [Act.put, List.setIfInBounds_toArray, List.set_cons_zero, List.set_cons_succ]
          refine wpAnyH_ready (rs := [8]) (by kernel_rfl) (by simp) ?_
          refine AllReadyH.cons (o := { dst := some 73, op := Go.Op.convert 26 9 (Go.Operand.tmp 72), type := 9, pos := "law.go:417", after := #[{ on := 7, ground := Go.Ground.data }, { on := 5, ground := Go.Ground.guard }], guard := some (5, false) }) rfl (fun K0 hK0 => ?_) AllReadyH.nil
          rw [if_pos (by kernel_rfl)]
          go_wp2_with fail
          refine hK0.out _ _ hHeld (fun hHeld => ?_)
          clear hK0 K0
          try simp only [Act.put, List.setIfInBounds_toArray, List.set_cons_zero, List.set_cons_succ]
          clear c8
          refine wpAnyH_take (i := 11) (oi := { dst := some 76, op := Go.Op.binOp Go.BinOp.neq 9 (Go.Operand.tmp 73) (Go.Operand.tmp 75) 9, type := 4, pos := "law.go:417", after := #[{ on := 8, ground := Go.Ground.data }, { on := 10, ground := Go.Ground.data }, { on := 5, ground := Go.Ground.guard }], guard := some (5, false) }) (v := .bool false) rfl (by kernel_rfl) (by kernel_rfl) (by kernel_rfl) (fun _ _ _ h => h) (Or.inl ⟨by kernel_rfl, ?_⟩) hHeld ?_
          · intro W hW
            clear hW
            go_simp
          simp only [Act.put, List.setIfInBounds_toArray, List.set_cons_zero, List.set_cons_succ]
          refine wpAnyH_take (i := 12) (oi := { dst := some 77, op := Go.Op.pick (Go.Operand.tmp 70) (Go.Operand.const (Go.Value.bool true)) (Go.Operand.tmp 76), type := 4, pos := "law.go:417", after := #[{ on := 5, ground := Go.Ground.data }, { on := 11, ground := Go.Ground.data }], guard := none }) (v := .bool false) rfl (by kernel_rfl) (by kernel_rfl) (by kernel_rfl) (fun _ _ _ h => h) (Or.inl ⟨by kernel_rfl, ?_⟩) hHeld ?_
          · intro W hW
            clear hW
            go_simp
          simp only [Act.put, List.setIfInBounds_toArray, List.set_cons_zero, List.set_cons_succ]
          refine wpAnyH_take (i := 13) (oi := { dst := some 78, op := Go.Op.move (Go.Operand.tmp 77), type := 4, pos := "law.go:417", after := #[{ on := 12, ground := Go.Ground.data }, { on := 7, ground := Go.Ground.chain }], guard := none }) (v := .bool false) rfl (by kernel_rfl) (by kernel_rfl) (by kernel_rfl) (fun _ _ _ h => h) (Or.inl ⟨by kernel_rfl, ?_⟩) hHeld ?_
          · intro W hW
            clear hW
            go_simp
          simp only [Act.put, List.setIfInBounds_toArray, List.set_cons_zero, List.set_cons_succ]
          refine wpAnyH_take (i := 14) (oi := { dst := some 79, op := Go.Op.move (Go.Operand.tmp 9), type := 26, pos := "law.go:417", after := #[{ on := 13, ground := Go.Ground.guard }], guard := some (13, false) }) (v := .slice (some ⟨q9, 0, none⟩) n9 c9) rfl (by kernel_rfl) (by kernel_rfl) (by kernel_rfl) (fun _ _ _ h => h) (Or.inl ⟨by kernel_rfl, ?_⟩) hHeld ?_
          · intro W hW
            clear hW
            go_simp
          simp only [Act.put, List.setIfInBounds_toArray, List.set_cons_zero, List.set_cons_succ]
          refine wpAnyH_take (i := 15) (oi := { dst := some 80, op := Go.Op.move (Go.Operand.tmp 9), type := 26, pos := "law.go:417", after := #[{ on := 13, ground := Go.Ground.guard }], guard := some (13, false) }) (v := .slice (some ⟨q9, 0, none⟩) n9 c9) rfl (by kernel_rfl) (by kernel_rfl) (by kernel_rfl) (fun _ _ _ h => h) (Or.inl ⟨by kernel_rfl, ?_⟩) hHeld ?_
          · intro W hW
            clear hW
            go_simp
          simp only [Act.put, List.setIfInBounds_toArray, List.set_cons_zero, List.set_cons_succ]
          refine wpAnyH_take (i := 16) (oi := { dst := some 81, op := Go.Op.call { callee := Go.Callee.builtin Go.Builtin.len, args := #[Go.Operand.tmp 80], argTypes := #[26] }, type := 3, pos := "law.go:417", after := #[{ on := 15, ground := Go.Ground.data }, { on := 13, ground := Go.Ground.guard }], guard := some (13, false) }) (v := .int .i64 (n9 : Int)) rfl (by kernel_rfl) (by kernel_rfl) (by kernel_rfl) (fun _ _ _ h => h) (Or.inl ⟨by kernel_rfl, ?_⟩) hHeld ?_
          · intro W hW
            clear hW
            go_simp
          simp only [Act.put, List.setIfInBounds_toArray, List.set_cons_zero, List.set_cons_succ]
          refine wpAnyH_take (i := 17) (oi := { dst := some 82, op := Go.Op.binOp Go.BinOp.sub 3 (Go.Operand.tmp 81) (Go.Operand.const (Go.Value.int Go.IntKind.i64 1)) 3, type := 3, pos := "law.go:417", after := #[{ on := 16, ground := Go.Ground.data }, { on := 13, ground := Go.Ground.guard }], guard := some (13, false) }) (v := .int .i64 (na : Int)) rfl (by kernel_rfl) (by kernel_rfl) (by kernel_rfl) (fun _ _ _ h => h) (Or.inl ⟨by kernel_rfl, ?_⟩) hHeld ?_
          · intro W hW
            clear hW
            go_simp
          simp only [Act.put, List.setIfInBounds_toArray, List.set_cons_zero, List.set_cons_succ]
          refine wpAnyH_take (i := 18) (oi := { dst := some 83, op := Go.Op.indexAddr 26 (Go.Operand.tmp 79) (Go.Operand.tmp 82), type := 0, pos := "law.go:417", after := #[{ on := 14, ground := Go.Ground.data }, { on := 17, ground := Go.Ground.data }, { on := 13, ground := Go.Ground.guard }], guard := some (13, false) }) (v := .pointer (some ⟨q9, na, none⟩)) rfl (by kernel_rfl) (by kernel_rfl) (by kernel_rfl) (fun _ _ _ h => h) (Or.inl ⟨by kernel_rfl, ?_⟩) hHeld ?_
          · intro W hW
            clear hW
            go_simp
          simp only [Act.put, List.setIfInBounds_toArray, List.set_cons_zero, List.set_cons_succ]
          refine wpAnyH_take (i := 19) (oi := { dst := some 84, op := Go.Op.load 5 (Go.Operand.tmp 83), type := 5, pos := "law.go:417", after := #[{ on := 18, ground := Go.Ground.data }, { on := 13, ground := Go.Ground.guard }], guard := some (13, false) }) (v := .int .u8 9) rfl (by kernel_rfl) (by kernel_rfl) (by kernel_rfl) (fun _ _ _ h => h) (Or.inl ⟨by kernel_rfl, ?_⟩) hHeld ?_
          · intro W hW
            have c9 := (hW.out.cell (p := ⟨q9, na, none⟩) hlt9.out).trans hlast
            clear hW
            go_simp
          simp only [Act.put, List.setIfInBounds_toArray, List.set_cons_zero, List.set_cons_succ]
          refine wpAnyH_take (i := 20) (oi := { dst := some 85, op := Go.Op.binOp Go.BinOp.neq 5 (Go.Operand.tmp 84) (Go.Operand.const (Go.Value.int Go.IntKind.u8 9)) 5, type := 4, pos := "law.go:417", after := #[{ on := 19, ground := Go.Ground.data }, { on := 13, ground := Go.Ground.guard }], guard := some (13, false) }) (v := .bool false) rfl (by kernel_rfl) (by kernel_rfl) (by kernel_rfl) (fun _ _ _ h => h) (Or.inl ⟨by kernel_rfl, ?_⟩) hHeld ?_
          · intro W hW
            clear hW
            go_simp
          simp only [Act.put, List.setIfInBounds_toArray, List.set_cons_zero, List.set_cons_succ]
          refine wpAnyH_take (i := 21) (oi := { dst := some 86, op := Go.Op.pick (Go.Operand.tmp 78) (Go.Operand.const (Go.Value.bool true)) (Go.Operand.tmp 85), type := 4, pos := "law.go:417", after := #[{ on := 13, ground := Go.Ground.data }, { on := 20, ground := Go.Ground.data }], guard := none }) (v := .bool false) rfl (by kernel_rfl) (by kernel_rfl) (by kernel_rfl) (fun _ _ _ h => h) (Or.inl ⟨by kernel_rfl, ?_⟩) hHeld ?_
          · intro W hW
            clear hW
            go_simp
          simp only [Act.put, List.setIfInBounds_toArray, List.set_cons_zero, List.set_cons_succ]
          refine wpAnyH_done (by kernel_rfl) ?_ _
          have hK8 : Hid (Below w3.heap.size w3 w8) := hK7.out.trans (b8.out.mono hK7.out.size)
          have hB8 : Hid (Below w.heap.size w w8) := hB3.out.trans (hK8.out.mono hB3.out.size)
          clear hwn b8 hcb hcw hlast hn91 hn92 hn93 hn94 hlt9 hW7 hK7 hO9 hzl
          have hbx8 := hbx3.out.under (S := fun _ => False) (fr_below hK8.out) id
          have d0 := hbx8.c0
          have d1 := hbx8.c1
          have d2 := hbx8.c2
          have d3 := hbx8.c3
          have d4 := hbx8.c4
          have d5 := hbx8.c5
          have hv8 : Hid (Vok w8 u v s (.slice lo ln lc) zs) := hv3.out.below hB8.out
          obtain ⟨xs, hxs⟩ : ∃ xs, Hid (xs = pri zs (zs.length / 2)) := ⟨_, rfl⟩
          have hxl : Hid (xs.length ≤ 1048576) := by show _ ≤ _; rw [hxs.out, pri_len]; exact halfle hv8.out.hz
          have hxb : Hid (∀ z ∈ xs, z.1 < 18446744073709551616 ∧ z.2 < 18446744073709551616) := by rw [hxs.out]; exact pri_bd hv8.out.hb _ (half_two _)
          clear hbx8
          go_wp2_with fail
          refine (listOf_c k n u v s (.slice lo ln lc) zs w8 hv8.out.hl hv8.out.hz).mono ?_
          rintro e wA ⟨vL, rfl, h1, h2⟩
          rw [← hxs.out] at h1
          have hOL : Hid (OwU 54 wA vL (ccs xs)) := h1.own
          have hKA : Hid (Below w3.heap.size w3 wA) := hK8.out.trans (h2.mono hK8.out.size)
          clear d0 d1 d2 d3 d4 d5 h1 h2 hK8 hB8 hv8
          go_wp2_with fail
          refine (wnew_c wA (fun k => k = wA.heap.size) rfl).mono ?_
          rintro e wB ⟨rfl, h1, h2, h3⟩
          have hLlt : Hid (∀ b, vL.ownBlock = some b → b < wA.heap.size) := ownU_lt hOL.out
          have hgxA : Hid (w3.heap.size ≤ wA.heap.size) := hKA.out.size
          have hOLB : Hid (OwU 54 wB vL (ccs xs)) := ownU_below hOL.out h2
          have hKB : Hid (Below w3.heap.size w3 wB) := hKA.out.trans (h2.mono hKA.out.size)
          obtain ⟨gx, hgx⟩ : ∃ gx, wA.heap.size = gx := ⟨_, rfl⟩
          rw [hgx] at h1 h3 hLlt hgxA ⊢
          have hWx : Hid (Wr (fun j => j = gx) wB gx []) := h1
          have hgxB : Hid (gx < wB.heap.size) := by show _ < _; rw [h3]; exact Nat.lt_succ_self _
          clear h1 h2 h3 hgx hOL hKA
          obtain ⟨nL, aL, cL, rfl, hnL⟩ := hOLB.out.slice
          have hnL2 : Hid (nL = xs.length) := by show _ = _; rw [hnL.out, ccs_len]
          have hnLb : nL ≤ 1048576 := by rw [hnL2.out]; exact hxl.out
          have hrE : Hid (OwU 54 (wB.alloc (.cells #[] 54)) (.slice (some ⟨wB.heap.size, 0, none⟩) 0 0) []) := World.ownsRow_made wB #[] 0 (Nat.zero_le _) (by decide) rfl
          have hOLE : Hid (OwU 54 (wB.alloc (.cells #[] 54)) (.slice aL nL cL) (ccs xs)) := ownU_below hOLB.out ((Below.refl _ _).alloc (Nat.le_refl _) _)
          go_wp2_with (first | (at_builtin; refine appUL _ rfl _ _ rfl wB.heap.size (ccs xs) (ccs_one xs) (.slice aL nL cL) rfl rfl hrE.out hOLE.out (by rw [ccs_len]; exact Nat.le_trans hxl.out (by decide)) ?_) | fail)
          intro vR wC ho hgr hn
          have hOR : Hid (OwU 54 wC vR (ccs xs)) := ho
          have hKC : Hid (Below w3.heap.size w3 wC) := (hKB.out.alloc hKB.out.size _).grown hgr (by have h8 := hKB.out.size; simp; omega) fun k hk => by cases hk; exact hKB.out.size
          have hfC : Hid (Fr (fun j => j = wB.heap.size) wB wC) := ((Fr.refl _ wB).alloc _).grown hgr fun k hk => by cases hk; rfl
          have hvR : Hid (∀ b, vR.ownBlock = some b → wB.heap.size ≤ b) := fun b hb => by
            rcases hn b hb with h8 | h8
            · cases h8; exact Nat.le_refl _
            · exact Nat.le_trans (by simp) h8
          have hbC : Hid (Below wB.heap.size wB wC) := ((Below.refl _ _).alloc (Nat.le_refl _) _).grown hgr (by simp) fun k hk => by cases hk; exact Nat.le_refl _
          clear ho hgr hn hrE hOLE hfC
          go_wp2_with (first | (at_builtin; refine appU _ rfl _ _ 52 54 (.complex .f64 0 0) 16 rfl Tryd.underlying52 infoC rfl (ccs xs) c7 rfl wC.heap.size vR rfl rfl (World.ownsRow.alloc hOR.out _) (by simp [c7]) (by rw [ccs_len]; exact Nat.succ_le_succ hxl.out) (by decide) ?_) | fail)
          intro vR2 wD ho hgr hn
          have hOR2 : Hid (OwU 54 wD vR2 (ccs xs ++ [c7])) := ho
          have hbD : Hid (Below wB.heap.size wB wD) := (hbC.out.alloc hbC.out.size _).grown hgr (by have h8 := hbC.out.size; simp; omega) fun k hk => hvR.out k hk
          have hvR2 : Hid (∀ b, vR2.ownBlock = some b → wB.heap.size ≤ b) := fun b hb => by
            rcases hn b hb with h8 | h8
            · exact hvR.out b h8
            · exact Nat.le_trans (Nat.le_trans hbC.out.size (by simp)) h8
          have hKD : Hid (Below w3.heap.size w3 wD) := hKB.out.trans (hbD.out.mono hKB.out.size)
          have hOLD : Hid (OwU 54 wD (.slice aL nL cL) (ccs xs)) := ownU_below hOLB.out hbD.out
          clear ho hgr hn hOR hvR hbC hKC hOLB
          obtain ⟨qR, cR, hvE, hcR, hvx⟩ := ownU_parts hOR2.out (by simp)
          subst hvE
          clear hvx
          have hnR : Hid ((ccs xs ++ [c7]).length = nL + 1) := by show _ = _; rw [List.length_append, ccs_len, ← hnL2.out]; rfl
          have hqR : Hid (wB.heap.size ≤ qR ∧ qR < wD.heap.size) := ⟨hvR2.out qR rfl, ownU_lt hOR2.out qR rfl⟩
          have hrs : Hid (∀ F : Nat → Prop, ¬ F qR → SrcL F wD (.slice (some ⟨qR, 0, none⟩) nL cR) (ccs xs)) := fun F hF => by
            have h8 := (room_src rfl hOR2.out hF).1
            rw [ccs_len, ← hnL2.out] at h8
            exact h8
          have hrc : wD.cell? ⟨qR, nL, none⟩ = some c7 := by
            have h8 := (room_src (F := fun _ => False) rfl hOR2.out id).2
            rw [ccs_len, ← hnL2.out] at h8
            exact h8
          rw [hnR.out] at hcR ⊢
          have k1 : (nL : Int) ≤ (cR : Int) := by omega
          have k2 : nL ≤ cR := by omega
          have k3 : ¬ cR = 0 := by omega
          obtain ⟨nR, hnRe⟩ : ∃ nR, nR = nL + 1 := ⟨_, rfl⟩
          rw [← hnRe] at ⊢
          have k4 : nL < nR := by omega
          have k5 : (nL : Int) < (nR : Int) := by omega
          have k6 : (0 : Int) ≤ (nL : Int) := by omega
          clear hnRe hcR hvR2 hOR2 hnR
          have hWD : Hid (Wr (fun j => j = gx ∨ wD.heap.size ≤ j) wD gx []) := (hWx.out.to fun j _ hj => .inl hj).belowO hbD.out
          have hqx : Hid (¬ (qR = gx ∨ wD.heap.size ≤ qR)) := fun hh => by
            have h8 := hqR.out; have h9 := hgxB.out
            rcases hh with h7 | h7 <;> omega
          have hZd : Hid (∃ Z : List Nat, Z = Pk.vi xs.length ++ cbs xs ∧ Z.length ≤ 140737488355328 ∧ (∀ b ∈ Z, b < 256) ∧ rli (rcx Z) Z 0 = .ok (xs.map cn, Z.length)) := ⟨_, rfl, by
            rw [List.length_append, cbs_len]
            have h8 : (Pk.vi xs.length).length ≤ 10 := Pk.vi_len (Nat.lt_of_le_of_lt hxl.out (by decide))
            have h9 := hxl.out; omega, fun b hb => by
            rcases List.mem_append.1 hb with h8 | h8
            · exact Pk.vi_byte _ _ (Nat.le_refl _) b h8
            · exact cbs_byte _ b h8, bk_cl (l := []) xs hxb.out hxl.out (by rw [List.drop_zero, List.append_nil])⟩
          obtain ⟨Z, hZe, hZl0, hZb0, hZr0⟩ := hZd.out
          have hZl : Hid (Z.length ≤ 140737488355328) := hZl0
          have hZb : Hid (∀ b ∈ Z, b < 256) := hZb0
          have hZr : Hid (rli (rcx Z) Z 0 = .ok (xs.map cn, Z.length)) := hZr0
          have hZeH : Hid (Z = Pk.vi xs.length ++ cbs xs) := hZe
          clear hZd hZe hZl0 hZb0 hZr0
          go_wp2_with fail
          refine (wlist_c (fun j => j = gx ∨ wD.heap.size ≤ j) gx [] xs (.slice (some ⟨qR, 0, none⟩) nL cR) wD hWD.out (fun j hj => .inr hj) (Nat.zero_le _) (hrs.out _ hqx.out) hxl.out hxb.out).mono ?_
          rintro e wE ⟨rfl, h1, h2⟩
          rw [List.nil_append, ← hZeH.out] at h1
          have hWE : Hid (Wr (fun j => j = gx ∨ wD.heap.size ≤ j) wE gx Z) := h1
          have hKE : Hid (Below w3.heap.size w3 wE) := h2.below hKD.out hKD.out.size fun j _ hj => by
            rcases hj with h7 | h7
            · rw [h7]; exact hgxA.out
            · exact Nat.le_trans hKD.out.size h7
          have hOLE : Hid (OwU 54 wE (.slice aL nL cL) (ccs xs)) := ownU_fr hOLD.out h2 fun b hb hh => by
            have h8 := hLlt.out b hb
            have h9 := ownU_lt hOLD.out b hb
            rcases hh with h7 | h7 <;> omega
          have hrsE : Hid (SrcL (fun _ => False) wE (.slice (some ⟨qR, 0, none⟩) nL cR) (ccs xs)) := ((hrs.out _ hqx.out).under h2 fun _ _ hh => hh).to fun _ _ hh => hh.elim
          have hrcE : Hid (wE.cell? ⟨qR, nL, none⟩ = some c7) := h2.cell hrc hqx.out
          have hLl2 : Hid (∀ b, (Value.slice aL nL cL).ownBlock = some b → b < wE.heap.size) := ownU_lt hOLE.out
          clear h1 h2 hWD hKD hOLD hrs hrc hqx hqR hbD hKB hWx hgxB hLlt
          go_wp2_with fail
          refine (wout_c _ gx Z wE hWE.out hZl.out).mono ?_
          rintro e wF ⟨vo, rfl, h1⟩
          have hSo : Hid (SrcB wF vo Z) := h1.own.src
          have hbF : Hid (Below wE.heap.size wE wF) := h1.below
          clear h1
          go_wp2_with fail
          refine (rread_c vo Z wF hSo.out hZl.out hZb.out).mono ?_
          rintro e wG ⟨r1, rfl, hr1, h1, h2⟩
          obtain ⟨R1, hR1⟩ : ∃ R1 : Nat → Prop, Hid (Rr R1 wG r1 Z 0) := ⟨_, h1⟩
          have hbG : Hid (Below wE.heap.size wE wG) := hbF.out.trans (h2.mono hbF.out.size)
          have hr1H : Hid (wE.heap.size ≤ r1 ∧ r1 < wG.heap.size) := ⟨Nat.le_trans hbF.out.size hr1, h1.lt⟩
          clear h1 h2 hr1 hSo hbF
          go_wp2_with fail
          refine (wout_c _ gx Z wG (hWE.out.belowO hbG.out) hZl.out).mono ?_
          rintro e wH ⟨vo2, rfl, h1⟩
          have hSo : Hid (SrcB wH vo2 Z) := h1.own.src
          have hbH : Hid (Below wG.heap.size wG wH) := h1.below
          clear h1
          go_wp2_with fail
          refine (rread_c vo2 Z wH hSo.out hZl.out hZb.out).mono ?_
          rintro e wI ⟨r2, rfl, hr2, h1, h2⟩
          obtain ⟨R2, hR2, hR2s⟩ : ∃ R2 : Nat → Prop, Hid (Rr R2 wI r2 Z 0) ∧ Hid (∀ k, R2 k → wH.heap.size ≤ k) := ⟨_, h1, fun k hk => hk.1⟩
          have hbGI : Hid (Below wG.heap.size wG wI) := hbH.out.trans (h2.mono hbH.out.size)
          have hbI : Hid (Below wE.heap.size wE wI) := hbG.out.trans (hbGI.out.mono hbG.out.size)
          have hr2H : Hid (wG.heap.size ≤ r2 ∧ r2 < wI.heap.size ∧ wG.heap.size ≤ wH.heap.size) := ⟨Nat.le_trans hbH.out.size hr2, h1.lt, hbH.out.size⟩
          have hR1I : Hid (Rr R1 wI r1 Z 0) := rr_below hR1.out hbGI.out
          clear h1 h2 hr2 hSo hbH hbG hR1
          go_wp2_with fail
          refine (lsameList_t (fun _ => False) (fun _ => False) xs xs (.slice (some ⟨qR, 0, none⟩) nL cR) (.slice aL nL cL) wI (srcL_below hrsE.out hbI.out) (ownU_src (ownU_below hOLE.out hbI.out) fun _ _ hh => hh) hxl.out rfl (fun _ _ => ⟨rfl, rfl⟩) hxb.out hxb.out).mono ?_
          rintro e wJ ⟨rfl, hqJ⟩
          have hbJ : Hid (Below wE.heap.size wE wJ) := hbI.out.trans (hqJ.below _)
          have hIJ : Hid (wI.heap.size = wJ.heap.size) := by show _ = _; rw [hqJ.heap]
          have hR1J : Hid (Rr R1 wJ r1 Z 0) := hR1I.out.qt hqJ
          have hR2J : Hid (Rr R2 wJ r2 Z 0) := hR2.out.qt hqJ
          have hcJ : wJ.cell? ⟨qR, nL, none⟩ = some (.complex .f64 4619567317775286272 0) := (hbJ.out.cell (p := ⟨qR, nL, none⟩) (World.block_lt_of_cell? wE _ hrcE.out)).trans hrcE.out
          have hKJ : Hid (Below w3.heap.size w3 wJ) := hKE.out.trans (hbJ.out.mono hKE.out.size)
          have hOLJ : Hid (OwU 54 wJ (.slice aL nL cL) (ccs xs)) := ownU_below hOLE.out hbJ.out
          have hne7 := fun W => cne 4619567317775286272 W (.inl rfl)
          have hrd : Hid (∀ (R : Nat → Prop) (r : Nat) (W : World), Rr R W r Z 0 → E5 W al → ¬ r < 5 → Calls Tryd.prog 25 #[.pointer (some ⟨r, 0, none⟩)] W fun e w' => ∃ v', e = .returned (.tuple #[v', .nilIface]) ∧ NewU 54 W w' v' (ccs (xs.map cn)) ∧ Fr (fun j => j = r) W w') := fun R r W hR hE hr => by
            have h8 := rlist_c R r 0 Z al W hR hE hr
            rw [hZr.out] at h8
            exact h8.mono fun e w' hh => by obtain ⟨v6, h6, h7, _, h9⟩ := hh; exact ⟨v6, h6, h7, h9⟩
          have hE5 : Hid (∀ W, Below w3.heap.size w3 W → E5 W al) := fun W hW => e5_of (heH.out.below (hB3.out.trans (hW.mono hB3.out.size)))
          have hr15 : Hid (w.heap.size ≤ r1 ∧ ¬ r1 < 5 ∧ ¬ r2 < 5 ∧ w3.heap.size ≤ r1 ∧ w3.heap.size ≤ r2) := by
            have a1 := h5.out; have a2 := hB3.out.size; have a3 := hKE.out.size; have a4 := hr1H.out; have a5 := hr2H.out
            refine ⟨?_, ?_, ?_, ?_, ?_⟩ <;> omega
          clear hqJ hR1I hR2 hrsE hrcE hOLE hKE hbI hbJ hWE
          go_wp2_with fail
          refine (hrd.out R1 r1 wJ hR1J.out (hE5.out wJ hKJ.out) hr15.out.2.1).mono ?_
          rintro e wK ⟨vp, rfl, hNp, hfp⟩
          have hOp : Hid (OwU 54 wK vp (ccs (xs.map cn))) := hNp.own
          have hvp : Hid (∀ b, vp.ownBlock = some b → wJ.heap.size ≤ b ∧ b < wK.heap.size) := fun b hb => ⟨hNp.new b hb, ownU_lt hNp.own b hb⟩
          have hKK : Hid (Below w3.heap.size w3 wK) := hfp.below hKJ.out hKJ.out.size fun j _ hj => by have h7 : j = r1 := hj; rw [h7]; exact hr15.out.2.2.2.1
          have hR2K : Hid (Rr R2 wK r2 Z 0) := hR2J.out.under hfp fun j _ hj hR => by
            have h7 : j = r1 := hj
            have h8 := hR2s.out j hR; have h9 := hr1H.out.2; have h10 := hr2H.out.2.2
            omega
          have hOLK : Hid (OwU 54 wK (.slice aL nL cL) (ccs xs)) := ownU_fr hOLJ.out hfp fun b hb hh => by
            have h7 : b = r1 := hh
            have h8 := hLl2.out b hb; have h9 := hr1H.out.1
            omega
          have hJK : Hid (wJ.heap.size ≤ wK.heap.size) := hfp.size
          clear hNp hfp hR1J hR2J hOLJ hKJ hcJ hne7
          go_wp2_with fail
          refine (hrd.out R2 r2 wK hR2K.out (hE5.out wK hKK.out) hr15.out.2.2.1).mono ?_
          rintro e wM ⟨vq, rfl, hNq, hfq⟩
          have hOq : Hid (OwU 54 wM vq (ccs (xs.map cn))) := hNq.own
          have hvq : Hid (∀ b, vq.ownBlock = some b → wK.heap.size ≤ b) := hNq.new
          have hKM : Hid (Below w3.heap.size w3 wM) := hfq.below hKK.out hKK.out.size fun j _ hj => by have h7 : j = r2 := hj; rw [h7]; exact hr15.out.2.2.2.2
          have hOpM : Hid (OwU 54 wM vp (ccs (xs.map cn))) := ownU_fr hOp.out hfq fun b hb hh => by
            have h7 : b = r2 := hh
            have h8 := hvp.out b hb; have h9 := hr2H.out.2.1; have h10 := hIJ.out
            omega
          have hOLM : Hid (OwU 54 wM (.slice aL nL cL) (ccs xs)) := ownU_fr hOLK.out hfq fun b hb hh => by
            have h7 : b = r2 := hh
            have h8 := hLl2.out b hb; have h9 := hr2H.out.1; have h10 := hr1H.out
            omega
          obtain ⟨np, ap, cp, rfl, hnp⟩ := hOpM.out.slice
          have hnp2 : np ≤ 1048576 := by rw [hnp.out, ccs_len, List.length_map]; exact hxl.out
          have hLp : Hid (∀ b, (Value.slice aL nL cL).ownBlock = some b → (Value.slice ap np cp).ownBlock ≠ some b) := fun b hb e => by
            have h8 := hLl2.out b hb; have h9 := hvp.out b e; have h10 := hr1H.out; have h11 := hr2H.out; have h12 := hIJ.out
            omega
          have hqp : Hid (∀ b, vq.ownBlock = some b → (Value.slice ap np cp).ownBlock ≠ some b) := fun b hb e => by
            have h8 := hvq.out b hb; have h9 := hvp.out b e
            omega
          have hp3 : Hid (∀ b, (Value.slice ap np cp).ownBlock = some b → w3.heap.size ≤ b) := fun b hb => by
            have h8 := hvp.out b hb; have h9 := hr15.out.2.2.2.1; have h10 := hr1H.out; have h11 := hr2H.out; have h12 := hIJ.out
            omega
          have hst := store_complex
          clear hNq hfq hOp hOLK hKK hR2K hvq hrd hvp hJK
          go_wp2_with fail
          go_loopg [146] np (fun gq sj wl => ∃ (j : Nat) (us : List Value), sj = .int .i64 (j : Int) ∧ gq + j = np ∧ Hid (OwU 54 wl (.slice ap np cp) us) ∧ Hid (us.length = np) ∧ Hid (Fr (fun b => (Value.slice ap np cp).ownBlock = some b) wM wl))
          case atStart => exact ⟨0, _, rfl, rfl, hOpM, hnp.out.symm, Fr.refl _ _⟩
          case round =>
            obtain ⟨j2, us, rfl, hj2, hOl2, hul, hfl2⟩ := hrel
            clear hOpM
            by_cases hlt3 : j2 < np
            · have hlt3' : (j2 : Int) < (np : Int) := by omega
              obtain ⟨qp, hqp', hcap⟩ := ownU_some hOl2.out (fun hh => by have h8 := hul.out; rw [hh, List.length_nil] at h8; omega)
              subst hqp'
              have hset := ownU_set (i := j2) (u := .complex .f64 4617315517961601024 0) hul.out.symm hOl2.out
              have hfz2 := hset.2.1
              obtain ⟨old, hold⟩ : ∃ old, wr.cell? ⟨qp, j2, none⟩ = some old := ⟨_, (hset.2.2 j2 (by rw [hul.out]; exact hlt3)).trans (List.getElem?_eq_getElem (by rw [hul.out]; exact hlt3))⟩
              have hO2 : Hid (OwU 54 (wr.setCell ⟨qp, j2, none⟩ (.complex .f64 4617315517961601024 0)) (.slice (some ⟨qp, 0, none⟩) np cp) (us.set j2 (.complex .f64 4617315517961601024 0))) := hset.1
              have hul2 : Hid ((us.set j2 (.complex .f64 4617315517961601024 0)).length = np) := by show _ = _; rw [List.length_set]; exact hul.out
              clear hset
              go_wp2_with fail
              go_roundg (gk - 1)
              case measure => omega
              case rel => exact ⟨j2 + 1, _, by go_num, by omega, hO2, hul2, hfl2.out.setCell (p := ⟨qp, j2, none⟩) rfl _⟩
            · have hlt3' : decide ((j2 : Int) < (np : Int)) = false := decide_eq_false (by omega)
              have hKN : Hid (Below w3.heap.size w3 wr) := hfl2.out.below hKM.out hKM.out.size fun b _ hb => hp3.out b hb
              have hOqN : Hid (OwU 54 wr vq (ccs (xs.map cn))) := ownU_fr hOq.out hfl2.out fun b hb hh => hqp.out b hb hh
              have hOLN : Hid (OwU 54 wr (.slice aL nL cL) (ccs xs)) := ownU_fr hOLM.out hfl2.out fun b hb hh => hLp.out b hb hh
              clear hj2 hKM hOq hOLM hfl2
              go_wp2_with (first | (at_builtin; refine appU _ rfl _ _ 52 54 (.complex .f64 0 0) 16 rfl Tryd.underlying52 infoC rfl us c6 rfl wr.heap.size (.slice ap np cp) rfl rfl (World.ownsRow.alloc hOl2.out _) (by simp [c6]) (by rw [hul.out]; exact Nat.succ_le_succ hnp2) (by decide) ?_) | fail)
              intro v16 wO ho hgr hn
              have hO16 : Hid (OwU 54 wO v16 (us ++ [c6])) := ho
              have hfO : Hid (Fr (fun b => (Value.slice ap np cp).ownBlock = some b) wr wO) := ((Fr.refl _ wr).alloc _).grown hgr fun k hk => hk
              have hKO : Hid (Below w3.heap.size w3 wO) := hfO.out.below hKN.out hKN.out.size fun b _ hb => hp3.out b hb
              have hOqO : Hid (OwU 54 wO vq (ccs (xs.map cn))) := ownU_fr hOqN.out hfO.out fun b hb hh => hqp.out b hb hh
              have hOLO : Hid (OwU 54 wO (.slice aL nL cL) (ccs xs)) := ownU_fr hOLN.out hfO.out fun b hb hh => hLp.out b hb hh
              clear ho hgr hn hOqN hOLN hKN hfO hOl2 hst
              obtain ⟨q6, c6', hv6, hc6, hvx⟩ := ownU_parts hO16.out (by simp)
              subst hv6
              have hl6 : Hid ((us ++ [c6]).length = np + 1) := by show _ = _; rw [List.length_append, hul.out]; rfl
              have hcl6 : Hid (wO.cell? ⟨q6, np, none⟩ = some c6) := by
                have h8 := last_u rfl hO16.out
                rw [hul.out] at h8
                exact h8
              rw [hl6.out]
              obtain ⟨n6, hn6⟩ : ∃ n6, n6 = np + 1 := ⟨_, rfl⟩
              rw [← hn6]
              have m1 : (n6 : Int) - 1 = (np : Int) := by rw [hn6]; simp
              have m2 : np < n6 := by omega
              have m3 : (np : Int) < (n6 : Int) := by omega
              have m4 : (0 : Int) ≤ (np : Int) := by omega
              have m5 : IntKind.i64.wrap (np : Int) = (np : Int) := wrapI (Nat.le_trans hnp2 (by decide))
              clear hvx hc6 hn6 hlt3 hlt3'
              go_wp2_with fail
              refine (lsameList_t (fun _ => False) (fun _ => False) (xs.map cn) xs vq (.slice aL nL cL) wO (ownU_src hOqO.out fun _ _ hh => hh) (ownU_src hOLO.out fun _ _ hh => hh) (by rw [List.length_map]; exact hxl.out) (by rw [List.length_map]) (fun i hi => cn_ok xs i (by rw [List.length_map] at hi; exact hi)) (cn_bd hxb.out) hxb.out).mono ?_
              rintro e wP ⟨rfl, hqP⟩
              have hKP : Hid (Below w3.heap.size w3 wP) := hKO.out.trans (hqP.below _)
              have hcP : wP.cell? ⟨q6, np, none⟩ = some (.complex .f64 4618441417868443648 0) := (hqP.below wO.heap.size |>.cell (p := ⟨q6, np, none⟩) (World.block_lt_of_cell? wO _ hcl6.out)).trans hcl6.out
              have hne6 := fun W => cne 4618441417868443648 W (.inr rfl)
              clear hqP hKO
              go_wp2_with fail
              go_roundg (m - (i + 1))
              case measure => omega
              case rel => exact ⟨i + 1, Y, F3, by go_num, by omega, hW3.out.belowO hKP.out, own_belowO hO3.out hKP.out, hN3, hB3.out.trans (hKP.out.mono hB3.out.size), hF3, hL3, hY3⟩
    · have hlt' : decide ((i : Int) < (m : Int)) = false := decide_eq_false (by omega)
      go_wp2_with fail
      go_ret
      exact ⟨rfl, hB.out⟩
end Go.Proofs.YtjckgcjcpmnhhaaDoor
