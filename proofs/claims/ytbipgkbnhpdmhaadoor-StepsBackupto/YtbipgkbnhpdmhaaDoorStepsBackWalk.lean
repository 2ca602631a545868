/-
  The statement StepsBack: the walk.
-/
import Derived.Test.YtbipgkbnhpdmhaaDoorSv1
import Derived.Test.YtbipgkbnhpdmhaaDoorSd4
import Derived.Test.YtbipgkbnhpdmhaaDoorSl2
import Derived.Test.YtbipgkbnhpdmhaaDoorQkg
namespace Go.Proofs.YtbipgkbnhpdmhaaDoor
open Flo Go.RowKit
theorem guard_nil (op : BinOp) (t : TypeId) (x : Operand) (b : Value) (w : World) : (eqGuard op t x (.const .nilIface) .nilIface b).run Tryd.prog w = .ok () w := by
  cases op <;> cases b <;> first | rfl | (simp [eqGuard, go_sem]; done) | kernel_rfl
theorem nilnil (w : World) : (binOp .eql 34 .nilIface .nilIface).run Tryd.prog w = .ok (.bool true) w := by kernel_rfl
/-- bytes that can be read, here and later -/
theorem SrcB.fr {w w' : World} {v : Value} {ys : List Nat} (h : SrcB w v ys) (hb : Below w.heap.size w w') : SrcB w' v ys := by
  rcases h with ⟨h1, h2⟩ | ⟨ad, c, h1, hc⟩
  · exact .inl ⟨h1, h2⟩
  · exact .inr ⟨ad, c, h1, fun j u hj => (hb.cell (cell_lt (hc j u hj))).trans (hc j u hj)⟩
theorem own_empty (w : World) : OwB (w.alloc (.cells #[] 5)) (.slice (some ⟨w.heap.size, 0, none⟩) 0 0) [] := World.ownsRow_made w #[] 0 (Nat.zero_le _) (by decide) rfl
/-- a beginning of a row that can be read -/
theorem src_take {w : World} {q n cap : Nat} {ys : List Nat} (h : OwB w (.slice (some ⟨q, 0, none⟩) n cap) ys) (hn : n = ys.length) (k c : Nat) (hk : k ≤ ys.length) : SrcB w (.slice (some ⟨q, 0, none⟩) k c) (ys.take k) := by
  subst hn
  have hl : (ys.take k).length = k := by rw [List.length_take]; omega
  refine .inr ⟨⟨q, 0, none⟩, c, by rw [hl], fun j u hj => ?_⟩
  have hh : w.ownsRow 0 5 1 (.slice (some ⟨q, 0, none⟩) ys.length cap) ys.length (bc ys) := h
  have hj2 : j < k := by
    have := (List.getElem?_eq_some_iff.1 hj).1
    rw [bc_len, hl] at this; exact this
  have h1 := hh.cellAt j (by omega)
  have e : (bc (ys.take k))[j]? = (bc ys)[j]? := by
    unfold bc
    rw [List.getElem?_map, List.getElem?_map, List.getElem?_take, if_pos hj2]
  rw [e] at hj
  have h2 : w.cell? ⟨q, j, none⟩ = some u := h1.trans hj
  rw [add_s, Nat.zero_add]
  exact h2
theorem OwB.bel {w w' : World} {v : Value} {ys : List Nat} (h : OwB w v ys) (hb : Below w.heap.size w w') : OwB w' v ys := owns_block h fun b hb' => hb.block b (World.ownsRow.lt h b hb').2
theorem encP_len {p : Sp.Pg} (h : Sp.inf p = true) : (Sp.encP p).length ≤ 5000000 := by
  obtain ⟨_, h1, h2⟩ := Sp.inf_parts h
  have h3 := hdk_len h 4 (by decide)
  have h4 := Pk.vi_len (x := p.steps.length) (by omega)
  have h5 := encs_len p.steps h2
  rw [encP_eq, List.length_append, List.length_append]
  omega
theorem app_below {w w' : World} {o : Obj} (h : (w.alloc o).grownBy w' (some w.heap.size)) : Below w.heap.size w w' := ((Below.refl _ _).alloc (Nat.le_refl _) o).grown h (by simp) fun b hb => by cases hb; exact Nat.le_refl _
set_option maxHeartbeats 16000000 in
set_option maxRecDepth 100000 in
theorem stepsBack.walk (p : Sp.Pg) (ao : Option Addr) (c : Nat) (cut : Int) (vm : Value) (ms : List Nat) (al : List Addr) (w : World) (ha : Ss w ao p.steps) (hc : ao = none → c = 0) (hb : p.steps.length * 56 ≤ 140737488351232) (hm : SrcB w vm ms) (hmb : ∀ b ∈ ms, b < 256) (hml : ms.length ≤ 1048576) (he : E4 w al) (hO : Ops w) (hE : Errs w al) :
    Calls Tryd.prog 7 #[pv p (.slice ao p.steps.length c), .int .i64 cut, vm] w fun e w' => e = .returned (.bool true) ∧ Below w.heap.size w w' := by
  obtain ⟨n, hn⟩ : ∃ n, Hid (p.steps.length = n) := ⟨_, (rfl : _ = _)⟩
  rw [hn.out] at hb ⊢
  obtain ⟨M, am, cm, rfl, hM⟩ : ∃ M am cm, vm = .slice am M cm ∧ Hid (M = ms.length) := by
    rcases hm with ⟨rfl, rfl⟩ | ⟨ad, c, rfl, _⟩
    · exact ⟨0, none, 0, rfl, rfl⟩
    · exact ⟨_, _, _, rfl, rfl⟩
  obtain ⟨g, hg⟩ : ∃ g, Hid (w.heap.size = g) := ⟨_, (rfl : _ = _)⟩
  obtain ⟨wa, ewa⟩ : ∃ wa, Hid (w.alloc (.cells #[.int .i64 p.len, .int .i64 p.cells, .int .i64 p.inn, .int .i64 p.out, .slice ao n c] 38) = wa) := ⟨_, (rfl : _ = _)⟩
  have Ba : Hid (Below w.heap.size w wa) := by rw [← ewa.out]; exact (Below.refl _ _).alloc (Nat.le_refl _) _
  have X1 : Hid (Bpg wa g p (.slice ao n c)) := by rw [← ewa.out, ← hg.out]; exact Bpg.new w p _
  have e1 : Hid (E4 wa al) := he.below Ba.out
  have o1 : Hid (Ops wa) := hO.below Ba.out
  have r1 : Hid (Errs wa al) := hE.below Ba.out
  have s1 : Hid (Ss wa ao p.steps) := ha.below Ba.out
  have m1 : Hid (SrcB wa (.slice am M cm) ms) := hm.fr Ba.out
  have mbH : Hid (∀ b ∈ ms, b < 256) := hmb
  have mlH : Hid (ms.length ≤ 1048576) := hml
  have hlv : Hid (Calls Tryd.prog 9 #[] wa fun e w' => e = .returned (.bool true) ∧ Below wa.heap.size wa w') := slives_c al wa e1.out o1.out
  have hbH : Hid (n * 56 ≤ 140737488351232) := hb
  have hcH : Hid (ao = none → c = 0) := hc
  have hdec : Hid (∀ (W : World) (v : Value) (bs : List Nat), Below wa.heap.size wa W → SrcB W v bs → bs.length ≤ 140737488355328 → (∀ b ∈ bs, b < 256) → Calls Tryd.prog 22 #[v] W fun e w' => DcE al bs W e w') := fun W v bs hW hv hl hb => sdecode_c v bs al W hv hl hb (e1.out.below hW) (o1.out.below hW)
  have hnum : Hid (∀ W, Below wa.heap.size wa W → Calls Tryd.prog 15 #[ek al 8] W fun e w' => e = .returned (.int .i64 9) ∧ Below W.heap.size W w') := fun W hW => num_err al 8 (by decide) W (r1.out.below hW)
  clear he hO hE ha hm hmb hml hc hb
  unfold pv
  go_enter Tryd.func7, Tryd.ntmps7
  go_upto_region 1 with fail
  rw [ewa.out, hg.out]
  go_wp2_with fail
  refine hlv.out.mono ?_
  rintro e w2 ⟨rfl, B2⟩
  have B2H : Hid (Below wa.heap.size wa w2) := B2
  have X2 := X1.out.below B2
  have hcp : Hid (Calls Tryd.prog 18 #[.agg #[.int .i64 p.len, .int .i64 p.cells, .int .i64 p.inn, .int .i64 p.out, .slice ao n c]] w2 fun e w' => CpE p n w2 e w') := copied_c p ao n c w2 (s1.out.below B2) hcH.out hn.out.symm hbH.out
  clear B2 hlv
  obtain ⟨x0, x1, x2, x3, x4⟩ := X2
  go_wp2_with fail
  refine hcp.out.mono ?_
  rintro e w3 ⟨q, cap, rfl, O3, B3⟩
  have B3H : Hid (Below wa.heap.size wa w3) := B2H.out.trans (B3.mono B2H.out.size)
  obtain ⟨g1, hg1⟩ : ∃ g, Hid (w3.heap.size = g) := ⟨_, (rfl : _ = _)⟩
  obtain ⟨w4, ew4⟩ : ∃ wx, Hid (w3.alloc (.cells #[.int .i64 p.len, .int .i64 p.cells, .int .i64 p.inn, .int .i64 p.out, .slice (some ⟨q, 0, none⟩) n cap] 38) = wx) := ⟨_, (rfl : _ = _)⟩
  have B34 : Below w3.heap.size w3 w4 := by rw [← ew4.out]; exact (Below.refl _ _).alloc (Nat.le_refl _) _
  have B4 : Hid (Below wa.heap.size wa w4) := B3H.out.trans (B34.mono B3H.out.size)
  have Y4 : Hid (Bpg w4 g1 p (.slice (some ⟨q, 0, none⟩) n cap)) := by rw [← ew4.out, ← hg1.out]; exact Bpg.new w3 p _
  have s4 : Hid (Ss w4 (some ⟨q, 0, none⟩) p.steps) := by
    obtain ⟨a', c', h1, h2⟩ := O3.ss
    injection h1 with i1 i2 i3
    rw [← i1] at h2
    exact (Ss.pre h2).below B34
  have hen : Hid (Calls Tryd.prog 19 #[.agg #[.int .i64 p.len, .int .i64 p.cells, .int .i64 p.inn, .int .i64 p.out, .slice (some ⟨q, 0, none⟩) n cap]] w4 fun e w' => EncE al p w4 e w') := sencode_c p (some ⟨q, 0, none⟩) n cap al w4 s4.out hn.out.symm (o1.out.below B4.out) (e1.out.below B4.out).prog
  clear x0 x1 x2 x3 x4 O3 B3 B34 hcp
  unfold pv
  go_upto_region 4 with fail
  rw [ew4.out, hg1.out]
  obtain ⟨x0, x1, x2, x3, x4⟩ := Y4.out
  go_wp2_with fail
  refine hen.out.mono ?_
  intro e w5 hE5
  obtain ⟨v, fe, fb, rfl, hfe, hgd, hbx⟩ : ∃ v fe fb, e = .returned (.tuple #[v, fe]) ∧ (∀ W : World, (binOp .eql 34 fe .nilIface).run Tryd.prog W = .ok (.bool fb) W) ∧ (∀ (op : BinOp) (t : TypeId) (x : Operand) (b : Value) (W : World), (eqGuard op t x (.const .nilIface) fe b).run Tryd.prog W = .ok () W) ∧ Hid (Below w4.heap.size w4 w5 ∧ (∃ nv av cv, v = .slice av nv cv) ∧ ((fb = false) ∨ (fb = true ∧ Sp.inf p = true ∧ NewB w4 w5 v (Sp.encP p)))) := by
    rcases hE5 with ⟨_, rfl, hB⟩ | ⟨hi, v, rfl, hN⟩
    · exact ⟨_, _, false, rfl, nil_c al 8, (fun op t x b W => guard_c al 8 op t x _ b W), hB, ⟨_, _, _, rfl⟩, .inl rfl⟩
    · obtain ⟨nv, av, cv, hv, _⟩ := hN.own.slice
      exact ⟨_, _, true, rfl, nilnil, guard_nil, hN.below, ⟨_, _, _, hv⟩, .inr ⟨rfl, hi, hN⟩⟩
  have B5 : Hid (Below wa.heap.size wa w5) := B4.out.trans (hbx.out.1.mono B4.out.size)
  obtain ⟨nv, av, cv, rfl⟩ := hbx.out.2.1
  have h45 : Hid (Below w4.heap.size w4 w5) := hbx.out.1
  have hN5 : Hid ((fb = false) ∨ (fb = true ∧ Sp.inf p = true ∧ NewB w4 w5 (.slice av nv cv) (Sp.encP p))) := hbx.out.2.2
  clear x0 x1 x2 x3 x4 hen hE5 hbx
  go_upto_if 28 with fail
  go_cut [] (fun wx => Hid (Below wa.heap.size wa wx))
  case first =>
    clear hfe hgd
    rcases hN5.out with rfl | ⟨rfl, hinf, hN⟩
    · go_wp2_with fail
      go_meet
      case rel => exact B5
    · have hinfH : Hid (Sp.inf p = true) := hinf
      have hL : Hid ((Sp.encP p).length ≤ 5000000) := encP_len hinf
      obtain ⟨qb, nb, cb, heq, hnb⟩ := OwB.some_ hN.own (Sp.encP_ne p)
      injection heq with i1 i2 i3
      subst i1 i2 i3
      have hN5' : Hid (OwB w5 (.slice (some ⟨qb, 0, none⟩) nv cv) (Sp.encP p)) := hN.own
      have hnv0 : nv ≠ 0 := by
        intro e
        have h1 := hnb.out
        exact Sp.encP_ne p (List.eq_nil_of_length_eq_zero (by rw [← h1, e]))
      have sr5 : Hid (∀ W, Below w5.heap.size w5 W → SrcB W (.slice (some ⟨qb, 0, none⟩) nv cv) (Sp.encP p)) := fun W hW => hN5'.out.src.fr hW
      have hk0 : Hid (([] : List Nat).length + (Sp.encP p).length ≤ 140737488355328) := by have := hL.out; show _ ≤ _; simp; omega
      clear hN hinf hN5
      go_wp2_with (first | (at_builtin; refine appX _ rfl _ _ rfl [] (Sp.encP p) (.slice (some ⟨qb, 0, none⟩) nv cv) w5.heap.size 0 0 rfl rfl (own_empty w5) (sr5.out _ ((Below.refl _ _).alloc (Nat.le_refl _) _)) hk0.out ?_) | fail)
      intro v6 w6 ho6 hg6 _
      have B56 : Hid (Below w5.heap.size w5 w6) := app_below hg6
      have B6 : Hid (Below wa.heap.size wa w6) := B5.out.trans (B56.out.mono B5.out.size)
      have hd6 := hdec.out w6 v6 _ B6.out ho6.src (by have := hL.out; omega) (Sp.encP_byte p)
      have hd6H : Hid (Calls Tryd.prog 22 #[v6] w6 fun e w' => DcE al (Sp.encP p) w6 e w') := hd6
      obtain ⟨n6, a6, c6, rfl, _⟩ := ho6.slice
      clear ho6 hg6 hd6
      go_wp2_with fail
      refine hd6H.out.mono ?_
      rintro e w7 ⟨B7', hcs⟩
      have B7 : Hid (Below wa.heap.size wa w7) := B6.out.trans (B7'.mono B6.out.size)
      have B57 : Hid (Below w5.heap.size w5 w7) := B56.out.trans (B7'.mono B56.out.size)
      rcases hcs with ⟨hf, _⟩ | ⟨p', v7, hp', rfl, O7⟩
      · rw [Sp.rw_back hinfH.out] at hf; cases hf
      rw [Sp.rw_back hinfH.out] at hp'
      obtain rfl := Option.some.inj hp'
      obtain ⟨a7, c7, rfl, S7⟩ := O7.ss
      rw [hn.out]
      obtain ⟨g2, hg2⟩ : ∃ g, Hid (w7.heap.size = g) := ⟨_, (rfl : _ = _)⟩
      obtain ⟨w8, ew8⟩ : ∃ wx, Hid (w7.alloc (.cells #[.int .i64 p.len, .int .i64 p.cells, .int .i64 p.inn, .int .i64 p.out, .slice a7 n c7] 38) = wx) := ⟨_, (rfl : _ = _)⟩
      have B78 : Below w7.heap.size w7 w8 := by rw [← ew8.out]; exact (Below.refl _ _).alloc (Nat.le_refl _) _
      have B8 : Hid (Below wa.heap.size wa w8) := B7.out.trans (B78.mono B7.out.size)
      have B58 : Hid (Below w5.heap.size w5 w8) := B57.out.trans (B78.mono B57.out.size)
      have Q8 : Hid (Bpg w8 g2 p (.slice a7 n c7)) := by rw [← ew8.out, ← hg2.out]; exact Bpg.new w7 p _
      have S8 : Hid (Ss w8 a7 p.steps) := S7.below B78
      have B48 : Hid (Below w4.heap.size w4 w8) := h45.out.trans (B58.out.mono h45.out.size)
      have Y8 : Hid (Bpg w8 g1 p (.slice (some ⟨q, 0, none⟩) n cap)) := Y4.out.below B48.out
      have X8 : Hid (Bpg w8 g p (.slice ao n c)) := X1.out.below B8.out
      have hsm : Hid (Calls Tryd.prog 24 #[.agg #[.int .i64 p.len, .int .i64 p.cells, .int .i64 p.inn, .int .i64 p.out, .slice a7 n c7], .agg #[.int .i64 p.len, .int .i64 p.cells, .int .i64 p.inn, .int .i64 p.out, .slice (some ⟨q, 0, none⟩) n cap]] w8 fun e w' => e = .returned (.bool true) ∧ Below w8.heap.size w8 w') := by
        have := ssame_c p p a7 (some ⟨q, 0, none⟩) n n c7 cap w8 S8.out (s4.out.below B48.out) hn.out.symm hn.out.symm (by have := hbH.out; omega)
        rw [pgeq_iff.2 rfl] at this
        exact this
      have hsd : Hid (∀ W, Below w8.heap.size w8 W → Calls Tryd.prog 21 #[.agg #[.int .i64 p.len, .int .i64 p.cells, .int .i64 p.inn, .int .i64 p.out, .slice a7 n c7], .agg #[.int .i64 p.len, .int .i64 p.cells, .int .i64 p.inn, .int .i64 p.out, .slice ao n c]] W fun e w' => e = .returned (.bool true) ∧ Below W.heap.size W w') := fun W hW => by
        have := dsame_c p p a7 ao n n c7 c W (S8.out.below hW) ((s1.out.below B8.out).below hW) hn.out.symm hn.out.symm (by have := hbH.out; omega)
        rw [pgeq_iff.2 rfl] at this
        exact this
      clear O7 S7 hp' B7' B78 hd6H
      unfold pv
      go_upto_region 7 with fail
      rw [ew8.out, hg2.out]
      obtain ⟨x0, x1, x2, x3, x4⟩ := Q8.out
      obtain ⟨y0, y1, y2, y3, y4⟩ := Y8.out
      go_wp2_with fail
      refine hsm.out.mono ?_
      rintro e w9 ⟨rfl, B9'⟩
      have B89 : Hid (Below w8.heap.size w8 w9) := B9'
      clear x0 x1 x2 x3 x4 y0 y1 y2 y3 y4
      obtain ⟨x0, x1, x2, x3, x4⟩ := Q8.out.below B9'
      obtain ⟨y0, y1, y2, y3, y4⟩ := X8.out.below B9'
      clear B9' hsm
      go_wp2_with fail
      refine (hsd.out w9 B89.out).mono ?_
      rintro e w10 ⟨rfl, B10'⟩
      have B10 : Hid (Below wa.heap.size wa w10) := (B8.out.trans (B89.out.mono B8.out.size)).trans (B10'.mono (Nat.le_trans B8.out.size B89.out.size))
      have B510 : Hid (Below w5.heap.size w5 w10) := (B58.out.trans (B89.out.mono B58.out.size)).trans (B10'.mono (Nat.le_trans B58.out.size B89.out.size))
      have q1 : ((nv : Int) == 0) = false := beq_eq_false_iff_ne.2 (by omega)
      clear x0 x1 x2 x3 x4 y0 y1 y2 y3 y4 B10' hsd
      obtain ⟨U, hU⟩ : ∃ U : Nat, cut % 18446744073709551616 = (U : Int) := ⟨(cut % 18446744073709551616).toNat, by omega⟩
      obtain ⟨K, hK⟩ : ∃ K, Hid (U % nv = K) := ⟨_, (rfl : _ = _)⟩
      have hKlt : Hid (K < nv) := by show _ < _; rw [← hK.out]; exact Nat.mod_lt _ (by omega)
      have hnvb : nv ≤ 5000000 := by have h1 := hnb.out; have h2 := hL.out; omega
      have hK1 : (U : Int) % (nv : Int) = (K : Int) := by have := hK.out; rw [← this]; omega
      have hKw : IntKind.i64.wrap (K : Int) = (K : Int) := by have := hKlt.out; rw [IntKind.wrap_i64]; omega
      have hnw : IntKind.u64.wrap (nv : Int) = (nv : Int) := wrapId _ (by omega)
      have hUw : IntKind.u64.wrap cut = (U : Int) := by rw [← hU]; rfl
      have hKn : K < nv := hKlt.out
      have hKc : (K : Int) ≤ (cv : Int) := by
        have hh : w5.ownsRow 0 5 1 (.slice (some ⟨qb, 0, none⟩) nv cv) (Sp.encP p).length (bc (Sp.encP p)) := hN5'.out
        rcases hh.2 with ⟨h1, _⟩ | ⟨q', cap', cur, h1, _, _, h4, _⟩
        · cases h1
        · injection h1 with _ _ j3; have := hnb.out; omega
      have st10 : Hid (SrcB (w10.alloc (.cells #[] 5)) (.slice (some ⟨qb, 0, none⟩) K cv) ((Sp.encP p).take K)) := src_take ((hN5'.out.bel B510.out).bel ((Below.refl _ _).alloc (Nat.le_refl _) _)) hnb.out K cv (by have := hnb.out; omega)
      have hk1 : Hid (([] : List Nat).length + ((Sp.encP p).take K).length ≤ 140737488355328) := by have := hL.out; show _ ≤ _; rw [List.length_take]; simp; omega
      have hbt : Hid (∀ b ∈ (Sp.encP p).take K, b < 256) := fun b hb => Sp.encP_byte p b (List.mem_of_mem_take hb)
      have hsh : Hid (Sp.rw_ ((Sp.encP p).take K) = none) := Sp.rw_short p (Sp.encP_byte p) hinfH.out (by have := hnb.out; omega)
      go_upto_region 9 with fail
      go_wp2_with (first | (at_builtin; refine appX _ rfl _ _ rfl [] ((Sp.encP p).take K) (.slice (some ⟨qb, 0, none⟩) K cv) w10.heap.size 0 0 rfl rfl (own_empty w10) st10.out hk1.out ?_) | fail)
      intro v11 w11 ho11 hg11 _
      have B1011 : Below w10.heap.size w10 w11 := app_below hg11
      have B11 : Hid (Below wa.heap.size wa w11) := B10.out.trans (B1011.mono B10.out.size)
      have B511 : Hid (Below w5.heap.size w5 w11) := B510.out.trans (B1011.mono B510.out.size)
      have hd11 := hdec.out w11 v11 _ B11.out (OwB.src ho11) (by have := hk1.out; simpa using this) hbt.out
      have hd11H : Hid (Calls Tryd.prog 22 #[v11] w11 fun e w' => DcE al ((Sp.encP p).take K) w11 e w') := hd11
      obtain ⟨n11, a11, c11, rfl, _⟩ := OwB.slice ho11
      clear ho11 hg11 hd11 B1011
      go_wp2_with fail
      refine hd11H.out.mono ?_
      rintro e w12 ⟨B12', hcs⟩
      have B12 : Hid (Below wa.heap.size wa w12) := B11.out.trans (B12'.mono B11.out.size)
      have B512 : Hid (Below w5.heap.size w5 w12) := B511.out.trans (B12'.mono B511.out.size)
      have hee : e = .returned (.tuple #[zp, ek al 8]) := by
        rcases hcs with ⟨_, h⟩ | ⟨p', v7, hp', _⟩
        · exact h
        · rw [hsh.out] at hp'; cases hp'
      subst hee
      clear B12' hd11H hcs
      unfold zp
      go_wp2_with fail
      refine (hnum.out w12 B12.out).mono ?_
      rintro e w13 ⟨rfl, B13'⟩
      have B13 : Hid (Below wa.heap.size wa w13) := B12.out.trans (B13'.mono B12.out.size)
      have B513 : Hid (Below w5.heap.size w5 w13) := B512.out.trans (B13'.mono B512.out.size)
      clear B13'
      by_cases hM0 : M = 0
      · have q2 : decide ((0 : Int) < (M : Int)) = false := decide_eq_false (by omega)
        have q3 : ¬ 0 < M := by omega
        clear hM0
        go_wp2_with fail
        go_meet
        case rel => exact B13
      · have q2 : (0 : Int) < (M : Int) := by omega
        have q3 : 0 < M := by omega
        have hmne : Hid (ms ≠ []) := fun e => hM0 (by rw [hM.out, e]; rfl)
        have hk2 : Hid (([] : List Nat).length + (Sp.encP p).length ≤ 140737488355328) := hk0
        have hk3 : Hid ((Sp.encP p).length + ms.length ≤ 140737488355328) := by have h1 := hL.out; have h2 := mlH.out; show _ ≤ _; omega
        have hlg : Hid (Sp.rw_ (Sp.encP p ++ ms) = none) := Sp.rw_long hinfH.out hmne.out
        have hbb : Hid (∀ b ∈ Sp.encP p ++ ms, b < 256) := fun b hb => by
          rcases List.mem_append.1 hb with h | h
          · exact Sp.encP_byte p b h
          · exact mbH.out b h
        go_wp2_with (first | (at_builtin; refine appX _ rfl _ _ rfl [] (Sp.encP p) (.slice (some ⟨qb, 0, none⟩) nv cv) w13.heap.size 0 0 rfl rfl (own_empty w13) ((sr5.out _ B513.out).fr ((Below.refl _ _).alloc (Nat.le_refl _) _)) hk2.out ?_) | fail)
        intro v14 w14 ho14 hg14 hnn
        have B1314 : Below w13.heap.size w13 w14 := app_below hg14
        have B14 : Hid (Below wa.heap.size wa w14) := B13.out.trans (B1314.mono B13.out.size)
        have ho14' : OwB w14 v14 (Sp.encP p) := ho14
        obtain ⟨q14, n14, c14, rfl, hn14⟩ := OwB.some_ ho14' (Sp.encP_ne p)
        have ho14H : Hid (OwB w14 (.slice (some ⟨q14, 0, none⟩) n14 c14) (Sp.encP p)) := ho14'
        have q14b : Hid (wa.heap.size ≤ q14) := by
          have h1 := B13.out.size
          rcases hnn q14 rfl with h | h
          · cases h; exact h1
          · show _ ≤ _; omega
        have m14 : Hid (SrcB w14 (.slice am M cm) ms) := m1.out.fr B14.out
        clear ho14 ho14' hg14 hnn B1314
        go_wp2_with (first | (at_builtin; refine appX _ rfl _ _ rfl (Sp.encP p) ms (.slice am M cm) q14 n14 c14 rfl rfl ho14H.out m14.out hk3.out ?_) | fail)
        intro v15 w15 ho15 hg15 _
        have B15 : Hid (Below wa.heap.size wa w15) := B14.out.grown hg15 B14.out.size fun b hb => by cases hb; exact q14b.out
        have hd15 := hdec.out w15 v15 _ B15.out (OwB.src ho15) (by have := hk3.out; rw [List.length_append]; exact this) hbb.out
        have hd15H : Hid (Calls Tryd.prog 22 #[v15] w15 fun e w' => DcE al (Sp.encP p ++ ms) w15 e w') := hd15
        obtain ⟨n15, a15, c15, rfl, _⟩ := OwB.slice ho15
        clear ho15 hg15 hd15
        go_wp2_with fail
        refine hd15H.out.mono ?_
        rintro e w16 ⟨B16', hcs⟩
        have B16 : Hid (Below wa.heap.size wa w16) := B15.out.trans (B16'.mono B15.out.size)
        have hee : e = .returned (.tuple #[zp, ek al 8]) := by
          rcases hcs with ⟨_, h⟩ | ⟨p', v7, hp', _⟩
          · exact h
          · rw [hlg.out] at hp'; cases hp'
        subst hee
        clear B16' hd15H hcs
        unfold zp
        go_wp2_with fail
        refine (hnum.out w16 B16.out).mono ?_
        rintro e w17 ⟨rfl, B17'⟩
        have B17 : Hid (Below wa.heap.size wa w17) := B16.out.trans (B17'.mono B16.out.size)
        clear B17'
        go_wp2_with fail
        go_meet
        case rel => exact B17
  case rest =>
    have B6 : Hid (Below wa.heap.size wa wc) := hcut
    clear hcut hfe hgd hN5 h45 B5
    have m6 : Hid (SrcB (wc.alloc (.cells #[] 5)) (.slice am M cm) ms) := (m1.out.fr B6.out).fr ((Below.refl _ _).alloc (Nat.le_refl _) _)
    have hk4 : Hid (([] : List Nat).length + ms.length ≤ 140737488355328) := by have := mlH.out; show _ ≤ _; simp; omega
    go_wp2_with (first | (at_builtin; refine appX _ rfl _ _ rfl [] ms (.slice am M cm) wc.heap.size 0 0 rfl rfl (own_empty wc) m6.out hk4.out ?_) | fail)
    intro v7 w7 ho7 hg7 _
    have Bc7 : Below wc.heap.size wc w7 := app_below hg7
    have B7 : Hid (Below wa.heap.size wa w7) := B6.out.trans (Bc7.mono B6.out.size)
    have hd7 := hdec.out w7 v7 _ B7.out (OwB.src ho7) (by have := hk4.out; simpa using this) mbH.out
    have hd7H : Hid (Calls Tryd.prog 22 #[v7] w7 fun e w' => DcE al ms w7 e w') := hd7
    obtain ⟨n7, a7, c7, rfl, _⟩ := OwB.slice ho7
    clear ho7 hg7 hd7 Bc7
    go_wp2_with fail
    refine hd7H.out.mono ?_
    rintro e w8 ⟨B8', hcs⟩
    have B8 : Hid (Below wa.heap.size wa w8) := B7.out.trans (B8'.mono B7.out.size)
    obtain ⟨g3, hg3⟩ : ∃ g, Hid (w8.heap.size = g) := ⟨_, (rfl : _ = _)⟩
    clear B8' hd7H
    rcases hcs with ⟨_, rfl⟩ | ⟨p', v9, hp', rfl, O9⟩
    · obtain ⟨w9, ew9⟩ : ∃ wx, Hid (w8.alloc (.cells #[.int .i64 0, .int .i64 0, .int .i64 0, .int .i64 0, .slice none 0 0] 38) = wx) := ⟨_, (rfl : _ = _)⟩
      have B9 : Hid (Below wa.heap.size wa w9) := by rw [← ew9.out]; exact B8.out.alloc B8.out.size _
      have z4 : w9.cell? ⟨g3, 4, none⟩ = some (.slice none 0 0) := by rw [← ew9.out, ← hg3.out]; simp
      have hq := nnil_c al 8
      have hgd := guard_c al 8
      unfold zp
      go_upto_region 17 with fail
      rw [ew9.out, hg3.out]
      go_wp2
      go_ret
      exact ⟨rfl, Ba.out.trans (B9.out.mono Ba.out.size)⟩
    · obtain ⟨hms, hip⟩ := Sp.rw_inv mbH.out hp'
      obtain ⟨a9, c9, rfl, S9⟩ := O9.ss
      obtain ⟨N9, hN9⟩ : ∃ n, Hid (p'.steps.length = n) := ⟨_, (rfl : _ = _)⟩
      rw [hN9.out]
      obtain ⟨w9, ew9⟩ : ∃ wx, Hid (w8.alloc (.cells #[.int .i64 p'.len, .int .i64 p'.cells, .int .i64 p'.inn, .int .i64 p'.out, .slice a9 N9 c9] 38) = wx) := ⟨_, (rfl : _ = _)⟩
      have B89 : Below w8.heap.size w8 w9 := by rw [← ew9.out]; exact (Below.refl _ _).alloc (Nat.le_refl _) _
      have B9 : Hid (Below wa.heap.size wa w9) := B8.out.trans (B89.mono B8.out.size)
      have Y9 : Hid (Bpg w9 g3 p' (.slice a9 N9 c9)) := by rw [← ew9.out, ← hg3.out]; exact Bpg.new w8 p' _
      have hen : Hid (Calls Tryd.prog 19 #[.agg #[.int .i64 p'.len, .int .i64 p'.cells, .int .i64 p'.inn, .int .i64 p'.out, .slice a9 N9 c9]] w9 fun e w' => EncE al p' w9 e w') := sencode_c p' a9 N9 c9 al w9 (S9.below B89) hN9.out.symm (o1.out.below B9.out) (e1.out.below B9.out).prog
      have hmsH : Hid (ms = Sp.encP p') := hms
      have hipH : Hid (Sp.inf p' = true) := hip
      clear O9 S9 B89 hms hip hp'
      unfold pv
      go_upto_region 17 with fail
      rw [ew9.out, hg3.out]
      obtain ⟨x0, x1, x2, x3, x4⟩ := Y9.out
      go_wp2_with fail
      refine hen.out.mono ?_
      intro e w10 hE10
      rcases hE10 with ⟨hf, _⟩ | ⟨_, v10, rfl, hN10⟩
      · rw [hipH.out] at hf; cases hf
      obtain ⟨n10, a10, c10, rfl, _⟩ := hN10.own.slice
      have B10 : Hid (Below wa.heap.size wa w10) := B9.out.trans (hN10.below.mono B9.out.size)
      have cv1 : (convert 41 9 (.slice a10 n10 c10)).run Tryd.prog w10 = .ok (.string (mkS ms)) w10 := by
        rw [hmsH.out]
        exact conv_src hN10.own.src (Sp.encP_byte p')
      have cv2 : (convert 41 9 (.slice am M cm)).run Tryd.prog w10 = .ok (.string (mkS ms)) w10 := conv_src (m1.out.fr B10.out) mbH.out
      have q5 : ((mkS ms).toList == (mkS ms).toList) = true := beq_iff_eq.2 rfl
      clear x0 x1 x2 x3 x4 hN10 hen
      generalize mkS ms = str at cv1 cv2 q5
      go_wp2
      go_ret
      exact ⟨rfl, Ba.out.trans (B10.out.mono Ba.out.size)⟩
end Go.Proofs.YtbipgkbnhpdmhaaDoor
