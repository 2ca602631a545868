/-
  The statement PackThere, walked.
-/
import Derived.Test.YtjckgcjcpmnhhaaDoorMvw
import Derived.Test.YtjckgcjcpmnhhaaDoorMpb
import Derived.Test.YtjckgcjcpmnhhaaDoorPkl
import Derived.Test.YtjckgcjcpmnhhaaDoorLaid
import Derived.Deep.LoopGhost
namespace Go.Proofs.YtjckgcjcpmnhhaaDoor
open Flo Go.RowKit
theorem Wr.below' {F : Nat → Prop} {w w' : World} {g : Nat} {ys : List Nat} (h : Wr F w g ys) (hb : Below w.heap.size w w') : Wr F w' g ys := h.under (Fr.of_below (S := fun _ => False) hb fun j hj hj2 => by omega) fun _ _ hh => hh.elim
theorem Wr.qt' {F : Nat → Prop} {w w' : World} {g : Nat} {ys : List Nat} (h : Wr F w g ys) (hq : Qt w w') : Wr F w' g ys := h.under (hq.fr (fun _ => False)) fun _ _ h => h.elim
theorem own_below {w w' : World} {v : Value} {ys : List Nat} (h : OwB w v ys) (hb : Below w.heap.size w w') : OwB w' v ys := owns_block h fun b hb' => hb.block b (World.ownsRow.lt h b hb').2
theorem wrap64_id {x : Int} (h1 : 0 ≤ x) (h2 : x ≤ 140737488355328) : wrap64 x = x := by unfold wrap64; omega
theorem z_parts (z : Int) (L : Nat) (hL : 0 < L) : ∃ Z M : Nat, IntKind.u64.wrap z = (Z : Int) ∧ (Z : Int).tmod (L : Int) = (M : Int) ∧ M < L := by
  refine ⟨(z % 18446744073709551616).toNat, (z % 18446744073709551616).toNat % L, ?_, ?_, Nat.mod_lt _ hL⟩
  · rw [IntKind.wrap_u64]; omega
  · rw [Int.tmod_eq_emod_of_nonneg (Int.natCast_nonneg _), Int.natCast_emod]
theorem d_parts {A M L C nb cb : Nat} (hCA : (C : Int) - (A : Int) = (L : Int)) (hML : M < L) (hcl : C ≤ nb) (hcap : nb ≤ cb) (hb : nb ≤ 140737400000000) :
    ∃ D : Nat, (A : Int) + (M : Int) = (D : Int) ∧ D - A = M ∧ wrap64 (M : Int) = (M : Int) ∧ wrap64 (D : Int) = (D : Int) ∧ (A : Int) ≤ (D : Int) ∧ (D : Int) ≤ (cb : Int) ∧ ¬ cb = A ∧ D ≤ cb ∧ A ≤ D ∧ D ≤ nb :=
  ⟨A + M, by omega, by omega, wrap64_id (by omega) (by omega), wrap64_id (by omega) (by omega), by omega, by omega, by omega, by omega, by omega, by omega⟩
theorem piece_of {w : World} {q A M D cb : Nat} {bs X tl : List Nat} (hcells : ∀ i, i < bs.length → w.cell? ⟨q, 0 + i, none⟩ = some (.int .u8 (bs.getD i 0 : Nat))) (hd : bs.drop A = X ++ tl) (hl : A + X.length ≤ bs.length) (hM : M < X.length) (hD : D - A = M) :
    SrcB w (.slice (some ⟨q, A, none⟩) (D - A) (cb - A)) (X.take M) := by
  have h7 := piece_srcO (cap := cb - A) (K := A) (c := M) hcells (by omega)
  rw [hd, List.take_append_of_le_length (by omega), Nat.zero_add] at h7
  rw [hD]
  exact h7
theorem ownB_parts {w : World} {ab : Option Addr} {nb cb : Nat} {bs : List Nat} (h : OwB w (.slice ab nb cb) bs) (hne : bs ≠ []) : ∃ q, ab = some ⟨q, 0, none⟩ ∧ nb ≤ cb ∧ ∀ i, i < bs.length → w.cell? ⟨q, 0 + i, none⟩ = some (.int .u8 (bs.getD i 0 : Nat)) := by
  have hh : w.ownsRow 0 5 1 (.slice ab nb cb) bs.length (bc bs) := h
  rcases hh.2 with ⟨_, h1⟩ | ⟨q, cap, cur, he, hbg, hg, hnc, hcm, hcs, htake⟩
  · exact absurd (List.eq_nil_of_length_eq_zero h1) hne
  · injection he with e1 e2 e3
    subst e1; subst e2; subst e3
    refine ⟨q, rfl, hnc, fun i hi => ?_⟩
    have h1 := hh.cellAt i (by omega)
    rw [Nat.zero_add, h1]
    simp [bc, List.getD, hi]
set_option maxRecDepth 100000 in
set_option maxHeartbeats 8000000 in
theorem there_w (ao : Option Addr) (m cap : Nat) (z : Int) (al : List Addr) (w : World) (hV : InV w ao m) (hm : m ≤ 1048576) (hz1 : -9223372036854775808 ≤ z) (hz2 : z ≤ 9223372036854775807) (he : Errs w al) :
    Calls Tryd.prog 5 #[.slice ao m cap, .int .i64 z] w fun e w' => e = .returned (.bool true) ∧ Below w.heap.size w w' := by
  obtain ⟨f, hf⟩ := inT_of hV
  have hVH : Hid (InT w ao m f) := hf
  have heH : Hid (Errs w al) := he
  have h5 : Hid (5 ≤ w.heap.size) := by
    have he5 := e5_of he
    have h0 := cell_lt he5.short; have h1 := cell_lt he5.varint; have h2 := cell_lt he5.limit; have h3 := cell_lt he5.tail; have h4 := cell_lt he5.number
    show _ ≤ _
    simp only at h0 h1 h2 h3 h4
    omega
  have hzH : Hid (-9223372036854775808 ≤ z ∧ z ≤ 9223372036854775807) := ⟨hz1, hz2⟩
  clear hV he hf hz1 hz2
  go_enter Tryd.func5, Tryd.ntmps5
  go_wp2_with fail
  refine (plives_c w al (e5_of heH.out)).mono ?_
  rintro e w1 ⟨rfl, hb1⟩
  have hB1 : Hid (Below w.heap.size w w1) := hb1
  clear hb1
  go_wp2_with fail
  refine (wnew_c w1 (fun k => k = w1.heap.size) rfl).mono ?_
  rintro e w2 ⟨rfl, h1, h2, h3⟩
  obtain ⟨g, hg⟩ : ∃ g, w1.heap.size = g := ⟨_, rfl⟩
  rw [hg] at h1 h3 ⊢
  have hgw : Hid (w.heap.size ≤ g ∧ g < w2.heap.size) := by have := hB1.out.size; exact ⟨by omega, by omega⟩
  have hW2 : Hid (Wr (fun k => k = g) w2 g []) := h1
  have hB2 : Hid (Below w.heap.size w w2) := hB1.out.trans (h2.mono hB1.out.size)
  clear h1 h2 h3 hg hB1
  go_wp2
  go_loopg [24] m (fun gk si wr => ∃ i : Nat, ∃ F : Nat → Prop, si = .int .i64 (i : Int) ∧ gk + i = m ∧ Hid (Wr F wr g (tot f i)) ∧ Hid (Below w.heap.size w wr) ∧ Hid (∀ k, F k → w.heap.size ≤ k))
  case atStart => exact ⟨0, (fun k => k = g), rfl, rfl, hW2, hB2, fun k hk => by have := hgw.out; have h5 : k = g := hk; omega⟩
  case round =>
    obtain ⟨i, F, rfl, hi, hW, hB, hF⟩ := hrel
    clear hW2 hB2
    by_cases hlt : i < m
    · have hlt' : (i : Int) < (m : Int) := by omega
      have hnx : Hid (tot f (i + 1) = tot f i ++ wbs (f i).k (f i).u (f i).v (f i).s (f i).zs) := tot_succ f i
      have hL : Hid ((tot f i).length ≤ 8388618 * i) := tot_len hVH.out i (by omega)
      obtain ⟨q, o, rfl, hq, hva, hvo⟩ := hVH.out i hlt
      generalize (f i).k = k at hva hvo hnx
      generalize (f i).n = n at hva hvo
      generalize (f i).u = u at hva hvo hnx
      generalize (f i).v = v at hva hvo hnx
      generalize (f i).s = s at hva hvo hnx
      generalize (f i).l = l at hva hvo
      generalize (f i).zs = zs at hvo hnx
      have hvoH : Hid (Vok w u v s l zs) := hvo
      have c0 : wr.cell? ⟨q, o + i * 6, none⟩ = _ := (hB.out.cell (p := ⟨q, o + i * 6, none⟩) hq).trans hva.c0
      have c1 : wr.cell? ⟨q, o + i * 6 + 1, none⟩ = _ := (hB.out.cell (p := ⟨q, o + i * 6 + 1, none⟩) hq).trans hva.c1
      have c2 : wr.cell? ⟨q, o + i * 6 + 2, none⟩ = _ := (hB.out.cell (p := ⟨q, o + i * 6 + 2, none⟩) hq).trans hva.c2
      have c3 : wr.cell? ⟨q, o + i * 6 + 3, none⟩ = _ := (hB.out.cell (p := ⟨q, o + i * 6 + 3, none⟩) hq).trans hva.c3
      have c4 : wr.cell? ⟨q, o + i * 6 + 4, none⟩ = _ := (hB.out.cell (p := ⟨q, o + i * 6 + 4, none⟩) hq).trans hva.c4
      have c5 : wr.cell? ⟨q, o + i * 6 + 5, none⟩ = _ := (hB.out.cell (p := ⟨q, o + i * 6 + 5, none⟩) hq).trans hva.c5
      clear hva hvo hq
      obtain ⟨lo, ln, lc, rfl⟩ : ∃ lo ln lc, l = .slice lo ln lc := by obtain ⟨a, c, rfl, _⟩ := hvoH.out.hl; exact ⟨_, _, _, rfl⟩
      obtain ⟨wa, hwa⟩ : ∃ wa, Hid (wa = wr.alloc (.cells #[.int .i64 k, .int .u64 (u : Int), .int .u64 (v : Int), .string s, .slice lo ln lc, .int .i64 n] 30)) := ⟨_, rfl⟩
      have hba : Hid (Below wr.heap.size wr wa) := by rw [hwa.out]; exact (Below.refl _ _).alloc (Nat.le_refl _) _
      have hbx : Hid (Bx wa wr.heap.size k u v s (.slice lo ln lc) n) := by rw [hwa.out]; exact box_bx wr k u v s _ n
      have hWa : Hid (Wr F wa g (tot f i)) := hW.out.below' hba.out
      have hBa : Hid (Below w.heap.size w wa) := hB.out.trans (hba.out.mono hB.out.size)
      have hva : Hid (Vok wa u v s (.slice lo ln lc) zs) := hvoH.out.below hBa.out
      have hl1 : Hid ((tot f i).length ≤ 140737400000000) := by show _ ≤ _; have := hL.out; omega
      have hbc := hbx.out
      have d0 := hbc.c0
      have d1 := hbc.c1
      have d2 := hbc.c2
      have d3 := hbc.c3
      have d4 := hbc.c4
      have d5 := hbc.c5
      clear hbc
      go_upto_region 9 with fail
      rw [← hwa.out]
      clear c0 c1 c2 c3 c4 c5
      go_wp2_with fail
      refine (put_c F g (tot f i) k n u v s (.slice lo ln lc) zs wa hWa.out hl1.out hva.out).mono ?_
      rintro e wb ⟨rfl, ⟨F2, hW2, hF2⟩, hfr⟩
      rw [← hnx.out] at hW2
      have hW2H : Hid (Wr F2 wb g (tot f (i + 1))) := hW2
      have hF2H : Hid (∀ k, F2 k → w.heap.size ≤ k) := fun j hj => by
        rcases hF2 j hj with h6 | h6
        · exact hF.out j h6
        · have := hBa.out.size; omega
      have hBb : Hid (Below w.heap.size w wb) := hfr.below hBa.out hBa.out.size fun j _ hj => hF.out j hj
      clear hW2 hF2 hfr d0 d1 d2 d3 d4 d5 hnx
      go_wp2_with fail
      go_roundg (gk - 1)
      case measure => omega
      case rel => exact ⟨i + 1, F2, by go_num, by omega, hW2H, hBb, hF2H⟩
    · have hlt' : decide ((i : Int) < (m : Int)) = false := decide_eq_false (by omega)
      obtain rfl : i = m := by omega
      clear hlt hi
      have hLm : Hid ((tot f i).length ≤ 140737400000000) := by show _ ≤ _; have := tot_len hVH.out i (Nat.le_refl _); omega
      obtain ⟨bs, hbs⟩ : ∃ bs, Hid (bs = tot f i) := ⟨_, rfl⟩
      rw [← hbs.out] at hLm hW
      have hby : Hid (∀ b ∈ bs, b < 256) := by rw [hbs.out]; exact tot_byte f i
      have hWr2 : Hid (Wr (fun j => F j ∧ j < wr.heap.size) (wr.alloc (.cells #[] 5)) g bs) := (hW.out.to fun j hj hf => ⟨hf, hj⟩).below' ((Below.refl _ _).alloc (Nat.le_refl _) _)
      have hO1 : Hid (OwB (wr.alloc (.cells #[] 5)) (.slice (some ⟨wr.heap.size, 0, none⟩) 0 0) []) := World.ownsRow_made wr #[] 0 (Nat.zero_le _) (by decide) rfl
      have hB3 : Hid (Below w.heap.size w (wr.alloc (.cells #[] 5))) := hB.out.alloc hB.out.size _
      obtain ⟨w3, hw3⟩ : ∃ w3, Hid (w3 = wr.alloc (.cells #[] 5)) := ⟨_, rfl⟩
      have hw3s : Hid (w3.heap.size = wr.heap.size + 1) := by rw [hw3.out]; simp [Hid]
      rw [← hw3.out] at hWr2 hO1 hB3
      go_wp2_with fail
      rw [← hw3.out]
      refine (wout_c (fun j => F j ∧ j < wr.heap.size) g bs w3 hWr2.out (by have := hLm.out; omega)).mono ?_
      rintro e w4 ⟨v4, rfl, hn4⟩
      have hS4 : Hid (SrcB w4 v4 bs) := hn4.own.src
      have hB4 : Hid (Below w3.heap.size w3 w4) := hn4.below
      have hO4 : Hid (OwB w4 (.slice (some ⟨wr.heap.size, 0, none⟩) 0 0) []) := own_below hO1.out hn4.below
      clear hn4
      go_wp2_with (first | (at_builtin; refine appY _ rfl _ _ rfl [] bs (.slice (some ⟨wr.heap.size, 0, none⟩) 0 0) v4 rfl rfl hO4.out hS4.out (by have := hLm.out; simp; omega) ?_) | fail)
      intro v9 w5 ho hgr hn9
      have hO5 : Hid (OwB w5 v9 bs) := ho
      have hn5 : Hid (∀ b, v9.ownBlock = some b → wr.heap.size ≤ b) := fun b hb => by
        rcases hn9 b hb with h6 | h6
        · cases h6; exact Nat.le_refl _
        · have := hB4.out.size; have := hw3s.out; omega
      have hB5 : Hid (Below w.heap.size w w5) := (hB3.out.trans (hB4.out.mono hB3.out.size)).grown hgr (by have := hB3.out.size; have := hB4.out.size; omega) fun k hk => by cases hk; exact hB.out.size
      have hW5 : Hid (Wr (fun j => F j ∧ j < wr.heap.size) w5 g bs) := (hWr2.out.below' hB4.out).under ((Fr.refl (fun j => j = wr.heap.size) w4).grown hgr fun j hj => by cases hj; rfl) fun j _ hj hf => by have := hf.2; have h7 : j = wr.heap.size := hj; omega
      have hs5 : Hid (wr.heap.size < w5.heap.size) := by have := hgr.size; have := hB4.out.size; have := hw3s.out; show _ < _; omega
      clear ho hgr hn9 hS4 hO4 hO1 hB4 hB3 hWr2
      go_wp2_with fail
      refine (rread_c v9 bs w5 hO5.out.src (by have := hLm.out; omega) hby.out).mono ?_
      rintro e w6 ⟨r, rfl, hr, h1, h2⟩
      obtain ⟨R, hR6, hRs⟩ : ∃ R : Nat → Prop, Hid (Rr R w6 r bs 0) ∧ Hid (∀ k, R k → w5.heap.size ≤ k ∧ k < w6.heap.size) := ⟨_, h1, fun k hk => hk⟩
      have hB6 : Hid (Below w5.heap.size w5 w6) := h2
      have hr5 : Hid (¬ r < 5 ∧ w.heap.size ≤ r ∧ r < w6.heap.size ∧ w5.heap.size ≤ r) := by have := hB5.out.size; have := h5.out; exact ⟨by omega, by omega, h1.lt, hr⟩
      have hEall : Hid (∀ W, Fr (fun j => j = r) w6 W → Errs W al ∧ Below w.heap.size w W) := fun W hW => by
        have h8 : Below w.heap.size w W := hW.below (hB5.out.trans (hB6.out.mono hB5.out.size)) (Nat.le_trans hB5.out.size hB6.out.size) fun j _ hj => by have := hr5.out.2.1; have h7 : j = r := hj; omega
        exact ⟨heH.out.below h8, h8⟩
      have hkeep : Hid (∀ W, Fr (fun j => j = r) w6 W → OwB W v9 bs ∧ Wr (fun j => F j ∧ j < wr.heap.size) W g bs) := fun W hW => by
        refine ⟨Fr.owns hW (own_below hO5.out hB6.out) fun b hb hh => ?_, (hW5.out.below' hB6.out).under hW fun j _ hj hf => ?_⟩
        · have := (World.ownsRow.lt hO5.out b hb).2; have h7 : b = r := hh; have := hr5.out.2.2.2; omega
        · have := hf.2; have h7 : j = r := hj; have := hr5.out.2.2.2; have := hs5.out; omega
      clear h1 h2 hr hW5
      obtain ⟨Fw, hFw⟩ : ∃ Fw : Nat → Prop, Fw = fun j => F j ∧ j < wr.heap.size := ⟨_, rfl⟩
      rw [← hFw] at hkeep
      clear hFw hB hF hw3 hw3s hW hn5 hs5 hgw
      have hw56 : Hid (w5.heap.size ≤ w6.heap.size) := hB6.out.size
      obtain ⟨nb, ab, cb, rfl, hnb⟩ := hO5.out.slice
      clear hO5 hB6 hB5
      go_wp2
      go_loopg [44] i (fun gk sj wq => ∃ j : Nat, sj = .int .i64 (j : Int) ∧ gk + j = i ∧ Hid (Rr R wq r bs (tot f j).length) ∧ Hid (Fr (fun q => q = r) w6 wq))
      case atStart => exact ⟨0, rfl, rfl, hR6, Fr.refl _ _⟩
      case round =>
        obtain ⟨j, rfl, hj, hRq, hfq⟩ := hrel
        clear hR6
        by_cases hlt2 : j < i
        · have hlt2' : (j : Int) < (i : Int) := by omega
          obtain ⟨tl, htl⟩ := tot_split f hlt2
          have hnx : Hid (tot f (j + 1) = tot f j ++ wbs (f j).k (f j).u (f j).v (f j).s (f j).zs) := tot_succ f j
          have htlH : Hid (tot f i = tot f j ++ (wbs (f j).k (f j).u (f j).v (f j).s (f j).zs ++ tl)) := htl
          clear htl
          obtain ⟨q, o, rfl, hq, hva, hvo⟩ := hVH.out j hlt2
          generalize (f j).k = k at hva hvo hnx htlH
          generalize (f j).n = n at hva hvo
          generalize (f j).u = u at hva hvo hnx htlH
          generalize (f j).v = v at hva hvo hnx htlH
          generalize (f j).s = s at hva hvo hnx htlH
          generalize (f j).l = l at hva hvo
          generalize (f j).zs = zs at hvo hnx htlH
          have hvoH : Hid (Vok w u v s l zs) := hvo
          have hBq : Hid (Below w.heap.size w wr) := (hEall.out wr hfq.out).2
          have c0 : wr.cell? ⟨q, o + j * 6, none⟩ = _ := (hBq.out.cell (p := ⟨q, o + j * 6, none⟩) hq).trans hva.c0
          have c1 : wr.cell? ⟨q, o + j * 6 + 1, none⟩ = _ := (hBq.out.cell (p := ⟨q, o + j * 6 + 1, none⟩) hq).trans hva.c1
          have c2 : wr.cell? ⟨q, o + j * 6 + 2, none⟩ = _ := (hBq.out.cell (p := ⟨q, o + j * 6 + 2, none⟩) hq).trans hva.c2
          have c3 : wr.cell? ⟨q, o + j * 6 + 3, none⟩ = _ := (hBq.out.cell (p := ⟨q, o + j * 6 + 3, none⟩) hq).trans hva.c3
          have c4 : wr.cell? ⟨q, o + j * 6 + 4, none⟩ = _ := (hBq.out.cell (p := ⟨q, o + j * 6 + 4, none⟩) hq).trans hva.c4
          have c5 : wr.cell? ⟨q, o + j * 6 + 5, none⟩ = _ := (hBq.out.cell (p := ⟨q, o + j * 6 + 5, none⟩) hq).trans hva.c5
          clear hva hvo hq
          obtain ⟨lo, ln, lc, rfl⟩ : ∃ lo ln lc, l = .slice lo ln lc := by obtain ⟨a, c, rfl, _⟩ := hvoH.out.hl; exact ⟨_, _, _, rfl⟩
          obtain ⟨X, hX⟩ : ∃ X, Hid (X = wbs k u v s zs) := ⟨_, rfl⟩
          rw [← hX.out] at hnx htlH
          obtain ⟨A, hA⟩ : ∃ A, Hid (A = (tot f j).length) := ⟨_, rfl⟩
          have hbA : Hid (bs.drop A = X ++ tl ∧ A + X.length ≤ bs.length ∧ (tot f (j + 1)).length = A + X.length) := by
            refine ⟨by rw [hbs.out, htlH.out, hA.out, List.drop_left' rfl], ?_, by rw [hnx.out, List.length_append, hA.out]⟩
            rw [hbs.out, htlH.out, hA.out, List.length_append, List.length_append]; omega
          rw [← hA.out] at hRq
          obtain ⟨wa, hwa⟩ : ∃ wa, Hid (wa = wr.alloc (.cells #[.int .i64 k, .int .u64 (u : Int), .int .u64 (v : Int), .string s, .slice lo ln lc, .int .i64 n] 30)) := ⟨_, rfl⟩
          have hba : Hid (Below wr.heap.size wr wa) := by rw [hwa.out]; exact (Below.refl _ _).alloc (Nat.le_refl _) _
          have hbx : Hid (Bx wa wr.heap.size k u v s (.slice lo ln lc) n) := by rw [hwa.out]; exact box_bx wr k u v s _ n
          have hRa : Hid (Rr R wa r bs A) := rr_below hRq.out hba.out
          have hfa : Hid (Fr (fun q => q = r) w6 wa) := hfq.out.then (fr_below hba.out)
          have hva : Hid (Vok wa u v s (.slice lo ln lc) zs) := hvoH.out.below (hEall.out wa hfa.out).2
          have hnr : Hid (zs ≠ [] → ¬ LAt r (.slice lo ln lc)) := fun hne => hvoH.out.notAt hr5.out.2.1 hne
          have hrw : Hid (r < wr.heap.size) := Nat.lt_of_lt_of_le hr5.out.2.2.1 hfq.out.size
          have hbc := hbx.out
          have d0 := hbc.c0
          have d1 := hbc.c1
          have d2 := hbc.c2
          have d3 := hbc.c3
          have d4 := hbc.c4
          have d5 := hbc.c5
          clear hbc hRq
          go_upto_region 20 with fail
          rw [← hwa.out]
          clear c0 c1 c2 c3 c4 c5
          go_wp2_with fail
          refine (rat_c R r A bs wa hRa.out).mono ?_
          rintro e w' ⟨rfl, rfl⟩
          go_wp2_with fail
          refine (back_c R r A bs tl al k n u v s (.slice lo ln lc) zs wa hRa.out (fun W hW => (hEall.out W (hfa.out.then hW)).1) hr5.out.1 hva.out hnr.out (by rw [← hX.out]; exact hbA.out.1)).mono ?_
          rintro e wb ⟨rfl, h1, h2⟩
          rw [← hX.out] at h1
          obtain ⟨C, hC⟩ : ∃ C, Hid (C = A + X.length) := ⟨_, rfl⟩
          rw [← hC.out] at h1
          have hRb : Hid (Rr R wb r bs C) := h1
          have hfab : Hid (Fr (fun q => q = r) wa wb) := h2
          have hfb : Hid (Fr (fun q => q = r) w6 wb) := hfa.out.then h2
          have hbx2 : Hid (Bx wb wr.heap.size k u v s (.slice lo ln lc) n) := hbx.out.under h2 (fun hh => by have := hrw.out; have h7 : wr.heap.size = r := hh; omega)
          clear h1 h2 d0 d1 d2 d3 d4 d5
          go_wp2_with fail
          refine (rat_c R r C bs wb hRb.out).mono ?_
          rintro e w' ⟨rfl, rfl⟩
          obtain ⟨L, hL⟩ : ∃ L, Hid (L = X.length) := ⟨_, rfl⟩
          have hCA : (C : Int) - (A : Int) = (L : Int) := by have := hC.out; have := hL.out; omega
          have hLb : (L : Int) ≤ 140737400000000 := by have := hLm.out; have := hbA.out.2.1; have := hL.out; omega
          have hnext : Hid (∀ W, Rr R W r bs C → Rr R W r bs (tot f (j + 1)).length) := fun W hW => by rw [hbA.out.2.2, ← hC.out]; exact hW
          have hbc := hbx2.out
          have d0 := hbc.c0
          clear hbc
          by_cases hL0 : L = 0
          · have hCA0 : (C : Int) - (A : Int) = 0 := by omega
            clear hL0 hCA hLb
            go_wp2_with fail
            go_roundg (gk - 1)
            case measure => omega
            case rel => exact ⟨j + 1, by go_num, by omega, hnext.out wb hRb.out, hfb⟩
          · have hL1 : (0 : Int) < (L : Int) := by omega
            have hL2 : 0 < L := by omega
            by_cases hk8 : k = 8
            · have hk9 : (k != 8) = false := by simp [hk8]
              have hkH : Hid (k = 8) := hk8
              clear hL0 hk8
              go_wp2_with fail
              go_roundg (gk - 1)
              case measure => omega
              case rel => exact ⟨j + 1, by go_num, by omega, hnext.out wb hRb.out, hfb⟩
            · have hk9 : (k != 8) = true := by simp [hk8]
              have hkH : Hid (k ≠ 8) := hk8
              clear hk8
              obtain ⟨Z, M, hZ, hM2, hML⟩ := z_parts z L hL2
              have hML2 : Hid (M < X.length) := by rw [← hL.out]; exact hML
              obtain ⟨qb, hab, hcap, hcells⟩ := ownB_parts (hkeep.out wb hfb.out).1 (fun hh => by have h7 := hbA.out.2.1; have h8 := hML2.out; rw [hh, List.length_nil] at h7; clear hM2 hZ; omega)
              subst hab
              have hnb2 : nb ≤ 140737400000000 := by rw [hnb.out]; exact hLm.out
              obtain ⟨D, hAD, hDA, hM3, hD3, k3, k4, k5, k6, k7, k8⟩ := d_parts (cb := cb) hCA hML (by rw [hnb.out]; exact hRb.out.le) hcap hnb2
              have hpc : Hid (SrcB wb (.slice (some ⟨qb, A, none⟩) (D - A) (cb - A)) (X.take M)) := piece_of hcells hbA.out.1 hbA.out.2.1 hML2.out hDA
              clear hL0 hML hcells hDA hcap hnb2
              have hO8 : Hid (OwB (wb.alloc (.cells #[] 5)) (.slice (some ⟨wb.heap.size, 0, none⟩) 0 0) []) := World.ownsRow_made wb #[] 0 (Nat.zero_le _) (by decide) rfl
              have hp8 : Hid (SrcB (wb.alloc (.cells #[] 5)) (.slice (some ⟨qb, A, none⟩) (D - A) (cb - A)) (X.take M)) := hpc.out.below ((Below.refl _ _).alloc (Nat.le_refl _) _)
              have hpl : Hid ((X.take M).length ≤ 140737400000000) := by show _ ≤ _; rw [List.length_take]; have h7 := hLm.out; have h8 := hbA.out.2.1; clear hM2 hM3 hD3 hZ; omega
              have hpb : Hid (∀ b ∈ X.take M, b < 256) := fun b hb => by
                have h7 := List.mem_of_mem_take hb
                rw [hX.out] at h7
                exact wbs_byte _ _ _ _ _ b h7
              go_upto_region 26 with fail
              go_wp2_with (first | (at_builtin; refine appY _ rfl _ _ rfl [] (X.take M) (.slice (some ⟨wb.heap.size, 0, none⟩) 0 0) (.slice (some ⟨qb, A, none⟩) (D - A) (cb - A)) rfl rfl hO8.out hp8.out (by have h7 := hpl.out; rw [List.length_nil, Nat.zero_add]; exact Nat.le_trans h7 (by decide)) ?_) | fail)
              clear hM2 hM3 hD3 hZ k3 k4 k5 k6 k7 k8 hAD
              intro v8 w8 ho hgr hn8
              have hO9 : Hid (OwB w8 v8 (X.take M)) := ho
              have hB8 : Hid (Below wb.heap.size wb w8) := ((Below.refl _ _).alloc (Nat.le_refl _) _).grown hgr (by simp) fun k hk => by cases hk; exact Nat.le_refl _
              clear ho hgr hn8 hO8 hp8 hpc
              go_wp2_with fail
              refine (rread_c v8 (X.take M) w8 hO9.out.src (Nat.le_trans hpl.out (by decide)) hpb.out).mono ?_
              rintro e w9 ⟨r3, rfl, hr3, h1, h2⟩
              obtain ⟨R3, hR9⟩ : ∃ R3 : Nat → Prop, Hid (Rr R3 w9 r3 (X.take M) 0) := ⟨_, h1⟩
              have hB9 : Hid (Below wb.heap.size wb w9) := hB8.out.trans (h2.mono hB8.out.size)
              have hr3H : Hid (wb.heap.size ≤ r3) := Nat.le_trans hB8.out.size hr3
              have hfw : Hid (∀ W, Fr (fun q => q = r3) w9 W → Fr (fun _ => False) wb W) := fun W hW => (fr_below hB9.out).trans hW fun k hk => .inr (by have h7 : k = r3 := hk; rw [h7]; exact hr3H.out)
              have hf6 : Hid (∀ W, Fr (fun q => q = r3) w9 W → Fr (fun q => q = r) w6 W) := fun W hW => hfb.out.then ((hfw.out W hW).mono fun _ _ hh => hh.elim)
              have hbx9 := hbx2.out.under (S := fun _ => False) (fr_below hB9.out) id
              have d00 := hbx9.c0
              have d01 := hbx9.c1
              have d02 := hbx9.c2
              have d03 := hbx9.c3
              have d04 := hbx9.c4
              have d05 := hbx9.c5
              have h39 : Hid (¬ r3 < 5) := by have h7 := hr3H.out; have h8 := hfb.out.size; have h9 := hr5.out; show ¬ _; omega
              have hv9 : Hid (Vok w9 u v s (.slice lo ln lc) zs) := hvoH.out.below (hEall.out w9 (hf6.out w9 (Fr.refl _ _))).2
              clear h1 h2 hr3 hbx9 d0
              go_wp2_with fail
              refine (tooShort_c R3 r3 M (X.take M) al k n u v s (.slice lo ln lc) zs w9 hR9.out (fun W hW => (hEall.out W (hf6.out W hW)).1) h39.out hv9.out hkH.out (by rw [← hX.out]; exact hML2.out) (by rw [← hX.out])).mono ?_
              rintro e wc ⟨rfl, h1, h2⟩
              have hRc : Hid (Rr R3 wc r3 (X.take M) 0) := h1
              have hf6c : Hid (Fr (fun q => q = r) w6 wc) := hf6.out wc h2
              have hRcc : Hid (Rr R wc r bs C) := hRb.out.under (hfw.out wc h2) fun _ _ hh => hh.elim
              clear h1 h2 d00 d01 d02 d03 d04 d05
              go_wp2_with fail
              refine (rat_c R3 r3 0 (X.take M) wc hRc.out).mono ?_
              rintro e w' ⟨rfl, rfl⟩
              go_wp2_with fail
              go_roundg (gk - 1)
              case measure => omega
              case rel => exact ⟨j + 1, by go_num, by omega, hnext.out wc hRcc.out, hf6c⟩
        · have hlt2' : decide ((j : Int) < (i : Int)) = false := decide_eq_false (by omega)
          obtain rfl : j = i := by omega
          rw [← hbs.out] at hRq
          have hdn : Hid (dnv al bs.length bs.length = .nilIface) := if_neg (Nat.lt_irrefl _)
          have hEq := (hEall.out wr hfq.out)
          have hE5 : Hid (E5 wr al) := e5_of hEq.1
          have hBq : Hid (Below w.heap.size w wr) := hEq.2
          have hWq : Hid (Wr Fw wr g bs) := (hkeep.out wr hfq.out).2
          clear hEq hj hlt2
          go_wp2_with fail
          refine (rdone_c R r bs.length bs al wr hRq.out hE5.out).mono ?_
          rintro e wd ⟨rfl, hqd⟩
          rw [hdn.out]
          have hqdH : Hid (Qt wr wd) := hqd
          clear hqd
          go_wp2_with fail
          refine (rleft_c R r bs.length bs wd (hRq.out.qt hqdH.out)).mono ?_
          rintro e we ⟨m0, rfl, hm0, hqe⟩
          obtain rfl : m0 = 0 := by rw [hm0.out, Nat.sub_self]
          have hqeH : Hid (Qt wr we) := hqdH.out.trans hqe
          clear hqe
          go_wp2_with fail
          refine (wlen_c Fw g bs we (hWq.out.qt' hqeH.out)).mono ?_
          rintro e w' ⟨rfl, rfl⟩
          rw [← hnb.out]
          go_wp2
          go_ret
          exact ⟨by simp, hBq.out.trans (hqeH.out.below _)⟩
end Go.Proofs.YtjckgcjcpmnhhaaDoor
