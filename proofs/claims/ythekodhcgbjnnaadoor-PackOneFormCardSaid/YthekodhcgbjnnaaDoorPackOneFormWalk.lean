/-
  The statement PackOneForm, walked.
-/
import Derived.Test.YthekodhcgbjnnaaDoorPkg
import Derived.Test.YthekodhcgbjnnaaDoorLaid
import Derived.Deep.RegionWith
import Derived.Deep.RegionHeld3
import Derived.BigRegion
import Derived.Deep.DeepCutAuto
import Derived.Deep.CutBlock
import Derived.Deep.LoopGhost
namespace Go.Proofs.YthekodhcgbjnnaaDoor
open Flo Go.RowKit
set_option maxRecDepth 100000 in
set_option maxHeartbeats 8000000 in
theorem oneform_w (ao : Option Addr) (nb cb : Nat) (bo : Option Addr) (nk ck : Nat) (bs : List Nat) (zs : List Int) (al : List Addr) (w : World) (hb : InB w (.slice ao nb cb) bs) (hnb : Hid (nb = bs.length)) (hz : InI w (.slice bo nk ck) zs) (hkb : nk ≤ 140737488351232) (he : E5 w al) :
    Calls Tryd.prog 6 #[.slice ao nb cb, .slice bo nk ck] w fun e w' => e = .returned (.bool true) ∧ Below w.heap.size w w' := by
  have hbH : Hid (InB w (.slice ao nb cb) bs) := hb
  have hzH : Hid (InI w (.slice bo nk ck) zs) := hz
  have heH : Hid (E5 w al) := he
  have h5 : Hid (5 ≤ w.heap.size) := by
    have h0 := cell_lt he.short; have h1 := cell_lt he.varint; have h2 := cell_lt he.limit; have h3 := cell_lt he.tail; have h4 := cell_lt he.number
    show _ ≤ _
    simp only at h0 h1 h2 h3 h4
    omega
  have hnbb : nb ≤ 140737488351232 := by rw [hnb.out]; exact hb.big
  clear hb hz he
  go_enter Tryd.func6, Tryd.ntmps6
  go_wp2_with fail
  refine (plives_c w al heH.out).mono ?_
  rintro e w1 ⟨rfl, hb1⟩
  have hB1 : Hid (Below w.heap.size w w1) := hb1
  have hs1 : Hid (SrcB (w1.alloc (.cells #[] 5)) (.slice ao nb cb) bs) := (hbH.out.src.below hb1).below ((Below.refl _ _).alloc (Nat.le_refl _) _)
  clear hb1
  go_wp2_with (first | (at_builtin; refine appX _ rfl _ _ rfl [] bs (.slice ao nb cb) w1.heap.size 0 0 rfl rfl (World.ownsRow_made w1 #[] 0 (Nat.zero_le _) (by decide) rfl) hs1.out (by have := hnb.out; simp; omega) ?_) | fail)
  intro v2 w2 ho hgr hn
  have hS2 : Hid (SrcB w2 v2 bs) := OwB.src ho
  have hB2 : Hid (Below w.heap.size w w2) := (hB1.out.alloc hB1.out.size _).grown hgr (by have := hB1.out.size; simp; omega) (fun k hk => by cases hk; exact hB1.out.size)
  clear ho hgr hn hs1 hB1
  go_wp2_with fail
  refine (rread_c v2 bs w2 hS2.out (by have := hnb.out; omega) hbH.out.byt).mono ?_
  rintro e w3 ⟨r, rfl, hr, h1, h2⟩
  obtain ⟨Rs, hR3, hRs⟩ : ∃ Rs : Nat → Prop, Hid (Rr Rs w3 r bs 0) ∧ Hid (∀ k, Rs k → w.heap.size ≤ k ∧ k < w3.heap.size) := ⟨_, h1, fun k hk => by have := hB2.out.size; exact ⟨by omega, hk.2⟩⟩
  have hB3 : Hid (Below w.heap.size w w3) := hB2.out.trans (h2.mono hB2.out.size)
  have hr5 : Hid (¬ r < 5 ∧ w.heap.size ≤ r ∧ r < w3.heap.size) := by have := hB2.out.size; have := h5.out; exact ⟨by omega, by omega, h1.lt⟩
  clear h1 h2 hr hS2 hB2
  go_wp2
  obtain ⟨B3, hB3s⟩ : ∃ B3, Hid (B3 = w3.heap.size) := ⟨_, rfl⟩
  go_loopg [38] nk (fun gk si wr => ∃ i K : Nat, si = .int .i64 (i : Int) ∧ gk + i = nk ∧ Hid (Rr Rs wr r bs K) ∧ Hid (Below w.heap.size w wr) ∧ Hid (B3 ≤ wr.heap.size))
  case atStart => exact ⟨0, 0, rfl, rfl, hR3, hB3, Nat.le_of_eq hB3s.out⟩
  case round =>
    obtain ⟨i, K, rfl, hi, hR, hB, hS⟩ := hrel
    clear hR3 hB3
    by_cases hlt : i < nk
    · have hlt' : (i : Int) < (nk : Int) := by omega
      have hce : Hid (∃ q o, bo = some ⟨q, o, none⟩ ∧ wr.cell? ⟨q, o + i, none⟩ = some (.int .i64 (zs.getD i 0))) := by
        obtain ⟨ao', cap', h1, h2⟩ := hzH.out
        injection h1 with h3 h4 h5
        obtain ⟨q, o, h6, h7, h8⟩ := h2 (fun hh => by rw [hh] at h4; simp at h4; omega)
        exact ⟨q, o, h3.trans h6, (hB.out.cell (p := ⟨q, o + i, none⟩) h7).trans (h8 i (by rw [← h4]; exact hlt))⟩
      obtain ⟨q, o, rfl, hcell⟩ := hce.out
      clear hce
      generalize zs.getD i 0 = kd at hcell
      have hKl : Hid (K ≤ bs.length) := hR.out.le
      have hKn : ¬ ((nb : Int) < (K : Int)) := by have := hKl.out; have := hnb.out; omega
      have hKn2 : decide ((nb : Int) < (K : Int)) = false := decide_eq_false hKn
      have hKn3 : ¬ (nb < K) := by omega
      have hK0 : decide ((K : Int) < 0) = false := decide_eq_false (by omega)
      go_wp2_with fail
      refine (rat_c Rs r K bs wr hR.out).mono ?_
      rintro e w' ⟨rfl, rfl⟩
      go_wp2_with fail
      refine (wnew_c wr (fun k => k = wr.heap.size) rfl).mono ?_
      rintro e w5 ⟨rfl, h1, h2, h3⟩
      obtain ⟨g, hg⟩ : ∃ g, wr.heap.size = g := ⟨_, rfl⟩
      rw [hg] at h1 h3 ⊢
      have hgH : Hid (B3 ≤ g ∧ g < w5.heap.size ∧ w.heap.size ≤ g) := by have := hS.out; have := hB.out.size; exact ⟨by omega, by omega, by omega⟩
      have hW5 : Hid (Wr (fun k => k = g) w5 g []) := h1
      have hB5 : Hid (Below w.heap.size w w5) := hB.out.trans (h2.mono hB.out.size)
      have hR5 : Hid (Rr Rs w5 r bs K) := hR.out.under (Fr.of_below (S := fun _ => False) h2 fun k hk hk2 => by omega) fun _ _ h => h.elim
      clear h1 h2 h3 hg hR hB hS
      go_upto_block 2 with fail
      have hbyt : Hid (∀ b ∈ bs, b < 256) := hbH.out.byt
      have hE5 : Hid (E5 w5 al) := heH.out.below hB5.out
      go_cut [10] (fun se wx => ∃ K', Hid (∃ ys, Jn al bs K w.heap.size r g Rs w se wx K' ys))
      case first =>
        by_cases hk0 : kd = 0
        · subst hk0
          have hbd : Hid (Pk.ux (Pk.rv 0 0 (bs.drop K)) < 18446744073709551616) := (Pk.rv_bd hbyt.out K hKl.out).1
          go_wp2_with fail
          refine (ruint_c Rs r K bs al w5 hR5.out hE5.out).mono ?_
          rintro e w6 ⟨rfl, h1, h2⟩
          have hR6 : Hid (Rr Rs w6 r bs (K + Pk.ud (Pk.rv 0 0 (bs.drop K)))) := h1
          have hB6 : Hid (Below w.heap.size w w6) := h2.below hB5.out (by have := hB5.out.size; omega) (fun k _ hk => by have := hr5.out.2.1; have hk2 : k = r := hk; omega)
          have hW6 : Hid (Wr (fun k => k = g ∨ w6.heap.size ≤ k) w6 g []) := (hW5.out.under h2 fun k _ hk hk2 => by have := hr5.out.2.2; have := hgH.out.1; have := hB3s.out; have h7 : k = r := hk; have h8 : k = g := hk2; omega).to fun k _ hk => .inl hk
          have hF6 : Hid (∀ k, w6.heap.size ≤ k → k = g ∨ w6.heap.size ≤ k) := fun k hk => .inr hk
          have hg6 : Hid (g < w6.heap.size) := Nat.lt_of_lt_of_le hgH.out.2.1 h2.size
          clear h1 h2 hW5 hB5 hR5
          go_wp2_with fail
          refine (wuint_c _ g [] (Pk.ux (Pk.rv 0 0 (bs.drop K))) w6 hW6.out hF6.out hbd.out (by decide)).mono ?_
          rintro e w7 ⟨rfl, h3, h4⟩
          have hJ : Hid (∃ ys, Jn al bs K w.heap.size r g Rs w (ue al (Pk.rv 0 0 (bs.drop K))) w7 (K + Pk.ud (Pk.rv 0 0 (bs.drop K))) ys) := ⟨_, Jn.mk' hR6.out h3 h4 (fun k hk => by
            have := hg6.out
            rcases hk with h7 | h7
            · omega
            · omega) (fun k hk => by have := (hRs.out k hk).2; have := hB3s.out; have := hgH.out.1; omega) hB6.out hgH.out.2.2 hg6.out (ok_of fun x n hh => by
              have h9 := of_uint hbyt.out hKl.out hh
              exact ⟨h9.2.1, by rw [hh]; exact h9.1⟩)⟩
          clear h3 h4 hR6 hB6 hW6 hF6
          go_wp2_with fail
          go_meet
          exact ⟨_, hJ⟩
        by_cases hk1 : kd = 1
        · subst hk1
          have hbd : Hid (-9223372036854775808 ≤ zz (Pk.ux (Pk.rv 0 0 (bs.drop K))) ∧ zz (Pk.ux (Pk.rv 0 0 (bs.drop K))) ≤ 9223372036854775807) := zz_bd (Pk.rv_bd hbyt.out K hKl.out).1
          go_wp2_with fail
          refine (rint_c Rs r K bs al w5 hR5.out hE5.out).mono ?_
          rintro e w6 ⟨rfl, h1, h2⟩
          have hR6 : Hid (Rr Rs w6 r bs (K + Pk.ud (Pk.rv 0 0 (bs.drop K)))) := h1
          have hB6 : Hid (Below w.heap.size w w6) := h2.below hB5.out (by have := hB5.out.size; omega) (fun k _ hk => by have := hr5.out.2.1; have hk2 : k = r := hk; omega)
          have hW6 : Hid (Wr (fun k => k = g ∨ w6.heap.size ≤ k) w6 g []) := (hW5.out.under h2 fun k _ hk hk2 => by have := hr5.out.2.2; have := hgH.out.1; have := hB3s.out; have h7 : k = r := hk; have h8 : k = g := hk2; omega).to fun k _ hk => .inl hk
          have hF6 : Hid (∀ k, w6.heap.size ≤ k → k = g ∨ w6.heap.size ≤ k) := fun k hk => .inr hk
          have hg6 : Hid (g < w6.heap.size) := Nat.lt_of_lt_of_le hgH.out.2.1 h2.size
          clear h1 h2 hW5 hB5 hR5
          go_wp2_with fail
          refine (wint_c _ g [] (zz (Pk.ux (Pk.rv 0 0 (bs.drop K)))) w6 hW6.out hF6.out hbd.out.1 hbd.out.2 (by decide)).mono ?_
          rintro e w7 ⟨rfl, h3, h4⟩
          have hJ : Hid (∃ ys, Jn al bs K w.heap.size r g Rs w (ue al (Pk.rv 0 0 (bs.drop K))) w7 (K + Pk.ud (Pk.rv 0 0 (bs.drop K))) ys) := ⟨_, Jn.mk' hR6.out h3 h4 (fun k hk => by
            have := hg6.out
            rcases hk with h7 | h7
            · omega
            · omega) (fun k hk => by have := (hRs.out k hk).2; have := hB3s.out; have := hgH.out.1; omega) hB6.out hgH.out.2.2 hg6.out (ok_of fun x n hh => by
              have h9 := of_uint hbyt.out hKl.out hh
              exact ⟨h9.2.1, by rw [zg_zz, hh]; exact h9.1⟩)⟩
          clear h3 h4 hR6 hB6 hW6 hF6
          go_wp2_with fail
          go_meet
          exact ⟨_, hJ⟩
        by_cases hk2 : kd = 2
        · subst hk2
          have hbd : Hid (Pk.ux (rfl_ bs K) < 18446744073709551616) := rfl_lt hbyt.out K
          go_wp2_with fail
          refine (rfloat_c Rs r K bs al w5 hR5.out hE5.out).mono ?_
          rintro e w6 ⟨rfl, h1, h2⟩
          have hR6 : Hid (Rr Rs w6 r bs (K + Pk.ud (rfl_ bs K))) := h1
          have hB6 : Hid (Below w.heap.size w w6) := h2.below hB5.out (by have := hB5.out.size; omega) (fun k _ hk => by have := hr5.out.2.1; have hk2 : k = r := hk; omega)
          have hW6 : Hid (Wr (fun k => k = g ∨ w6.heap.size ≤ k) w6 g []) := (hW5.out.under h2 fun k _ hk hk2 => by have := hr5.out.2.2; have := hgH.out.1; have := hB3s.out; have h7 : k = r := hk; have h8 : k = g := hk2; omega).to fun k _ hk => .inl hk
          have hF6 : Hid (∀ k, w6.heap.size ≤ k → k = g ∨ w6.heap.size ≤ k) := fun k hk => .inr hk
          have hg6 : Hid (g < w6.heap.size) := Nat.lt_of_lt_of_le hgH.out.2.1 h2.size
          clear h1 h2 hW5 hB5 hR5
          go_wp2_with fail
          refine (wfloat_c _ g [] (Pk.ux (rfl_ bs K)) w6 hW6.out hF6.out hbd.out (by decide)).mono ?_
          rintro e w7 ⟨rfl, h3, h4⟩
          have hJ : Hid (∃ ys, Jn al bs K w.heap.size r g Rs w (ue al (rfl_ bs K)) w7 (K + Pk.ud (rfl_ bs K)) ys) := ⟨_, Jn.mk' hR6.out h3 h4 (fun k hk => by
            have := hg6.out
            rcases hk with h7 | h7
            · omega
            · omega) (fun k hk => by have := (hRs.out k hk).2; have := hB3s.out; have := hgH.out.1; omega) hB6.out hgH.out.2.2 hg6.out (ok_of fun x n hh => by
              have h9 := of_float hbyt.out hh
              exact ⟨h9.2.1, by rw [hh]; exact h9.1⟩)⟩
          clear h3 h4 hR6 hB6 hW6 hF6
          go_wp2_with fail
          go_meet
          exact ⟨_, hJ⟩
        by_cases hk3 : kd = 3
        · subst hk3
          obtain ⟨ca, cc, hab, hca, hcc, hok⟩ := cx_val hbyt.out K
          have hbd : Hid (ca < 18446744073709551616 ∧ cc < 18446744073709551616 ∧ ∀ x n, rcx bs K = .ok (x, n) → ca = x.1 ∧ cc = x.2) := ⟨hca, hcc, hok⟩
          have habH : Hid (cxv (rcx bs K) = .complex .f64 ca cc) := hab
          clear hab hca hcc hok
          go_wp2_with fail
          refine (rcomplex_c Rs r K bs al w5 hR5.out hE5.out).mono ?_
          rintro e w6 ⟨rfl, h1, h2⟩
          rw [habH.out]
          have hR6 : Hid (Rr Rs w6 r bs (K + Pk.ud (rcx bs K))) := h1
          have hB6 : Hid (Below w.heap.size w w6) := h2.below hB5.out (by have := hB5.out.size; omega) (fun k _ hk => by have := hr5.out.2.1; have hk2 : k = r := hk; omega)
          have hW6 : Hid (Wr (fun k => k = g ∨ w6.heap.size ≤ k) w6 g []) := (hW5.out.under h2 fun k _ hk hk2 => by have := hr5.out.2.2; have := hgH.out.1; have := hB3s.out; have h7 : k = r := hk; have h8 : k = g := hk2; omega).to fun k _ hk => .inl hk
          have hF6 : Hid (∀ k, w6.heap.size ≤ k → k = g ∨ w6.heap.size ≤ k) := fun k hk => .inr hk
          have hg6 : Hid (g < w6.heap.size) := Nat.lt_of_lt_of_le hgH.out.2.1 h2.size
          clear h1 h2 hW5 hB5 hR5
          go_wp2_with fail
          refine (wcomplex_c _ g [] ca cc w6 hW6.out hF6.out hbd.out.1 hbd.out.2.1 (by decide)).mono ?_
          rintro e w7 ⟨rfl, h3, h4⟩
          have hJ : Hid (∃ ys, Jn al bs K w.heap.size r g Rs w (ue al (rcx bs K)) w7 (K + Pk.ud (rcx bs K)) ys) := ⟨_, Jn.mk' hR6.out h3 h4 (fun k hk => by
            have := hg6.out
            rcases hk with h7 | h7
            · omega
            · omega) (fun k hk => by have := (hRs.out k hk).2; have := hB3s.out; have := hgH.out.1; omega) hB6.out hgH.out.2.2 hg6.out (ok_of fun x n hh => by
              have h9 := of_complex hbyt.out hh
              have h8 := hbd.out.2.2 x n hh
              exact ⟨h9.2.1, by rw [h8.1, h8.2]; exact h9.1⟩)⟩
          clear h3 h4 hR6 hB6 hW6 hF6
          go_wp2_with fail
          go_meet
          exact ⟨_, hJ⟩
        by_cases hk4 : kd = 4
        · subst hk4
          obtain ⟨ca, cc, hab, hca, hcc, hok⟩ := nw_val hbyt.out K
          have hbd : Hid (ca < 4294967296 ∧ cc < 4294967296 ∧ ∀ x n, rnw bs K = .ok (x, n) → ca = x.1 ∧ cc = x.2) := ⟨hca, hcc, hok⟩
          have habH : Hid (nwv (rnw bs K) = .complex .f32 ca cc) := hab
          clear hab hca hcc hok
          go_wp2_with fail
          refine (rnarrow_c Rs r K bs al w5 hR5.out hE5.out).mono ?_
          rintro e w6 ⟨rfl, h1, h2⟩
          rw [habH.out]
          have hR6 : Hid (Rr Rs w6 r bs (K + Pk.ud (rnw bs K))) := h1
          have hB6 : Hid (Below w.heap.size w w6) := h2.below hB5.out (by have := hB5.out.size; omega) (fun k _ hk => by have := hr5.out.2.1; have hk2 : k = r := hk; omega)
          have hW6 : Hid (Wr (fun k => k = g ∨ w6.heap.size ≤ k) w6 g []) := (hW5.out.under h2 fun k _ hk hk2 => by have := hr5.out.2.2; have := hgH.out.1; have := hB3s.out; have h7 : k = r := hk; have h8 : k = g := hk2; omega).to fun k _ hk => .inl hk
          have hF6 : Hid (∀ k, w6.heap.size ≤ k → k = g ∨ w6.heap.size ≤ k) := fun k hk => .inr hk
          have hg6 : Hid (g < w6.heap.size) := Nat.lt_of_lt_of_le hgH.out.2.1 h2.size
          clear h1 h2 hW5 hB5 hR5
          go_wp2_with fail
          refine (wnarrow_c _ g [] ca cc w6 hW6.out hF6.out hbd.out.1 hbd.out.2.1 (by decide)).mono ?_
          rintro e w7 ⟨rfl, h3, h4⟩
          have hJ : Hid (∃ ys, Jn al bs K w.heap.size r g Rs w (ue al (rnw bs K)) w7 (K + Pk.ud (rnw bs K)) ys) := ⟨_, Jn.mk' hR6.out h3 h4 (fun k hk => by
            have := hg6.out
            rcases hk with h7 | h7
            · omega
            · omega) (fun k hk => by have := (hRs.out k hk).2; have := hB3s.out; have := hgH.out.1; omega) hB6.out hgH.out.2.2 hg6.out (ok_of fun x n hh => by
              have h9 := of_narrow hbyt.out hh
              have h8 := hbd.out.2.2 x n hh
              exact ⟨h9.2.1, by rw [h8.1, h8.2]; exact h9.1⟩)⟩
          clear h3 h4 hR6 hB6 hW6 hF6
          go_wp2_with fail
          go_meet
          exact ⟨_, hJ⟩
        by_cases hk5 : kd = 5
        · subst hk5
          have hbd : Hid (((mkS (lx (rtx 1073741824 bs K))).size : Int) ≤ 1073741824) := tx_size hbyt.out hKl.out 1073741824 (by decide)
          go_wp2_with fail
          refine (rtext_c Rs r K 1073741824 bs al w5 hR5.out hE5.out hr5.out.1 (by decide)).mono ?_
          rintro e w6 ⟨rfl, h1, h2⟩
          have hR6 : Hid (Rr Rs w6 r bs (K + Pk.ud (rtx 1073741824 bs K))) := h1
          have hB6 : Hid (Below w.heap.size w w6) := h2.below hB5.out (by have := hB5.out.size; omega) (fun k _ hk => by have := hr5.out.2.1; have hk2 : k = r := hk; omega)
          have hW6 : Hid (Wr (fun k => k = g ∨ w6.heap.size ≤ k) w6 g []) := (hW5.out.under h2 fun k _ hk hk2 => by have := hr5.out.2.2; have := hgH.out.1; have := hB3s.out; have h7 : k = r := hk; have h8 : k = g := hk2; omega).to fun k _ hk => .inl hk
          have hF6 : Hid (∀ k, w6.heap.size ≤ k → k = g ∨ w6.heap.size ≤ k) := fun k hk => .inr hk
          have hg6 : Hid (g < w6.heap.size) := Nat.lt_of_lt_of_le hgH.out.2.1 h2.size
          clear h1 h2 hW5 hB5 hR5
          go_wp2_with fail
          refine (wtext_c _ g [] (mkS (lx (rtx 1073741824 bs K))) w6 hW6.out hF6.out (by have h9 := hbd.out; show 0 + _ ≤ _; omega)).mono ?_
          rintro e w7 ⟨rfl, h3, h4⟩
          have hJ : Hid (∃ ys, Jn al bs K w.heap.size r g Rs w (ue al (rtx 1073741824 bs K)) w7 (K + Pk.ud (rtx 1073741824 bs K)) ys) := ⟨_, Jn.mk' hR6.out h3 h4 (fun k hk => by
            have := hg6.out
            rcases hk with h7 | h7
            · omega
            · omega) (fun k hk => by have := (hRs.out k hk).2; have := hB3s.out; have := hgH.out.1; omega) hB6.out hgH.out.2.2 hg6.out (ok_of fun x n hh => by
              have h9 := of_text hbyt.out hKl.out hh
              exact ⟨h9.2.1, by rw [hh]; exact h9.1⟩)⟩
          clear h3 h4 hR6 hB6 hW6 hF6
          go_wp2_with fail
          go_meet
          exact ⟨_, hJ⟩
        by_cases hk6 : kd = 6
        · subst hk6
          have hbd : Hid ((lx (rli (rcx bs) bs K)).length ≤ 1048576 ∧ ∀ z ∈ lx (rli (rcx bs) bs K), z.1 < 18446744073709551616 ∧ z.2 < 18446744073709551616) := cl_val hbyt.out hKl.out
          go_wp2_with fail
          refine (rlist_c Rs r K bs al w5 hR5.out hE5.out hr5.out.1).mono ?_
          rintro e w6 ⟨v6, rfl, hnw, h1, h2⟩
          have hR6 : Hid (Rr Rs w6 r bs (K + Pk.ud (rli (rcx bs) bs K))) := h1
          have hB6 : Hid (Below w.heap.size w w6) := h2.below hB5.out (by have := hB5.out.size; omega) (fun k _ hk => by have := hr5.out.2.1; have hk2 : k = r := hk; omega)
          have hW6 : Hid (Wr (fun k => k = g ∨ w6.heap.size ≤ k) w6 g []) := (hW5.out.under h2 fun k _ hk hk2 => by have := hr5.out.2.2; have := hgH.out.1; have := hB3s.out; have h7 : k = r := hk; have h8 : k = g := hk2; omega).to fun k _ hk => .inl hk
          have hF6 : Hid (∀ k, w6.heap.size ≤ k → k = g ∨ w6.heap.size ≤ k) := fun k hk => .inr hk
          have hg6 : Hid (g < w6.heap.size) := Nat.lt_of_lt_of_le hgH.out.2.1 h2.size
          have hsrc : Hid (SrcL (fun k => k = g ∨ w6.heap.size ≤ k) w6 v6 (ccs (lx (rli (rcx bs) bs K)))) := hnw.srcL fun k hk => by
            have := hgH.out.2.1
            rcases hk with h7 | h7
            · left; omega
            · right; exact h7
          clear hnw
          clear h1 h2 hW5 hB5 hR5
          go_wp2_with fail
          refine (wlist_c _ g [] (lx (rli (rcx bs) bs K)) v6 w6 hW6.out hF6.out (by decide) hsrc.out hbd.out.1 hbd.out.2).mono ?_
          rintro e w7 ⟨rfl, h3, h4⟩
          have hJ : Hid (∃ ys, Jn al bs K w.heap.size r g Rs w (ue al (rli (rcx bs) bs K)) w7 (K + Pk.ud (rli (rcx bs) bs K)) ys) := ⟨_, Jn.mk' hR6.out h3 h4 (fun k hk => by
            have := hg6.out
            rcases hk with h7 | h7
            · omega
            · omega) (fun k hk => by have := (hRs.out k hk).2; have := hB3s.out; have := hgH.out.1; omega) hB6.out hgH.out.2.2 hg6.out (ok_of fun x n hh => by
              have h9 := of_list hbyt.out hKl.out hh
              exact ⟨h9.2.1, by rw [hh]; exact h9.1⟩)⟩
          clear h3 h4 hR6 hB6 hW6 hF6
          go_wp2_with fail
          go_meet
          exact ⟨_, hJ⟩
        by_cases hk7 : kd = 7
        · subst hk7
          have hbd : Hid ((lx (rli (rfl_ bs) bs K)).length ≤ 1048576 ∧ ∀ z ∈ lx (rli (rfl_ bs) bs K), z < 18446744073709551616) := fl_val hbyt.out hKl.out
          go_wp2_with fail
          refine (rfloats_c Rs r K bs al w5 hR5.out hE5.out hr5.out.1).mono ?_
          rintro e w6 ⟨v6, rfl, hnw, h1, h2⟩
          have hR6 : Hid (Rr Rs w6 r bs (K + Pk.ud (rli (rfl_ bs) bs K))) := h1
          have hB6 : Hid (Below w.heap.size w w6) := h2.below hB5.out (by have := hB5.out.size; omega) (fun k _ hk => by have := hr5.out.2.1; have hk2 : k = r := hk; omega)
          have hW6 : Hid (Wr (fun k => k = g ∨ w6.heap.size ≤ k) w6 g []) := (hW5.out.under h2 fun k _ hk hk2 => by have := hr5.out.2.2; have := hgH.out.1; have := hB3s.out; have h7 : k = r := hk; have h8 : k = g := hk2; omega).to fun k _ hk => .inl hk
          have hF6 : Hid (∀ k, w6.heap.size ≤ k → k = g ∨ w6.heap.size ≤ k) := fun k hk => .inr hk
          have hg6 : Hid (g < w6.heap.size) := Nat.lt_of_lt_of_le hgH.out.2.1 h2.size
          have hsrc : Hid (SrcL (fun k => k = g ∨ w6.heap.size ≤ k) w6 v6 (fcs (lx (rli (rfl_ bs) bs K)))) := hnw.srcL fun k hk => by
            have := hgH.out.2.1
            rcases hk with h7 | h7
            · left; omega
            · right; exact h7
          clear hnw
          clear h1 h2 hW5 hB5 hR5
          go_wp2_with fail
          refine (wfloats_c _ g [] (lx (rli (rfl_ bs) bs K)) v6 w6 hW6.out hF6.out (by decide) hsrc.out hbd.out.1 hbd.out.2).mono ?_
          rintro e w7 ⟨rfl, h3, h4⟩
          have hJ : Hid (∃ ys, Jn al bs K w.heap.size r g Rs w (ue al (rli (rfl_ bs) bs K)) w7 (K + Pk.ud (rli (rfl_ bs) bs K)) ys) := ⟨_, Jn.mk' hR6.out h3 h4 (fun k hk => by
            have := hg6.out
            rcases hk with h7 | h7
            · omega
            · omega) (fun k hk => by have := (hRs.out k hk).2; have := hB3s.out; have := hgH.out.1; omega) hB6.out hgH.out.2.2 hg6.out (ok_of fun x n hh => by
              have h9 := of_floats hbyt.out hKl.out hh
              exact ⟨h9.2.1, by rw [hh]; exact h9.1⟩)⟩
          clear h3 h4 hR6 hB6 hW6 hF6
          go_wp2_with fail
          go_meet
          exact ⟨_, hJ⟩
        have n0 : (kd == 0) = false := beq_eq_false_iff_ne.2 hk0
        have n1 : (kd == 1) = false := beq_eq_false_iff_ne.2 hk1
        have n2 : (kd == 2) = false := beq_eq_false_iff_ne.2 hk2
        have n3 : (kd == 3) = false := beq_eq_false_iff_ne.2 hk3
        have n4 : (kd == 4) = false := beq_eq_false_iff_ne.2 hk4
        have n5 : (kd == 5) = false := beq_eq_false_iff_ne.2 hk5
        have n6 : (kd == 6) = false := beq_eq_false_iff_ne.2 hk6
        have n7 : (kd == 7) = false := beq_eq_false_iff_ne.2 hk7
        have hS5 : Hid (B3 ≤ w5.heap.size) := by show _ ≤ _; have := hgH.out; omega
        clear hk0 hk1 hk2 hk3 hk4 hk5 hk6 hk7
        go_wp2_with fail
        go_roundg (gk - 1)
        case measure => omega
        case rel => exact ⟨i + 1, K, by go_num, by omega, hR5, hB5, hS5⟩
      case rest =>
        obtain ⟨K', hJ⟩ := hcut
        obtain ⟨ys, hJ2⟩ := hJ.out
        have hJH : Hid (Rr Rs wc r bs K' ∧ Wr (fun k => g ≤ k) wc g ys ∧ Below w.heap.size w wc ∧ g < wc.heap.size) := ⟨hJ2.rd, hJ2.wr, hJ2.bel, hJ2.siz⟩
        have hok := hJ2.ok
        clear hJ hJ2 hW5 hB5 hR5 hE5
        have hS5 : Hid (B3 ≤ wc.heap.size) := by show _ ≤ _; have := hgH.out; have := hJH.out.2.2.2; omega
        rcases hok with ⟨rfl, hK1, hK2⟩ | ⟨c, rfl, hKK⟩
        · have hK1H : Hid (K < K') := hK1
          have hK2H : Hid (ys = (bs.drop K).take (K' - K)) := hK2
          have hKl' : Hid (K' ≤ bs.length) := hJH.out.1.le
          clear hK1 hK2
          go_wp2_with fail
          refine (rat_c Rs r K' bs wc hJH.out.1).mono ?_
          rintro e w' ⟨rfl, rfl⟩
          have hbne : bs ≠ [] := fun hh => by have h8 := hKl'.out; have h9 := hK1H.out; rw [hh] at h8; exact absurd h8 (by simp; omega)
          obtain ⟨qb, ob, cb', hv, hcb, hqb, hcells⟩ := hbH.out.some_ hbne
          injection hv with hv1 hv2 hv3
          subst hv1
          subst hv3
          have hcv : Hid (∀ W, Below w.heap.size w W → (convert 26 9 (.slice (some ⟨qb, ob + K, none⟩) (K' - K) (cb - K))).run Tryd.prog W = .ok (.string (mkS ys)) W) := fun W hW => by
            rw [hK2H.out]
            exact conv_src (piece_srcO (fun i hi => (hW.cell (p := ⟨qb, ob + i, none⟩) hqb).trans (hcells i hi)) (by have := hKl'.out; have := hK1H.out; omega)) fun b hb => hbyt.out b (List.mem_of_mem_drop (List.mem_of_mem_take hb))
          have hyb : Hid (∀ b ∈ ys, b < 256) := fun b hb => by
            rw [hK2H.out] at hb
            exact hbyt.out b (List.mem_of_mem_drop (List.mem_of_mem_take hb))
          have hyl : Hid (ys.length ≤ 140737488355328) := by
            show _ ≤ _
            rw [hK2H.out, List.length_take, List.length_drop]
            have := hKl'.out; have := hnb.out; omega
          have c0 := hcv.out wc.drew ⟨hJH.out.2.2.1.os, hJH.out.2.2.1.tape, hJH.out.2.2.1.output, hJH.out.2.2.1.size, hJH.out.2.2.1.block⟩
          have k1 : decide ((K' : Int) < (K : Int)) = false := decide_eq_false (by have := hK1H.out; omega)
          have k2 : decide ((nb : Int) < (K' : Int)) = false := decide_eq_false (by have := hKl'.out; have := hnb.out; omega)
          have k3 : (K : Int) ≤ (K' : Int) := by have := hK1H.out; omega
          have k4 : (K' : Int) ≤ (cb : Int) := by have := hKl'.out; omega
          have k5 : ¬ cb = K := by have := hKl'.out; have := hK1H.out; omega
          have k6 : K' ≤ cb := by omega
          have k7 : K ≤ K' := by omega
          have k8 : K' ≤ nb := by have := hKl'.out; have := hnb.out; omega
          clear hcells hv2 hcb
          have hout : Hid (∀ W, Qt wc W → Calls Tryd.prog 12 #[.pointer (some ⟨g, 0, none⟩)] W fun e w' => ∃ v', e = .returned v' ∧ NewB W w' v' ys) := fun W hW => wout_c (fun k => g ≤ k) g ys W (hJH.out.2.1.under (hW.fr (fun _ => False)) fun _ _ h => h.elim) hyl.out
          go_wp2_with fail
          refine wp_region_held_drew (S := fun W => Hid (Below w.heap.size w W)) (by kernel_rfl) (hJH.out.2.2.1.trans ((Qt.drew wc).below _)) (fun hHeld => ?_)
          refine wpAnyH_take (i := 0) (oi := { dst := some 150, op := Go.Op.move (Go.Operand.tmp 10), type := 44, pos := "law.go:389", after := #[], guard := none }) (v := .nilIface) rfl (by kernel_rfl) (by kernel_rfl) (by kernel_rfl) (fun _ _ _ h => h) (Or.inl ⟨by kernel_rfl, ?_⟩) hHeld ?_
          · intro W hW
            clear hW
            go_simp
          simp only [Act.put, List.setIfInBounds_toArray, List.set_cons_zero, List.set_cons_succ]
          refine wpAnyH_take (i := 1) (oi := { dst := some 151, op := Go.Op.binOp Go.BinOp.neq 44 (Go.Operand.tmp 150) (Go.Operand.const Go.Value.nilIface) 44, type := 4, pos := "law.go:389", after := #[{ on := 0, ground := Go.Ground.data }], guard := none }) (v := .bool false) rfl (by kernel_rfl) (by kernel_rfl) (by kernel_rfl) (fun _ _ _ h => h) (Or.inl ⟨by kernel_rfl, ?_⟩) hHeld ?_
          · intro W hW
            clear hW
            go_simp
          simp only [Act.put, List.setIfInBounds_toArray, List.set_cons_zero, List.set_cons_succ]
          refine wpAnyH_take (i := 2) (oi := { dst := some 152, op := Go.Op.move (Go.Operand.tmp 151), type := 4, pos := "law.go:389", after := #[{ on := 1, ground := Go.Ground.data }], guard := none }) (v := .bool false) rfl (by kernel_rfl) (by kernel_rfl) (by kernel_rfl) (fun _ _ _ h => h) (Or.inl ⟨by kernel_rfl, ?_⟩) hHeld ?_
          · intro W hW
            clear hW
            go_simp
          simp only [Act.put, List.setIfInBounds_toArray, List.set_cons_zero, List.set_cons_succ]
          refine wpAnyH_take (i := 3) (oi := { dst := some 153, op := Go.Op.move (Go.Operand.tmp 27), type := 3, pos := "law.go:389", after := #[{ on := 2, ground := Go.Ground.guard }], guard := some (2, true) }) (v := undef) rfl (by kernel_rfl) (by kernel_rfl) (by kernel_rfl) (fun _ _ _ h => h) (Or.inr ⟨by kernel_rfl, rfl⟩) hHeld ?_
          simp only [Act.put, List.setIfInBounds_toArray, List.set_cons_zero, List.set_cons_succ]
          refine wpAnyH_take (i := 4) (oi := { dst := some 154, op := Go.Op.move (Go.Operand.tmp 8), type := 3, pos := "law.go:389", after := #[{ on := 2, ground := Go.Ground.guard }], guard := some (2, true) }) (v := undef) rfl (by kernel_rfl) (by kernel_rfl) (by kernel_rfl) (fun _ _ _ h => h) (Or.inr ⟨by kernel_rfl, rfl⟩) hHeld ?_
          simp only [Act.put, List.setIfInBounds_toArray, List.set_cons_zero, List.set_cons_succ]
          refine wpAnyH_take (i := 5) (oi := { dst := some 155, op := Go.Op.binOp Go.BinOp.neq 3 (Go.Operand.tmp 153) (Go.Operand.tmp 154) 3, type := 4, pos := "law.go:389", after := #[{ on := 3, ground := Go.Ground.data }, { on := 4, ground := Go.Ground.data }, { on := 2, ground := Go.Ground.guard }], guard := some (2, true) }) (v := undef) rfl (by kernel_rfl) (by kernel_rfl) (by kernel_rfl) (fun _ _ _ h => h) (Or.inr ⟨by kernel_rfl, rfl⟩) hHeld ?_
          simp only [Act.put, List.setIfInBounds_toArray, List.set_cons_zero, List.set_cons_succ]
          refine wpAnyH_take (i := 6) (oi := { dst := some 156, op := Go.Op.pick (Go.Operand.tmp 152) (Go.Operand.tmp 155) (Go.Operand.const (Go.Value.bool false)), type := 4, pos := "law.go:389", after := #[{ on := 2, ground := Go.Ground.data }, { on := 5, ground := Go.Ground.data }], guard := none }) (v := .bool false) rfl (by kernel_rfl) (by kernel_rfl) (by kernel_rfl) (fun _ _ _ h => h) (Or.inl ⟨by kernel_rfl, ?_⟩) hHeld ?_
          · intro W hW
            clear hW
            go_simp
          simp only [Act.put, List.setIfInBounds_toArray, List.set_cons_zero, List.set_cons_succ]
          refine wpAnyH_take (i := 7) (oi := { dst := some 157, op := Go.Op.move (Go.Operand.tmp 156), type := 4, pos := "law.go:389", after := #[{ on := 6, ground := Go.Ground.data }, { on := 2, ground := Go.Ground.chain }], guard := none }) (v := .bool false) rfl (by kernel_rfl) (by kernel_rfl) (by kernel_rfl) (fun _ _ _ h => h) (Or.inl ⟨by kernel_rfl, ?_⟩) hHeld ?_
          · intro W hW
            clear hW
            go_simp
          simp only [Act.put, List.setIfInBounds_toArray, List.set_cons_zero, List.set_cons_succ]
          refine wpAnyH_take (i := 8) (oi := { dst := some 158, op := Go.Op.move (Go.Operand.tmp 27), type := 3, pos := "law.go:389", after := #[{ on := 7, ground := Go.Ground.guard }], guard := some (7, false) }) (v := .int .i64 (K' : Int)) rfl (by kernel_rfl) (by kernel_rfl) (by kernel_rfl) (fun _ _ _ h => h) (Or.inl ⟨by kernel_rfl, ?_⟩) hHeld ?_
          · intro W hW
            clear hW
            go_simp
          simp only [Act.put, List.setIfInBounds_toArray, List.set_cons_zero, List.set_cons_succ]
          refine wpAnyH_take (i := 9) (oi := { dst := some 159, op := Go.Op.move (Go.Operand.tmp 8), type := 3, pos := "law.go:389", after := #[{ on := 7, ground := Go.Ground.guard }], guard := some (7, false) }) (v := .int .i64 (K : Int)) rfl (by kernel_rfl) (by kernel_rfl) (by kernel_rfl) (fun _ _ _ h => h) (Or.inl ⟨by kernel_rfl, ?_⟩) hHeld ?_
          · intro W hW
            clear hW
            go_simp
          simp only [Act.put, List.setIfInBounds_toArray, List.set_cons_zero, List.set_cons_succ]
          refine wpAnyH_take (i := 10) (oi := { dst := some 160, op := Go.Op.binOp Go.BinOp.lss 3 (Go.Operand.tmp 158) (Go.Operand.tmp 159) 3, type := 4, pos := "law.go:389", after := #[{ on := 8, ground := Go.Ground.data }, { on := 9, ground := Go.Ground.data }, { on := 7, ground := Go.Ground.guard }], guard := some (7, false) }) (v := .bool false) rfl (by kernel_rfl) (by kernel_rfl) (by kernel_rfl) (fun _ _ _ h => h) (Or.inl ⟨by kernel_rfl, ?_⟩) hHeld ?_
          · intro W hW
            clear hW
            go_simp
          simp only [Act.put, List.setIfInBounds_toArray, List.set_cons_zero, List.set_cons_succ]
          refine wpAnyH_take (i := 11) (oi := { dst := some 161, op := Go.Op.pick (Go.Operand.tmp 157) (Go.Operand.const (Go.Value.bool true)) (Go.Operand.tmp 160), type := 4, pos := "law.go:389", after := #[{ on := 7, ground := Go.Ground.data }, { on := 10, ground := Go.Ground.data }], guard := none }) (v := .bool false) rfl (by kernel_rfl) (by kernel_rfl) (by kernel_rfl) (fun _ _ _ h => h) (Or.inl ⟨by kernel_rfl, ?_⟩) hHeld ?_
          · intro W hW
            clear hW
            go_simp
          simp only [Act.put, List.setIfInBounds_toArray, List.set_cons_zero, List.set_cons_succ]
          refine wpAnyH_take (i := 12) (oi := { dst := some 162, op := Go.Op.move (Go.Operand.tmp 161), type := 4, pos := "law.go:389", after := #[{ on := 11, ground := Go.Ground.data }, { on := 7, ground := Go.Ground.chain }], guard := none }) (v := .bool false) rfl (by kernel_rfl) (by kernel_rfl) (by kernel_rfl) (fun _ _ _ h => h) (Or.inl ⟨by kernel_rfl, ?_⟩) hHeld ?_
          · intro W hW
            clear hW
            go_simp
          simp only [Act.put, List.setIfInBounds_toArray, List.set_cons_zero, List.set_cons_succ]
          refine wpAnyH_take (i := 13) (oi := { dst := some 163, op := Go.Op.move (Go.Operand.tmp 27), type := 3, pos := "law.go:389", after := #[{ on := 12, ground := Go.Ground.guard }], guard := some (12, false) }) (v := .int .i64 (K' : Int)) rfl (by kernel_rfl) (by kernel_rfl) (by kernel_rfl) (fun _ _ _ h => h) (Or.inl ⟨by kernel_rfl, ?_⟩) hHeld ?_
          · intro W hW
            clear hW
            go_simp
          simp only [Act.put, List.setIfInBounds_toArray, List.set_cons_zero, List.set_cons_succ]
          refine wpAnyH_take (i := 14) (oi := { dst := some 164, op := Go.Op.move (Go.Operand.tmp 0), type := 26, pos := "law.go:389", after := #[{ on := 12, ground := Go.Ground.guard }], guard := some (12, false) }) (v := .slice (some ⟨qb, ob, none⟩) nb cb) rfl (by kernel_rfl) (by kernel_rfl) (by kernel_rfl) (fun _ _ _ h => h) (Or.inl ⟨by kernel_rfl, ?_⟩) hHeld ?_
          · intro W hW
            clear hW
            go_simp
          simp only [Act.put, List.setIfInBounds_toArray, List.set_cons_zero, List.set_cons_succ]
          refine wpAnyH_take (i := 15) (oi := { dst := some 165, op := Go.Op.call { callee := Go.Callee.builtin Go.Builtin.len, args := #[Go.Operand.tmp 164], argTypes := #[26] }, type := 3, pos := "law.go:389", after := #[{ on := 14, ground := Go.Ground.data }, { on := 12, ground := Go.Ground.guard }], guard := some (12, false) }) (v := .int .i64 (nb : Int)) rfl (by kernel_rfl) (by kernel_rfl) (by kernel_rfl) (fun _ _ _ h => h) (Or.inl ⟨by kernel_rfl, ?_⟩) hHeld ?_
          · intro W hW
            clear hW
            go_simp
          simp only [Act.put, List.setIfInBounds_toArray, List.set_cons_zero, List.set_cons_succ]
          refine wpAnyH_take (i := 16) (oi := { dst := some 166, op := Go.Op.binOp Go.BinOp.gtr 3 (Go.Operand.tmp 163) (Go.Operand.tmp 165) 3, type := 4, pos := "law.go:389", after := #[{ on := 13, ground := Go.Ground.data }, { on := 15, ground := Go.Ground.data }, { on := 12, ground := Go.Ground.guard }], guard := some (12, false) }) (v := .bool false) rfl (by kernel_rfl) (by kernel_rfl) (by kernel_rfl) (fun _ _ _ h => h) (Or.inl ⟨by kernel_rfl, ?_⟩) hHeld ?_
          · intro W hW
            clear hW
            go_simp
          simp only [Act.put, List.setIfInBounds_toArray, List.set_cons_zero, List.set_cons_succ]
          refine wpAnyH_take (i := 17) (oi := { dst := some 167, op := Go.Op.pick (Go.Operand.tmp 162) (Go.Operand.const (Go.Value.bool true)) (Go.Operand.tmp 166), type := 4, pos := "law.go:389", after := #[{ on := 12, ground := Go.Ground.data }, { on := 16, ground := Go.Ground.data }], guard := none }) (v := .bool false) rfl (by kernel_rfl) (by kernel_rfl) (by kernel_rfl) (fun _ _ _ h => h) (Or.inl ⟨by kernel_rfl, ?_⟩) hHeld ?_
          · intro W hW
            clear hW
            go_simp
          simp only [Act.put, List.setIfInBounds_toArray, List.set_cons_zero, List.set_cons_succ]
          refine wpAnyH_take (i := 18) (oi := { dst := some 168, op := Go.Op.move (Go.Operand.tmp 167), type := 4, pos := "law.go:389", after := #[{ on := 17, ground := Go.Ground.data }, { on := 12, ground := Go.Ground.chain }], guard := none }) (v := .bool false) rfl (by kernel_rfl) (by kernel_rfl) (by kernel_rfl) (fun _ _ _ h => h) (Or.inl ⟨by kernel_rfl, ?_⟩) hHeld ?_
          · intro W hW
            clear hW
            go_simp
          simp only [Act.put, List.setIfInBounds_toArray, List.set_cons_zero, List.set_cons_succ]
          refine wpAnyH_take (i := 19) (oi := { dst := some 169, op := Go.Op.move (Go.Operand.tmp 10), type := 44, pos := "law.go:389", after := #[{ on := 18, ground := Go.Ground.guard }], guard := some (18, false) }) (v := .nilIface) rfl (by kernel_rfl) (by kernel_rfl) (by kernel_rfl) (fun _ _ _ h => h) (Or.inl ⟨by kernel_rfl, ?_⟩) hHeld ?_
          · intro W hW
            clear hW
            go_simp
          simp only [Act.put, List.setIfInBounds_toArray, List.set_cons_zero, List.set_cons_succ]
          refine wpAnyH_take (i := 20) (oi := { dst := some 170, op := Go.Op.binOp Go.BinOp.eql 44 (Go.Operand.tmp 169) (Go.Operand.const Go.Value.nilIface) 44, type := 4, pos := "law.go:389", after := #[{ on := 19, ground := Go.Ground.data }, { on := 18, ground := Go.Ground.guard }], guard := some (18, false) }) (v := .bool true) rfl (by kernel_rfl) (by kernel_rfl) (by kernel_rfl) (fun _ _ _ h => h) (Or.inl ⟨by kernel_rfl, ?_⟩) hHeld ?_
          · intro W hW
            clear hW
            go_simp
          simp only [Act.put, List.setIfInBounds_toArray, List.set_cons_zero, List.set_cons_succ]
          refine wpAnyH_take (i := 21) (oi := { dst := some 171, op := Go.Op.move (Go.Operand.tmp 170), type := 4, pos := "law.go:389", after := #[{ on := 20, ground := Go.Ground.data }, { on := 18, ground := Go.Ground.chain }, { on := 18, ground := Go.Ground.guard }], guard := some (18, false) }) (v := .bool true) rfl (by kernel_rfl) (by kernel_rfl) (by kernel_rfl) (fun _ _ _ h => h) (Or.inl ⟨by kernel_rfl, ?_⟩) hHeld ?_
          · intro W hW
            clear hW
            go_simp
          simp only [Act.put, List.setIfInBounds_toArray, List.set_cons_zero, List.set_cons_succ]
          refine wpAnyH_take (i := 22) (oi := { dst := some 172, op := Go.Op.move (Go.Operand.tmp 9), type := 24, pos := "law.go:389", after := #[{ on := 21, ground := Go.Ground.guard }], guard := some (21, true) }) (v := .pointer (some ⟨g, 0, none⟩)) rfl (by kernel_rfl) (by kernel_rfl) (by kernel_rfl) (fun _ _ _ h => h) (Or.inl ⟨by kernel_rfl, ?_⟩) hHeld ?_
          · intro W hW
            clear hW
            go_simp
          simp only [Act.put, List.setIfInBounds_toArray, List.set_cons_zero, List.set_cons_succ]
          refine wpAnyH_take (i := 25) (oi := { dst := some 175, op := Go.Op.move (Go.Operand.tmp 0), type := 26, pos := "law.go:389", after := #[{ on := 21, ground := Go.Ground.guard }], guard := some (21, true) }) (v := .slice (some ⟨qb, ob, none⟩) nb cb) rfl (by kernel_rfl) (by kernel_rfl) (by kernel_rfl) (fun _ _ _ h => h) (Or.inl ⟨by kernel_rfl, ?_⟩) hHeld ?_
          · intro W hW
            clear hW
            go_simp
          simp only [Act.put, List.setIfInBounds_toArray, List.set_cons_zero, List.set_cons_succ]
          refine wpAnyH_take (i := 26) (oi := { dst := some 176, op := Go.Op.move (Go.Operand.tmp 8), type := 3, pos := "law.go:389", after := #[{ on := 21, ground := Go.Ground.guard }], guard := some (21, true) }) (v := .int .i64 (K : Int)) rfl (by kernel_rfl) (by kernel_rfl) (by kernel_rfl) (fun _ _ _ h => h) (Or.inl ⟨by kernel_rfl, ?_⟩) hHeld ?_
          · intro W hW
            clear hW
            go_simp
          simp only [Act.put, List.setIfInBounds_toArray, List.set_cons_zero, List.set_cons_succ]
          refine wpAnyH_take (i := 27) (oi := { dst := some 177, op := Go.Op.move (Go.Operand.tmp 27), type := 3, pos := "law.go:389", after := #[{ on := 21, ground := Go.Ground.guard }], guard := some (21, true) }) (v := .int .i64 (K' : Int)) rfl (by kernel_rfl) (by kernel_rfl) (by kernel_rfl) (fun _ _ _ h => h) (Or.inl ⟨by kernel_rfl, ?_⟩) hHeld ?_
          · intro W hW
            clear hW
            go_simp
          simp only [Act.put, List.setIfInBounds_toArray, List.set_cons_zero, List.set_cons_succ]
          refine wpAnyH_take (i := 28) (oi := { dst := some 178, op := Go.Op.slice 26 (Go.Operand.tmp 175) (some (Go.Operand.tmp 176)) (some (Go.Operand.tmp 177)) none, type := 26, pos := "law.go:389", after := #[{ on := 25, ground := Go.Ground.data }, { on := 26, ground := Go.Ground.data }, { on := 27, ground := Go.Ground.data }, { on := 21, ground := Go.Ground.guard }], guard := some (21, true) }) (v := .slice (some ⟨qb, ob + K, none⟩) (K' - K) (cb - K)) rfl (by kernel_rfl) (by kernel_rfl) (by kernel_rfl) (fun _ _ _ h => h) (Or.inl ⟨by kernel_rfl, ?_⟩) hHeld ?_
          · intro W hW
            clear hW
            go_simp
          simp only [Act.put, List.setIfInBounds_toArray, List.set_cons_zero, List.set_cons_succ]
          refine wpAnyH_take (i := 29) (oi := { dst := some 179, op := Go.Op.convert 26 9 (Go.Operand.tmp 178), type := 9, pos := "law.go:389", after := #[{ on := 28, ground := Go.Ground.data }, { on := 21, ground := Go.Ground.guard }], guard := some (21, true) }) (v := .string (mkS ys)) rfl (by kernel_rfl) (by kernel_rfl) (by kernel_rfl) (fun _ _ _ h => h) (Or.inl ⟨by kernel_rfl, ?_⟩) hHeld ?_
          · intro W hW
            have c9 := hcv.out W hW.out
            clear hW
            go_simp
          simp only [Act.put, List.setIfInBounds_toArray, List.set_cons_zero, List.set_cons_succ]
          refine wpAnyH_ready (rs := [23]) (by kernel_rfl) (by simp) ?_
          refine AllReadyH.cons (o := { dst := some 173, op := Go.Op.call { callee := Go.Callee.value (Go.Operand.func 12), args := #[Go.Operand.tmp 172], argTypes := #[24] }, type := 26, pos := "law.go:389", after := #[{ on := 22, ground := Go.Ground.data }, { on := 21, ground := Go.Ground.chain }, { on := 21, ground := Go.Ground.guard }], guard := some (21, true) }) rfl (fun K0 hK0 => ?_) AllReadyH.nil
          rw [if_pos (by kernel_rfl)]
          go_wp2_with fail
          refine (hout.out wc.drew (Qt.drew wc)).mono ?_
          rintro e w8 ⟨v8, rfl, hn8⟩
          have c8 := conv_src hn8.own.src hyb.out
          have b8 : Hid (Below w.heap.size w w8) := hJH.out.2.2.1.trans (((Qt.drew wc).below _).trans (hn8.below.mono hJH.out.2.2.1.size))
          have s8 : Hid (B3 ≤ w8.heap.size) := Nat.le_trans hS5.out hn8.below.size
          have r8 : Hid (Rr Rs w8 r bs K') := hJH.out.1.under (Fr.of_below (S := fun _ => False) (((Qt.drew wc).below wc.heap.size).trans hn8.below) fun k hk hk2 => by omega) fun _ _ h => h.elim
          clear hn8
          refine hK0.out _ _ b8 (fun hHeld => ?_)
          clear hK0 K0
          try simp only [Act.put, List.setIfInBounds_toArray, List.set_cons_zero, List.set_cons_succ]
          refine wpAnyH_ready (rs := [24]) (by kernel_rfl) (by simp) ?_
          refine AllReadyH.cons (o := { dst := some 174, op := Go.Op.convert 26 9 (Go.Operand.tmp 173), type := 9, pos := "law.go:389", after := #[{ on := 23, ground := Go.Ground.data }, { on := 21, ground := Go.Ground.guard }], guard := some (21, true) }) rfl (fun K0 hK0 => ?_) AllReadyH.nil
          rw [if_pos (by kernel_rfl)]
          go_wp2_with fail
          refine hK0.out _ _ hHeld (fun hHeld => ?_)
          clear hK0 K0
          try simp only [Act.put, List.setIfInBounds_toArray, List.set_cons_zero, List.set_cons_succ]
          clear c8
          refine wpAnyH_take (i := 30) (oi := { dst := some 180, op := Go.Op.binOp Go.BinOp.neq 9 (Go.Operand.tmp 174) (Go.Operand.tmp 179) 9, type := 4, pos := "law.go:389", after := #[{ on := 24, ground := Go.Ground.data }, { on := 29, ground := Go.Ground.data }, { on := 21, ground := Go.Ground.guard }], guard := some (21, true) }) (v := .bool false) rfl (by kernel_rfl) (by kernel_rfl) (by kernel_rfl) (fun _ _ _ h => h) (Or.inl ⟨by kernel_rfl, ?_⟩) hHeld ?_
          · intro W hW
            clear hW
            go_simp
          simp only [Act.put, List.setIfInBounds_toArray, List.set_cons_zero, List.set_cons_succ]
          refine wpAnyH_take (i := 31) (oi := { dst := some 181, op := Go.Op.pick (Go.Operand.tmp 171) (Go.Operand.tmp 180) (Go.Operand.const (Go.Value.bool false)), type := 4, pos := "law.go:389", after := #[{ on := 21, ground := Go.Ground.data }, { on := 30, ground := Go.Ground.data }, { on := 18, ground := Go.Ground.guard }], guard := some (18, false) }) (v := .bool false) rfl (by kernel_rfl) (by kernel_rfl) (by kernel_rfl) (fun _ _ _ h => h) (Or.inl ⟨by kernel_rfl, ?_⟩) hHeld ?_
          · intro W hW
            clear hW
            go_simp
          simp only [Act.put, List.setIfInBounds_toArray, List.set_cons_zero, List.set_cons_succ]
          refine wpAnyH_take (i := 32) (oi := { dst := some 182, op := Go.Op.pick (Go.Operand.tmp 168) (Go.Operand.const (Go.Value.bool true)) (Go.Operand.tmp 181), type := 4, pos := "law.go:389", after := #[{ on := 18, ground := Go.Ground.data }, { on := 31, ground := Go.Ground.data }], guard := none }) (v := .bool false) rfl (by kernel_rfl) (by kernel_rfl) (by kernel_rfl) (fun _ _ _ h => h) (Or.inl ⟨by kernel_rfl, ?_⟩) hHeld ?_
          · intro W hW
            clear hW
            go_simp
          simp only [Act.put, List.setIfInBounds_toArray, List.set_cons_zero, List.set_cons_succ]
          refine wpAnyH_done (by kernel_rfl) ?_ _
          go_wp2_with fail
          go_roundg (gk - 1)
          case measure => omega
          case rel => exact ⟨i + 1, K', by go_num, by omega, r8, b8, s8⟩
        · have hKK' := hKK.symm
          subst hKK'
          have hq1 := nnil_c al c
          have hq2 := nil_c al c
          have hgd := guard_c al c
          have hkk : ((K : Int) != (K : Int)) = false := by simp
          have hkl : decide ((K : Int) < (K : Int)) = false := by simp
          go_wp2_with fail
          refine (rat_c Rs r K bs wc hJH.out.1).mono ?_
          rintro e w' ⟨rfl, rfl⟩
          go_wp2_with fail
          go_quiet (fail)
          go_wp2_with fail
          go_roundg (gk - 1)
          case measure => omega
          case rel => exact ⟨i + 1, K, by go_num, by omega, hJH.out.1.qt (qtN wc nq), hJH.out.2.2.1.trans ((qtN wc nq).below _), by show _ ≤ _; rw [(qtN wc nq).heap]; exact hS5.out⟩
    · have hlt' : decide ((i : Int) < (nk : Int)) = false := decide_eq_false (by omega)
      go_wp2
      go_ret
      exact ⟨rfl, hB.out⟩
end Go.Proofs.YthekodhcgbjnnaaDoor
