/-
  The walk of PermAsks: true at every two lists of up to 2^20 ints.
-/
import Derived.Test.YtbhhbnhoknlonaaDoorSl6
import Derived.Test.YtbhhbnhoknlonaaDoorPermDigitsWalk
namespace Go.Proofs.YtbhhbnhoknlonaaDoor
open Flo Go.RowKit Go.Shelf

theorem ckN_lt (p : List Int) : ckN p < 20 := by unfold ckN; split <;> omega
theorem invZ_len (p : List Int) : (invZ p).length ≤ p.length := by unfold invZ; split <;> simp
theorem afZ_len (p q : List Int) : (afZ p q).1.length ≤ p.length := by
  unfold afZ
  split
  · split
    · rw [afL_len (Nat.le_refl _)]; exact Nat.le_refl _
    · simp
  · simp
theorem own_below {w w' : World} {B : Nat} {e : TypeId} {s : Nat} {v : Value} {n : Nat} {xs : List Value} (h : w.ownsRow B e s v n xs) (hb : Below w.heap.size w w') : w'.ownsRow B e s v n xs := by
  obtain ⟨h1, h2⟩ := h
  refine ⟨h1, ?_⟩
  rcases h2 with h2 | ⟨g, cap, cur, hv, hg, hgb, r⟩
  · exact .inl h2
  · exact .inr ⟨g, cap, cur, hv, hg, by rw [hb.block g (Array.getElem?_eq_some_iff.1 hgb).1]; exact hgb, r⟩
theorem lpC_per {p : List Int} (hn : p.length ≤ 1048576) : ∀ x ∈ lpC p, Pm.per p x ≤ 1048576 := by
  intro x hx
  unfold lpC at hx
  split at hx
  · rename_i h
    have hx2 : x < p.length := by
      unfold Pm.lp at hx
      exact List.mem_range.1 (List.mem_filter.1 hx).1
    exact Nat.le_trans ((ckB_Ok h).per_le hx2) hn
  · cases hx
set_option maxHeartbeats 8000000 in
theorem permAsks.walk (v vq : Value) (p q : List Int) (w : World) (al : List Addr) (he : Errs w al) (hP : InZ w v p) (hQ : RdZ w vq q) (hn : p.length ≤ 1048576) (hm : q.length ≤ 1048576) :
    Calls Tryd.prog 3 #[v, vq] w fun e w' => e = .returned (.bool true) ∧ Below w.heap.size w w' := by
  have heH : Hid (Errs w al) := he
  have hPH : Hid (InZ w v p) := hP
  have hQH : Hid (RdZ w vq q) := hQ
  clear he hP hQ
  go_enter Tryd.func3, Tryd.ntmps3
  go_wp2_with fail
  refine (lives6_c w al heH.out).mono ?_
  rintro e w1 ⟨rfl, b1⟩
  have B1 : Hid (Below w.heap.size w w1) := b1
  clear b1
  go_wp2_with fail
  refine (spare_c v p w1 (hPH.out.below B1.out) (by omega)).mono ?_
  rintro e w2 ⟨F, C, rfl, ho, b2⟩
  have ho2 : Hid (w2.ownsRow w1.heap.size 3 1 (.slice (some ⟨F, 0, none⟩) (p.length + 80) C) (p.length + 80) (iz (p ++ mk7 80))) := ho
  have B2 : Hid (Below w.heap.size w w2) := B1.out.trans (b2.mono B1.out.size)
  have K2 : Hid (Below w2.heap.size w2 w2) := Below.refl _ _
  have R2 : Hid (RdZ w2 (.slice (some ⟨F, 0, none⟩) p.length C) p) := RdZ.mine ho
  clear ho b2 B1
  go_wp2_with fail
  refine (pCheck_c _ p w2 al (heH.out.below B2.out).perm R2.out (by omega)).mono ?_
  rintro e w3 ⟨rfl, b⟩
  have B3 : Hid (Below w.heap.size w w3) := B2.out.trans (b.mono B2.out.size)
  have K3 : Hid (Below w2.heap.size w2 w3) := K2.out.trans (b.mono K2.out.size)
  clear b
  go_wp2_with fail
  refine (num_er al (ckN p) (ckN_lt p) w3 (heH.out.below B3.out)).mono ?_
  rintro e w4 ⟨rfl, b⟩
  have B4 : Hid (Below w.heap.size w w4) := B3.out.trans (b.mono B3.out.size)
  have K4 : Hid (Below w2.heap.size w2 w4) := K3.out.trans (b.mono K3.out.size)
  clear b
  go_wp2_with fail
  refine (r6Check_c v p w4 (hPH.out.rd.below B4.out) (by omega)).mono ?_
  rintro e w5 ⟨rfl, b⟩
  have B5 : Hid (Below w.heap.size w w5) := B4.out.trans (b.mono B4.out.size)
  have K5 : Hid (Below w2.heap.size w2 w5) := K4.out.trans (b.mono K4.out.size)
  clear b
  rw [ckE_N]
  go_wp2_with fail
  refine (pInverse_c _ p w5 al (heH.out.below B5.out).perm (R2.out.below K5.out) (by omega)).mono ?_
  rintro e w6 ⟨va, rfl, ho, b⟩
  have Ra : Hid (RdZ w6 va (invZ p)) := RdZ.of_own ho
  clear ho
  have B6 : Hid (Below w.heap.size w w6) := B5.out.trans (b.mono B5.out.size)
  have K6 : Hid (Below w2.heap.size w2 w6) := K5.out.trans (b.mono K5.out.size)
  clear b
  go_wp2_with fail
  refine (r6Inverse_c v p w6 (hPH.out.rd.below B6.out) (by omega)).mono ?_
  rintro e w7 ⟨vb, rfl, ho, b⟩
  rw [ckE_N]
  have Rb : Hid (RdZ w7 vb (invZ p)) := RdZ.of_own ho
  have Ra7 : Hid (RdZ w7 va (invZ p)) := Ra.out.below b
  clear ho Ra
  have B7 : Hid (Below w.heap.size w w7) := B6.out.trans (b.mono B6.out.size)
  have K7 : Hid (Below w2.heap.size w2 w7) := K6.out.trans (b.mono K6.out.size)
  clear b
  go_wp2_with fail
  refine (sameZ_c va vb (invZ p) (invZ p) w7 Ra7.out Rb.out (by have := invZ_len p; omega)).mono ?_
  rintro e w8 ⟨rfl, dq, rfl⟩
  rw [show decide (invZ p = invZ p) = true from decide_eq_true rfl]
  clear Ra7 Rb
  have B8 : Hid (Below w.heap.size w (w7.drewN dq)) := below_drewN B7.out dq
  have K8 : Hid (Below w2.heap.size w2 (w7.drewN dq)) := below_drewN K7.out dq
  generalize w7.drewN dq = w8 at B8 K8 ⊢
  go_wp2_with fail
  refine (num_er al (ckN p) (ckN_lt p) w8 (heH.out.below B8.out)).mono ?_
  rintro e w9 ⟨rfl, b⟩
  have B9 : Hid (Below w.heap.size w w9) := B8.out.trans (b.mono B8.out.size)
  have K9 : Hid (Below w2.heap.size w2 w9) := K8.out.trans (b.mono K8.out.size)
  clear b
  go_wp2_with fail
  refine (pAfter_c _ _ p q w9 al (heH.out.below B9.out).perm (heH.out.below B9.out).len6 (R2.out.below K9.out) (hQH.out.below B9.out) hn hm).mono ?_
  rintro e w10 ⟨va, rfl, ho, b⟩
  have Ra : Hid (RdZ w10 va (afZ p q).1) := RdZ.of_own ho
  clear ho
  have B10 : Hid (Below w.heap.size w w10) := B9.out.trans (b.mono B9.out.size)
  have K10 : Hid (Below w2.heap.size w2 w10) := K9.out.trans (b.mono K9.out.size)
  clear b
  go_wp2_with fail
  refine (r6After_c v vq p q w10 (hPH.out.rd.below B10.out) (hQH.out.below B10.out) (by omega) (by omega)).mono ?_
  rintro e w11 ⟨vb, rfl, ho, b⟩
  rw [← afN_eq]
  have Rb : Hid (RdZ w11 vb (afZ p q).1) := RdZ.of_own ho
  have Ra7 : Hid (RdZ w11 va (afZ p q).1) := Ra.out.below b
  clear ho Ra
  have B11 : Hid (Below w.heap.size w w11) := B10.out.trans (b.mono B10.out.size)
  have K11 : Hid (Below w2.heap.size w2 w11) := K10.out.trans (b.mono K10.out.size)
  clear b
  go_wp2_with fail
  refine (sameZ_c va vb (afZ p q).1 (afZ p q).1 w11 Ra7.out Rb.out (by have := afZ_len p q; omega)).mono ?_
  rintro e w12 ⟨rfl, dq, rfl⟩
  rw [show decide ((afZ p q).1 = (afZ p q).1) = true from decide_eq_true rfl]
  clear Ra7 Rb
  have B12 : Hid (Below w.heap.size w (w11.drewN dq)) := below_drewN B11.out dq
  have K12 : Hid (Below w2.heap.size w2 (w11.drewN dq)) := below_drewN K11.out dq
  generalize w11.drewN dq = w12 at B12 K12 ⊢
  go_wp2_with fail
  refine (num_er al (afN p q) (afN_lt p q) w12 (heH.out.below B12.out)).mono ?_
  rintro e w13 ⟨rfl, b⟩
  have B13 : Hid (Below w.heap.size w w13) := B12.out.trans (b.mono B12.out.size)
  have K13 : Hid (Below w2.heap.size w2 w13) := K12.out.trans (b.mono K12.out.size)
  clear b
  go_wp2_with fail
  refine (callsIn_wide.1 (pSign_in _ p w13 al (heH.out.below B13.out).perm (R2.out.below K13.out) hn)).mono ?_
  rintro e w14 ⟨rfl, b⟩
  have B14 : Hid (Below w.heap.size w w14) := B13.out.trans (b.mono B13.out.size)
  have K14 : Hid (Below w2.heap.size w2 w14) := K13.out.trans (b.mono K13.out.size)
  clear b
  go_wp2_with fail
  refine (r6Sign_c v p w14 (hPH.out.rd.below B14.out) hn).mono ?_
  rintro e w15 ⟨rfl, b⟩
  rw [ckE_N]
  have B15 : Hid (Below w.heap.size w w15) := B14.out.trans (b.mono B14.out.size)
  have K15 : Hid (Below w2.heap.size w2 w15) := K14.out.trans (b.mono K14.out.size)
  clear b
  obtain ⟨sv, hsv⟩ : ∃ sv, sgV p = sv := ⟨_, rfl⟩
  rw [hsv]
  clear hsv
  go_wp2_with fail
  refine (num_er al (ckN p) (ckN_lt p) w15 (heH.out.below B15.out)).mono ?_
  rintro e w16 ⟨rfl, b⟩
  have B16 : Hid (Below w.heap.size w w16) := B15.out.trans (b.mono B15.out.size)
  have K16 : Hid (Below w2.heap.size w2 w16) := K15.out.trans (b.mono K15.out.size)
  clear b
  go_wp2_with fail
  refine (callsIn_wide.1 (cycles_in _ p w16 al (heH.out.below B16.out).perm (R2.out.below K16.out) hn)).mono ?_
  rintro e w17 ⟨vc, xs, rfl, hxs, hox, hcx, b⟩
  have X17 : Hid (w17.ownsRow w16.heap.size 22 1 vc xs.length (xs.map (·.1)) ∧ CyO p w16.heap.size w17 xs ∧ xs.map (·.2) = lpC p) := ⟨hox, hcx, hxs⟩
  clear hox hcx hxs
  have B17 : Hid (Below w.heap.size w w17) := B16.out.trans (b.mono B16.out.size)
  have K17 : Hid (Below w2.heap.size w2 w17) := K16.out.trans (b.mono K16.out.size)
  clear b
  go_wp2_with fail
  refine (r6Cycles_c v p w17 (hPH.out.rd.below B17.out) hn).mono ?_
  rintro e w18 ⟨vd, ys, rfl, hys, hoy, hcy, b⟩
  have Y18 : Hid (w18.ownsRow w17.heap.size 22 1 vd ys.length (ys.map (·.1)) ∧ CyO p w17.heap.size w18 ys ∧ ys.map (·.2) = lpC p) := ⟨hoy, hcy, hys⟩
  have X18 : Hid (w18.ownsRow w16.heap.size 22 1 vc xs.length (xs.map (·.1)) ∧ CyO p w16.heap.size w18 xs) := ⟨own_below X17.out.1 b, X17.out.2.1.below b⟩
  clear hoy hcy hys
  have B18 : Hid (Below w.heap.size w w18) := B17.out.trans (b.mono B17.out.size)
  have K18 : Hid (Below w2.heap.size w2 w18) := K17.out.trans (b.mono K17.out.size)
  clear b
  go_wp2_with fail
  refine (sameLists_c vc vd p w16.heap.size w17.heap.size xs ys w18 (lpC_per hn) X18.out.1 Y18.out.1 X17.out.2.2 Y18.out.2.2 X18.out.2 Y18.out.2.1 (Nat.le_trans (lpC_len p) hn)).mono ?_
  rintro e w19 ⟨rfl, dq, rfl⟩
  have B19 : Hid (Below w.heap.size w (w18.drewN dq)) := below_drewN B18.out dq
  have K19 : Hid (Below w2.heap.size w2 (w18.drewN dq)) := below_drewN K18.out dq
  generalize w18.drewN dq = w19 at B19 K19 ⊢
  go_wp2_with fail
  refine (kept_own ho2.out K19.out (hPH.out.rd.below B19.out) (by omega)).mono ?_
  rintro e w20 ⟨rfl, dq, rfl⟩
  go_wp2
  go_ret
  exact ⟨rfl, below_drewN B19.out dq⟩
end Go.Proofs.YtbhhbnhoknlonaaDoor
