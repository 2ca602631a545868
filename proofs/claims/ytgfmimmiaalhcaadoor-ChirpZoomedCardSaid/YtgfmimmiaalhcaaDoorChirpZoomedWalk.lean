/-
  The walk of ChirpZoomed.
-/
import Derived.Test.YtgfmimmiaalhcaaDoorLc2
import Derived.Test.YtgfmimmiaalhcaaDoorRows
namespace Go.Proofs.YtgfmimmiaalhcaaDoor
open Flo Go.RowKit
theorem umz (n : Int) (q : Nat) (hq : 0 < q) : ∃ r : Nat, r < q ∧ (IntKind.u64.wrap n).tmod (q : Int) = (r : Int) := by
  rw [IntKind.wrap_u64, Int.tmod_eq_emod_of_nonneg (by omega)]
  refine ⟨((n % 18446744073709551616) % (q : Int)).toNat, ?_, ?_⟩
  · have h1 := Int.emod_lt_of_pos (n % 18446744073709551616) (show (0 : Int) < (q : Int) by omega)
    have h2 := Int.emod_nonneg (n % 18446744073709551616) (show (q : Int) ≠ 0 by omega)
    omega
  · have h2 := Int.emod_nonneg (n % 18446744073709551616) (show (q : Int) ≠ 0 by omega)
    omega
theorem t40z (k : Int) : -1099511627776 < k.tmod 1099511627776 ∧ k.tmod 1099511627776 < 1099511627776 :=
  ⟨by have := Int.lt_tmod_of_pos k (show (0 : Int) < 1099511627776 by omega); omega, Int.tmod_lt_of_pos k (by omega)⟩
theorem addrz (b i : Nat) : (⟨b, 0, none⟩ : Addr).add i = ⟨b, i, none⟩ := by
  unfold Addr.add
  by_cases h : i = 0
  · subst h; simp
  · simp [h]
theorem few {C L : Nat} (hC : C ≤ 60) (hL0 : 0 < L) (hL : L ≤ 60) : C ≤ 1048576 / L := by
  rw [Nat.le_div_iff_mul_le hL0]
  have : C * L ≤ 60 * 60 := Nat.mul_le_mul hC hL
  omega
theorem Row.news {w : World} {B g n : Nat} {f : Nat → Nat × Nat} {i : Nat} {us : List (Nat × Nat)} (h : Row w B g n f i us) : ∀ j u, (cz us)[j]? = some u → w.cell? ((⟨g, 0, none⟩ : Addr).add j) = some u := by
  intro j u hj
  have hjl : j < n := by
    have h1 := (List.getElem?_eq_some_iff.1 hj).1
    rw [cz_len, h.len] at h1
    exact h1
  have h1 := h.own.cellAt j (by omega)
  rw [hj] at h1
  rw [addrz]
  simpa using h1
theorem cz_one (us : List (Nat × Nat)) : ∀ u ∈ cz us, u.oneCell' = true := by
  intro u hu
  obtain ⟨z, _, rfl⟩ := List.mem_map.1 hu
  rfl
theorem Lim.app {us vs : List (Nat × Nat)} (h : Lim us) (k : Lim vs) : Lim (us ++ vs) := by
  intro i hi
  rw [List.length_append] at hi
  by_cases c : i < us.length
  · rw [show (us ++ vs).getD i (0, 0) = us.getD i (0, 0) by simp [List.getD, List.getElem?_append, c]]
    exact h i c
  · rw [show (us ++ vs).getD i (0, 0) = vs.getD (i - us.length) (0, 0) by simp [List.getD, List.getElem?_append, c]]
    exact k _ (by omega)
/-- the parts, joined, are the whole -/
theorem parts_lk {w1 w2 w3 : World} {g1 g2 g3 m L C c : Nat} {fr : Int} {f : Nat → Nat × Nat} {us hs ts : List (Nat × Nat)} (hc : c ≤ C) (h1 : Row w1 g1 g1 C (zme m L fr f) C us) (h2 : Row w2 g2 g2 c (zme m L fr f) c hs) (h3 : Row w3 g3 g3 (C - c) (zme m L (fr + (c : Int)) f) (C - c) ts) : Lks us (hs ++ ts) := by
  refine ⟨by rw [List.length_append, h1.len, h2.len, h3.len]; omega, fun i hi => ?_⟩
  rw [h1.len] at hi
  refine (h1.up i hi).trans ?_
  by_cases c' : i < c
  · rw [show (hs ++ ts).getD i (0, 0) = hs.getD i (0, 0) by simp [List.getD, List.getElem?_append, h2.len, c']]
    exact (h2.up i c').symm
  · rw [show (hs ++ ts).getD i (0, 0) = ts.getD (i - c) (0, 0) by simp [List.getD, List.getElem?_append, h2.len, c']]
    have := h3.up (i - c) (by omega)
    rw [zme_part, show c + (i - c) = i by omega] at this
    exact this.symm
set_option maxRecDepth 100000 in
set_option maxHeartbeats 8000000 in
theorem zoomed_w (v : Value) (zs : List Nat) (m0 fr0 c0 k0 : Int) (w : World) (hin : InU w v zs) (hr : zs.length * 8 ≤ 140737488351232) :
    Calls Tryd.prog 7 #[v, .int .i64 m0, .int .i64 fr0, .int .i64 c0, .int .i64 k0] w fun e w' => e = .returned (.bool true) ∧ Below w.heap.size w w' := by
  have hinH : Hid (InU w v zs) := hin
  have hrH : Hid (zs.length * 8 ≤ 140737488351232) := hr
  have hlim : Hid (Lim (prs zs)) := prs_lim (by obtain ⟨_, _, _, _, h⟩ := hin; exact h)
  obtain ⟨L, hL⟩ : ∃ L, Hid (zs.length / 2 = L) := ⟨_, (rfl : _ = _)⟩
  have hLb : L ≤ 8796093021952 := by rw [← hL.out]; omega
  obtain ⟨xs, hxs⟩ : ∃ xs, Hid (prs zs = xs) := ⟨_, (rfl : _ = _)⟩
  have hxl : Hid (xs.length = L) := by show _ = _; rw [← hxs.out, prs_len, hL.out]
  rw [hxs.out] at hlim
  obtain ⟨i0, hi, hz0, hz1, hz2⟩ := info_cx
  clear hin hr
  go_enter Tryd.func7, Tryd.ntmps7
  go_wp2_with fail
  refine (lives13_c _).mono ?_
  rintro e w1 ⟨rfl, B1⟩
  have A1 : Hid (Below w.heap.size w w1) := B1
  have hin1 : Hid (InU w1 v zs) := hinH.out.below B1
  clear B1 hinH
  go_wp2_with fail
  refine (listOq_c v zs w1 hin1.out hrH.out).mono ?_
  rintro e w2 ⟨vx, rfl, hvx, ho, B2⟩
  rw [hL.out, hxs.out] at ho
  obtain ⟨gx, cx, rfl⟩ : ∃ gx cx, vx = .slice (some ⟨gx, 0, none⟩) L cx := by
    rcases ho.2 with ⟨h, _⟩ | ⟨g, cc, _, h, _⟩
    · exact absurd h hvx
    · exact ⟨g, cc, h⟩
  have hX2 : Hid (RdC w2 (.slice (some ⟨gx, 0, none⟩) L cx) xs) := by
    rw [← hxl.out] at ho
    have h2 := RdC.of_own ho
    rw [hxl.out] at h2
    exact h2
  have A2 : Hid (Below w.heap.size w w2) := below_tr A1.out B2
  clear B2 A1 hin1 hvx ho
  by_cases hL0 : L = 0
  · subst hL0
    go_wp2_with fail
    go_ret
    exact ⟨rfl, A2.out⟩
  · have g0 : ((L : Int) == 0) = false := beq_eq_false_iff_ne.2 (by omega)
    by_cases hL6 : L > 60
    · have g1 : (L : Int) > 60 := by omega
      go_wp2_with fail
      go_ret
      exact ⟨rfl, A2.out⟩
    · have g1 : decide ((L : Int) > 60) = false := decide_eq_false (by omega)
      have hLp : 0 < L := by omega
      have hL60 : L ≤ 60 := by omega
      have fwd_c : Hid (∀ W, RdC W (.slice (some ⟨gx, 0, none⟩) L cx) xs → Calls Tryd.prog 26 #[.slice (some ⟨gx, 0, none⟩) L cx] W fun e w' => ∃ g us, e = .returned (.tuple #[.slice (some ⟨g, 0, none⟩) L L, .nilIface]) ∧ W.heap.size ≤ g ∧ Row w' g g L (fun k => dsm L k fun j => xs.getD j (0, 0)) L us ∧ Below W.heap.size W w') := fun W hW => forwardOk_c _ xs L W hW hlim.out hxl.out hLp (by omega)
      have zm_c : Hid (∀ (M C : Nat) (f : Int) W, RdC W (.slice (some ⟨gx, 0, none⟩) L cx) xs → 0 < M → M ≤ 4194304 → C ≤ 60 → Calls Tryd.prog 24 #[.slice (some ⟨gx, 0, none⟩) L cx, .int .i64 (M : Int), .int .i64 f, .int .i64 (C : Int)] W fun e w' => ∃ g us, e = .returned (.tuple #[.slice (some ⟨g, 0, none⟩) C C, .nilIface]) ∧ W.heap.size ≤ g ∧ Row w' g g C (zme M L f fun j => xs.getD j (0, 0)) C us ∧ Below W.heap.size W w') := fun M C f W hW h1 h2 h3 => zoomOk_c _ xs M L C f W hW hlim.out hxl.out hLp (by omega) h1 h2 (few h3 hLp hL60)
      clear hlim hxl
      go_wp2_with fail
      refine (fwd_c.out w2 hX2.out).mono ?_
      rintro e w3 ⟨g3, u3, rfl, hg3, R3, B3⟩
      have hR3 : Hid (Row w3 g3 g3 L (fun k => dsm L k fun j => xs.getD j (0, 0)) L u3) := R3
      have A3 : Hid (Below w.heap.size w w3) := below_tr A2.out B3
      have hX3 : Hid (RdC w3 (.slice (some ⟨gx, 0, none⟩) L cx) xs) := hX2.out.below B3
      clear R3 B3 A2 hX2 hg3 fwd_c
      go_wp2_with fail
      refine (zm_c.out L L 0 w3 hX3.out hLp (by omega) hL60).mono ?_
      rintro e w4 ⟨g4, u4, rfl, hg4, R4, B4⟩
      have hR4 : Hid (Row w4 g4 g4 L (zme L L 0 fun j => xs.getD j (0, 0)) L u4) := R4
      have hR3 : Hid (Row w4 g3 g3 L (fun k => dsm L k fun j => xs.getD j (0, 0)) L u3) := hR3.out.keep B4
      have A4 : Hid (Below w.heap.size w w4) := below_tr A3.out B4
      have hX4 : Hid (RdC w4 (.slice (some ⟨gx, 0, none⟩) L cx) xs) := hX3.out.below B4
      clear R4 B4 A3 hX3 hg4
      go_wp2_with fail
      refine (sameList13_c _ _ u3 u4 w4 hR3.out.rd hR4.out.rd hR3.out.lim hR4.out.lim ⟨hR3.out.len.trans hR4.out.len.symm, fun i hi' => by
        have hi : i < L := by rw [← hR3.out.len]; exact hi'
        have h4 := hR4.out.up i hi
        rw [zme_fwd L _ i hi] at h4
        exact (hR3.out.up i hi).trans h4.symm⟩ (by rw [hR3.out.len]; omega)).mono ?_
      rintro e w5 ⟨rfl, d5, rfl⟩
      have A5 : Hid (Below w.heap.size w (w4.drewN d5)) := below_drewN A4.out d5
      have hX5 : Hid (RdC (w4.drewN d5) (.slice (some ⟨gx, 0, none⟩) L cx) xs) := hX4.out.below (below_drewN (Below.refl _ _) d5)
      clear A4 hX4 hR3 hR4
      generalize w4.drewN d5 = w5 at *
      obtain ⟨r1, hr1, er1⟩ := umz m0 4194304 (by decide)
      have er1' : (IntKind.u64.wrap m0).tmod 4194304 = (r1 : Int) := er1
      obtain ⟨M, hM, hM1⟩ : ∃ M : Nat, Hid (M = 1 + r1) ∧ (1 : Int) + (r1 : Int) = (M : Int) := ⟨1 + r1, (rfl : _ = _), by omega⟩
      have hM0 : 0 < M := by have := hM.out; omega
      have hM2 : M ≤ 4194304 := by have := hM.out; omega
      obtain ⟨fr, hfr⟩ : ∃ fr, fr0.tmod 1099511627776 = fr := ⟨_, rfl⟩
      have hfb := t40z fr0
      rw [hfr] at hfb
      have hf1 := hfb.1
      have hf2 := hfb.2
      obtain ⟨C, hC, er2⟩ := umz c0 40 (by decide)
      have er2' : (IntKind.u64.wrap c0).tmod 40 = (C : Int) := er2
      obtain ⟨C1, hC1, hC1'⟩ : ∃ C1 : Nat, Hid (C1 = C + 1) ∧ (C : Int) + 1 = (C1 : Int) := ⟨C + 1, (rfl : _ = _), by omega⟩
      have hC1b : C1 ≤ 40 := by have := hC1.out; omega
      have hC1p : 0 < C1 := by have := hC1.out; omega
      have hC1n : ¬ (C1 : Int) = 0 := by omega
      obtain ⟨c, hc, er3⟩ := umz k0 C1 hC1p
      have hcC : c ≤ C := by have := hC1.out; omega
      obtain ⟨T, hT, hT1⟩ : ∃ T : Nat, Hid (T = C - c) ∧ (C : Int) - (c : Int) = (T : Int) := ⟨C - c, (rfl : _ = _), by omega⟩
      obtain ⟨M3, hM3, hM3'⟩ : ∃ M3 : Int, (3 : Int) * (M : Int) = M3 ∧ Hid (M3 = 3 * (M : Int)) := ⟨_, rfl, (rfl : _ = _)⟩
      have hM4 : 0 ≤ M3 := by omega
      have hM5 : M3 ≤ 12582912 := by omega
      have hTb : T ≤ 60 := by have := hT.out; omega
      have hCb : C ≤ 60 := by omega
      have hcb : c ≤ 60 := by omega
      clear er1 er2 hfb
      go_wp2_with fail
      refine (zm_c.out M C fr w5 hX5.out hM0 hM2 hCb).mono ?_
      rintro e w6 ⟨g6, u6, rfl, hg6, R6, B6⟩
      have hR6 : Hid (Row w6 g6 g6 C (zme M L fr fun j => xs.getD j (0, 0)) C u6) := R6
      have A6 : Hid (Below w.heap.size w w6) := below_tr A5.out B6
      have hX6 : Hid (RdC w6 (.slice (some ⟨gx, 0, none⟩) L cx) xs) := hX5.out.below B6
      clear R6 B6 A5 hX5 hg6
      go_wp2_with fail
      refine (zm_c.out M c fr w6 hX6.out hM0 hM2 hcb).mono ?_
      rintro e w7 ⟨g7, u7, rfl, hg7, R7, B7⟩
      have hR7 : Hid (Row w7 g7 g7 c (zme M L fr fun j => xs.getD j (0, 0)) c u7) := R7
      have hR6 : Hid (Row w7 g6 g6 C (zme M L fr fun j => xs.getD j (0, 0)) C u6) := hR6.out.keep B7
      have A7 : Hid (Below w.heap.size w w7) := below_tr A6.out B7
      have hX7 : Hid (RdC w7 (.slice (some ⟨gx, 0, none⟩) L cx) xs) := hX6.out.below B7
      clear R7 B7 A6 hX6 hg7
      go_wp2_with fail
      refine (zm_c.out M T (fr + (c : Int)) w7 hX7.out hM0 hM2 hTb).mono ?_
      rintro e w8 ⟨g8, u8, rfl, hg8, R8, B8⟩
      have hR8 : Hid (Row w8 g8 g8 T (zme M L (fr + (c : Int)) fun j => xs.getD j (0, 0)) T u8) := R8
      have hR7 : Hid (Row w8 g7 g7 c (zme M L fr fun j => xs.getD j (0, 0)) c u7) := hR7.out.keep B8
      have hR6 : Hid (Row w8 g6 g6 C (zme M L fr fun j => xs.getD j (0, 0)) C u6) := hR6.out.keep B8
      have A8 : Hid (Below w.heap.size w w8) := below_tr A7.out B8
      have hX8 : Hid (RdC w8 (.slice (some ⟨gx, 0, none⟩) L cx) xs) := hX7.out.below B8
      clear R8 B8 A7 hX7 hg8
      go_wp2_with fail
      refine (zm_c.out M C (fr + M3) w8 hX8.out hM0 hM2 hCb).mono ?_
      rintro e w9 ⟨g9, u9, rfl, hg9, R9, B9⟩
      have hR9 : Hid (Row w9 g9 g9 C (zme M L (fr + M3) fun j => xs.getD j (0, 0)) C u9) := R9
      have hR8 : Hid (Row w9 g8 g8 T (zme M L (fr + (c : Int)) fun j => xs.getD j (0, 0)) T u8) := hR8.out.keep B9
      have hR7 : Hid (Row w9 g7 g7 c (zme M L fr fun j => xs.getD j (0, 0)) c u7) := hR7.out.keep B9
      have hR6 : Hid (Row w9 g6 g6 C (zme M L fr fun j => xs.getD j (0, 0)) C u6) := hR6.out.keep B9
      have A9 : Hid (Below w.heap.size w w9) := below_tr A8.out B9
      clear R9 B9 A8 hX8 hg9 zm_c
      have hE : Hid ((w9.alloc (.cells #[] 23)).ownsRow w9.heap.size 23 1 (.slice (some ⟨w9.heap.size, 0, none⟩) 0 0) 0 (cz [])) := emptyCx w9 _ (Nat.le_refl _)
      have bE : Below w9.heap.size w9 (w9.alloc (.cells #[] 23)) := (Below.refl _ w9).alloc (Nat.le_refl _) _
      have n7 : Hid (∀ j u, (cz u7)[j]? = some u → (w9.alloc (.cells #[] 23)).cell? ((⟨g7, 0, none⟩ : Addr).add j) = some u) := (hR7.out.keep bE).news
      have l7 : Hid ((cz u7).length = c * 1) := by show _ = _; rw [cz_len, hR7.out.len, Nat.mul_one]
      have l8 : Hid ((cz u8).length = T * 1) := by show _ = _; rw [cz_len, hR8.out.len, Nat.mul_one]
      have hLk : Hid (Lks u6 (u7 ++ u8)) := by
        have h8 := hR8.out
        rw [hT.out] at h8
        exact parts_lk hcC hR6.out hR7.out h8
      have hLm : Hid (Lim (u7 ++ u8)) := hR7.out.lim.app hR8.out.lim
      have hLf : Hid (Lks u6 u9) := ⟨hR6.out.len.trans hR9.out.len.symm, fun i hi' => by
        have hi : i < C := by rw [← hR6.out.len]; exact hi'
        have h9 := hR9.out.up i hi
        rw [hM3'.out, zme_far] at h9
        exact (hR6.out.up i hi).trans h9.symm⟩
      clear bE
      go_wp2_with (at_builtin; refine wpList_append_own _ rfl _ _ 38 rfl w9.heap.size 23 i0 (.complex .f64 0 0) 1 16 Tryd.underlying38 hi hz0 hz1 hz2 rfl (by decide) _ _ _ rfl hE.out ⟨g7, 0, none⟩ c c (cz u7) rfl l7.out n7.out (cz_one u7) (by unfold maxLen; omega) (by omega) (by simp) ?_)
      intro v1 wa q1 q2 q3
      have O1 : Hid (wa.ownsRow w9.heap.size 23 1 v1 c (cz u7)) := by
        have : cz [] ++ cz u7 = cz u7 := rfl
        rw [this] at q1
        exact q1
      have q2' : (w9.alloc (.cells #[] 23)).grownBy wa (some w9.heap.size) := q2
      have Ba : Hid (Below w9.heap.size w9 wa) := ((Below.refl _ w9).alloc (Nat.le_refl _) _).grown q2' (by simp) (fun k hk => by have h2 : w9.heap.size = k := Option.some.inj hk; omega)
      have hsa := Ba.out.size
      have n8 : Hid (∀ j u, (cz u8)[j]? = some u → wa.cell? ((⟨g8, 0, none⟩ : Addr).add j) = some u) := (hR8.out.keep Ba.out).news
      clear q1 q2 q2' q3 hE n7
      go_wp2_with (at_builtin; refine wpList_append_own _ rfl _ _ 38 rfl w9.heap.size 23 i0 (.complex .f64 0 0) 1 16 Tryd.underlying38 hi hz0 hz1 hz2 rfl (by decide) _ _ _ rfl O1.out ⟨g8, 0, none⟩ T T (cz u8) rfl l8.out n8.out (cz_one u8) (by unfold maxLen; omega) (by omega) hsa ?_)
      intro v2 wb q1 q2 q3
      have O2 : Hid (wb.ownsRow w9.heap.size 23 1 v2 (u7 ++ u8).length (cz (u7 ++ u8))) := by
        have e1 : cz u7 ++ cz u8 = cz (u7 ++ u8) := by simp [cz]
        have e2 : (u7 ++ u8).length = c + T := by rw [List.length_append, hR7.out.len, hR8.out.len]
        rw [e1, ← e2] at q1
        exact q1
      have Bb : Hid (Below w9.heap.size w9 wb) := Ba.out.grown q2 hsa (fun k hk => (O1.out.lt k hk).1)
      have hR6b : Hid (Row wb g6 g6 C (zme M L fr fun j => xs.getD j (0, 0)) C u6) := hR6.out.keep Bb.out
      have hR9b : Hid (Row wb g9 g9 C (zme M L (fr + M3) fun j => xs.getD j (0, 0)) C u9) := hR9.out.keep Bb.out
      have Ab : Hid (Below w.heap.size w wb) := below_tr A9.out Bb.out
      have hRd2 : Hid (RdC wb v2 (u7 ++ u8)) := RdC.of_own O2.out
      clear q1 q2 q3 O1 Ba n8 O2 Bb hR6 hR7 hR8 hR9 A9 hsa
      go_wp2_with fail
      refine (sameList13_c _ v2 u6 (u7 ++ u8) wb hR6b.out.rd hRd2.out hR6b.out.lim hLm.out hLk.out (by rw [hR6b.out.len]; omega)).mono ?_
      rintro e wc ⟨rfl, dc, rfl⟩
      have Ac : Hid (Below w.heap.size w (wb.drewN dc)) := below_drewN Ab.out dc
      have hR6c : Hid (Row (wb.drewN dc) g6 g6 C (zme M L fr fun j => xs.getD j (0, 0)) C u6) := hR6b.out.keep (below_drewN (Below.refl _ _) dc)
      have hR9c : Hid (Row (wb.drewN dc) g9 g9 C (zme M L (fr + M3) fun j => xs.getD j (0, 0)) C u9) := hR9b.out.keep (below_drewN (Below.refl _ _) dc)
      clear Ab hR6b hR9b hRd2
      generalize wb.drewN dc = wc at *
      go_wp2_with fail
      refine (sameList13_c _ _ u6 u9 wc hR6c.out.rd hR9c.out.rd hR6c.out.lim hR9c.out.lim hLf.out (by rw [hR6c.out.len]; omega)).mono ?_
      rintro e wd ⟨rfl, dd, rfl⟩
      have Ad : Hid (Below w.heap.size w (wc.drewN dd)) := below_drewN Ac.out dd
      go_wp2_with fail
      go_ret
      exact ⟨rfl, Ad.out⟩
end Go.Proofs.YtgfmimmiaalhcaaDoor
namespace Go.Proofs.YtgfmimmiaalhcaaDoor.chirpZoomed
open Go.RowKit
theorem walk (v : Value) (zs : List Nat) (m fr c k : Int) (w : World) (hin : InU w v zs) (hr : zs.length * 8 ≤ 140737488351232) :
    Calls Tryd.prog 7 #[v, .int .i64 m, .int .i64 fr, .int .i64 c, .int .i64 k] w fun e w' => e = .returned (.bool true) ∧ Below w.heap.size w w' := zoomed_w v zs m fr c k w hin hr
end Go.Proofs.YtgfmimmiaalhcaaDoor.chirpZoomed
