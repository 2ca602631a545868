/-
  The walk of ChirpZooms.
-/
import Derived.Test.YtgfmimmiaalhcaaDoorCz1
import Derived.Test.YtgfmimmiaalhcaaDoorLaid
import Derived.Deep.DeepCutAuto
namespace Go.Proofs.YtgfmimmiaalhcaaDoor
open Flo Go.RowKit
/-- 77 -/
def r7a : List (Nat × Nat) := [(4635118810238550016, 0)]
/-- xs, then 77, at block g -/
structure Rm1 (w : World) (g n : Nat) (xs : List (Nat × Nat)) : Prop where
  lt : g < w.heap.size
  len : xs.length = n
  at_ : ∀ i, i < n → w.cell? ⟨g, i, none⟩ = some (.complex .f64 (xs.getD i (0, 0)).1 (xs.getD i (0, 0)).2)
  c77 : w.cell? ⟨g, n, none⟩ = some (.complex .f64 4635118810238550016 0)
theorem Rm1.below {w w' : World} {g n : Nat} {xs : List (Nat × Nat)} (h : Rm1 w g n xs) (hb : Below w.heap.size w w') : Rm1 w' g n xs :=
  ⟨Nat.lt_of_lt_of_le h.lt hb.size, h.len, fun i hi => (hb.cell (p := ⟨g, i, none⟩) h.lt).trans (h.at_ i hi), (hb.cell (p := ⟨g, n, none⟩) h.lt).trans h.c77⟩
theorem Rm1.rd {w : World} {g n : Nat} {xs : List (Nat × Nat)} (h : Rm1 w g n xs) (cap : Nat) : RdC w (.slice (some ⟨g, 0, none⟩) n cap) xs :=
  ⟨some ⟨g, 0, none⟩, cap, by rw [h.len], fun _ => ⟨g, 0, rfl, h.lt, fun i hi => by rw [Nat.zero_add]; exact h.at_ i (by rw [← h.len]; exact hi)⟩⟩
theorem Rm1.own {w : World} {B g n cap : Nat} {xs : List (Nat × Nat)} (h : w.ownsRow B 23 1 (.slice (some ⟨g, 0, none⟩) (n + 1) cap) (n + 1) (cz (xs ++ r7a))) (hl : xs.length = n) : Rm1 w g n xs := by
  have key : ∀ i, i < n + 1 → w.cell? ⟨g, i, none⟩ = some (.complex .f64 ((xs ++ r7a).getD i (0, 0)).1 ((xs ++ r7a).getD i (0, 0)).2) := fun i hi => by
    have h1 := h.cellAt i (by omega)
    rw [cz_get _ i (by rw [List.length_append, hl]; exact hi)] at h1
    simpa using h1
  refine ⟨(h.lt g rfl).2, hl, fun i hi => ?_, ?_⟩
  · have := key i (by omega)
    rw [show (xs ++ r7a).getD i (0, 0) = xs.getD i (0, 0) by simp [List.getD, List.getElem?_append, hl, hi]] at this
    exact this
  · have := key n (by omega)
    rw [show (xs ++ r7a).getD n (0, 0) = (4635118810238550016, 0) by simp [List.getD, hl, r7a]] at this
    exact this
theorem addr13 (b i : Nat) : (⟨b, 0, none⟩ : Addr).add i = ⟨b, i, none⟩ := by
  unfold Addr.add
  by_cases h : i = 0
  · subst h; simp
  · simp [h]
/-- is the zoom left out for its length -/
def skp (L : Nat) (c : Int) : Bool := decide (0 < L ∧ ((20000 / L : Nat) : Int) < c ∧ c ≤ ((1048576 / L : Nat) : Int))
set_option maxRecDepth 100000 in
set_option maxHeartbeats 8000000 in
theorem zooms_w (v : Value) (zs : List Nat) (m fr c : Int) (w : World) (al : List Addr) (he : Errs w al) (hin : InU w v zs) (hr : zs.length * 8 ≤ 140737488351232) :
    Calls Tryd.prog 5 #[v, .int .i64 m, .int .i64 fr, .int .i64 c] w fun e w' => e = .returned (.bool true) ∧ Below w.heap.size w w' := by
  have h0 : Hid (Errs w al) := he
  have hinH : Hid (InU w v zs) := hin
  have hrH : Hid (zs.length * 8 ≤ 140737488351232) := hr
  have hlim : Hid (Lim (prs zs)) := prs_lim (by obtain ⟨_, _, _, _, h⟩ := hin; exact h)
  obtain ⟨L, hL⟩ : ∃ L, Hid (zs.length / 2 = L) := ⟨_, (rfl : _ = _)⟩
  have hLb : L ≤ 8796093021952 := by rw [← hL.out]; omega
  obtain ⟨xs, hxs⟩ : ∃ xs, Hid (prs zs = xs) := ⟨_, (rfl : _ = _)⟩
  have hxl : Hid (xs.length = L) := by show _ = _; rw [← hxs.out, prs_len, hL.out]
  rw [hxs.out] at hlim
  obtain ⟨i0, hi, hz0, hz1, hz2⟩ := info_cx
  clear he hin hr
  go_enter Tryd.func5, Tryd.ntmps5
  go_wp2_with fail
  refine (lives13_c _).mono ?_
  rintro e w1 ⟨rfl, B1⟩
  have h1 : Hid (Errs w1 al) := h0.out.below B1
  have A1 : Hid (Below w.heap.size w w1) := B1
  have hin1 : Hid (InU w1 v zs) := hinH.out.below B1
  clear B1 h0 hinH
  go_wp2_with fail
  refine (listOq_c v zs w1 hin1.out hrH.out).mono ?_
  rintro e w2 ⟨vx, rfl, hvx, ho, B2⟩
  rw [hL.out, hxs.out] at ho
  obtain ⟨gx, cx, rfl⟩ : ∃ gx cx, vx = .slice (some ⟨gx, 0, none⟩) L cx := by
    rcases ho.2 with ⟨h, _⟩ | ⟨g, cc, _, h, _⟩
    · exact absurd h hvx
    · exact ⟨g, cc, h⟩
  have hX : Hid (w2.ownsRow w1.heap.size 23 1 (.slice (some ⟨gx, 0, none⟩) L cx) L (cz xs)) := ho
  have h2 : Hid (Errs w2 al) := h1.out.below B2
  have A2 : Hid (Below w.heap.size w w2) := below_tr A1.out B2
  clear B2 h1 A1 hin1 hvx ho
  go_upto_region 4 with fail
  go_cut [35] (fun sb wx => sb = .bool (skp L c) ∧ wx = w2)
  case first =>
    by_cases hL0 : L = 0
    · subst hL0
      have hv : Hid (false = skp 0 c) := ((decide_eq_false (fun h => by omega) : skp 0 c = false).symm : false = skp 0 c)
      go_wp2_with fail
      go_meet
      case rel => exact ⟨congrArg Value.bool hv.out, rfl⟩
    · have hL1 : (L : Int) > 0 := by omega
      have hL2 : ¬ (L : Int) = 0 := by omega
      obtain ⟨D1, hD1, hD1'⟩ : ∃ D : Nat, Hid (20000 / L = D) ∧ (20000 : Int).tdiv (L : Int) = (D : Int) := ⟨20000 / L, (rfl : _ = _), by rw [Int.tdiv_eq_ediv_of_nonneg (by omega)]; rfl⟩
      obtain ⟨D2, hD2, hD2'⟩ : ∃ D : Nat, Hid (1048576 / L = D) ∧ (1048576 : Int).tdiv (L : Int) = (D : Int) := ⟨1048576 / L, (rfl : _ = _), by rw [Int.tdiv_eq_ediv_of_nonneg (by omega)]; rfl⟩
      have b1 : D1 ≤ 20000 := by rw [← hD1.out]; exact Nat.div_le_self _ _
      have b2 : D2 ≤ 1048576 := by rw [← hD2.out]; exact Nat.div_le_self _ _
      by_cases q1 : c > (D1 : Int)
      · by_cases q2 : c ≤ (D2 : Int)
        · have hv : Hid (true = skp L c) := ((decide_eq_true ⟨by omega, by rw [hD1.out]; exact q1, by rw [hD2.out]; exact q2⟩ : skp L c = true).symm : true = skp L c)
          go_wp2_with fail
          go_meet
          case rel => exact ⟨congrArg Value.bool hv.out, rfl⟩
        · have q2' : decide (c ≤ (D2 : Int)) = false := decide_eq_false q2
          have hv : Hid (false = skp L c) := ((decide_eq_false (fun h => by rw [hD2.out] at h; exact q2 h.2.2) : skp L c = false).symm : false = skp L c)
          go_wp2_with fail
          go_meet
          case rel => exact ⟨congrArg Value.bool hv.out, rfl⟩
      · have q1' : decide (c > (D1 : Int)) = false := decide_eq_false q1
        have hv : Hid (false = skp L c) := ((decide_eq_false (fun h => by rw [hD1.out] at h; exact q1 h.2.1) : skp L c = false).symm : false = skp L c)
        go_wp2_with fail
        go_meet
        case rel => exact ⟨congrArg Value.bool hv.out, rfl⟩
  case rest =>
    obtain ⟨rfl, rfl⟩ := hcut
    cases hsk : skp L c
    · clear hsk
      rename World => w3
      have hlen : Hid ((cz xs).length = L * 1) := hX.out.1
      have hE : Hid ((w3.alloc (.cells #[] 23)).ownsRow w3.heap.size 23 1 (.slice (some ⟨w3.heap.size, 0, none⟩) 0 0) 0 (cz [])) := emptyCx w3 _ (Nat.le_refl _)
      have hcl : Hid (∀ j u, (cz xs)[j]? = some u → (w3.alloc (.cells #[] 23)).cell? ((⟨gx, 0, none⟩ : Addr).add j) = some u) := by
        show ∀ j u, _
        intro j u hj
        have hjl : j < L := by
          have := (List.getElem?_eq_some_iff.1 hj).1
          have := hlen.out
          omega
        have h1 := (own_blw hX.out ((Below.refl _ w3).alloc (Nat.le_refl _) (.cells #[] 23))).cellAt j (by omega)
        rw [hj] at h1
        rw [addr13]
        simpa using h1
      have h1c : Hid (∀ u ∈ cz xs, u.oneCell' = true) := by
        show ∀ u ∈ cz xs, _
        intro u hu
        obtain ⟨z, _, rfl⟩ := List.mem_map.1 hu
        rfl
      go_wp2_with (at_builtin; refine wpList_append_own _ rfl _ _ 38 rfl w3.heap.size 23 i0 (.complex .f64 0 0) 1 16 Tryd.underlying38 hi hz0 hz1 hz2 rfl (by decide) _ _ _ rfl hE.out ⟨gx, 0, none⟩ L cx (cz xs) rfl hlen.out hcl.out h1c.out (by unfold maxLen; omega) (by omega) (by simp) ?_)
      intro v1 w4 q1 q2 q3
      have O1 : Hid (w4.ownsRow w3.heap.size 23 1 v1 L (cz xs)) := by
        have : cz [] ++ cz xs = cz xs := rfl
        rw [this] at q1
        exact q1
      have q2' : (w3.alloc (.cells #[] 23)).grownBy w4 (some w3.heap.size) := q2
      have B4 : Hid (Below w3.heap.size w3 w4) := ((Below.refl _ w3).alloc (Nat.le_refl _) _).grown q2' (by simp) (fun k hk => by have h2 : w3.heap.size = k := Option.some.inj hk; omega)
      have hs4 := B4.out.size
      clear q1 q2 q2' q3 hE hcl h1c hlen
      go_wp2_with (at_builtin; refine wpList_append_own _ rfl _ _ 38 rfl w3.heap.size 23 i0 (.complex .f64 0 0) 1 16 Tryd.underlying38 hi hz0 hz1 hz2 rfl (by decide) _ _ _ rfl (O1.out.alloc _) ⟨w4.heap.size, 0, none⟩ 1 1 [.complex .f64 4635118810238550016 0] rfl rfl (cell_one_new10 _ _ _) (by simp [Value.oneCell']) (by unfold maxLen; omega) (by omega) (by simp; omega) ?_)
      intro v2 w5 q1 q2 q3
      have O2 : Hid (w5.ownsRow w3.heap.size 23 1 v2 (L + 1) (cz (xs ++ r7a))) := by
        have : cz xs ++ [.complex .f64 4635118810238550016 0] = cz (xs ++ r7a) := by simp [cz, r7a]
        rw [this] at q1
        exact q1
      have B5 : Hid (Below w3.heap.size w3 w5) := (B4.out.alloc hs4 _).grown q2 (by simp; omega) (fun k hk => (O1.out.lt k hk).1)
      obtain ⟨g, cap, rfl, hcap⟩ : ∃ g cap, v2 = .slice (some ⟨g, 0, none⟩) (L + 1) cap ∧ L + 1 ≤ cap := by
        rcases O2.out.2 with ⟨_, h⟩ | ⟨g, c, _, h, _, _, h5, _⟩
        · omega
        · exact ⟨g, c, h, h5⟩
      have hRm : Hid (Rm1 w5 g L xs) := Rm1.own O2.out hxl.out
      have hX5 : Hid (RdC w5 (.slice (some ⟨gx, 0, none⟩) L cx) xs) := by
        have := own_blw hX.out B5.out
        rw [← hxl.out] at this
        have h2 := RdC.of_own this
        rw [hxl.out] at h2
        exact h2
      have h5 : Hid (Errs w5 al) := h2.out.below B5.out
      have A5 : Hid (Below w.heap.size w w5) := below_tr A2.out B5.out
      clear q1 q2 q3 O1 B4 O2 B5 hX h2 A2 hs4
      have hc1 : (L : Int) ≤ (cap : Int) := by omega
      have hc0 : (0 : Int) ≤ (L : Int) := by omega
      have hnc : ¬ cap = 0 := by omega
      obtain ⟨L1, hL1⟩ : ∃ L1, L + 1 = L1 := ⟨_, rfl⟩
      have hL1H : Hid (L + 1 = L1) := hL1
      rw [hL1]
      have hLL : L < L1 := by omega
      have hLL' : (L : Int) < (L1 : Int) := by omega
      clear hL1 hcap
      go_wp2_with fail
      refine (pZ_c _ xs L m fr c w5 al h5.out (hRm.out.rd cap) hlim.out hxl.out (by omega)).mono ?_
      rintro e w6 ⟨vy, er, us, rfl, hEr, G6, B6⟩
      have hErH : Hid (Er al er (zE L m c)) := hEr
      have hG6 : Hid (Gro w6 w5.heap.size (zN L m c) vy (zme m.toNat L fr fun j => xs.getD j (0, 0)) us) := G6
      have h6 : Hid (Errs w6 al) := h5.out.below B6
      have A6 : Hid (Below w.heap.size w w6) := below_tr A5.out B6
      have hRm6 : Hid (Rm1 w6 g L xs) := hRm.out.below B6
      have hX6 : Hid (RdC w6 (.slice (some ⟨gx, 0, none⟩) L cx) xs) := hX5.out.below B6
      clear hEr G6 B6 h5 A5 hRm hX5
      go_wp2_with fail
      refine (rZ_c _ xs L m fr c w6 hX6.out hlim.out hxl.out (by omega)).mono ?_
      rintro e w7 ⟨vz, vs, rfl, G7, B7⟩
      have hG7 : Hid (Gro w7 w6.heap.size (zN L m c) vz (zme m.toNat L fr fun j => xs.getD j (0, 0)) vs) := G7
      have hG6 : Hid (Gro w7 w5.heap.size (zN L m c) vy (zme m.toNat L fr fun j => xs.getD j (0, 0)) us) := hG6.out.keep B7
      have h7 : Hid (Errs w7 al) := h6.out.below B7
      have A7 : Hid (Below w.heap.size w w7) := below_tr A6.out B7
      have hRm7 : Hid (Rm1 w7 g L xs) := hRm6.out.below B7
      have hX7 : Hid (RdC w7 (.slice (some ⟨gx, 0, none⟩) L cx) xs) := hX6.out.below B7
      have hzl : Hid (zN L m c ≤ 1048576) := zN_le L m c
      generalize zE L m c = E at *
      clear G7 B7 h6 A6 hRm6 hX6
      go_wp2_with fail
      refine (numE_c hErH.out w7 h7.out).mono ?_
      rintro e w8 ⟨rfl, B8⟩
      have A8 : Hid (Below w.heap.size w w8) := below_tr A7.out B8
      have hG8 : Hid (Gro w8 w5.heap.size (zN L m c) vy (zme m.toNat L fr fun j => xs.getD j (0, 0)) us) := hG6.out.keep B8
      have hG9 : Hid (Gro w8 w6.heap.size (zN L m c) vz (zme m.toNat L fr fun j => xs.getD j (0, 0)) vs) := hG7.out.keep B8
      have hRm8 : Hid (Rm1 w8 g L xs) := hRm7.out.below B8
      have hX8 : Hid (RdC w8 (.slice (some ⟨gx, 0, none⟩) L cx) xs) := hX7.out.below B8
      clear B8 h7 A7 hRm7 hX7 hG6 hG7 hErH
      go_wp2_with fail
      refine (sameList13_c vy vz us vs w8 hG8.out.rd hG9.out.rd hG8.out.lim hG9.out.lim (hG8.out.alike13 hG9.out) (by rw [hG8.out.len]; have := hzl.out; omega)).mono ?_
      rintro e w9 ⟨rfl, d9, rfl⟩
      have A9 : Hid (Below w.heap.size w (w8.drewN d9)) := below_drewN A8.out d9
      have hRm9 : Hid (Rm1 (w8.drewN d9) g L xs) := hRm8.out.below (below_drewN (Below.refl _ _) d9)
      have hX9 : Hid (RdC (w8.drewN d9) (.slice (some ⟨gx, 0, none⟩) L cx) xs) := hX8.out.below (below_drewN (Below.refl _ _) d9)
      clear A8 hRm8 hX8 hG8 hG9
      generalize w8.drewN d9 = w9 at *
      go_wp2_with fail
      refine (sameList13_c _ _ xs xs w9 (hRm9.out.rd cap) hX9.out hlim.out hlim.out (Lks.refl _) (by rw [hxl.out]; omega)).mono ?_
      rintro e wa ⟨rfl, da, rfl⟩
      have Aa : Hid (Below w.heap.size w (w9.drewN da)) := below_drewN A9.out da
      have c77 : (w9.drewN da).cell? ⟨g, L, none⟩ = some (.complex .f64 4635118810238550016 0) := hRm9.out.c77
      have o7 : FloatKind.f64.format.order 4635118810238550016 4635118810238550016 = some .eq := by decide +kernel
      have o0 : FloatKind.f64.format.order 0 0 = some .eq := by decide +kernel
      go_wp2_with fail
      go_ret
      exact ⟨rfl, Aa.out⟩
    · clear hsk
      go_wp2_with fail
      go_ret
      exact ⟨rfl, A2.out⟩
end Go.Proofs.YtgfmimmiaalhcaaDoor
namespace Go.Proofs.YtgfmimmiaalhcaaDoor.chirpZooms
open Go.RowKit
theorem walk (v : Value) (zs : List Nat) (m fr c : Int) (w : World) (al : List Addr) (he : Errs w al) (hin : InU w v zs) (hr : zs.length * 8 ≤ 140737488351232) :
    Calls Tryd.prog 5 #[v, .int .i64 m, .int .i64 fr, .int .i64 c] w fun e w' => e = .returned (.bool true) ∧ Below w.heap.size w w' := zooms_w v zs m fr c w al he hin hr
end Go.Proofs.YtgfmimmiaalhcaaDoor.chirpZooms
