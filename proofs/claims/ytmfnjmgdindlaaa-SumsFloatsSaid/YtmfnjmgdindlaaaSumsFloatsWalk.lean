/-
  SumsFloats, walked.
-/
import Derived.Test.YtmfnjmgdindlaaaVg9
import Derived.Test.YtmfnjmgdindlaaaRe9
namespace Go.Proofs.Ytmfnjmgdindlaaa
open Flo Go.RowKit Ieee
theorem rsameQ (a b : Nat) (w : World) (ha : a < 18446744073709551616) (hb : b < 18446744073709551616) (h : bt a = bt b) :
    Calls Try.prog 14 #[.float .f64 a, .float .f64 b] w fun e w' => e = .returned (.bool true) ∧ w' = w :=
  (rsame_c a b w ha hb).mono fun e w' k => ⟨by rw [k.1, h]; simp, k.2.symm⟩
set_option maxRecDepth 100000 in
set_option maxHeartbeats 1000000 in
theorem sameF_n (a1 a2 : Option Addr) (n c1 c2 : Nat) (xs : List Nat) (w : World) (hn2 : n ≤ 8192)
    (h1 : Hid (∀ i, i < n → ∃ b off, a1 = some ⟨b, off, none⟩ ∧ b < w.heap.size ∧ w.cell? ⟨b, off + i, none⟩ = some (.float .f64 (xs.getD i 0))))
    (h2 : Hid (∀ i, i < n → ∃ b off, a2 = some ⟨b, off, none⟩ ∧ b < w.heap.size ∧ w.cell? ⟨b, off + i, none⟩ = some (.float .f64 (xs.getD i 0)))) (hl : Hid (∀ i, i < n → xs.getD i 0 < 18446744073709551616)) :
    Calls Try.prog 13 #[.slice a1 n c1, .slice a2 n c2] w fun e w' => e = .returned (.bool true) ∧ Dr w w' := by
  go_enter Try.func13, Try.ntmps13
  go_wp2_with fail
  go_loopw [13] (fun si wr => ∃ i : Nat, i ≤ n ∧ si = .int .i64 (i : Int) ∧ Hid (Dr w wr)) (fun si _ => n - (RowKit.intOf si).toNat)
  case atStart => exact ⟨0, Nat.zero_le _, rfl, Dr.refl _⟩
  case round =>
    obtain ⟨i, hin, rfl, hD⟩ := hrel
    by_cases hlt : i < n
    · have hlt' : (i : Int) < (n : Int) := by omega
      obtain ⟨b, off, rfl, _, k1⟩ := h1.out i hlt
      obtain ⟨b', off', rfl, _, k2⟩ := h2.out i hlt
      have c1 : wr.cell? ⟨b, off + i, none⟩ = some (.float .f64 (xs.getD i 0)) := by obtain ⟨q, e⟩ := hD.out; rw [e]; exact k1
      have c2 : wr.cell? ⟨b', off' + i, none⟩ = some (.float .f64 (xs.getD i 0)) := by obtain ⟨q, e⟩ := hD.out; rw [e]; exact k2
      have hx := hl.out i hlt
      have hxH : Hid (xs.getD i 0 < 18446744073709551616) := hx
      generalize xs.getD i 0 = x at c1 c2 hxH
      clear k1 k2 hx
      go_wp2_with fail
      go_quiet ((go_at_call 14; exact Calls.quiet_of_same (rsameQ _ _ _ hxH.out hxH.out rfl)))
      go_wp2
      go_roundw
      case rel => exact ⟨i + 1, by omega, by go_num, hD.out.more _⟩
      case measure => simp [RowKit.intOf]; omega
    · have hlt' : decide ((i : Int) < (n : Int)) = false := decide_eq_false (by omega)
      go_wp2_with fail
      go_ret
      exact ⟨rfl, hD.out⟩
theorem sameF_c (v1 v2 : Value) (xs : List Nat) (w : World) (h1 : Fv w v1 xs) (h2 : Fv w v2 xs) (hn : xs.length ≤ 8192) :
    Calls Try.prog 13 #[v1, v2] w fun e w' => e = .returned (.bool true) ∧ Dr w w' := by
  obtain ⟨a1, c1, rfl, _, k1⟩ := h1.each
  obtain ⟨a2, c2, rfl, _, k2⟩ := h2.each
  exact sameF_n a1 a2 xs.length c1 c2 xs w hn k1 k2 h1.at
theorem own_un9 {w w' : World} {B n : Nat} {T : TypeId} {v : Value} {xs : List Value} (h : w.ownsRow B T 1 v n xs) (hb : Below w.heap.size w w') : w'.ownsRow B T 1 v n xs := by
  obtain ⟨h1, h2⟩ := h
  refine ⟨h1, ?_⟩
  rcases h2 with h2 | ⟨g, cap, cur, e, h3, h4, h5⟩
  · exact .inl h2
  · exact .inr ⟨g, cap, cur, e, h3, (hb.block g (Array.getElem?_eq_some_iff.1 h4).1).trans h4, h5⟩
theorem own_sl9 {w : World} {B n : Nat} {T : TypeId} {v : Value} {xs : List Value} (h : w.ownsRow B T 1 v n xs) (hne : v.ownBlock ≠ none) : ∃ g cap, v = .slice (some ⟨g, 0, none⟩) n cap ∧ n ≤ cap ∧ B ≤ g ∧ g < w.heap.size := by
  rcases h.2 with ⟨e, _⟩ | ⟨g, cap, cur, e, h3, h4, h5, _⟩
  · exact absurd (by rw [e]; rfl) hne
  · exact ⟨g, cap, e, h5, h3, (Array.getElem?_eq_some_iff.1 h4).1⟩
theorem fv_pre {w : World} {B g cap n : Nat} {xs ys : List Nat} (h : w.ownsRow B 26 1 (.slice (some ⟨g, 0, none⟩) (n + 2) cap) (n + 2) (fl xs ++ fl ys)) (hx : xs.length = n) (hl : ∀ x ∈ xs, x < 18446744073709551616) (hn : n ≤ 8192) (hc : n ≤ cap) : Fv w (.slice (some ⟨g, 0, none⟩) n cap) xs := by
  refine ⟨⟨_, cap, by rw [hx], by omega, by omega, fun _ => ⟨g, 0, rfl, (World.ownsRow.lt h g rfl).2, fun i hi => ?_⟩⟩, hl⟩
  rw [Nat.zero_add, World.ownsRow.cellAt h i (by omega), List.getElem?_append_left (by rw [fl_len]; exact hi), fl_get hi]
set_option maxRecDepth 100000 in
set_option maxHeartbeats 4000000 in
theorem sumsFloats_w (a0 : Option Addr) (n0 c0 : Nat) (bs : List Nat) (w : World) (l0 : Hid (bs.length = n0)) (i0 : Hid (InU w (.slice a0 n0 c0) bs)) (m0 : Hid (∀ x ∈ bs, x < 18446744073709551616)) :
    Calls Try.prog 3 #[.slice a0 n0 c0] w fun e w' => e = .returned (.bool true) ∧ Below w.heap.size w w' := by
  obtain ⟨q0, hi0, hz0, hz1, hz2⟩ := info_parts info24
  go_enter Try.func3, Try.ntmps3
  go_wp2_with fail
  refine (lives_c _).mono ?_
  rintro e w1 ⟨rfl, k1⟩
  have k1H : Hid (Below w.heap.size w w1) := k1
  clear k1
  by_cases g0 : n0 > 8192
  · have g0' : (n0 : Int) > 8192 := by omega
    go_wp2_with fail
    go_ret
    exact ⟨rfl, k1H.out⟩
  have g0' : decide ((n0 : Int) > 8192) = false := decide_eq_false (by omega)
  have hn8 : n0 ≤ 8192 := by omega
  go_wp2_with fail
  have hfl := floats9_c (.slice a0 n0 c0) bs w1 (i0.out.below k1H.out) (by rw [l0.out]; omega)
  rw [l0.out] at hfl
  refine hfl.mono ?_
  clear hfl
  rintro e w2 ⟨v, rfl, O2, hne, k2⟩
  have k2H : Hid (Below w.heap.size w w2) := k1H.out.trans (k2.mono k1H.out.size)
  have hlim : Hid (∀ x ∈ bs.map bt, x < 18446744073709551616) := lim_map m0.out
  have hxl : Hid ((bs.map bt).length = n0) := by show _ = _; rw [List.length_map, l0.out]
  have O2' := O2
  have hs2 : w1.heap.size ≤ w2.heap.size := k2.size
  have hneH : Hid (v.ownBlock ≠ none) := hne
  have hs1 : Hid (w.heap.size ≤ w1.heap.size) := k1H.out.size
  clear O2 hne k2
  go_wp2_with (at_builtin; refine wpList_append_own_at _ rfl _ _ 24 rfl w1.heap.size 26 q0 (.float .f64 0) 1 8 Try.underlying24 hi0 hz0 hz1 hz2 rfl (by decide) _ _ _ rfl (O2'.alloc _) ⟨w2.heap.size, 0, none⟩ 2 2 [.float .f64 4635118810238550016, .float .f64 4635189178982727680] rfl rfl ?cells (by simp [Value.oneCell']) (by unfold maxLen; omega) (by omega) (by simp; omega) ?_)
  case cells =>
    intro j u hj
    match j, hj with
    | 0, hj => simp at hj; subst hj; simp [Addr.add]
    | 1, hj => simp at hj; subst hj; simp [Addr.add]
  intro v3 w3 hown3 hgrow3 hnil3 hat3
  have O3 : Hid (w3.ownsRow w1.heap.size 26 1 v3 (n0 + 2) (fl (bs.map bt) ++ fl [4635118810238550016, 4635189178982727680])) := hown3
  have k3H : Hid (Below w.heap.size w w3) := (k2H.out.alloc k2H.out.size _).grown hgrow3 (by simp; have := k2H.out.size; omega) (fun k' hk' => Nat.le_trans hs1.out (O2'.lt k' hk').1)
  have ne3 : v3.ownBlock ≠ none := fun h => by
    rcases hat3 with e | e
    · exact hneH.out (e ▸ h)
    · rw [e] at h; cases h
  obtain ⟨g, cap, rfl, hcap, hBg, hgl⟩ := own_sl9 O3.out ne3
  have hcap1 : (n0 : Int) ≤ (cap : Int) := by omega
  have hcap2 : n0 ≤ cap := by omega
  clear hown3 hgrow3 hnil3 hat3 ne3 O2' hneH k2H hs2
  have hS : Hid (Sums w3 (.slice (some ⟨g, 0, none⟩) n0 cap) (bs.map bt) n0) := (fv_pre O3.out hxl.out hlim.out hn8 hcap2).sums (by rw [hxl.out]; exact Nat.le_refl _)
  have hwn : IntKind.i64.wrap (n0 : Int) = (n0 : Int) := by rw [IntKind.wrap_i64]; omega
  go_wp2_with fail
  obtain ⟨xs, hxs⟩ : ∃ xs, Hid (bs.map bt = xs) := ⟨_, (rfl : _ = _)⟩
  rw [hxs.out] at hS O3 hlim hxl
  refine (hS.out.cL _ (Below.refl _ _)).mono ?_
  rintro e y1 ⟨p1, rfl, hxp1, hbp1, kp1⟩
  have lp1 : Hid (p1 < 18446744073709551616) := hxp1
  have ep1 : Hid (bt p1 = lf xs) := hbp1
  have K1 : Hid (Below w3.heap.size w3 y1) := kp1
  clear hxp1 hbp1 kp1
  go_wp2_with fail
  refine (hS.out.cP _ K1.out).mono ?_
  rintro e y2 ⟨p2, rfl, hxp2, hbp2, kp2⟩
  have lp2 : Hid (p2 < 18446744073709551616) := hxp2
  have ep2 : Hid (bt p2 = pf n0 xs) := hbp2
  have K2 : Hid (Below w3.heap.size w3 y2) := K1.out.trans (kp2.mono K1.out.size)
  clear hxp2 hbp2 kp2
  go_wp2_with fail
  refine (hS.out.cK _ K2.out).mono ?_
  rintro e y3 ⟨p3, rfl, hxp3, hbp3, kp3⟩
  have lp3 : Hid (p3 < 18446744073709551616) := hxp3
  have ep3 : Hid (bt p3 = kp xs) := hbp3
  have K3 : Hid (Below w3.heap.size w3 y3) := K2.out.trans (kp3.mono K2.out.size)
  clear hxp3 hbp3 kp3
  go_wp2_with fail
  refine (hS.out.cE _ K3.out).mono ?_
  rintro e y4 ⟨p4, rfl, hxp4, hbp4, kp4⟩
  have lp4 : Hid (p4 < 18446744073709551616) := hxp4
  have ep4 : Hid (bt p4 = Sm.exB xs) := hbp4
  have K4 : Hid (Below w3.heap.size w3 y4) := K3.out.trans (kp4.mono K3.out.size)
  clear hxp4 hbp4 kp4
  go_wp2_with fail
  clear hS
  have k4H : Hid (Below w.heap.size w y4) := k3H.out.trans (K4.out.mono k3H.out.size)
  have O4 : Hid (y4.ownsRow w1.heap.size 26 1 (.slice (some ⟨g, 0, none⟩) (n0 + 2) cap) (n0 + 2) (fl xs ++ fl [4635118810238550016, 4635189178982727680])) := own_un9 O3.out K4.out
  have hfl := floats9_c (.slice a0 n0 c0) bs y4 (i0.out.below k4H.out) (by rw [l0.out]; omega)
  rw [l0.out, hxs.out] at hfl
  refine hfl.mono ?_
  clear hfl
  rintro e y5 ⟨v5, rfl, O5, ne5, k5⟩
  have F5 : Hid (Fv y5 v5 xs) := fv_own (by rw [hxl.out]; exact O5) hlim.out (by rw [hxl.out]; omega)
  have k5H : Hid (Below w.heap.size w y5) := k4H.out.trans (k5.mono k4H.out.size)
  have O6 : Hid (y5.ownsRow w1.heap.size 26 1 (.slice (some ⟨g, 0, none⟩) (n0 + 2) cap) (n0 + 2) (fl xs ++ fl [4635118810238550016, 4635189178982727680])) := own_un9 O4.out k5
  have F6 : Hid (Fv y5 (.slice (some ⟨g, 0, none⟩) n0 cap) xs) := fv_pre O6.out hxl.out hlim.out hn8 hcap2
  obtain ⟨g5, cap5, rfl, _, _, _⟩ := own_sl9 O5 ne5
  clear O5 ne5 k5 O4 O3 k3H k4H K1 K2 K3 K4 i0 m0 l0 hxs k1H
  go_wp2_with fail
  refine (sameF_c _ _ xs _ F6.out F5.out (by rw [hxl.out]; exact hn8)).mono ?_
  rintro e y6 ⟨rfl, hD6⟩
  have k6 : Hid (Below y5.heap.size y5 y6) := by obtain ⟨q, e⟩ := hD6; exact below_of_drew e
  have F7 : Hid (Fv y6 (.slice (some ⟨g5, 0, none⟩) n0 cap5) xs) := F5.out.below k6.out
  have O7 : Hid (y6.ownsRow w1.heap.size 26 1 (.slice (some ⟨g, 0, none⟩) (n0 + 2) cap) (n0 + 2) (fl xs ++ fl [4635118810238550016, 4635189178982727680])) := own_un9 O6.out k6.out
  have k6H : Hid (Below w.heap.size w y6) := k5H.out.trans (k6.out.mono k5H.out.size)
  have d0 : y6.cell? ⟨g, n0, none⟩ = some (.float .f64 4635118810238550016) := by
    rw [World.ownsRow.cellAt O7.out n0 (by omega), List.getElem?_append_right (by rw [fl_len, hxl.out]; exact Nat.le_refl _), fl_len, hxl.out, Nat.sub_self]; rfl
  have d1 : y6.cell? ⟨g, n0 + 1, none⟩ = some (.float .f64 4635189178982727680) := by
    rw [World.ownsRow.cellAt O7.out (n0 + 1) (by omega), List.getElem?_append_right (by rw [fl_len, hxl.out]; omega), fl_len, hxl.out, show n0 + 1 - n0 = 1 by omega]; rfl
  have q77 : FloatKind.f64.format.order 4635118810238550016 4635118810238550016 = some .eq := by decide
  have q78 : FloatKind.f64.format.order 4635189178982727680 4635189178982727680 = some .eq := by decide
  have hb1 : (n0 : Int) < (n0 : Int) + 2 := by omega
  clear hD6 O6 F5 F6 k5H k6 O7
  go_wp2_with fail
  refine (rleft_c _ xs _ F7.out).mono ?_
  intro e z1 hres
  obtain ⟨r1, rfl, hr1, hc1, hk1⟩ := hres.b
  have H1 : Hid (Below y6.heap.size y6 z1) := hk1
  have hs1 : Hid (∀ W, Calls Try.prog 14 #[.float .f64 p1, .float .f64 r1] W fun e w' => e = .returned (.bool true) ∧ w' = W) := fun W => rsameQ _ _ W lp1.out hr1 (by rw [ep1.out, hc1])
  clear hr1 hc1 hk1 hres
  go_wp2_with fail
  refine (hs1.out _).mono ?_
  rintro e w' ⟨rfl, rfl⟩
  clear hs1
  go_wp2_with fail
  refine (rpair_c n0 _ xs _ (F7.out.below H1.out) (by rw [hxl.out]; exact Nat.le_refl _)).mono ?_
  intro e z2 hres
  obtain ⟨r2, rfl, hr2, hc2, hk2⟩ := hres.b
  have H2 : Hid (Below y6.heap.size y6 z2) := H1.out.trans (hk2.mono H1.out.size)
  have hs2 : Hid (∀ W, Calls Try.prog 14 #[.float .f64 p2, .float .f64 r2] W fun e w' => e = .returned (.bool true) ∧ w' = W) := fun W => rsameQ _ _ W lp2.out hr2 (by rw [ep2.out, hc2])
  clear hr2 hc2 hk2 hres
  go_wp2_with fail
  refine (hs2.out _).mono ?_
  rintro e w' ⟨rfl, rfl⟩
  clear hs2
  go_wp2_with fail
  refine (rkept_c _ xs _ (F7.out.below H2.out)).mono ?_
  intro e z3 hres
  obtain ⟨r3, rfl, hr3, hc3, hk3⟩ := hres.b
  have H3 : Hid (Below y6.heap.size y6 z3) := H2.out.trans (hk3.mono H2.out.size)
  have hs3 : Hid (∀ W, Calls Try.prog 14 #[.float .f64 p3, .float .f64 r3] W fun e w' => e = .returned (.bool true) ∧ w' = W) := fun W => rsameQ _ _ W lp3.out hr3 (by rw [ep3.out, hc3])
  clear hr3 hc3 hk3 hres
  go_wp2_with fail
  refine (hs3.out _).mono ?_
  rintro e w' ⟨rfl, rfl⟩
  clear hs3
  go_wp2_with fail
  refine (rexact_c _ xs _ (F7.out.below H3.out) (by rw [hxl.out]; exact hn8)).mono ?_
  intro e z4 hres
  obtain ⟨r4, rfl, hr4, hc4, hk4⟩ := hres
  have H4 : Hid (Below y6.heap.size y6 z4) := H3.out.trans (hk4.mono H3.out.size)
  have hs4 : Hid (∀ W, Calls Try.prog 14 #[.float .f64 p4, .float .f64 r4] W fun e w' => e = .returned (.bool true) ∧ w' = W) := fun W => rsameQ _ _ W lp4.out hr4 (by rw [ep4.out, hc4])
  clear hr4 hc4 hk4
  go_wp2_with fail
  refine (hs4.out _).mono ?_
  rintro e w' ⟨rfl, rfl⟩
  clear hs4
  go_wp2_with fail
  go_ret
  exact ⟨rfl, k6H.out.trans (H4.out.mono k6H.out.size)⟩
end Go.Proofs.Ytmfnjmgdindlaaa
