/-
  timbreref04, the forms: List, Floats.
-/
import Derived.Test.YtjckgcjcpmnhhaaDoorPr2
namespace Go.Proofs.YtjckgcjcpmnhhaaDoor
open Flo Go.RowKit
set_option maxRecDepth 100000 in
set_option maxHeartbeats 4000000 in
theorem pfl_n (n cap q o : Nat) (zs : List (Nat)) (w : World) (hn : Hid (zs.length = n)) (hn2 : n ≤ 1048576) (hc : ∀ i, i < zs.length → w.cell? ⟨q, o + i, none⟩ = some ((fcs zs).getD i .nilIface)) (hz : ∀ z ∈ zs, z < 18446744073709551616) :
    Calls Tryd.prog 45 #[.slice (some ⟨q, o, none⟩) n cap] w fun e w' => ∃ v', e = .returned (.tuple #[v', .int .i64 0]) ∧ NewB w w' v' (Pk.vi zs.length ++ fbs zs) := by
  have hcH : Hid (∀ i, i < zs.length → w.cell? ⟨q, o + i, none⟩ = some ((fcs zs).getD i .nilIface)) := hc
  have hzH : Hid (∀ z ∈ zs, z < 18446744073709551616) := hz
  have hvl : Hid ((Pk.vi n).length ≤ 10) := Pk.vi_len (by omega)
  have hwn : IntKind.u64.wrap (n : Int) = (n : Int) := wrapId _ (by omega)
  clear hc hz
  go_enter Tryd.func45, Tryd.ntmps45
  go_wp2_with fail
  refine (puint_c n w (by omega)).mono ?_
  rintro e w1 ⟨v1, rfl, h1⟩
  have h1H : Hid (NewB w w1 v1 (Pk.vi n)) := h1
  clear h1
  go_wp2
  go_loopw [4, 16] (fun so si wr => ∃ (i : Nat) (p : List Nat), si = .int .i64 (i : Int) ∧ i ≤ n ∧ Hid (p = Pk.vi n ++ fbs (zs.take i)) ∧ Hid (NewB w wr so p)) (fun _ si _ => n - (intOf si).toNat)
  case atStart => exact ⟨0, _, rfl, Nat.zero_le _, by simp [Hid, fbs], h1H⟩
  case round =>
    obtain ⟨i, p, rfl, hi, hp, hN⟩ := hrel
    by_cases hlt : i < n
    · have hlt' : (i : Int) < (n : Int) := by omega
      have hiz : i < zs.length := by have := hn.out; omega
      have hcell : wr.cell? ⟨q, o + i, none⟩ = some (.float .f64 (zs.getD i 0)) := by
        have e : (fcs zs).getD i .nilIface = (.float .f64 (zs.getD i 0)) := by simp [fcs, List.getD, hiz]
        rw [← e]
        have h5 := hcH.out i hiz
        exact (hN.out.below.cell (World.block_lt_of_cell? w _ h5)).trans h5
      have hzl := hzH.out (zs.getD i 0) (getD_in hiz _)
      have hpl : Hid (p.length ≤ 10 + 8 * n) := by
        have := hvl.out
        show _ ≤ _
        rw [hp.out, List.length_append, fbs_len, List.length_take]; omega
      have hnext : Hid (p ++ Pk.lo 8 (bt (zs.getD i 0)) = Pk.vi n ++ fbs (zs.take (i + 1))) := by
        show _ = _
        rw [hp.out, fbs_snoc hiz, List.append_assoc]
      clear hp
      generalize zs.getD i 0 = z at hcell hzl hnext
      go_wp2_with fail
      refine (pfloat_c z wr hzl).mono ?_
      rintro e w2 ⟨v2, rfl, h3⟩
      have h3H : Hid (NewB w w2 u4 p) := hN.out.under h3.below
      have h4H : Hid (SrcB w2 v2 (Pk.lo 8 (bt z))) := h3.own.src
      have l4 : Hid (((Pk.lo 8 (bt z))).length = 8) := by show _ = _; rw [Pk.lo_len]
      obtain ⟨lz, hlz⟩ : ∃ lz, lz = (Pk.lo 8 (bt z)) := ⟨_, rfl⟩
      rw [← hlz] at h4H l4 hnext
      clear h3 hN hlz
      go_wp2_with (first | (at_builtin; refine appY _ rfl _ _ rfl p lz u4 v2 rfl rfl h3H.out.own h4H.out (by have := hpl.out; have := l4.out; omega) ?_) | fail)
      intro v' w3 ho hg hn3
      have hN2 : Hid (NewB w w3 v' (p ++ lz)) := h3H.out.app (Below.refl _ _) ho hg hn3
      clear ho hg hn3 h3H h4H
      go_wp2
      go_roundw
      case rel => exact ⟨i + 1, _, by go_num, by omega, hnext, hN2⟩
      case measure => simp [intOf]; omega
    · have hlt' : decide ((i : Int) < (n : Int)) = false := decide_eq_false (by omega)
      have hfin : Hid (p = Pk.vi zs.length ++ fbs zs) := by
        have h5 := hp.out
        rw [show i = zs.length by have := hn.out; omega, List.take_length] at h5
        rw [← hn.out] at h5
        exact h5
      clear hp
      go_wp2
      go_ret2
      exact ⟨_, rfl, by rw [← hfin.out]; exact hN.out⟩
set_option maxRecDepth 100000 in
set_option maxHeartbeats 4000000 in
theorem pfl_0 (cap : Nat) (ao : Option Addr) (w : World) :
    Calls Tryd.prog 45 #[.slice ao 0 cap] w fun e w' => ∃ v', e = .returned (.tuple #[v', .int .i64 0]) ∧ NewB w w' v' (Pk.vi 0) := by
  go_enter Tryd.func45, Tryd.ntmps45
  go_wp2_with fail
  refine (puint_c 0 w (by decide)).mono ?_
  rintro e w1 ⟨v1, rfl, h1⟩
  have h1H : Hid (NewB w w1 v1 (Pk.vi 0)) := h1
  clear h1
  go_wp2
  refine wp_loop_rounds 1 ?_
  rw [rounds_succ]
  go_wp2
  go_ret2
  exact ⟨_, rfl, h1H.out⟩
set_option maxHeartbeats 4000000 in
theorem pfl_lim (n cap : Nat) (ao : Option Addr) (w : World) (hn : 1048576 < n) :
    Calls Tryd.prog 45 #[.slice ao n cap] w fun e w' => e = .returned (.tuple #[.slice none 0 0, .int .i64 3]) ∧ w = w' := by
  have hn' : (1048576 : Int) < (n : Int) := by omega
  go_enter Tryd.func45, Tryd.ntmps45
  go_wp2
  go_ret2
  exact ⟨rfl, rfl⟩
theorem pfloats_c (F : Nat → Prop) (zs : List (Nat)) (v : Value) (w : World) (hs : SrcL F w v (fcs zs)) (hn : zs.length ≤ 1048576) (hz : ∀ z ∈ zs, z < 18446744073709551616) :
    Calls Tryd.prog 45 #[v] w fun e w' => ∃ v', e = .returned (.tuple #[v', .int .i64 0]) ∧ NewB w w' v' (Pk.vi zs.length ++ fbs zs) := by
  obtain ⟨ao, cap, rfl, hs⟩ := hs
  rw [fcs_len] at hs ⊢
  by_cases hz0 : zs = []
  · subst hz0
    have := pfl_0 cap ao w
    simpa [fbs] using this
  · rcases hs with hs | ⟨q, o, rfl, hq, hc⟩
    · exact absurd (List.map_eq_nil_iff.1 hs) hz0
    · exact pfl_n zs.length cap q o zs w rfl hn hc hz
set_option maxRecDepth 100000 in
set_option maxHeartbeats 4000000 in
theorem pcl_n (n cap q o : Nat) (zs : List (Nat × Nat)) (w : World) (hn : Hid (zs.length = n)) (hn2 : n ≤ 1048576) (hc : ∀ i, i < zs.length → w.cell? ⟨q, o + i, none⟩ = some ((ccs zs).getD i .nilIface)) (hz : ∀ z ∈ zs, z.1 < 18446744073709551616 ∧ z.2 < 18446744073709551616) :
    Calls Tryd.prog 44 #[.slice (some ⟨q, o, none⟩) n cap] w fun e w' => ∃ v', e = .returned (.tuple #[v', .int .i64 0]) ∧ NewB w w' v' (Pk.vi zs.length ++ cbs zs) := by
  have hcH : Hid (∀ i, i < zs.length → w.cell? ⟨q, o + i, none⟩ = some ((ccs zs).getD i .nilIface)) := hc
  have hzH : Hid (∀ z ∈ zs, z.1 < 18446744073709551616 ∧ z.2 < 18446744073709551616) := hz
  have hvl : Hid ((Pk.vi n).length ≤ 10) := Pk.vi_len (by omega)
  have hwn : IntKind.u64.wrap (n : Int) = (n : Int) := wrapId _ (by omega)
  clear hc hz
  go_enter Tryd.func44, Tryd.ntmps44
  go_wp2_with fail
  refine (puint_c n w (by omega)).mono ?_
  rintro e w1 ⟨v1, rfl, h1⟩
  have h1H : Hid (NewB w w1 v1 (Pk.vi n)) := h1
  clear h1
  go_wp2
  go_loopw [4, 16] (fun so si wr => ∃ (i : Nat) (p : List Nat), si = .int .i64 (i : Int) ∧ i ≤ n ∧ Hid (p = Pk.vi n ++ cbs (zs.take i)) ∧ Hid (NewB w wr so p)) (fun _ si _ => n - (intOf si).toNat)
  case atStart => exact ⟨0, _, rfl, Nat.zero_le _, by simp [Hid, cbs], h1H⟩
  case round =>
    obtain ⟨i, p, rfl, hi, hp, hN⟩ := hrel
    by_cases hlt : i < n
    · have hlt' : (i : Int) < (n : Int) := by omega
      have hiz : i < zs.length := by have := hn.out; omega
      have hcell : wr.cell? ⟨q, o + i, none⟩ = some (.complex .f64 (zs.getD i (0, 0)).1 (zs.getD i (0, 0)).2) := by
        have e : (ccs zs).getD i .nilIface = (.complex .f64 (zs.getD i (0, 0)).1 (zs.getD i (0, 0)).2) := by simp [ccs, List.getD, hiz]
        rw [← e]
        have h5 := hcH.out i hiz
        exact (hN.out.below.cell (World.block_lt_of_cell? w _ h5)).trans h5
      have hzl := hzH.out (zs.getD i (0, 0)) (getD_in hiz _)
      have hpl : Hid (p.length ≤ 10 + 16 * n) := by
        have := hvl.out
        show _ ≤ _
        rw [hp.out, List.length_append, cbs_len, List.length_take]; omega
      have hnext : Hid (p ++ (Pk.lo 8 (bt (zs.getD i (0, 0)).1) ++ Pk.lo 8 (bt (zs.getD i (0, 0)).2)) = Pk.vi n ++ cbs (zs.take (i + 1))) := by
        show _ = _
        rw [hp.out, cbs_snoc hiz, List.append_assoc]
      clear hp
      generalize zs.getD i (0, 0) = z at hcell hzl hnext
      obtain ⟨za, zb⟩ := z
      obtain ⟨hza, hzb⟩ := hzl
      have hnext2 : Hid (p ++ (Pk.lo 8 (bt za) ++ Pk.lo 8 (bt zb)) = Pk.vi n ++ cbs (zs.take (i + 1))) := hnext
      have hcell2 : wr.cell? ⟨q, o + i, none⟩ = some (.complex .f64 za zb) := hcell
      clear hcell hnext
      go_wp2_with fail
      refine (pcomplex_c za zb wr hza hzb).mono ?_
      rintro e w2 ⟨v2, rfl, h3⟩
      have h3H : Hid (NewB w w2 u4 p) := hN.out.under h3.below
      have h4H : Hid (SrcB w2 v2 (Pk.lo 8 (bt za) ++ Pk.lo 8 (bt zb))) := h3.own.src
      have l4 : Hid (((Pk.lo 8 (bt za) ++ Pk.lo 8 (bt zb))).length = 16) := by show _ = _; rw [List.length_append, Pk.lo_len, Pk.lo_len]
      obtain ⟨lz, hlz⟩ : ∃ lz, lz = (Pk.lo 8 (bt za) ++ Pk.lo 8 (bt zb)) := ⟨_, rfl⟩
      rw [← hlz] at h4H l4 hnext2
      clear h3 hN hlz
      go_wp2_with (first | (at_builtin; refine appY _ rfl _ _ rfl p lz u4 v2 rfl rfl h3H.out.own h4H.out (by have := hpl.out; have := l4.out; omega) ?_) | fail)
      intro v' w3 ho hg hn3
      have hN2 : Hid (NewB w w3 v' (p ++ lz)) := h3H.out.app (Below.refl _ _) ho hg hn3
      clear ho hg hn3 h3H h4H
      go_wp2
      go_roundw
      case rel => exact ⟨i + 1, _, by go_num, by omega, hnext2, hN2⟩
      case measure => simp [intOf]; omega
    · have hlt' : decide ((i : Int) < (n : Int)) = false := decide_eq_false (by omega)
      have hfin : Hid (p = Pk.vi zs.length ++ cbs zs) := by
        have h5 := hp.out
        rw [show i = zs.length by have := hn.out; omega, List.take_length] at h5
        rw [← hn.out] at h5
        exact h5
      clear hp
      go_wp2
      go_ret2
      exact ⟨_, rfl, by rw [← hfin.out]; exact hN.out⟩
set_option maxRecDepth 100000 in
set_option maxHeartbeats 4000000 in
theorem pcl_0 (cap : Nat) (ao : Option Addr) (w : World) :
    Calls Tryd.prog 44 #[.slice ao 0 cap] w fun e w' => ∃ v', e = .returned (.tuple #[v', .int .i64 0]) ∧ NewB w w' v' (Pk.vi 0) := by
  go_enter Tryd.func44, Tryd.ntmps44
  go_wp2_with fail
  refine (puint_c 0 w (by decide)).mono ?_
  rintro e w1 ⟨v1, rfl, h1⟩
  have h1H : Hid (NewB w w1 v1 (Pk.vi 0)) := h1
  clear h1
  go_wp2
  refine wp_loop_rounds 1 ?_
  rw [rounds_succ]
  go_wp2
  go_ret2
  exact ⟨_, rfl, h1H.out⟩
set_option maxHeartbeats 4000000 in
theorem pcl_lim (n cap : Nat) (ao : Option Addr) (w : World) (hn : 1048576 < n) :
    Calls Tryd.prog 44 #[.slice ao n cap] w fun e w' => e = .returned (.tuple #[.slice none 0 0, .int .i64 3]) ∧ w = w' := by
  have hn' : (1048576 : Int) < (n : Int) := by omega
  go_enter Tryd.func44, Tryd.ntmps44
  go_wp2
  go_ret2
  exact ⟨rfl, rfl⟩
theorem plist_c (F : Nat → Prop) (zs : List (Nat × Nat)) (v : Value) (w : World) (hs : SrcL F w v (ccs zs)) (hn : zs.length ≤ 1048576) (hz : ∀ z ∈ zs, z.1 < 18446744073709551616 ∧ z.2 < 18446744073709551616) :
    Calls Tryd.prog 44 #[v] w fun e w' => ∃ v', e = .returned (.tuple #[v', .int .i64 0]) ∧ NewB w w' v' (Pk.vi zs.length ++ cbs zs) := by
  obtain ⟨ao, cap, rfl, hs⟩ := hs
  rw [ccs_len] at hs ⊢
  by_cases hz0 : zs = []
  · subst hz0
    have := pcl_0 cap ao w
    simpa [cbs] using this
  · rcases hs with hs | ⟨q, o, rfl, hq, hc⟩
    · exact absurd (List.map_eq_nil_iff.1 hs) hz0
    · exact pcl_n zs.length cap q o zs w rfl hn hc hz
end Go.Proofs.YtjckgcjcpmnhhaaDoor
