/-
  Package pack: lists that are written.
-/
import Derived.Test.YtjckgcjcpmnhhaaDoorPkb
namespace Go.Proofs.YtjckgcjcpmnhhaaDoor
open Flo Go.RowKit
/-- a list that can be read: its cells, outside the blocks of F -/
def SrcL (F : Nat → Prop) (w : World) (v : Value) (us : List Value) : Prop :=
  ∃ ao cap, v = .slice ao us.length cap ∧ (us = [] ∨ ∃ q o, ao = some ⟨q, o, none⟩ ∧ ¬ F q ∧ ∀ i, i < us.length → w.cell? ⟨q, o + i, none⟩ = some (us.getD i .nilIface))
theorem SrcL.under {F S : Nat → Prop} {w w' : World} {v : Value} {us : List Value} (h : SrcL F w v us) (hf : Fr S w w') (hS : ∀ k, k < w.heap.size → S k → F k) : SrcL F w' v us := by
  obtain ⟨ao, cap, rfl, h⟩ := h
  refine ⟨ao, cap, rfl, ?_⟩
  rcases h with h | ⟨q, o, rfl, hq, hc⟩
  · exact .inl h
  · exact .inr ⟨q, o, rfl, hq, fun i hi => hf.cell (hc i hi) fun hs => hq (hS q (World.block_lt_of_cell? w _ (hc i hi)) hs)⟩
theorem SrcL.to {F G : Nat → Prop} {w : World} {v : Value} {us : List Value} (h : SrcL F w v us) (hG : ∀ k, k < w.heap.size → G k → F k) : SrcL G w v us := by
  obtain ⟨ao, cap, rfl, h⟩ := h
  refine ⟨ao, cap, rfl, ?_⟩
  by_cases hu : us = []
  · exact .inl hu
  · rcases h with h | ⟨q, o, rfl, hq, hc⟩
    · exact .inl h
    · exact .inr ⟨q, o, rfl, fun hg => hq (hG q (World.block_lt_of_cell? w _ (hc 0 (List.length_pos_iff.2 hu))) hg), hc⟩
theorem getD_in {α : Type} {zs : List α} {i : Nat} (h : i < zs.length) (d : α) : zs.getD i d ∈ zs := by
  have e : zs.getD i d = zs[i] := by simp [List.getD, h]
  rw [e]; exact List.getElem_mem h
/-- the floats' cells -/
def fcs (zs : List Nat) : List Value := zs.map fun (z : Nat) => Value.float .f64 z
theorem fcs_len (zs : List Nat) : (fcs zs).length = zs.length := by simp [fcs]
/-- a list of floats in bytes -/
def fbs (zs : List Nat) : List Nat := zs.flatMap fun z => Pk.lo 8 (bt z)
theorem fbs_snoc {zs : List Nat} {i : Nat} (h : i < zs.length) : fbs (zs.take (i + 1)) = fbs (zs.take i) ++ Pk.lo 8 (bt (zs.getD i 0)) := by
  have e : zs.getD i 0 = zs[i] := by simp [List.getD, h]
  unfold fbs
  rw [List.take_succ_eq_append_getElem h, List.flatMap_append, e]; simp
theorem fbs_len : ∀ zs : List Nat, (fbs zs).length = 8 * zs.length
  | [] => rfl
  | z :: zs => by
    show (Pk.lo 8 (bt z) ++ fbs zs).length = _
    rw [List.length_append, Pk.lo_len, fbs_len zs, List.length_cons]; omega
/-- complex numbers' cells -/
def ccs (zs : List (Nat × Nat)) : List Value := zs.map fun z => Value.complex .f64 z.1 z.2
theorem ccs_len (zs : List (Nat × Nat)) : (ccs zs).length = zs.length := by simp [ccs]
/-- a list of complex numbers in bytes -/
def cbs (zs : List (Nat × Nat)) : List Nat := zs.flatMap fun z => Pk.lo 8 (bt z.1) ++ Pk.lo 8 (bt z.2)
theorem cbs_snoc {zs : List (Nat × Nat)} {i : Nat} (h : i < zs.length) : cbs (zs.take (i + 1)) = cbs (zs.take i) ++ (Pk.lo 8 (bt (zs.getD i (0, 0)).1) ++ Pk.lo 8 (bt (zs.getD i (0, 0)).2)) := by
  have e : zs.getD i (0, 0) = zs[i] := by simp [List.getD, h]
  unfold cbs
  rw [List.take_succ_eq_append_getElem h, List.flatMap_append, e]; simp
theorem cbs_len : ∀ zs : List (Nat × Nat), (cbs zs).length = 16 * zs.length
  | [] => rfl
  | z :: zs => by
    show ((Pk.lo 8 (bt z.1) ++ Pk.lo 8 (bt z.2)) ++ cbs zs).length = _
    rw [List.length_append, List.length_append, Pk.lo_len, Pk.lo_len, cbs_len zs, List.length_cons]; omega
set_option maxRecDepth 100000 in
set_option maxHeartbeats 4000000 in
theorem wlf_n (F : Nat → Prop) (g n cap q o : Nat) (ys : List Nat) (zs : List (Nat)) (w : World) (h : Wr F w g ys) (hF : ∀ k, w.heap.size ≤ k → F k) (hl : ys.length ≤ 140737400000000)
    (hn : Hid (zs.length = n)) (hn2 : n ≤ 1048576) (hq : ¬ F q) (hc : ∀ i, i < zs.length → w.cell? ⟨q, o + i, none⟩ = some ((fcs zs).getD i .nilIface)) (hz : ∀ z ∈ zs, z < 18446744073709551616) :
    Calls Tryd.prog 82 #[.pointer (some ⟨g, 0, none⟩), .slice (some ⟨q, o, none⟩) n cap, .func (.func 27) #[.pointer (some ⟨g, 0, none⟩)] #[]] w fun e w' => e = .returned .nilIface ∧ Wr F w' g (ys ++ (Pk.vi zs.length ++ fbs zs)) ∧ Fr F w w' := by
  have hH : Hid (Wr F w g ys) := h
  have hFH : Hid (∀ k, w.heap.size ≤ k → F k) := hF
  have hcH : Hid (∀ i, i < zs.length → w.cell? ⟨q, o + i, none⟩ = some ((fcs zs).getD i .nilIface)) := hc
  have hzH : Hid (∀ z ∈ zs, z < 18446744073709551616) := hz
  have hqH : Hid (¬ F q) := hq
  have hvl : Hid ((Pk.vi n).length ≤ 10) := Pk.vi_len (by omega)
  have hwn : IntKind.u64.wrap (n : Int) = (n : Int) := wrapId _ (by omega)
  clear h hF hc hz hq
  go_enter Tryd.func82, Tryd.ntmps82
  go_wp2_with fail
  refine (wuint_c F g ys n w hH.out hFH.out (by omega) (by omega)).mono ?_
  rintro e w1 ⟨rfl, h1, h2⟩
  have h1H : Hid (Wr F w1 g (ys ++ Pk.vi n)) := h1
  have h2H : Hid (Fr F w w1) := h2
  clear h1 h2
  go_wp2
  go_loopw [20] (fun si wr => ∃ (i : Nat) (p : List Nat), si = .int .i64 (i : Int) ∧ i ≤ n ∧ Hid (p = ys ++ (Pk.vi n ++ fbs (zs.take i))) ∧ Hid (Wr F wr g p) ∧ Hid (Fr F w wr)) (fun si _ => n - (intOf si).toNat)
  case atStart => exact ⟨0, _, rfl, Nat.zero_le _, by simp [Hid, fbs], h1H, h2H⟩
  case round =>
    obtain ⟨i, p, rfl, hi, hp, hw, hf⟩ := hrel
    by_cases hlt : i < n
    · have hlt' : (i : Int) < (n : Int) := by omega
      have hiz : i < zs.length := by have := hn.out; omega
      have hcell : wr.cell? ⟨q, o + i, none⟩ = some (.float .f64 (zs.getD i 0)) := by
        have e : (fcs zs).getD i .nilIface = (.float .f64 (zs.getD i 0)) := by simp [fcs, List.getD, hiz]
        rw [← e]; exact hf.out.cell (hcH.out i hiz) hqH.out
      have hzl := hzH.out (zs.getD i 0) (getD_in hiz _)
      have hpl : Hid (p.length ≤ ys.length + 10 + 8 * n) := by
        have := hvl.out
        show _ ≤ _
        rw [hp.out, List.length_append, List.length_append, fbs_len, List.length_take]; omega
      have hnext : Hid (p ++ Pk.lo 8 (bt (zs.getD i 0)) = ys ++ (Pk.vi n ++ fbs (zs.take (i + 1)))) := by
        show _ = _
        rw [hp.out, fbs_snoc hiz, List.append_assoc, List.append_assoc]
      clear hp
      generalize zs.getD i 0 = z at hcell hzl hnext
      go_wp2_with fail
      refine (wfloat_c F g p z wr hw.out (fun k hk => hFH.out k (Nat.le_trans hf.out.size hk)) hzl (by have := hpl.out; omega)).mono ?_
      rintro e w2 ⟨rfl, h3, h4⟩
      have h3H : Hid (Wr F w2 g (p ++ Pk.lo 8 (bt z))) := h3
      have h4H : Hid (Fr F w w2) := hf.out.then h4
      clear h3 h4 hw hf
      go_wp2
      go_roundw
      case rel => exact ⟨i + 1, _, by go_num, by omega, hnext, h3H, h4H⟩
      case measure => simp [intOf]; omega
    · have hlt' : decide ((i : Int) < (n : Int)) = false := decide_eq_false (by omega)
      have hfin : Hid (p = ys ++ (Pk.vi zs.length ++ fbs zs)) := by
        have h5 := hp.out
        rw [show i = zs.length by have := hn.out; omega, List.take_length] at h5
        rw [← hn.out] at h5
        exact h5
      clear hp
      go_wp2
      go_ret
      exact ⟨rfl, by rw [← hfin.out]; exact hw.out, hf.out⟩
set_option maxRecDepth 100000 in
set_option maxHeartbeats 4000000 in
theorem wlf_0 (F : Nat → Prop) (g cap : Nat) (ao : Option Addr) (ys : List Nat) (f : Value) (w : World) (h : Wr F w g ys) (hF : ∀ k, w.heap.size ≤ k → F k) (hl : ys.length ≤ 140737400000000) :
    Calls Tryd.prog 82 #[.pointer (some ⟨g, 0, none⟩), .slice ao 0 cap, f] w fun e w' => e = .returned .nilIface ∧ Wr F w' g (ys ++ Pk.vi 0) ∧ Fr F w w' := by
  have hH : Hid (Wr F w g ys) := h
  have hFH : Hid (∀ k, w.heap.size ≤ k → F k) := hF
  clear h hF
  go_enter Tryd.func82, Tryd.ntmps82
  go_wp2_with fail
  refine (wuint_c F g ys 0 w hH.out hFH.out (by decide) (by omega)).mono ?_
  rintro e w1 ⟨rfl, h1, h2⟩
  have h1H : Hid (Wr F w1 g (ys ++ Pk.vi 0)) := h1
  have h2H : Hid (Fr F w w1) := h2
  clear h1 h2
  go_wp2
  refine wp_loop_rounds 1 ?_
  rw [rounds_succ]
  go_wp2
  go_ret
  exact ⟨rfl, h1H.out, h2H.out⟩
set_option maxHeartbeats 4000000 in
theorem wlf_lim (g n cap : Nat) (ao : Option Addr) (al : List Addr) (f : Value) (w : World) (he : E5 w al) (hn : 1048576 < n) :
    Calls Tryd.prog 82 #[.pointer (some ⟨g, 0, none⟩), .slice ao n cap, f] w fun e w' => e = .returned (ek al 2) ∧ w = w' := by
  have hlm := he.limit
  have hn' : (1048576 : Int) < (n : Int) := by omega
  clear he
  go_enter Tryd.func82, Tryd.ntmps82
  go_wp2
  go_ret
  exact ⟨rfl, rfl⟩
set_option maxHeartbeats 1000000 in
theorem wfloats_c (F : Nat → Prop) (g : Nat) (ys : List Nat) (zs : List (Nat)) (v : Value) (w : World) (h : Wr F w g ys) (hF : ∀ k, w.heap.size ≤ k → F k) (hl : ys.length ≤ 140737400000000) (hs : SrcL F w v (fcs zs)) (hn : zs.length ≤ 1048576) (hz : ∀ z ∈ zs, z < 18446744073709551616) :
    Calls Tryd.prog 47 #[.pointer (some ⟨g, 0, none⟩), v] w fun e w' => e = .returned .nilIface ∧ Wr F w' g (ys ++ (Pk.vi zs.length ++ fbs zs)) ∧ Fr F w w' := by
  have hc : Hid (Calls Tryd.prog 82 #[.pointer (some ⟨g, 0, none⟩), v, .func (.func 27) #[.pointer (some ⟨g, 0, none⟩)] #[]] w fun e w' => e = .returned .nilIface ∧ Wr F w' g (ys ++ (Pk.vi zs.length ++ fbs zs)) ∧ Fr F w w') := by
    obtain ⟨ao, cap, rfl, hs⟩ := hs
    rw [fcs_len] at hs ⊢
    by_cases hz0 : zs = []
    · subst hz0
      have := wlf_0 F g cap ao ys (.func (.func 27) #[.pointer (some ⟨g, 0, none⟩)] #[]) w h hF hl
      show Calls _ _ _ _ _
      simpa [fbs] using this
    · rcases hs with hs | ⟨q, o, rfl, hq, hc⟩
      · exact absurd (List.map_eq_nil_iff.1 hs) hz0
      · exact wlf_n F g zs.length cap q o ys zs w h hF hl rfl hn hq hc hz
  clear h hF hs hz
  go_enter Tryd.func47, Tryd.ntmps47
  go_wp2_with fail
  refine hc.out.mono ?_
  rintro e w1 ⟨rfl, h1, h2⟩
  have h1H : Hid (Wr F w1 g (ys ++ (Pk.vi zs.length ++ fbs zs))) := h1
  have h2H : Hid (Fr F w w1) := h2
  clear h1 h2 hc
  go_wp2
  go_ret
  exact ⟨rfl, h1H.out, h2H.out⟩
set_option maxHeartbeats 1000000 in
theorem wfloats_c_lim (g n cap : Nat) (ao : Option Addr) (al : List Addr) (w : World) (he : E5 w al) (hn : 1048576 < n) :
    Calls Tryd.prog 47 #[.pointer (some ⟨g, 0, none⟩), .slice ao n cap] w fun e w' => e = .returned (ek al 2) ∧ w = w' := by
  go_enter Tryd.func47, Tryd.ntmps47
  go_wp2_with fail
  refine (wlf_lim g n cap ao al _ w he hn).mono ?_
  rintro e w1 ⟨rfl, rfl⟩
  go_wp2
  go_ret
  exact ⟨rfl, rfl⟩
set_option maxRecDepth 100000 in
set_option maxHeartbeats 4000000 in
theorem wlc_n (F : Nat → Prop) (g n cap q o : Nat) (ys : List Nat) (zs : List (Nat × Nat)) (w : World) (h : Wr F w g ys) (hF : ∀ k, w.heap.size ≤ k → F k) (hl : ys.length ≤ 140737400000000)
    (hn : Hid (zs.length = n)) (hn2 : n ≤ 1048576) (hq : ¬ F q) (hc : ∀ i, i < zs.length → w.cell? ⟨q, o + i, none⟩ = some ((ccs zs).getD i .nilIface)) (hz : ∀ z ∈ zs, z.1 < 18446744073709551616 ∧ z.2 < 18446744073709551616) :
    Calls Tryd.prog 68 #[.pointer (some ⟨g, 0, none⟩), .slice (some ⟨q, o, none⟩) n cap, .func (.func 37) #[.pointer (some ⟨g, 0, none⟩)] #[]] w fun e w' => e = .returned .nilIface ∧ Wr F w' g (ys ++ (Pk.vi zs.length ++ cbs zs)) ∧ Fr F w w' := by
  have hH : Hid (Wr F w g ys) := h
  have hFH : Hid (∀ k, w.heap.size ≤ k → F k) := hF
  have hcH : Hid (∀ i, i < zs.length → w.cell? ⟨q, o + i, none⟩ = some ((ccs zs).getD i .nilIface)) := hc
  have hzH : Hid (∀ z ∈ zs, z.1 < 18446744073709551616 ∧ z.2 < 18446744073709551616) := hz
  have hqH : Hid (¬ F q) := hq
  have hvl : Hid ((Pk.vi n).length ≤ 10) := Pk.vi_len (by omega)
  have hwn : IntKind.u64.wrap (n : Int) = (n : Int) := wrapId _ (by omega)
  clear h hF hc hz hq
  go_enter Tryd.func68, Tryd.ntmps68
  go_wp2_with fail
  refine (wuint_c F g ys n w hH.out hFH.out (by omega) (by omega)).mono ?_
  rintro e w1 ⟨rfl, h1, h2⟩
  have h1H : Hid (Wr F w1 g (ys ++ Pk.vi n)) := h1
  have h2H : Hid (Fr F w w1) := h2
  clear h1 h2
  go_wp2
  go_loopw [20] (fun si wr => ∃ (i : Nat) (p : List Nat), si = .int .i64 (i : Int) ∧ i ≤ n ∧ Hid (p = ys ++ (Pk.vi n ++ cbs (zs.take i))) ∧ Hid (Wr F wr g p) ∧ Hid (Fr F w wr)) (fun si _ => n - (intOf si).toNat)
  case atStart => exact ⟨0, _, rfl, Nat.zero_le _, by simp [Hid, cbs], h1H, h2H⟩
  case round =>
    obtain ⟨i, p, rfl, hi, hp, hw, hf⟩ := hrel
    by_cases hlt : i < n
    · have hlt' : (i : Int) < (n : Int) := by omega
      have hiz : i < zs.length := by have := hn.out; omega
      have hcell : wr.cell? ⟨q, o + i, none⟩ = some (.complex .f64 (zs.getD i (0, 0)).1 (zs.getD i (0, 0)).2) := by
        have e : (ccs zs).getD i .nilIface = (.complex .f64 (zs.getD i (0, 0)).1 (zs.getD i (0, 0)).2) := by simp [ccs, List.getD, hiz]
        rw [← e]; exact hf.out.cell (hcH.out i hiz) hqH.out
      have hzl := hzH.out (zs.getD i (0, 0)) (getD_in hiz _)
      have hpl : Hid (p.length ≤ ys.length + 10 + 16 * n) := by
        have := hvl.out
        show _ ≤ _
        rw [hp.out, List.length_append, List.length_append, cbs_len, List.length_take]; omega
      have hnext : Hid (p ++ (Pk.lo 8 (bt (zs.getD i (0, 0)).1) ++ Pk.lo 8 (bt (zs.getD i (0, 0)).2)) = ys ++ (Pk.vi n ++ cbs (zs.take (i + 1)))) := by
        show _ = _
        rw [hp.out, cbs_snoc hiz, List.append_assoc, List.append_assoc]
      clear hp
      generalize zs.getD i (0, 0) = z at hcell hzl hnext
      obtain ⟨za, zb⟩ := z
      obtain ⟨hza, hzb⟩ := hzl
      have hnext2 : Hid (p ++ (Pk.lo 8 (bt za) ++ Pk.lo 8 (bt zb)) = ys ++ (Pk.vi n ++ cbs (zs.take (i + 1)))) := hnext
      have hcell2 : wr.cell? ⟨q, o + i, none⟩ = some (.complex .f64 za zb) := hcell
      clear hcell hnext
      go_wp2_with fail
      refine (wcomplex_c F g p za zb wr hw.out (fun k hk => hFH.out k (Nat.le_trans hf.out.size hk)) hza hzb (by have := hpl.out; omega)).mono ?_
      rintro e w2 ⟨rfl, h3, h4⟩
      have h3H : Hid (Wr F w2 g (p ++ (Pk.lo 8 (bt za) ++ Pk.lo 8 (bt zb)))) := h3
      have h4H : Hid (Fr F w w2) := hf.out.then h4
      clear h3 h4 hw hf
      go_wp2
      go_roundw
      case rel => exact ⟨i + 1, _, by go_num, by omega, hnext2, h3H, h4H⟩
      case measure => simp [intOf]; omega
    · have hlt' : decide ((i : Int) < (n : Int)) = false := decide_eq_false (by omega)
      have hfin : Hid (p = ys ++ (Pk.vi zs.length ++ cbs zs)) := by
        have h5 := hp.out
        rw [show i = zs.length by have := hn.out; omega, List.take_length] at h5
        rw [← hn.out] at h5
        exact h5
      clear hp
      go_wp2
      go_ret
      exact ⟨rfl, by rw [← hfin.out]; exact hw.out, hf.out⟩
set_option maxRecDepth 100000 in
set_option maxHeartbeats 4000000 in
theorem wlc_0 (F : Nat → Prop) (g cap : Nat) (ao : Option Addr) (ys : List Nat) (f : Value) (w : World) (h : Wr F w g ys) (hF : ∀ k, w.heap.size ≤ k → F k) (hl : ys.length ≤ 140737400000000) :
    Calls Tryd.prog 68 #[.pointer (some ⟨g, 0, none⟩), .slice ao 0 cap, f] w fun e w' => e = .returned .nilIface ∧ Wr F w' g (ys ++ Pk.vi 0) ∧ Fr F w w' := by
  have hH : Hid (Wr F w g ys) := h
  have hFH : Hid (∀ k, w.heap.size ≤ k → F k) := hF
  clear h hF
  go_enter Tryd.func68, Tryd.ntmps68
  go_wp2_with fail
  refine (wuint_c F g ys 0 w hH.out hFH.out (by decide) (by omega)).mono ?_
  rintro e w1 ⟨rfl, h1, h2⟩
  have h1H : Hid (Wr F w1 g (ys ++ Pk.vi 0)) := h1
  have h2H : Hid (Fr F w w1) := h2
  clear h1 h2
  go_wp2
  refine wp_loop_rounds 1 ?_
  rw [rounds_succ]
  go_wp2
  go_ret
  exact ⟨rfl, h1H.out, h2H.out⟩
set_option maxHeartbeats 4000000 in
theorem wlc_lim (g n cap : Nat) (ao : Option Addr) (al : List Addr) (f : Value) (w : World) (he : E5 w al) (hn : 1048576 < n) :
    Calls Tryd.prog 68 #[.pointer (some ⟨g, 0, none⟩), .slice ao n cap, f] w fun e w' => e = .returned (ek al 2) ∧ w = w' := by
  have hlm := he.limit
  have hn' : (1048576 : Int) < (n : Int) := by omega
  clear he
  go_enter Tryd.func68, Tryd.ntmps68
  go_wp2
  go_ret
  exact ⟨rfl, rfl⟩
set_option maxHeartbeats 1000000 in
theorem wlist_c (F : Nat → Prop) (g : Nat) (ys : List Nat) (zs : List (Nat × Nat)) (v : Value) (w : World) (h : Wr F w g ys) (hF : ∀ k, w.heap.size ≤ k → F k) (hl : ys.length ≤ 140737400000000) (hs : SrcL F w v (ccs zs)) (hn : zs.length ≤ 1048576) (hz : ∀ z ∈ zs, z.1 < 18446744073709551616 ∧ z.2 < 18446744073709551616) :
    Calls Tryd.prog 23 #[.pointer (some ⟨g, 0, none⟩), v] w fun e w' => e = .returned .nilIface ∧ Wr F w' g (ys ++ (Pk.vi zs.length ++ cbs zs)) ∧ Fr F w w' := by
  have hc : Hid (Calls Tryd.prog 68 #[.pointer (some ⟨g, 0, none⟩), v, .func (.func 37) #[.pointer (some ⟨g, 0, none⟩)] #[]] w fun e w' => e = .returned .nilIface ∧ Wr F w' g (ys ++ (Pk.vi zs.length ++ cbs zs)) ∧ Fr F w w') := by
    obtain ⟨ao, cap, rfl, hs⟩ := hs
    rw [ccs_len] at hs ⊢
    by_cases hz0 : zs = []
    · subst hz0
      have := wlc_0 F g cap ao ys (.func (.func 37) #[.pointer (some ⟨g, 0, none⟩)] #[]) w h hF hl
      show Calls _ _ _ _ _
      simpa [cbs] using this
    · rcases hs with hs | ⟨q, o, rfl, hq, hc⟩
      · exact absurd (List.map_eq_nil_iff.1 hs) hz0
      · exact wlc_n F g zs.length cap q o ys zs w h hF hl rfl hn hq hc hz
  clear h hF hs hz
  go_enter Tryd.func23, Tryd.ntmps23
  go_wp2_with fail
  refine hc.out.mono ?_
  rintro e w1 ⟨rfl, h1, h2⟩
  have h1H : Hid (Wr F w1 g (ys ++ (Pk.vi zs.length ++ cbs zs))) := h1
  have h2H : Hid (Fr F w w1) := h2
  clear h1 h2 hc
  go_wp2
  go_ret
  exact ⟨rfl, h1H.out, h2H.out⟩
set_option maxHeartbeats 1000000 in
theorem wlist_c_lim (g n cap : Nat) (ao : Option Addr) (al : List Addr) (w : World) (he : E5 w al) (hn : 1048576 < n) :
    Calls Tryd.prog 23 #[.pointer (some ⟨g, 0, none⟩), .slice ao n cap] w fun e w' => e = .returned (ek al 2) ∧ w = w' := by
  go_enter Tryd.func23, Tryd.ntmps23
  go_wp2_with fail
  refine (wlc_lim g n cap ao al _ w he hn).mono ?_
  rintro e w1 ⟨rfl, rfl⟩
  go_wp2
  go_ret
  exact ⟨rfl, rfl⟩
end Go.Proofs.YtjckgcjcpmnhhaaDoor
