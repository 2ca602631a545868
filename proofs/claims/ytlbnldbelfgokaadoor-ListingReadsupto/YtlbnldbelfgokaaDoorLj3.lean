/-
  timbreref16: head.
-/
import Derived.Test.YtlbnldbelfgokaaDoorLj2
import Derived.Test.YtlbnldbelfgokaaDoorLs6
import Derived.Test.YtlbnldbelfgokaaDoorSd4
namespace Go.Proofs.YtlbnldbelfgokaaDoor
open Flo Go.RowKit
/-- an array of ints: the first ones given, the others 0 -/
structure Arz (w : World) (b K : Nat) (xs : List Int) : Prop where
  c : ∀ j, j < K → w.cell? ⟨b, j, none⟩ = some (.int .i64 (xs.getD j 0))
  fz : ∀ j, w.frozen? ⟨b, j, none⟩ = false
section
variable {w w' : World} {b K : Nat} {xs : List Int}
theorem Arz.fr {S : Nat → Prop} (h : Arz w b K xs) (hK : 0 < K) (hf : Fr S w w') (hS : ¬ S b) : Arz w' b K xs :=
  ⟨fun j hj => hf.cell (h.c j hj) hS, fun i => (hf.frozen (p := ⟨b, i, none⟩) (cell_lt (a := ⟨b, 0, none⟩) (h.c 0 hK)) hS).trans (h.fz i)⟩
theorem getD_snoc (xs : List Int) (x : Int) (j : Nat) : (xs ++ [x]).getD j 0 = if j = xs.length then x else xs.getD j 0 := by
  rw [List.getD_eq_getElem?_getD, List.getD_eq_getElem?_getD]
  by_cases h : j < xs.length
  · rw [List.getElem?_append_left h, if_neg (by omega)]
  · by_cases h2 : j = xs.length
    · rw [h2, List.getElem?_append_right (Nat.le_refl _)]; simp
    · rw [if_neg h2, List.getElem?_eq_none (by simp; omega), List.getElem?_eq_none (by omega)]
theorem Arz.set (h : Arz w b K xs) (x : Int) : Arz (w.setCell ⟨b, xs.length, none⟩ (.int .i64 x)) b K (xs ++ [x]) := by
  refine ⟨fun j hj => ?_, fun j => by rw [World.frozen?_setCell]; exact h.fz j⟩
  rw [getD_snoc]
  by_cases e : j = xs.length
  · subst e; rw [if_pos rfl]; exact World.cell?_setCell_same _ _ _ (h.c _ hj)
  · rw [if_neg e, World.cell?_setCell_other _ _ _ _ (fun h9 => e (by injection h9 with _ h9 _; exact h9.symm))]; exact h.c j hj
theorem Arz.zero (h : Arz w b K xs) : Arz w b K (xs ++ [0]) := by
  refine ⟨fun j hj => ?_, h.fz⟩
  rw [getD_snoc]
  by_cases e : j = xs.length
  · rw [if_pos e, h.c j hj, e]; simp
  · rw [if_neg e]; exact h.c j hj
end
/-- a row of texts that isn't empty -/
theorem OwT.blk {w : World} {B : Nat} {v : Value} {u : List UInt8} {ws : List (List UInt8)} (h : OwT w B v (u :: ws)) :
    ∃ b cap, v = .slice (some ⟨b, 0, none⟩) (ws.length + 1) cap ∧ ws.length + 1 ≤ cap ∧ B ≤ b ∧ b < w.heap.size ∧ ∀ (i : Nat) (x : List UInt8), (u :: ws)[i]? = some x → w.cell? ⟨b, i, none⟩ = some (.string (txb x)) := by
  have hl := OwT.lt h
  obtain ⟨ao, cap, h1, h2, h3, h4⟩ := OwT.tx h
  obtain ⟨b, e1, e2⟩ := h4 0 u rfl
  subst e1
  refine ⟨b, cap, h1, h3, (hl b (by rw [h1]; rfl)).1, (hl b (by rw [h1]; rfl)).2, fun i x hi => ?_⟩
  obtain ⟨b', e3, e4⟩ := h4 i x hi
  injection e3 with e3
  injection e3 with e3
  rw [e3]; exact e4
theorem tx_rest (b m cap : Nat) (hc : m + 1 ≤ cap) : ∃ (ao : Option Addr) (c' : Nat), (0 < m → ao = some ⟨b, 1, none⟩) ∧ ∀ W : World, (Instr.slice 45 (.slice (some ⟨b, 0, none⟩) (m + 1) cap) (some (.int .i64 1)) none none).run Tryd.prog W = .ok (.slice ao m c') W := by
  refine ⟨if cap = 1 then some ⟨b, 0, none⟩ else some ⟨b, 1, none⟩, cap - 1, fun hm => by rw [if_neg (by omega)], fun W => ?_⟩
  have ht : Tryd.prog.underlying 45 = some (.slice (Tryd.prog.elem 45)) := by kernel_rfl
  have hz : (sizeOf (Tryd.prog.elem 45)).run Tryd.prog W = .ok 1 W := by kernel_rfl
  rw [run_slice_l W 45 _ _ _ ht .i64 1 (by omega) (by omega), hz]
  simp [sliced, Addr.add, go_sem]
/-- words of a line: the first, the others -/
theorem line_words (l : List UInt8) : ∃ w0 ws, Li.sp 32 l = w0 :: ws ∧ Li.wd 32 l = w0 ∧ Li.rs 32 l = Li.jn 32 ws ∧ (∀ v ∈ ws, (32 : UInt8) ∉ v) ∧ ws.length ≤ l.length ∧ (∀ v ∈ ws, v.length ≤ l.length) ∧ w0.length ≤ l.length := by
  obtain ⟨w0, ws, h1, h2, h3, h4⟩ := Li.sp_parts 32 l
  obtain ⟨e1, e2⟩ := Li.wd_app h3 (Li.jn_bg 32 ws)
  rw [← h2] at e1 e2
  refine ⟨w0, ws, h1, e1, e2, h4, ?_, ?_, ?_⟩
  · have h9 := congrArg List.length h2
    rw [List.length_append] at h9
    have : ∀ us : List (List UInt8), us.length ≤ (Li.jn 32 us).length := fun us => by
      induction us with
      | nil => exact Nat.zero_le _
      | cons u us ih => rw [Li.jn_cons]; simp only [List.length_cons, List.length_append]; omega
    have := this ws; omega
  · intro v hv
    have h9 := congrArg List.length h2
    rw [List.length_append] at h9
    have : ∀ us : List (List UInt8), v ∈ us → v.length ≤ (Li.jn 32 us).length := fun us => by
      induction us with
      | nil => intro h; cases h
      | cons u us ih =>
        intro h
        rw [Li.jn_cons]; simp only [List.length_cons, List.length_append]
        rcases List.mem_cons.1 h with rfl | h
        · omega
        · have := ih h; omega
    have := this ws hv; omega
  · have h9 := congrArg List.length h2
    rw [List.length_append] at h9; omega
/-- what head tells -/
def DhE (l : List UInt8) (w : World) (e : Ending) (w' : World) : Prop :=
  Below w.heap.size w w' ∧ ((hdl l = none ∧ e = .returned (.tuple #[pv ⟨0, 0, 0, 0, []⟩ (.slice none 0 0), .bool false])) ∨ ∃ xs, hdl l = some xs ∧ e = .returned (.tuple #[pv (hdZ xs) (.slice none 0 0), .bool true]))
/-- memory while the words are read -/
structure HW (w wr : World) (b0 b7 bw : Nat) (us : List (List UInt8)) (K : Nat) (xs : List Int) : Prop where
  x : Bpf wr b0 ⟨0, 0, 0, 0, []⟩ (.slice none 0 0)
  y : Arz wr b7 K xs
  t : ∀ (i : Nat) (u : List UInt8), us[i]? = some u → wr.cell? ⟨bw, i, none⟩ = some (.string (txb u))
  be : Below w.heap.size w wr
theorem HW.call {w wr wx : World} {b0 b7 bw K : Nat} {us : List (List UInt8)} {xs : List Int} (h : HW w wr b0 b7 bw us K xs) (hK : 0 < K) (hb : Below wr.heap.size wr wx) : HW w wx b0 b7 bw us K xs :=
  ⟨h.x.fr (Fr.bel hb) id, h.y.fr hK (Fr.bel hb) id, fun i u hi => (hb.cell (p := ⟨bw, i, none⟩) (cell_lt (h.t i u hi))).trans (h.t i u hi), h.be.trans (hb.mono h.be.size)⟩
theorem HW.set {w wr : World} {b0 b7 bw K : Nat} {us : List (List UInt8)} {xs : List Int} (h : HW w wr b0 b7 bw us K xs) (x : Int) (h0 : b0 ≠ b7) (hw : w.heap.size ≤ b7) (ht : bw ≠ b7) : HW w (wr.setCell ⟨b7, xs.length, none⟩ (.int .i64 x)) b0 b7 bw us K (xs ++ [x]) :=
  ⟨h.x.fr (set_fr wr b7 _ _) h0, h.y.set x, fun i u hi => (set_fr wr b7 _ _).cell (h.t i u hi) ht, (set_fr wr b7 _ _).below h.be h.be.size fun k _ hk => by omega⟩
/-- how far the words of a first line are read -/
def HK (l : List UInt8) (us : List (List UInt8)) (k : Nat) (xs : List Int) : Prop := xs.length = k ∧ hdl l = (Li.dh (us.drop k)).map (xs ++ ·)
theorem HK.go {l : List UInt8} {us : List (List UInt8)} {k : Nat} {xs : List Int} {u : List UInt8} (h : HK l us k xs) (hu : us[k]? = some u) : (Li.rdn u = none → hdl l = none) ∧ ∀ x, Li.rdn u = some x → HK l us (k + 1) (xs ++ [x]) := by
  have hlt : k < us.length := (List.getElem?_eq_some_iff.1 hu).1
  have e : us.drop k = u :: us.drop (k + 1) := by
    rw [List.drop_eq_getElem_cons hlt]
    congr 1
    exact (List.getElem?_eq_some_iff.1 hu).2
  obtain ⟨h1, h2⟩ := h
  rw [e, Li.dh] at h2
  refine ⟨fun hn => ?_, fun x hx => ⟨by simp [h1], ?_⟩⟩
  · rw [h2, hn]; rfl
  · rw [h2, hx]
    simp only [Option.map_map]
    congr 1
    funext p; simp
set_option maxHeartbeats 8000000 in
set_option maxRecDepth 100000 in
theorem dhead_c (l : List UInt8) (hl : l.length ≤ 2000000) (w : World) :
    Calls Tryd.prog 14 #[.string (txb l)] w fun e w' => DhE l w e w' := by
  obtain ⟨w0, ws, hsp, hwd, hrs, hfree, hwl, hvl, hw0l⟩ := line_words l
  obtain ⟨b0, hb0⟩ := hid_ex3 w.heap.size
  obtain ⟨w1, ew1⟩ := hid_ex3 (w.alloc (.cells #[.int .i64 0, .int .i64 0, .int .i64 0, .int .i64 0, .slice none 0 0] 25))
  have B1 : Hid (Below w.heap.size w w1) := by rw [← ew1.out]; exact (Below.refl _ _).alloc (Nat.le_refl _) _
  have X1 : Hid (Bpf w1 b0 ⟨0, 0, 0, 0, []⟩ (.slice none 0 0)) := by rw [← ew1.out, ← hb0.out]; exact Bpf.new w ⟨0, 0, 0, 0, []⟩ _
  have hcut : Hid (Calls Tryd.prog 13 #[.string (txb l), .int .u8 32] w1 fun e w' => ∃ v, e = .returned v ∧ OwT w' w1.heap.size v (w0 :: ws) ∧ Below w1.heap.size w1 w') := by rw [← hsp]; exact dcut_c l 32 hl w1
  have hrd : Hid (∀ (u : List UInt8) (W : World), u ∈ ws → Calls Tryd.prog 32 #[.string (txb u)] W fun e w' => DrE u W e w') := fun u W hu => dread_c u (by have := hvl u hu; omega) W
  have hhd : Hid (hdl l = if w0 = tim6 then (if ws.length = 4 then Li.dh ws else none) else none) := by
    show _ = _
    unfold hdl
    rw [hwd, hrs, Li.dh_ph 4 ws hfree]
  have hwlH : Hid (ws.length ≤ 2000000) := by show _ ≤ _; omega
  clear hl hsp hwd hrs hfree hwl hvl hw0l
  go_enter Tryd.func14, Tryd.ntmps14
  go_upto_region 1 with fail
  rw [ew1.out, hb0.out]
  go_wp2_with fail
  refine hcut.out.mono ?_
  rintro e w2 ⟨v, rfl, ho, B2⟩
  have R2 : Hid (Below w.heap.size w w2) := B1.out.trans (B2.mono B1.out.size)
  have X2 : Hid (Bpf w2 b0 ⟨0, 0, 0, 0, []⟩ (.slice none 0 0)) := X1.out.fr (Fr.bel B2) id
  obtain ⟨bw, cap, rfl, hcap, hbw1, hbw2, hcl⟩ := OwT.blk ho
  obtain ⟨m, hm⟩ := hid_ex3 ws.length
  have hmb : m ≤ 2000000 := by have h1 := hm.out; have h2 := hwlH.out; omega
  rw [hm.out] at hhd hcap ⊢
  have hclH : Hid (∀ (i : Nat) (u : List UInt8), (w0 :: ws)[i]? = some u → w2.cell? ⟨bw, i, none⟩ = some (.string (txb u))) := hcl
  have hbwH : Hid (b0 < bw ∧ bw < w2.heap.size) := ⟨by have h1 := cell_lt (a := ⟨b0, 0, none⟩) X1.out.bx.c0; simp only at h1; omega, hbw2⟩
  have c0 : w2.cell? ⟨bw, 0, none⟩ = some (.string (txb w0)) := hcl 0 w0 rfl
  obtain ⟨ao, c', hao, hsr⟩ := tx_rest bw m cap hcap
  have haoH : Hid (0 < m → ao = some ⟨bw, 1, none⟩) := hao
  obtain ⟨N5, hN5⟩ := hid_ex3 (m + 1)
  rw [hN5.out] at hsr hcap ⊢
  have hN5b : N5 ≤ 2000001 := by have := hN5.out; omega
  have hzr : Hid (hdl l = none → ∀ (W : World), Below w.heap.size w W → ∀ a0 a1 a2 a3 a4 : Value, DhE l w (.returned (.tuple #[pv ⟨0, 0, 0, 0, []⟩ (.slice none 0 0), .bool false])) (((((W.setCell ⟨b0, 0, none⟩ a0).setCell ⟨b0, 1, none⟩ a1).setCell ⟨b0, 2, none⟩ a2).setCell ⟨b0, 3, none⟩ a3).setCell ⟨b0, 4, none⟩ a4)) := fun h W hW a0 a1 a2 a3 a4 =>
    ⟨(set5_fr W b0 a0 a1 a2 a3 a4).below hW hW.size fun k _ hk => by rw [hb0.out]; omega, .inl ⟨h, rfl⟩⟩
  clear B2 hcut ho B1 X1 hbw1 hbw2 hcl hao
  obtain ⟨x0, x1, x2, x3, x4⟩ := X2.out.bx
  have Zx := X2.out.fz
  by_cases h5 : N5 = 5
  · have q1 : ((N5 : Int) != 5) = false := by rw [h5]; rfl
    have q2 : (0 : Int) < (N5 : Int) := by omega
    have hm4 : m = 4 := by have := hN5.out; omega
    have hhd2 : Hid (hdl l = if w0 = tim6 then Li.dh ws else none) := by have h9 := hhd.out; rw [if_pos hm4] at h9; exact h9
    have hcmp := txb_eq w0 tim6
    have hcm2 : ((txb w0).toList == [116, 105, 109, 98, 114, 101]) = decide (w0 = tim6) := by rw [← hcmp, show (txb tim6).toList = [116, 105, 109, 98, 114, 101] by rw [Lib.toList_data]; rfl]
    clear hhd hcmp h5
    by_cases htm : w0 = tim6
    · rw [decide_eq_true htm] at hcm2
      have hk0 : Hid (HK l ws 0 []) := ⟨rfl, by
        have h9 := hhd2.out
        rw [if_pos htm] at h9
        rw [h9, List.drop_zero]
        cases Li.dh ws <;> simp⟩
      clear hhd2 htm
      have hm4H : Hid (m = 4) := hm4
      obtain ⟨b7, hb7⟩ := hid_ex3 w2.heap.size
      obtain ⟨w3, ew3⟩ := hid_ex3 (w2.alloc (.cells #[.int .i64 0, .int .i64 0, .int .i64 0, .int .i64 0] 79))
      have L3 : Below w2.heap.size w2 w3 := by rw [← ew3.out]; exact (Below.refl _ _).alloc (Nat.le_refl _) _
      have A3 : Arz w3 b7 4 [] := by
        rw [← ew3.out, ← hb7.out]
        refine ⟨fun j hj => ?_, fun j => by simp⟩
        match j, hj with
        | 0, _ => simp
        | 1, _ => simp
        | 2, _ => simp
        | 3, _ => simp
      have M3 : Hid (HW w w3 b0 b7 bw (w0 :: ws) 4 []) := ⟨X2.out.fr (Fr.bel L3) id, A3, fun i u hi => (L3.cell (p := ⟨bw, i, none⟩) hbwH.out.2).trans (hclH.out i u hi), R2.out.trans (L3.mono R2.out.size)⟩
      have hnb : Hid (b0 ≠ b7 ∧ bw ≠ b7 ∧ w.heap.size ≤ b7) := by
        have h1 := hbwH.out; have h2 := hb7.out; have h3 := R2.out.size
        exact ⟨by omega, by omega, by omega⟩
      go_upto_region 5 with fail
      rw [ew3.out, hb7.out]
      clear x0 x1 x2 x3 x4 Zx c0 L3 A3 hcap q1 q2 hm4 hcm2
      go_wp2_with fail
      clear hsr
      go_loopw [26] (fun i wr => ∃ (k : Nat) (xs : List Int), i = .int .i64 k ∧ k ≤ m ∧ Hid (HK l ws k xs) ∧ Hid (HW w wr b0 b7 bw (w0 :: ws) 4 xs)) (fun i _ => m - (intOf i).toNat)
      case atStart => exact ⟨0, [], rfl, Nat.zero_le _, hk0, M3⟩
      case round =>
        obtain ⟨k, xs, rfl, hkm, Hk, Mk⟩ := hrel
        have hxl : Hid (xs.length = k) := Hk.out.1
        by_cases hlt : k < m
        · have hlt' : (k : Int) < (m : Int) := by omega
          obtain rfl := haoH.out (by omega)
          obtain ⟨u, hu⟩ : ∃ u, ws[k]? = some u := ⟨_, List.getElem?_eq_getElem (by rw [hm.out]; exact hlt)⟩
          have hmem : Hid (u ∈ ws) := List.mem_of_getElem? hu
          have hc1 : wr.cell? ⟨bw, 1 + k, none⟩ = some (.string (txb u)) := Mk.out.t (1 + k) u (by rw [Nat.add_comm, List.getElem?_cons_succ]; exact hu)
          have hgo : Hid ((Li.rdn u = none → hdl l = none) ∧ ∀ x, Li.rdn u = some x → HK l ws (k + 1) (xs ++ [x])) := Hk.out.go hu
          have hrdu : Hid (Calls Tryd.prog 32 #[.string (txb u)] wr fun e w' => DrE u wr e w') := hrd.out u wr hmem.out
          have hk4 : Hid (k < 4) := by have := hm4H.out; show _ < _; omega
          clear hu
          go_wp2_with fail
          refine hrdu.out.mono ?_
          rintro e w4 ⟨B4, n, hn, rfl⟩
          have M4 : Hid (HW w w4 b0 b7 bw (w0 :: ws) 4 xs) := Mk.out.call (by decide) B4
          have hnH : Hid (∀ x, Li.rdn u = some x → n = x) := hn
          clear B4 hn hc1
          obtain ⟨q, hq⟩ := hid_ex3 (Li.rdn u)
          rw [hq.out] at hgo hnH ⊢
          cases q with
          | none =>
            have hno : Hid (hdl l = none) := hgo.out.1 rfl
            obtain ⟨x0, x1, x2, x3, x4⟩ := M4.out.x.bx
            have Zx := M4.out.x.fz
            clear hgo hnH
            go_wp2_with fail
            obtain ⟨z0, z1, z2, z3, z4⟩ := M4.out.x.bx.set ⟨0, 0, 0, 0, []⟩ (.slice none 0 0)
            refine bodyPost_ret (v := .tuple #[pv ⟨0, 0, 0, 0, []⟩ (.slice none 0 0), .bool false]) (by unfold pv; simp [results, Tryd.results14, go_sem, z0, z1, z2, z3, z4]) rfl ?_
            exact hzr.out hno.out _ M4.out.be _ _ _ _ _
          | some x =>
            obtain rfl : n = x := hnH.out x rfl
            have Hk2 : Hid (HK l ws (k + 1) (xs ++ [n])) := hgo.out.2 n rfl
            have M5 : Hid (HW w (w4.setCell ⟨b7, k, none⟩ (.int .i64 n)) b0 b7 bw (w0 :: ws) 4 (xs ++ [n])) := by
              have h9 := M4.out.set n hnb.out.1 hnb.out.2.2 hnb.out.2.1
              rw [hxl.out] at h9; exact h9
            have y4 := M4.out.y.c k hk4.out
            have y5 := M4.out.y.fz k
            have hk5 : (k : Int) < 4 := by have := hk4.out; omega
            have hk6 : (k : Int) + 1 ≤ 4 := by omega
            clear hgo hnH
            go_wp2_with fail
            go_roundw
            case rel => exact ⟨k + 1, _, by go_num, by omega, Hk2, M5⟩
            case measure => simp [intOf]; omega
        · have hlt' : decide ((k : Int) < (m : Int)) = false := decide_eq_false (by omega)
          have hk4 : Hid (k = 4) := by have := hm4H.out; show _ = _; omega
          have hres : Hid (hdl l = some xs) := by
            have h9 := Hk.out.2
            rw [hk4.out, List.drop_of_length_le (by rw [hm.out, hm4H.out]; exact Nat.le_refl _)] at h9
            show _ = _
            rw [h9]; simp [Li.dh]
          obtain ⟨x0, x1, x2, x3, x4⟩ := Mk.out.x.bx
          have Zx := Mk.out.x.fz
          have y0 := Mk.out.y.c 0 (by decide)
          have y1 := Mk.out.y.c 1 (by decide)
          have y2 := Mk.out.y.c 2 (by decide)
          have y3 := Mk.out.y.c 3 (by decide)
          obtain ⟨a0, ha0⟩ := hid_ex3 (xs.getD 0 0)
          obtain ⟨a1, ha1⟩ := hid_ex3 (xs.getD 1 0)
          obtain ⟨a2, ha2⟩ := hid_ex3 (xs.getD 2 0)
          obtain ⟨a3, ha3⟩ := hid_ex3 (xs.getD 3 0)
          rw [ha0.out] at y0
          rw [ha1.out] at y1
          rw [ha2.out] at y2
          rw [ha3.out] at y3
          have hpv : Hid (pv ⟨a0, a1, a2, a3, []⟩ (.slice none 0 0) = pv (hdZ xs) (.slice none 0 0)) := by
            rw [← ha0.out, ← ha1.out, ← ha2.out, ← ha3.out]; exact (rfl : _ = _)
          clear Hk
          go_wp2_with fail
          obtain ⟨z0, z1, z2, z3, z4⟩ := Mk.out.x.bx.set ⟨a0, a1, a2, a3, []⟩ (.slice none 0 0)
          refine bodyPost_ret (v := .tuple #[pv ⟨a0, a1, a2, a3, []⟩ (.slice none 0 0), .bool true]) (by unfold pv; simp [results, Tryd.results14, go_sem, z0, z1, z2, z3, z4]) rfl ?_
          exact ⟨(set5_fr wr b0 _ _ _ _ _).below Mk.out.be Mk.out.be.size fun k _ hk => by rw [hb0.out]; omega, .inr ⟨xs, hres.out, by rw [hpv.out]⟩⟩
    · rw [decide_eq_false htm] at hcm2
      have hno : Hid (hdl l = none) := by have h9 := hhd2.out; rw [if_neg htm] at h9; exact h9
      clear hhd2 htm
      go_wp2_with fail
      obtain ⟨z0, z1, z2, z3, z4⟩ := X2.out.bx.set ⟨0, 0, 0, 0, []⟩ (.slice none 0 0)
      refine bodyPost_ret (v := .tuple #[pv ⟨0, 0, 0, 0, []⟩ (.slice none 0 0), .bool false]) (by unfold pv; simp [results, Tryd.results14, go_sem, z0, z1, z2, z3, z4]) rfl ?_
      exact hzr.out hno.out _ R2.out _ _ _ _ _
  · have q1 : ((N5 : Int) != 5) = true := bne_iff_ne.2 (by omega)
    have hno : Hid (hdl l = none) := by
      have h9 := hhd.out
      rw [if_neg (show ¬ m = 4 by have := hN5.out; omega)] at h9
      show _ = _
      rw [h9]; split <;> rfl
    clear hhd
    go_wp2_with fail
    obtain ⟨z0, z1, z2, z3, z4⟩ := X2.out.bx.set ⟨0, 0, 0, 0, []⟩ (.slice none 0 0)
    refine bodyPost_ret (v := .tuple #[pv ⟨0, 0, 0, 0, []⟩ (.slice none 0 0), .bool false]) (by unfold pv; simp [results, Tryd.results14, go_sem, z0, z1, z2, z3, z4]) rfl ?_
    exact hzr.out hno.out _ R2.out _ _ _ _ _
end Go.Proofs.YtlbnldbelfgokaaDoor
