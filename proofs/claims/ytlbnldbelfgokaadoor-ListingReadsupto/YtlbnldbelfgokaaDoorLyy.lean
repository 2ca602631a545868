/-
  timbreref15: Same.
-/
import Derived.Test.YtlbnldbelfgokaaDoorSp5
import Derived.Test.YtlbnldbelfgokaaDoorLjx
import Derived.Test.YtlbnldbelfgokaaDoorLss
namespace Go.Proofs.YtlbnldbelfgokaaDoor
open Flo Go.RowKit
theorem hd_ne {x y : Int} (h : ¬ x = y) : (x != y) = true := bne_iff_ne.2 h
theorem hd_eq {x y : Int} (h : x = y) : (x != y) = false := by rw [h]; simp
theorem pg_false {a b : Sp.Pg} (h : ¬ a = b) : pgeq a b = false := by
  cases e : pgeq a b with
  | false => rfl
  | true => exact absurd (pgeq_iff.1 e) h
set_option maxHeartbeats 8000000 in
set_option maxRecDepth 100000 in
theorem dsame_c (a b : Sp.Pg) (ao bo : Option Addr) (n m c d : Nat) (w : World) (ha : Ss w ao a.steps) (hb : Ss w bo b.steps) (hn : n = a.steps.length) (hm : m = b.steps.length) (hnb : n ≤ 140737488355328) :
    Calls Tryd.prog 7 #[pv a (.slice ao n c), pv b (.slice bo m d)] w fun e w' => e = .returned (.bool (pgeq a b)) ∧ Below w.heap.size w w' := by
  obtain ⟨g, hg⟩ : ∃ g, Hid (w.heap.size = g) := ⟨_, (rfl : _ = _)⟩
  obtain ⟨wa, ewa⟩ : ∃ wa, Hid ((w.alloc (.cells #[.int .i64 a.len, .int .i64 a.cells, .int .i64 a.inn, .int .i64 a.out, .slice ao n c] 25)).alloc (.cells #[.int .i64 b.len, .int .i64 b.cells, .int .i64 b.inn, .int .i64 b.out, .slice bo m d] 25) = wa) := ⟨_, (rfl : _ = _)⟩
  have Ba : Hid (Below w.heap.size w wa) := by rw [← ewa.out]; exact ((Below.refl _ _).alloc (Nat.le_refl _) _).alloc (by simp) _
  have X1 : Hid (Bpg wa g a (.slice ao n c)) := by rw [← ewa.out, ← hg.out]; exact (Bpg.new w a (.slice ao n c)).below ((Below.refl _ _).alloc (Nat.le_refl _) _)
  have X2 : Hid (Bpg wa (g + 1) b (.slice bo m d)) := by
    show Bpg _ _ _ _
    rw [← ewa.out, ← hg.out]
    have := Bpg.new (w.alloc (.cells #[.int .i64 a.len, .int .i64 a.cells, .int .i64 a.inn, .int .i64 a.out, .slice ao n c] 25)) b (.slice bo m d)
    simpa using this
  have haH : Hid (Ss wa ao a.steps) := ha.below Ba.out
  have hbH : Hid (Ss wa bo b.steps) := hb.below Ba.out
  have hnA : Hid (n = a.steps.length) := hn
  have hmB : Hid (m = b.steps.length) := hm
  clear ha hb hn hm
  obtain ⟨r, hr⟩ : ∃ r, Hid (pgeq a b = r) := ⟨_, (rfl : _ = _)⟩
  rw [hr.out]
  unfold pv
  go_enter Tryd.func7, Tryd.ntmps7
  go_upto_region 1 with fail
  rw [ewa.out, hg.out]
  obtain ⟨x0, x1, x2, x3, x4⟩ := X1.out
  obtain ⟨y0, y1, y2, y3, y4⟩ := X2.out
  by_cases h0 : a.len = b.len
  · have q0 := hd_eq h0
    by_cases h1 : a.cells = b.cells
    · have q1 := hd_eq h1
      by_cases h2 : a.inn = b.inn
      · have q2 := hd_eq h2
        by_cases h3 : a.out = b.out
        · have q3 := hd_eq h3
          by_cases hnm : n = m
          · have q4 : ((n : Int) != (m : Int)) = false := by rw [hnm]; simp
            have hpe : Hid (r = sseq a.steps b.steps) := by show _ = _; rw [← hr.out]; unfold pgeq; rw [(show hdeq a b = true by simp [hdeq, h0, h1, h2, h3]), Bool.true_and]
            clear h0 h1 h2 h3
            have hnB : Hid (n = b.steps.length) := hnm.trans hmB.out
            subst hnm
            go_wp2
            go_loopw [44] (fun i wr => ∃ k : Nat, k ≤ n ∧ i = .int .i64 k ∧ Hid (r = sseq (a.steps.drop k) (b.steps.drop k)) ∧ Hid (Below wa.heap.size wa wr)) (fun i _ => n - (intOf i).toNat)
            case atStart => exact ⟨0, Nat.zero_le _, rfl, hpe, Below.refl _ _⟩
            case round =>
              obtain ⟨k, hk, rfl, heq, hB⟩ := hrel
              clear x0 x1 x2 x3 x4 y0 y1 y2 y3 y4
              by_cases hlt : k < n
              · have hlt' : (k : Int) < (n : Int) := by omega
                obtain ⟨x, hx⟩ : ∃ x, a.steps[k]? = some x := ⟨_, List.getElem?_eq_getElem (by rw [← hnA.out]; exact hlt)⟩
                obtain ⟨y, hy⟩ : ∃ y, b.steps[k]? = some y := ⟨_, List.getElem?_eq_getElem (by rw [← hnB.out]; exact hlt)⟩
                obtain ⟨q, o, rfl, hs⟩ := haH.out k x hx
                obtain ⟨q', o', rfl, hs'⟩ := hbH.out k y hy
                have hd : Hid (r = (steq x y && sseq (a.steps.drop (k + 1)) (b.steps.drop (k + 1)))) := by rw [heq.out, drop_get hx, drop_get hy]; rfl
                have hne : ∀ W : World, _ := fun W => run_neS x y W
                unfold sv sva at hne
                generalize steq x y = bq at hd hne
                obtain ⟨u0, u1, u2, u3, u4, u5, u6⟩ := hs.below hB.out
                obtain ⟨v0, v1, v2, v3, v4, v5, v6⟩ := hs'.below hB.out
                have x4 := (X1.out.below hB.out).c4
                have y4 := (X2.out.below hB.out).c4
                clear hx hy hs hs' heq
                go_wp2
                go_quiet (fail)
                have hB2 : Hid (Below wa.heap.size wa (wr.drewN nq)) := below_drewN hB.out nq
                generalize wr.drewN nq = wd at hB2 ⊢
                clear u0 u1 u2 u3 u4 u5 u6 v0 v1 v2 v3 v4 v5 v6 hne x4 y4
                cases bq with
                | true =>
                  have hd2 : Hid (r = sseq (a.steps.drop (k + 1)) (b.steps.drop (k + 1))) := hd
                  go_wp2
                  go_roundw
                  case rel => exact ⟨k + 1, by omega, by go_num, hd2, hB2⟩
                  case measure => simp [intOf]; omega
                | false =>
                  have hd2 : Hid (r = false) := hd
                  go_wp2
                  go_ret
                  exact ⟨by rw [hd2.out]; rfl, Ba.out.trans (hB2.out.mono Ba.out.size)⟩
              · have hlt' : decide ((k : Int) < (n : Int)) = false := decide_eq_false (by omega)
                have hlt2 : ¬ k < n := hlt
                have hd2 : Hid (r = true) := by
                  have e : k = n := by omega
                  show _ = _
                  rw [heq.out, e, List.drop_eq_nil_of_le (by rw [← hnA.out]; exact Nat.le_refl _), List.drop_eq_nil_of_le (by rw [← hnB.out]; exact Nat.le_refl _)]
                  rfl
                clear heq
                go_wp2
                go_ret
                exact ⟨by rw [hd2.out]; rfl, Ba.out.trans (hB.out.mono Ba.out.size)⟩
          · have q4 : ((n : Int) != (m : Int)) = true := bne_iff_ne.2 (by omega)
            have q5 : ¬ n = m := hnm
            have hf : Hid (r = false) := hr.out.symm.trans (pg_false fun e => hnm (by rw [hnA.out, hmB.out, e]))
            go_wp2
            go_ret
            exact ⟨by rw [hf.out]; rfl, Ba.out⟩
        · have q3 := hd_ne h3
          have hf : Hid (r = false) := hr.out.symm.trans (pg_false fun e => h3 (by rw [e]))
          go_wp2
          go_ret
          exact ⟨by rw [hf.out]; rfl, Ba.out⟩
      · have q2 := hd_ne h2
        have hf : Hid (r = false) := hr.out.symm.trans (pg_false fun e => h2 (by rw [e]))
        go_wp2
        go_ret
        exact ⟨by rw [hf.out]; rfl, Ba.out⟩
    · have q1 := hd_ne h1
      have hf : Hid (r = false) := hr.out.symm.trans (pg_false fun e => h1 (by rw [e]))
      go_wp2
      go_ret
      exact ⟨by rw [hf.out]; rfl, Ba.out⟩
  · have q0 := hd_ne h0
    have hf : Hid (r = false) := hr.out.symm.trans (pg_false fun e => h0 (by rw [e]))
    go_wp2
    go_ret
    exact ⟨by rw [hf.out]; rfl, Ba.out⟩
end Go.Proofs.YtlbnldbelfgokaaDoor
/-
  timbreref16: head.
-/
namespace Go.Proofs.YtlbnldbelfgokaaDoor
open Flo Go.RowKit
/-- an array of ints: the first ones given, the others 0 -/
structure Arz (w : World) (b K : Nat) (xs : List Int) : Prop where
  c : ∀ j, j < K → w.cell? ⟨b, j, none⟩ = some (.int .i64 (xs.getD j 0))
  fz : ∀ j, w.frozen? ⟨b, j, none⟩ = false
section
variable {w w' : World} {b K : Nat} {xs : List Int}
theorem Arz.fr {S : Nat → Prop} (h : Arz w b K xs) (hK : 0 < K) (hf : Fr S w w') (hS : ¬ S b) : Arz w' b K xs :=
  ⟨fun j hj => hf.cell (h.c j hj) hS, fun i => (hf.frozen (p := ⟨b, i, none⟩) (cell_lt (a := ⟨b, 0, none⟩) (h.c 0 hK)) hS).trans (h.fz i)⟩
theorem getD_snoc (xs : List Int) (x : Int) (j : Nat) : (xs ++ [x]).getD j 0 = if j = xs.length then x else xs.getD j 0 := by
  rw [List.getD_eq_getElem?_getD, List.getD_eq_getElem?_getD]
  by_cases h : j < xs.length
  · rw [List.getElem?_append_left h, if_neg (by omega)]
  · by_cases h2 : j = xs.length
    · rw [h2, List.getElem?_append_right (Nat.le_refl _)]; simp
    · rw [if_neg h2, List.getElem?_eq_none (by simp; omega), List.getElem?_eq_none (by omega)]
theorem Arz.set (h : Arz w b K xs) (x : Int) : Arz (w.setCell ⟨b, xs.length, none⟩ (.int .i64 x)) b K (xs ++ [x]) := by
  refine ⟨fun j hj => ?_, fun j => by rw [World.frozen?_setCell]; exact h.fz j⟩
  rw [getD_snoc]
  by_cases e : j = xs.length
  · subst e; rw [if_pos rfl]; exact World.cell?_setCell_same _ _ _ (h.c _ hj)
  · rw [if_neg e, World.cell?_setCell_other _ _ _ _ (fun h9 => e (by injection h9 with _ h9 _; exact h9.symm))]; exact h.c j hj
theorem Arz.zero (h : Arz w b K xs) : Arz w b K (xs ++ [0]) := by
  refine ⟨fun j hj => ?_, h.fz⟩
  rw [getD_snoc]
  by_cases e : j = xs.length
  · rw [if_pos e, h.c j hj, e]; simp
  · rw [if_neg e]; exact h.c j hj
end
/-- a row of texts that isn't empty -/
theorem OwT.blk {w : World} {B : Nat} {v : Value} {u : List UInt8} {ws : List (List UInt8)} (h : OwT w B v (u :: ws)) :
    ∃ b cap, v = .slice (some ⟨b, 0, none⟩) (ws.length + 1) cap ∧ ws.length + 1 ≤ cap ∧ B ≤ b ∧ b < w.heap.size ∧ ∀ (i : Nat) (x : List UInt8), (u :: ws)[i]? = some x → w.cell? ⟨b, i, none⟩ = some (.string (txb x)) := by
  have hl := OwT.lt h
  obtain ⟨ao, cap, h1, h2, h3, h4⟩ := OwT.tx h
  obtain ⟨b, e1, e2⟩ := h4 0 u rfl
  subst e1
  refine ⟨b, cap, h1, h3, (hl b (by rw [h1]; rfl)).1, (hl b (by rw [h1]; rfl)).2, fun i x hi => ?_⟩
  obtain ⟨b', e3, e4⟩ := h4 i x hi
  injection e3 with e3
  injection e3 with e3
  rw [e3]; exact e4
theorem tx_rest (b m cap : Nat) (hc : m + 1 ≤ cap) : ∃ (ao : Option Addr) (c' : Nat), (0 < m → ao = some ⟨b, 1, none⟩) ∧ ∀ W : World, (Instr.slice 45 (.slice (some ⟨b, 0, none⟩) (m + 1) cap) (some (.int .i64 1)) none none).run Tryd.prog W = .ok (.slice ao m c') W := by
  refine ⟨if cap = 1 then some ⟨b, 0, none⟩ else some ⟨b, 1, none⟩, cap - 1, fun hm => by rw [if_neg (by omega)], fun W => ?_⟩
  have ht : Tryd.prog.underlying 45 = some (.slice (Tryd.prog.elem 45)) := by kernel_rfl
  have hz : (sizeOf (Tryd.prog.elem 45)).run Tryd.prog W = .ok 1 W := by kernel_rfl
  rw [run_slice_l W 45 _ _ _ ht .i64 1 (by omega) (by omega), hz]
  simp [sliced, Addr.add, go_sem]
/-- words of a line: the first, the others -/
theorem line_words (l : List UInt8) : ∃ w0 ws, Li.sp 32 l = w0 :: ws ∧ Li.wd 32 l = w0 ∧ Li.rs 32 l = Li.jn 32 ws ∧ (∀ v ∈ ws, (32 : UInt8) ∉ v) ∧ ws.length ≤ l.length ∧ (∀ v ∈ ws, v.length ≤ l.length) ∧ w0.length ≤ l.length := by
  obtain ⟨w0, ws, h1, h2, h3, h4⟩ := Li.sp_parts 32 l
  obtain ⟨e1, e2⟩ := Li.wd_app h3 (Li.jn_bg 32 ws)
  rw [← h2] at e1 e2
  refine ⟨w0, ws, h1, e1, e2, h4, ?_, ?_, ?_⟩
  · have h9 := congrArg List.length h2
    rw [List.length_append] at h9
    have : ∀ us : List (List UInt8), us.length ≤ (Li.jn 32 us).length := fun us => by
      induction us with
      | nil => exact Nat.zero_le _
      | cons u us ih => rw [Li.jn_cons]; simp only [List.length_cons, List.length_append]; omega
    have := this ws; omega
  · intro v hv
    have h9 := congrArg List.length h2
    rw [List.length_append] at h9
    have : ∀ us : List (List UInt8), v ∈ us → v.length ≤ (Li.jn 32 us).length := fun us => by
      induction us with
      | nil => intro h; cases h
      | cons u us ih =>
        intro h
        rw [Li.jn_cons]; simp only [List.length_cons, List.length_append]
        rcases List.mem_cons.1 h with rfl | h
        · omega
        · have := ih h; omega
    have := this ws hv; omega
  · have h9 := congrArg List.length h2
    rw [List.length_append] at h9; omega
/-- what head tells -/
def DhE (l : List UInt8) (w : World) (e : Ending) (w' : World) : Prop :=
  Below w.heap.size w w' ∧ ((hdl l = none ∧ e = .returned (.tuple #[pv ⟨0, 0, 0, 0, []⟩ (.slice none 0 0), .bool false])) ∨ ∃ xs, hdl l = some xs ∧ e = .returned (.tuple #[pv (hdZ xs) (.slice none 0 0), .bool true]))
/-- memory while the words are read -/
structure HW (w wr : World) (b0 b7 bw : Nat) (us : List (List UInt8)) (K : Nat) (xs : List Int) : Prop where
  x : Bpf wr b0 ⟨0, 0, 0, 0, []⟩ (.slice none 0 0)
  y : Arz wr b7 K xs
  t : ∀ (i : Nat) (u : List UInt8), us[i]? = some u → wr.cell? ⟨bw, i, none⟩ = some (.string (txb u))
  be : Below w.heap.size w wr
theorem HW.call {w wr wx : World} {b0 b7 bw K : Nat} {us : List (List UInt8)} {xs : List Int} (h : HW w wr b0 b7 bw us K xs) (hK : 0 < K) (hb : Below wr.heap.size wr wx) : HW w wx b0 b7 bw us K xs :=
  ⟨h.x.fr (Fr.bel hb) id, h.y.fr hK (Fr.bel hb) id, fun i u hi => (hb.cell (p := ⟨bw, i, none⟩) (cell_lt (h.t i u hi))).trans (h.t i u hi), h.be.trans (hb.mono h.be.size)⟩
theorem HW.set {w wr : World} {b0 b7 bw K : Nat} {us : List (List UInt8)} {xs : List Int} (h : HW w wr b0 b7 bw us K xs) (x : Int) (h0 : b0 ≠ b7) (hw : w.heap.size ≤ b7) (ht : bw ≠ b7) : HW w (wr.setCell ⟨b7, xs.length, none⟩ (.int .i64 x)) b0 b7 bw us K (xs ++ [x]) :=
  ⟨h.x.fr (set_fr wr b7 _ _) h0, h.y.set x, fun i u hi => (set_fr wr b7 _ _).cell (h.t i u hi) ht, (set_fr wr b7 _ _).below h.be h.be.size fun k _ hk => by omega⟩
/-- how far the words of a first line are read -/
def HK (l : List UInt8) (us : List (List UInt8)) (k : Nat) (xs : List Int) : Prop := xs.length = k ∧ hdl l = (Li.dh (us.drop k)).map (xs ++ ·)
theorem HK.go {l : List UInt8} {us : List (List UInt8)} {k : Nat} {xs : List Int} {u : List UInt8} (h : HK l us k xs) (hu : us[k]? = some u) : (Li.rdn u = none → hdl l = none) ∧ ∀ x, Li.rdn u = some x → HK l us (k + 1) (xs ++ [x]) := by
  have hlt : k < us.length := (List.getElem?_eq_some_iff.1 hu).1
  have e : us.drop k = u :: us.drop (k + 1) := by
    rw [List.drop_eq_getElem_cons hlt]
    congr 1
    exact (List.getElem?_eq_some_iff.1 hu).2
  obtain ⟨h1, h2⟩ := h
  rw [e, Li.dh] at h2
  refine ⟨fun hn => ?_, fun x hx => ⟨by simp [h1], ?_⟩⟩
  · rw [h2, hn]; rfl
  · rw [h2, hx]
    simp only [Option.map_map]
    congr 1
    funext p; simp
set_option maxHeartbeats 8000000 in
set_option maxRecDepth 100000 in
theorem dhead_c (l : List UInt8) (hl : l.length ≤ 2000000) (w : World) :
    Calls Tryd.prog 14 #[.string (txb l)] w fun e w' => DhE l w e w' := by
  obtain ⟨w0, ws, hsp, hwd, hrs, hfree, hwl, hvl, hw0l⟩ := line_words l
  obtain ⟨b0, hb0⟩ := hid_ex3 w.heap.size
  obtain ⟨w1, ew1⟩ := hid_ex3 (w.alloc (.cells #[.int .i64 0, .int .i64 0, .int .i64 0, .int .i64 0, .slice none 0 0] 25))
  have B1 : Hid (Below w.heap.size w w1) := by rw [← ew1.out]; exact (Below.refl _ _).alloc (Nat.le_refl _) _
  have X1 : Hid (Bpf w1 b0 ⟨0, 0, 0, 0, []⟩ (.slice none 0 0)) := by rw [← ew1.out, ← hb0.out]; exact Bpf.new w ⟨0, 0, 0, 0, []⟩ _
  have hcut : Hid (Calls Tryd.prog 13 #[.string (txb l), .int .u8 32] w1 fun e w' => ∃ v, e = .returned v ∧ OwT w' w1.heap.size v (w0 :: ws) ∧ Below w1.heap.size w1 w') := by rw [← hsp]; exact dcut_c l 32 hl w1
  have hrd : Hid (∀ (u : List UInt8) (W : World), u ∈ ws → Calls Tryd.prog 32 #[.string (txb u)] W fun e w' => DrE u W e w') := fun u W hu => dread_c u (by have := hvl u hu; omega) W
  have hhd : Hid (hdl l = if w0 = tim6 then (if ws.length = 4 then Li.dh ws else none) else none) := by
    show _ = _
    unfold hdl
    rw [hwd, hrs, Li.dh_ph 4 ws hfree]
  have hwlH : Hid (ws.length ≤ 2000000) := by show _ ≤ _; omega
  clear hl hsp hwd hrs hfree hwl hvl hw0l
  go_enter Tryd.func14, Tryd.ntmps14
  go_upto_region 1 with fail
  rw [ew1.out, hb0.out]
  go_wp2_with fail
  refine hcut.out.mono ?_
  rintro e w2 ⟨v, rfl, ho, B2⟩
  have R2 : Hid (Below w.heap.size w w2) := B1.out.trans (B2.mono B1.out.size)
  have X2 : Hid (Bpf w2 b0 ⟨0, 0, 0, 0, []⟩ (.slice none 0 0)) := X1.out.fr (Fr.bel B2) id
  obtain ⟨bw, cap, rfl, hcap, hbw1, hbw2, hcl⟩ := OwT.blk ho
  obtain ⟨m, hm⟩ := hid_ex3 ws.length
  have hmb : m ≤ 2000000 := by have h1 := hm.out; have h2 := hwlH.out; omega
  rw [hm.out] at hhd hcap ⊢
  have hclH : Hid (∀ (i : Nat) (u : List UInt8), (w0 :: ws)[i]? = some u → w2.cell? ⟨bw, i, none⟩ = some (.string (txb u))) := hcl
  have hbwH : Hid (b0 < bw ∧ bw < w2.heap.size) := ⟨by have h1 := cell_lt (a := ⟨b0, 0, none⟩) X1.out.bx.c0; simp only at h1; omega, hbw2⟩
  have c0 : w2.cell? ⟨bw, 0, none⟩ = some (.string (txb w0)) := hcl 0 w0 rfl
  obtain ⟨ao, c', hao, hsr⟩ := tx_rest bw m cap hcap
  have haoH : Hid (0 < m → ao = some ⟨bw, 1, none⟩) := hao
  obtain ⟨N5, hN5⟩ := hid_ex3 (m + 1)
  rw [hN5.out] at hsr hcap ⊢
  have hN5b : N5 ≤ 2000001 := by have := hN5.out; omega
  have hzr : Hid (hdl l = none → ∀ (W : World), Below w.heap.size w W → ∀ a0 a1 a2 a3 a4 : Value, DhE l w (.returned (.tuple #[pv ⟨0, 0, 0, 0, []⟩ (.slice none 0 0), .bool false])) (((((W.setCell ⟨b0, 0, none⟩ a0).setCell ⟨b0, 1, none⟩ a1).setCell ⟨b0, 2, none⟩ a2).setCell ⟨b0, 3, none⟩ a3).setCell ⟨b0, 4, none⟩ a4)) := fun h W hW a0 a1 a2 a3 a4 =>
    ⟨(set5_fr W b0 a0 a1 a2 a3 a4).below hW hW.size fun k _ hk => by rw [hb0.out]; omega, .inl ⟨h, rfl⟩⟩
  clear B2 hcut ho B1 X1 hbw1 hbw2 hcl hao
  obtain ⟨x0, x1, x2, x3, x4⟩ := X2.out.bx
  have Zx := X2.out.fz
  by_cases h5 : N5 = 5
  · have q1 : ((N5 : Int) != 5) = false := by rw [h5]; rfl
    have q2 : (0 : Int) < (N5 : Int) := by omega
    have hm4 : m = 4 := by have := hN5.out; omega
    have hhd2 : Hid (hdl l = if w0 = tim6 then Li.dh ws else none) := by have h9 := hhd.out; rw [if_pos hm4] at h9; exact h9
    have hcmp := txb_eq w0 tim6
    have hcm2 : ((txb w0).toList == [116, 105, 109, 98, 114, 101]) = decide (w0 = tim6) := by rw [← hcmp, show (txb tim6).toList = [116, 105, 109, 98, 114, 101] by rw [Lib.toList_data]; rfl]
    clear hhd hcmp h5
    by_cases htm : w0 = tim6
    · rw [decide_eq_true htm] at hcm2
      have hk0 : Hid (HK l ws 0 []) := ⟨rfl, by
        have h9 := hhd2.out
        rw [if_pos htm] at h9
        rw [h9, List.drop_zero]
        cases Li.dh ws <;> simp⟩
      clear hhd2 htm
      have hm4H : Hid (m = 4) := hm4
      obtain ⟨b7, hb7⟩ := hid_ex3 w2.heap.size
      obtain ⟨w3, ew3⟩ := hid_ex3 (w2.alloc (.cells #[.int .i64 0, .int .i64 0, .int .i64 0, .int .i64 0] 79))
      have L3 : Below w2.heap.size w2 w3 := by rw [← ew3.out]; exact (Below.refl _ _).alloc (Nat.le_refl _) _
      have A3 : Arz w3 b7 4 [] := by
        rw [← ew3.out, ← hb7.out]
        refine ⟨fun j hj => ?_, fun j => by simp⟩
        match j, hj with
        | 0, _ => simp
        | 1, _ => simp
        | 2, _ => simp
        | 3, _ => simp
      have M3 : Hid (HW w w3 b0 b7 bw (w0 :: ws) 4 []) := ⟨X2.out.fr (Fr.bel L3) id, A3, fun i u hi => (L3.cell (p := ⟨bw, i, none⟩) hbwH.out.2).trans (hclH.out i u hi), R2.out.trans (L3.mono R2.out.size)⟩
      have hnb : Hid (b0 ≠ b7 ∧ bw ≠ b7 ∧ w.heap.size ≤ b7) := by
        have h1 := hbwH.out; have h2 := hb7.out; have h3 := R2.out.size
        exact ⟨by omega, by omega, by omega⟩
      go_upto_region 5 with fail
      rw [ew3.out, hb7.out]
      clear x0 x1 x2 x3 x4 Zx c0 L3 A3 hcap q1 q2 hm4 hcm2
      go_wp2_with fail
      clear hsr
      go_loopw [26] (fun i wr => ∃ (k : Nat) (xs : List Int), i = .int .i64 k ∧ k ≤ m ∧ Hid (HK l ws k xs) ∧ Hid (HW w wr b0 b7 bw (w0 :: ws) 4 xs)) (fun i _ => m - (intOf i).toNat)
      case atStart => exact ⟨0, [], rfl, Nat.zero_le _, hk0, M3⟩
      case round =>
        obtain ⟨k, xs, rfl, hkm, Hk, Mk⟩ := hrel
        have hxl : Hid (xs.length = k) := Hk.out.1
        by_cases hlt : k < m
        · have hlt' : (k : Int) < (m : Int) := by omega
          obtain rfl := haoH.out (by omega)
          obtain ⟨u, hu⟩ : ∃ u, ws[k]? = some u := ⟨_, List.getElem?_eq_getElem (by rw [hm.out]; exact hlt)⟩
          have hmem : Hid (u ∈ ws) := List.mem_of_getElem? hu
          have hc1 : wr.cell? ⟨bw, 1 + k, none⟩ = some (.string (txb u)) := Mk.out.t (1 + k) u (by rw [Nat.add_comm, List.getElem?_cons_succ]; exact hu)
          have hgo : Hid ((Li.rdn u = none → hdl l = none) ∧ ∀ x, Li.rdn u = some x → HK l ws (k + 1) (xs ++ [x])) := Hk.out.go hu
          have hrdu : Hid (Calls Tryd.prog 32 #[.string (txb u)] wr fun e w' => DrE u wr e w') := hrd.out u wr hmem.out
          have hk4 : Hid (k < 4) := by have := hm4H.out; show _ < _; omega
          clear hu
          go_wp2_with fail
          refine hrdu.out.mono ?_
          rintro e w4 ⟨B4, n, hn, rfl⟩
          have M4 : Hid (HW w w4 b0 b7 bw (w0 :: ws) 4 xs) := Mk.out.call (by decide) B4
          have hnH : Hid (∀ x, Li.rdn u = some x → n = x) := hn
          clear B4 hn hc1
          obtain ⟨q, hq⟩ := hid_ex3 (Li.rdn u)
          rw [hq.out] at hgo hnH ⊢
          cases q with
          | none =>
            have hno : Hid (hdl l = none) := hgo.out.1 rfl
            obtain ⟨x0, x1, x2, x3, x4⟩ := M4.out.x.bx
            have Zx := M4.out.x.fz
            clear hgo hnH
            go_wp2_with fail
            obtain ⟨z0, z1, z2, z3, z4⟩ := M4.out.x.bx.set ⟨0, 0, 0, 0, []⟩ (.slice none 0 0)
            refine bodyPost_ret (v := .tuple #[pv ⟨0, 0, 0, 0, []⟩ (.slice none 0 0), .bool false]) (by unfold pv; simp [results, Tryd.results14, go_sem, z0, z1, z2, z3, z4]) rfl ?_
            exact hzr.out hno.out _ M4.out.be _ _ _ _ _
          | some x =>
            obtain rfl : n = x := hnH.out x rfl
            have Hk2 : Hid (HK l ws (k + 1) (xs ++ [n])) := hgo.out.2 n rfl
            have M5 : Hid (HW w (w4.setCell ⟨b7, k, none⟩ (.int .i64 n)) b0 b7 bw (w0 :: ws) 4 (xs ++ [n])) := by
              have h9 := M4.out.set n hnb.out.1 hnb.out.2.2 hnb.out.2.1
              rw [hxl.out] at h9; exact h9
            have y4 := M4.out.y.c k hk4.out
            have y5 := M4.out.y.fz k
            have hk5 : (k : Int) < 4 := by have := hk4.out; omega
            have hk6 : (k : Int) + 1 ≤ 4 := by omega
            clear hgo hnH
            go_wp2_with fail
            go_roundw
            case rel => exact ⟨k + 1, _, by go_num, by omega, Hk2, M5⟩
            case measure => simp [intOf]; omega
        · have hlt' : decide ((k : Int) < (m : Int)) = false := decide_eq_false (by omega)
          have hk4 : Hid (k = 4) := by have := hm4H.out; show _ = _; omega
          have hres : Hid (hdl l = some xs) := by
            have h9 := Hk.out.2
            rw [hk4.out, List.drop_of_length_le (by rw [hm.out, hm4H.out]; exact Nat.le_refl _)] at h9
            show _ = _
            rw [h9]; simp [Li.dh]
          obtain ⟨x0, x1, x2, x3, x4⟩ := Mk.out.x.bx
          have Zx := Mk.out.x.fz
          have y0 := Mk.out.y.c 0 (by decide)
          have y1 := Mk.out.y.c 1 (by decide)
          have y2 := Mk.out.y.c 2 (by decide)
          have y3 := Mk.out.y.c 3 (by decide)
          obtain ⟨a0, ha0⟩ := hid_ex3 (xs.getD 0 0)
          obtain ⟨a1, ha1⟩ := hid_ex3 (xs.getD 1 0)
          obtain ⟨a2, ha2⟩ := hid_ex3 (xs.getD 2 0)
          obtain ⟨a3, ha3⟩ := hid_ex3 (xs.getD 3 0)
          rw [ha0.out] at y0
          rw [ha1.out] at y1
          rw [ha2.out] at y2
          rw [ha3.out] at y3
          have hpv : Hid (pv ⟨a0, a1, a2, a3, []⟩ (.slice none 0 0) = pv (hdZ xs) (.slice none 0 0)) := by
            rw [← ha0.out, ← ha1.out, ← ha2.out, ← ha3.out]; exact (rfl : _ = _)
          clear Hk
          go_wp2_with fail
          obtain ⟨z0, z1, z2, z3, z4⟩ := Mk.out.x.bx.set ⟨a0, a1, a2, a3, []⟩ (.slice none 0 0)
          refine bodyPost_ret (v := .tuple #[pv ⟨a0, a1, a2, a3, []⟩ (.slice none 0 0), .bool true]) (by unfold pv; simp [results, Tryd.results14, go_sem, z0, z1, z2, z3, z4]) rfl ?_
          exact ⟨(set5_fr wr b0 _ _ _ _ _).below Mk.out.be Mk.out.be.size fun k _ hk => by rw [hb0.out]; omega, .inr ⟨xs, hres.out, by rw [hpv.out]⟩⟩
    · rw [decide_eq_false htm] at hcm2
      have hno : Hid (hdl l = none) := by have h9 := hhd2.out; rw [if_neg htm] at h9; exact h9
      clear hhd2 htm
      go_wp2_with fail
      obtain ⟨z0, z1, z2, z3, z4⟩ := X2.out.bx.set ⟨0, 0, 0, 0, []⟩ (.slice none 0 0)
      refine bodyPost_ret (v := .tuple #[pv ⟨0, 0, 0, 0, []⟩ (.slice none 0 0), .bool false]) (by unfold pv; simp [results, Tryd.results14, go_sem, z0, z1, z2, z3, z4]) rfl ?_
      exact hzr.out hno.out _ R2.out _ _ _ _ _
  · have q1 : ((N5 : Int) != 5) = true := bne_iff_ne.2 (by omega)
    have hno : Hid (hdl l = none) := by
      have h9 := hhd.out
      rw [if_neg (show ¬ m = 4 by have := hN5.out; omega)] at h9
      show _ = _
      rw [h9]; split <;> rfl
    clear hhd
    go_wp2_with fail
    obtain ⟨z0, z1, z2, z3, z4⟩ := X2.out.bx.set ⟨0, 0, 0, 0, []⟩ (.slice none 0 0)
    refine bodyPost_ret (v := .tuple #[pv ⟨0, 0, 0, 0, []⟩ (.slice none 0 0), .bool false]) (by unfold pv; simp [results, Tryd.results14, go_sem, z0, z1, z2, z3, z4]) rfl ?_
    exact hzr.out hno.out _ R2.out _ _ _ _ _
end Go.Proofs.YtlbnldbelfgokaaDoor
/-
  timbreref16: step.
-/
namespace Go.Proofs.YtlbnldbelfgokaaDoor
open Flo Go.RowKit
/-- what step tells -/
def DsE (l : List UInt8) (w : World) (e : Ending) (w' : World) : Prop :=
  Below w.heap.size w w' ∧ ((stl l = none ∧ e = .returned (.tuple #[sv zst, .bool false])) ∨ ∃ s, stl l = some s ∧ e = .returned (.tuple #[sv s, .bool true]))
structure TW (w wr : World) (b0 b7 bw : Nat) (us : List (List UInt8)) (xs : List Int) : Prop where
  x : Bsz wr b0 zst
  y : Arz wr b7 6 xs
  t : ∀ (i : Nat) (u : List UInt8), us[i]? = some u → wr.cell? ⟨bw, i, none⟩ = some (.string (txb u))
  be : Below w.heap.size w wr
section
variable {w wr wx : World} {b0 b7 bw : Nat} {us : List (List UInt8)} {xs : List Int}
theorem TW.call (h : TW w wr b0 b7 bw us xs) (hb : Below wr.heap.size wr wx) : TW w wx b0 b7 bw us xs :=
  ⟨h.x.fr (Fr.bel hb) id, h.y.fr (by decide) (Fr.bel hb) id, fun i u hi => (hb.cell (p := ⟨bw, i, none⟩) (cell_lt (h.t i u hi))).trans (h.t i u hi), h.be.trans (hb.mono h.be.size)⟩
theorem TW.set (h : TW w wr b0 b7 bw us xs) (x : Int) (h0 : b0 ≠ b7) (hw : w.heap.size ≤ b7) (ht : bw ≠ b7) : TW w (wr.setCell ⟨b7, xs.length, none⟩ (.int .i64 x)) b0 b7 bw us (xs ++ [x]) :=
  ⟨h.x.fr (set_fr wr b7 _ _) h0, h.y.set x, fun i u hi => (set_fr wr b7 _ _).cell (h.t i u hi) ht, (set_fr wr b7 _ _).below h.be h.be.size fun k _ hk => by omega⟩
theorem TW.zero (h : TW w wr b0 b7 bw us xs) : TW w wr b0 b7 bw us (xs ++ [0]) := ⟨h.x, h.y.zero, h.t, h.be⟩
end
/-- how far the words of a step's line are read -/
def PK (l : List UInt8) (r : Nat) (us : List (List UInt8)) (k : Nat) (xs : List Int) : Prop :=
  xs.length ≤ 6 ∧ stl l = ((Li.dw (ltr.drop xs.length) (us.drop k)).map (xs ++ ·)).map (stZ r)
theorem dw_nil : ∀ ls : List UInt8, Li.dw ls [] = some (List.replicate ls.length 0)
  | [] => rfl
  | c :: ls => by rw [Li.dw, dw_nil ls]; rfl
theorem stZ_zeros (r : Nat) (xs : List Int) : ∀ n : Nat, stZ r (xs ++ List.replicate n 0) = stZ r xs
  | 0 => by simp
  | n + 1 => by
    rw [List.replicate_succ', ← List.append_assoc, stZ_zero, stZ_zeros r xs n]
theorem ltr_at {a : Nat} (h : a < 6) : ltr.drop a = ltr.getD a 0 :: ltr.drop (a + 1) := by
  match a, h with
  | 0, _ => rfl
  | 1, _ => rfl
  | 2, _ => rfl
  | 3, _ => rfl
  | 4, _ => rfl
  | 5, _ => rfl
section
variable {l : List UInt8} {r k : Nat} {us : List (List UInt8)} {xs : List Int} {u : List UInt8}
theorem us_at (hu : us[k]? = some u) : us.drop k = u :: us.drop (k + 1) := by
  have hlt : k < us.length := (List.getElem?_eq_some_iff.1 hu).1
  rw [List.drop_eq_getElem_cons hlt]
  congr 1
  exact (List.getElem?_eq_some_iff.1 hu).2
theorem PK.next (h : PK l r us k xs) (hu : us[k]? = some u) (ha : xs.length < 6) (hn : u.head? ≠ some (ltr.getD xs.length 0)) : PK l r us k (xs ++ [0]) := by
  obtain ⟨h1, h2⟩ := h
  rw [us_at hu, ltr_at ha, Li.dw, if_neg hn] at h2
  refine ⟨by simp; omega, ?_⟩
  rw [h2, us_at hu, List.length_append, List.length_singleton]
  cases Li.dw (ltr.drop (xs.length + 1)) (u :: us.drop (k + 1)) <;> simp
theorem PK.six (h : PK l r us k xs) (hu : us[k]? = some u) (ha : xs.length = 6) : stl l = none := by
  obtain ⟨h1, h2⟩ := h
  rw [us_at hu, ha] at h2
  rw [h2]; rfl
theorem PK.read {m : List UInt8} (h : PK l r us k xs) (hu : us[k]? = some u) (ha : xs.length < 6) (hm : u = ltr.getD xs.length 0 :: m) :
    (Li.rdn m = none → stl l = none) ∧ (Li.rdn m = some 0 → stl l = none) ∧ ∀ x, Li.rdn m = some x → x ≠ 0 → PK l r us (k + 1) (xs ++ [x]) := by
  obtain ⟨h1, h2⟩ := h
  rw [us_at hu, ltr_at ha, Li.dw, if_pos (by rw [hm]; rfl), hm] at h2
  simp only [List.drop_succ_cons, List.drop_zero] at h2
  refine ⟨fun hn => by rw [h2, hn]; rfl, fun hn => by rw [h2, hn]; rfl, fun x hx h0 => ⟨by simp; omega, ?_⟩⟩
  rw [h2, hx, List.length_append, List.length_singleton]
  simp only [if_neg h0, Option.map_map]
  congr 1
  funext p; simp
theorem PK.done (h : PK l r us k xs) (hk : us.length ≤ k) : stl l = some (stZ r xs) := by
  obtain ⟨h1, h2⟩ := h
  rw [List.drop_of_length_le hk, dw_nil] at h2
  rw [h2]
  simp [stZ_zeros]
end
theorem tx_ltr (a : Nat) (h : a < 6) (W : World) : (Instr.index 9 (.string ⟨#[100, 115, 106, 99, 110, 107]⟩) (.int .i64 (a : Int))).run Tryd.prog W = .ok (.int .u8 ((ltr.getD a 0).toNat : Int)) W := txi ltr a h W
set_option maxHeartbeats 16000000 in
set_option maxRecDepth 100000 in
theorem dstepl_c (l : List UInt8) (hl : l.length ≤ 2000000) (w : World) :
    Calls Tryd.prog 15 #[.string (txb l)] w fun e w' => DsE l w e w' := by
  obtain ⟨w0, ws, hsp, hwd, hrs, hfree, hwl, hvl, hw0l⟩ := line_words l
  obtain ⟨b0, hb0⟩ := hid_ex3 w.heap.size
  obtain ⟨w1, ew1⟩ := hid_ex3 (w.alloc (.cells #[.int .i64 0, .int .i64 0, .int .i64 0, .int .i64 0, .int .i64 0, .int .i64 0, .int .i64 0] 38))
  have B1 : Hid (Below w.heap.size w w1) := by rw [← ew1.out]; exact (Below.refl _ _).alloc (Nat.le_refl _) _
  have X1 : Hid (Bsz w1 b0 zst) := by rw [← ew1.out, ← hb0.out]; exact Bsz.new w zst
  have hcut : Hid (Calls Tryd.prog 13 #[.string (txb l), .int .u8 32] w1 fun e w' => ∃ v, e = .returned v ∧ OwT w' w1.heap.size v (w0 :: ws) ∧ Below w1.heap.size w1 w') := by rw [← hsp]; exact dcut_c l 32 hl w1
  have hrd : Hid (∀ (u m : List UInt8) (W : World), u ∈ ws → m.length ≤ u.length → Calls Tryd.prog 32 #[.string (txb m)] W fun e w' => DrE m W e w') := fun u m W hu hm => dread_c m (by have := hvl u hu; omega) W
  have hop : Hid (∀ W : World, Calls Tryd.prog 33 #[.string (txb w0)] W fun e w' => OpE (txb w0) e ∧ Below W.heap.size W w') := fun W => dop_c _ W
  have hst : Hid (stl l = (opn w0).bind fun o => (Li.dw ltr ws).map (stZ o)) := by
    show _ = _
    unfold stl
    rw [hwd, hrs, ← Li.dw_pf ltr ws (by decide) hfree]
  have hul : Hid (∀ u ∈ ws, u.length ≤ 2000000) := fun u hu => by have := hvl u hu; omega
  have hwlH : Hid (ws.length ≤ 2000000) := by show _ ≤ _; omega
  clear hl hsp hwd hrs hfree hwl hvl hw0l
  go_enter Tryd.func15, Tryd.ntmps15
  go_upto_region 1 with fail
  rw [ew1.out, hb0.out]
  go_wp2_with fail
  refine hcut.out.mono ?_
  rintro e w2 ⟨v, rfl, ho, B2⟩
  have R2 : Hid (Below w.heap.size w w2) := B1.out.trans (B2.mono B1.out.size)
  have X2 : Hid (Bsz w2 b0 zst) := X1.out.fr (Fr.bel B2) id
  obtain ⟨bw, cap, rfl, hcap, hbw1, hbw2, hcl⟩ := OwT.blk ho
  obtain ⟨m, hm⟩ := hid_ex3 ws.length
  have hmb : m ≤ 2000000 := by have h1 := hm.out; have h2 := hwlH.out; omega
  rw [hm.out] at hcap ⊢
  have hclH : Hid (∀ (i : Nat) (u : List UInt8), (w0 :: ws)[i]? = some u → w2.cell? ⟨bw, i, none⟩ = some (.string (txb u))) := hcl
  have hbwH : Hid (b0 < bw ∧ bw < w2.heap.size) := ⟨by have h1 := cell_lt (a := ⟨b0, 0, none⟩) X1.out.bx.c0; simp only at h1; omega, hbw2⟩
  have c0 : w2.cell? ⟨bw, 0, none⟩ = some (.string (txb w0)) := hcl 0 w0 rfl
  obtain ⟨ao, c', hao, hsr⟩ := tx_rest bw m cap hcap
  have haoH : Hid (0 < m → ao = some ⟨bw, 1, none⟩) := hao
  obtain ⟨N5, hN5⟩ := hid_ex3 (m + 1)
  rw [hN5.out] at hsr ⊢
  have hN1 : (0 : Int) < (N5 : Int) := by have := hN5.out; omega
  have hsrH : Hid (∀ W : World, (Instr.slice 45 (.slice (some ⟨bw, 0, none⟩) N5 cap) (some (.int .i64 1)) none none).run Tryd.prog W = .ok (.slice ao m c') W) := hsr
  have hzr : Hid (stl l = none → ∀ (W : World), Below w.heap.size w W → ∀ a0 a1 a2 a3 a4 a5 a6 : Value, DsE l w (.returned (.tuple #[sv zst, .bool false])) (((((((W.setCell ⟨b0, 0, none⟩ a0).setCell ⟨b0, 1, none⟩ a1).setCell ⟨b0, 2, none⟩ a2).setCell ⟨b0, 3, none⟩ a3).setCell ⟨b0, 4, none⟩ a4).setCell ⟨b0, 5, none⟩ a5).setCell ⟨b0, 6, none⟩ a6)) := fun h W hW a0 a1 a2 a3 a4 a5 a6 =>
    ⟨(set7_fr W b0 a0 a1 a2 a3 a4 a5 a6).below hW hW.size fun k _ hk => by rw [hb0.out]; omega, .inl ⟨h, rfl⟩⟩
  clear B2 hcut ho B1 X1 hbw1 hbw2 hcl hao hsr hcap
  go_wp2_with fail
  refine (hop.out w2).mono ?_
  rintro e w3 ⟨⟨r, bo, rfl, hor⟩, B3⟩
  have R3 : Hid (Below w.heap.size w w3) := R2.out.trans (B3.mono R2.out.size)
  have X3 : Hid (Bsz w3 b0 zst) := X2.out.fr (Fr.bel B3) id
  have hcl3 : Hid (∀ (i : Nat) (u : List UInt8), (w0 :: ws)[i]? = some u → w3.cell? ⟨bw, i, none⟩ = some (.string (txb u))) := fun i u hi => (B3.cell (p := ⟨bw, i, none⟩) hbwH.out.2).trans (hclH.out i u hi)
  have hbw3 : Hid (b0 < bw ∧ bw < w3.heap.size) := ⟨hbwH.out.1, Nat.lt_of_lt_of_le hbwH.out.2 B3.size⟩
  have hob := opn_of hor
  clear hor hop B3 c0 hclH hbwH X2 R2 hN1
  rcases hob with ⟨rfl, hop, hr1, hr2⟩ | ⟨rfl, hop⟩
  · have P0 : Hid (PK l r ws 0 []) := ⟨by simp, by
      have h9 := hst.out
      rw [hop, Option.bind_some] at h9
      rw [h9, List.drop_zero]
      show _ = ((Li.dw (ltr.drop 0) ws).map _).map _
      rw [List.drop_zero]
      cases Li.dw ltr ws <;> simp⟩
    obtain ⟨b7, hb7⟩ := hid_ex3 w3.heap.size
    obtain ⟨w4, ew4⟩ := hid_ex3 (w3.alloc (.cells #[.int .i64 0, .int .i64 0, .int .i64 0, .int .i64 0, .int .i64 0, .int .i64 0] 80))
    have L4 : Below w3.heap.size w3 w4 := by rw [← ew4.out]; exact (Below.refl _ _).alloc (Nat.le_refl _) _
    have A4 : Arz w4 b7 6 [] := by
      rw [← ew4.out, ← hb7.out]
      refine ⟨fun j hj => ?_, fun j => by simp⟩
      match j, hj with
      | 0, _ => simp
      | 1, _ => simp
      | 2, _ => simp
      | 3, _ => simp
      | 4, _ => simp
      | 5, _ => simp
    have M4 : Hid (TW w w4 b0 b7 bw (w0 :: ws) []) := ⟨X3.out.fr (Fr.bel L4) id, A4, fun i u hi => (L4.cell (p := ⟨bw, i, none⟩) hbw3.out.2).trans (hcl3.out i u hi), R3.out.trans (L4.mono R3.out.size)⟩
    have hnb : Hid (b0 ≠ b7 ∧ bw ≠ b7 ∧ w.heap.size ≤ b7) := by
      have h1 := hbw3.out; have h2 := hb7.out; have h3 := R3.out.size
      exact ⟨by omega, by omega, by omega⟩
    clear hop hr1 hr2 L4 A4 hst
    go_upto_region 7 with fail
    rw [ew4.out, hb7.out]
    have hsr := hsrH.out
    go_wp2_with fail
    clear hsr
    go_loopw [29, 8] (fun i a wr => ∃ (k : Nat) (xs : List Int), i = .int .i64 k ∧ a = .int .i64 (xs.length : Nat) ∧ k ≤ m ∧ Hid (PK l r ws k xs) ∧ Hid (TW w wr b0 b7 bw (w0 :: ws) xs)) (fun i _ _ => m - (intOf i).toNat)
    case atStart => exact ⟨0, [], rfl, rfl, Nat.zero_le _, P0, M4⟩
    case round =>
      obtain ⟨k, xs, rfl, rfl, hkm, Pk, Mk⟩ := hrel
      obtain ⟨A, hA⟩ := hid_ex3 xs.length
      rw [hA.out]
      by_cases hlt : k < m
      · have hlt' : (k : Int) < (m : Int) := by omega
        obtain rfl := haoH.out (by omega)
        obtain ⟨u, hu⟩ : ∃ u, ws[k]? = some u := ⟨_, List.getElem?_eq_getElem (by rw [hm.out]; exact hlt)⟩
        have huH : Hid (ws[k]? = some u) := hu
        have hc1 : wr.cell? ⟨bw, 1 + k, none⟩ = some (.string (txb u)) := Mk.out.t (1 + k) u (by rw [Nat.add_comm, List.getElem?_cons_succ]; exact hu)
        clear hu
        go_wp2_with fail
        clear hc1
        rename World => wo
        have hlen : Hid (u.length ≤ 2000000 ∧ u ∈ ws) := ⟨hul.out u (List.mem_of_getElem? huH.out), List.mem_of_getElem? huH.out⟩
        have hltH : Hid (k < m) := hlt
        clear hlt' hlt
        go_loopw [8] (fun a wx => ∃ (ys : List Int), a = .int .i64 (ys.length : Nat) ∧ Hid (PK l r ws k ys) ∧ Hid (TW w wx b0 b7 bw (w0 :: ws) ys)) (fun a _ => 6 - (intOf a).toNat)
        case atStart => exact ⟨xs, by rw [hA.out], Pk, Mk⟩
        case round =>
          obtain ⟨ys, rfl, Py, My⟩ := hrel
          have hy6 : Hid (ys.length ≤ 6) := Py.out.1
          obtain ⟨a, ha⟩ := hid_ex3 ys.length
          rw [ha.out] at hy6 ⊢
          by_cases ha6 : a < 6
          · have t1 : (a : Int) < 6 := by omega
            have haw : IntKind.i64.wrap ((a : Int) + 1) = (a : Int) + 1 := by rw [IntKind.wrap_i64]; omega
            have hqe : ((txb u).toList == ([] : List UInt8)) = decide (u = []) := by
              have h9 := txb_eq u []
              rw [show (txb []).toList = [] by rw [Lib.toList_data]; rfl] at h9
              exact h9
            by_cases hu0 : u = []
            · rw [decide_eq_true hu0] at hqe
              have Pn : Hid (PK l r ws k (ys ++ [0])) := Py.out.next huH.out (by rw [ha.out]; exact ha6) (by rw [hu0]; simp)
              have Mn : Hid (TW w wr.drew b0 b7 bw (w0 :: ws) (ys ++ [0])) := (My.out.call (Below.refl _ _).drew).zero
              have hln : Hid (((ys ++ [0]).length : Int) = (a : Int) + 1) := by show _ = _; simp [ha.out]
              clear hu0
              go_wp2
              go_region
              go_wp2
              go_roundw
              case rel => exact ⟨_, by rw [hln.out], Pn, Mn⟩
              case measure => simp [intOf]; omega
            · rw [decide_eq_false hu0] at hqe
              obtain ⟨c, mm, hcm⟩ : ∃ c mm, u = c :: mm := by
                cases hu9 : u with
                | nil => exact absurd hu9 hu0
                | cons c mm => exact ⟨c, mm, rfl⟩
              have hcmH : Hid (u = c :: mm) := hcm
              obtain ⟨C, hC⟩ := hid_ex3 c.toNat
              obtain ⟨D, hD⟩ := hid_ex3 (ltr.getD a 0).toNat
              have hx0 : ∀ W : World, (Instr.index 9 (.string (txb u)) (.int .i64 0)).run Tryd.prog W = .ok (.int .u8 (C : Int)) W := fun W => by
                have h9 := txi u 0 (by rw [hcm]; simp) W
                rw [← hC.out]
                rw [hcm] at h9 ⊢
                exact h9
              have hxa : ∀ W : World, (Instr.index 9 (.string ⟨#[100, 115, 106, 99, 110, 107]⟩) (.int .i64 (a : Int))).run Tryd.prog W = .ok (.int .u8 (D : Int)) W := fun W => by rw [← hD.out]; exact tx_ltr a ha6 W
              by_cases hcd : c = ltr.getD a 0
              · have q1 : ((C : Int) != (D : Int)) = false := by rw [← hC.out, ← hD.out, hcd]; simp
                have hrp := Py.out.read (m := mm) huH.out (by rw [ha.out]; exact ha6) (by rw [ha.out, ← hcd]; exact hcm)
                have hrpH : Hid ((Li.rdn mm = none → stl l = none) ∧ (Li.rdn mm = some 0 → stl l = none) ∧ ∀ x, Li.rdn mm = some x → x ≠ 0 → PK l r ws (k + 1) (ys ++ [x])) := hrp
                have hsl : ∀ W : World, (Instr.slice 9 (.string (txb u)) (some (.int .i64 1)) none none).run Tryd.prog W = .ok (.string (txb mm)) W := fun W => by
                  rw [run_slice_string_l W 9 (txb u) Tryd.underlying9 .i64 1 (by omega) (by rw [txb_size, hcm, List.length_cons]; omega), txb_cut, hcm, show (1 : Int).toNat = 1 from rfl]
                  simp [txb_size]
                have hrdu : Hid (∀ W, Calls Tryd.prog 32 #[.string (txb mm)] W fun e w' => DrE mm W e w') := fun W => hrd.out u mm W hlen.out.2 (by rw [hcm]; simp)
                have t2 : ((a : Int) == 6) = false := beq_eq_false_iff_ne.2 (by omega)
                have My2 : Hid (TW w wr.drew b0 b7 bw (w0 :: ws) ys) := My.out.call (Below.refl _ _).drew
                clear hcd hcm hu0 hrp
                go_wp2
                go_region
                go_wp2_with fail
                refine (hrdu.out _).mono ?_
                rintro e w5 ⟨B5, n, hn, rfl⟩
                have M5 : Hid (TW w w5 b0 b7 bw (w0 :: ws) ys) := My2.out.call B5
                have hnH : Hid (∀ x, Li.rdn mm = some x → n = x) := hn
                clear B5 hn hsl hx0 hxa q1
                obtain ⟨q, hq⟩ := hid_ex3 (Li.rdn mm)
                rw [hq.out] at hrpH hnH ⊢
                cases q with
                | none =>
                  have hno : Hid (stl l = none) := hrpH.out.1 rfl
                  obtain ⟨x0, x1, x2, x3, x4, x5, x6⟩ := M5.out.x.bx
                  simp only [zst] at x0 x1 x2 x3 x4 x5 x6
                  have Zx := M5.out.x.fz
                  clear hrpH hnH
                  go_wp2_with fail
                  obtain ⟨z0, z1, z2, z3, z4, z5, z6⟩ := M5.out.x.bx.set zst
                  simp only [zst] at z0 z1 z2 z3 z4 z5 z6
                  refine bodyPost_ret (v := .tuple #[sv zst, .bool false]) (by unfold sv sva zst; simp [results, Tryd.results15, go_sem, z0, z1, z2, z3, z4, z5, z6]) rfl ?_
                  exact hzr.out hno.out _ M5.out.be _ _ _ _ _ _ _
                | some x =>
                  obtain rfl : n = x := hnH.out x rfl
                  by_cases hn0 : n = 0
                  · have hno : Hid (stl l = none) := hrpH.out.2.1 (by rw [hn0])
                    have e0 : (n == 0) = true := by rw [hn0]; rfl
                    obtain ⟨x0, x1, x2, x3, x4, x5, x6⟩ := M5.out.x.bx
                    simp only [zst] at x0 x1 x2 x3 x4 x5 x6
                    have Zx := M5.out.x.fz
                    clear hrpH hnH hn0
                    go_wp2_with fail
                    obtain ⟨z0, z1, z2, z3, z4, z5, z6⟩ := M5.out.x.bx.set zst
                    simp only [zst] at z0 z1 z2 z3 z4 z5 z6
                    refine bodyPost_ret (v := .tuple #[sv zst, .bool false]) (by unfold sv sva zst; simp [results, Tryd.results15, go_sem, z0, z1, z2, z3, z4, z5, z6]) rfl ?_
                    exact hzr.out hno.out _ M5.out.be _ _ _ _ _ _ _
                  · have Pn : Hid (PK l r ws (k + 1) (ys ++ [n])) := hrpH.out.2.2 n rfl hn0
                    have e0 : (n == 0) = false := beq_eq_false_iff_ne.2 hn0
                    have M6 : Hid (TW w (w5.setCell ⟨b7, a, none⟩ (.int .i64 n)) b0 b7 bw (w0 :: ws) (ys ++ [n])) := by
                      have h9 := M5.out.set n hnb.out.1 hnb.out.2.2 hnb.out.2.1
                      rw [ha.out] at h9; exact h9
                    have hln : Hid (((ys ++ [n]).length : Int) = (a : Int) + 1) := by show _ = _; simp [ha.out]
                    have y4 := M5.out.y.c a ha6
                    have y5 := M5.out.y.fz a
                    have hk6 : (a : Int) + 1 ≤ 6 := by omega
                    clear hrpH hnH hn0
                    go_wp2_with fail
                    go_roundw
                    case rel => exact ⟨k + 1, _, by go_num, by rw [hln.out], hltH.out, Pn, M6⟩
                    case measure => simp [intOf]; have := hltH.out; omega
              · have q1 : ((C : Int) != (D : Int)) = true := by
                  rw [← hC.out, ← hD.out]
                  exact bne_iff_ne.2 fun e => hcd (UInt8.toNat_inj.1 (by omega))
                have Pn : Hid (PK l r ws k (ys ++ [0])) := Py.out.next huH.out (by rw [ha.out]; exact ha6) (by rw [hcm, ha.out]; simpa using hcd)
                have Mn : Hid (TW w wr.drew b0 b7 bw (w0 :: ws) (ys ++ [0])) := (My.out.call (Below.refl _ _).drew).zero
                have hln : Hid (((ys ++ [0]).length : Int) = (a : Int) + 1) := by show _ = _; simp [ha.out]
                clear hu0 hcm hcd
                go_wp2
                go_region
                go_wp2
                go_roundw
                case rel => exact ⟨_, by rw [hln.out], Pn, Mn⟩
                case measure => simp [intOf]; omega
          · have t1 : decide ((a : Int) < 6) = false := decide_eq_false (by omega)
            have t2 : ((a : Int) == 6) = true := by rw [show a = 6 by have := hy6.out; omega]; rfl
            have hno : Hid (stl l = none) := Py.out.six huH.out (by rw [ha.out]; have := hy6.out; omega)
            have My2 : Hid (TW w wr.drew b0 b7 bw (w0 :: ws) ys) := My.out.call (Below.refl _ _).drew
            go_wp2
            go_region
            obtain ⟨wq, hwq⟩ := hid_ex3 wr.drew
            rw [hwq.out] at My2 ⊢
            clear hwq
            obtain ⟨x0, x1, x2, x3, x4, x5, x6⟩ := My2.out.x.bx
            simp only [zst] at x0 x1 x2 x3 x4 x5 x6
            have Zx := My2.out.x.fz
            go_wp2
            obtain ⟨z0, z1, z2, z3, z4, z5, z6⟩ := My2.out.x.bx.set zst
            simp only [zst] at z0 z1 z2 z3 z4 z5 z6
            refine bodyPost_ret (v := .tuple #[sv zst, .bool false]) (by unfold sv sva zst; simp [results, Tryd.results15, go_sem, z0, z1, z2, z3, z4, z5, z6]) rfl ?_
            exact hzr.out hno.out _ My2.out.be _ _ _ _ _ _ _
      · have hlt' : decide ((k : Int) < (m : Int)) = false := decide_eq_false (by omega)
        have hres : Hid (stl l = some (stZ r xs)) := Pk.out.done (by rw [hm.out]; omega)
        obtain ⟨x0, x1, x2, x3, x4, x5, x6⟩ := Mk.out.x.bx
        have Zx := Mk.out.x.fz
        have y0 := Mk.out.y.c 0 (by decide)
        have y1 := Mk.out.y.c 1 (by decide)
        have y2 := Mk.out.y.c 2 (by decide)
        have y3 := Mk.out.y.c 3 (by decide)
        have y4 := Mk.out.y.c 4 (by decide)
        have y5 := Mk.out.y.c 5 (by decide)
        obtain ⟨a0, ha0⟩ := hid_ex3 (xs.getD 0 0)
        obtain ⟨a1, ha1⟩ := hid_ex3 (xs.getD 1 0)
        obtain ⟨a2, ha2⟩ := hid_ex3 (xs.getD 2 0)
        obtain ⟨a3, ha3⟩ := hid_ex3 (xs.getD 3 0)
        obtain ⟨a4, ha4⟩ := hid_ex3 (xs.getD 4 0)
        obtain ⟨a5, ha5⟩ := hid_ex3 (xs.getD 5 0)
        rw [ha0.out] at y0
        rw [ha1.out] at y1
        rw [ha2.out] at y2
        rw [ha3.out] at y3
        rw [ha4.out] at y4
        rw [ha5.out] at y5
        have hpv : Hid (sv ⟨r, a0, a1, a2, a3, a4, a5⟩ = sv (stZ r xs)) := by
          rw [← ha0.out, ← ha1.out, ← ha2.out, ← ha3.out, ← ha4.out, ← ha5.out]; exact (rfl : _ = _)
        clear Pk
        go_wp2_with fail
        obtain ⟨z0, z1, z2, z3, z4, z5, z6⟩ := Mk.out.x.bx.set ⟨r, a0, a1, a2, a3, a4, a5⟩
        refine bodyPost_ret (v := .tuple #[sv ⟨r, a0, a1, a2, a3, a4, a5⟩, .bool true]) (by unfold sv sva; simp [results, Tryd.results15, go_sem, z0, z1, z2, z3, z4, z5, z6]) rfl ?_
        exact ⟨(set7_fr wr b0 _ _ _ _ _ _ _).below Mk.out.be Mk.out.be.size fun k _ hk => by rw [hb0.out]; omega, .inr ⟨_, hres.out, by rw [hpv.out]⟩⟩
  · have hno : Hid (stl l = none) := by rw [hst.out, hop]; exact (rfl : _ = _)
    obtain ⟨x0, x1, x2, x3, x4, x5, x6⟩ := X3.out.bx
    simp only [zst] at x0 x1 x2 x3 x4 x5 x6
    have Zx := X3.out.fz
    clear hop hst
    go_wp2_with fail
    obtain ⟨z0, z1, z2, z3, z4, z5, z6⟩ := X3.out.bx.set zst
    simp only [zst] at z0 z1 z2 z3 z4 z5 z6
    refine bodyPost_ret (v := .tuple #[sv zst, .bool false]) (by unfold sv sva zst; simp [results, Tryd.results15, go_sem, z0, z1, z2, z3, z4, z5, z6]) rfl ?_
    exact hzr.out hno.out _ R3.out _ _ _ _ _ _ _
end Go.Proofs.YtlbnldbelfgokaaDoor
/-
  Package listing, reading: Read.
-/
namespace Go.Proofs.YtlbnldbelfgokaaDoor
open Flo Go.RowKit
/-- the steps of lines: k is the first one's number -/
def rls : List (List UInt8) → Nat → Except (Nat × Bool) (List Sp.St)
  | [], _ => .ok []
  | [l], k => if l = [] then .ok [] else .error (k, false)
  | l :: l' :: ls, k => match stl l with
    | none => .error (k, false)
    | some s => if Sp.fm s = true then (rls (l' :: ls) (k + 1)).map (s :: ·) else .error (k, true)
def pgw (xs : List Int) (ss : List Sp.St) : Sp.Pg := ⟨xs.getD 0 0, xs.getD 1 0, xs.getD 2 0, xs.getD 3 0, ss⟩
/-- the program of a listing -/
def rdt (t : List UInt8) : Except (Nat × Bool) Sp.Pg := match hdl (Li.wd 10 t) with
  | none => .error (1, false)
  | some xs => if Li.rs 10 t = [] then .error (1, false) else (rls (Li.sp 10 ((Li.rs 10 t).drop 1)) 2).map (pgw xs)
theorem sp_cut (c : UInt8) : ∀ l : List UInt8, Li.sp c l = Li.wd c l :: (if Li.rs c l = [] then [] else Li.sp c ((Li.rs c l).drop 1))
  | [] => rfl
  | b :: l => by
    rw [Li.wd_cons, Li.rs_cons]
    by_cases hb : b = c
    · rw [if_pos hb, if_pos hb, if_neg (by simp)]
      simp [Li.sp, hb]
    · rw [if_neg hb, if_neg hb]
      simp only [Li.sp, if_neg hb]
      rw [sp_cut c l]
theorem sp_ne (c : UInt8) (l : List UInt8) : ∃ w ws, Li.sp c l = w :: ws := ⟨_, _, sp_cut c l⟩
theorem rls_more {l r : List UInt8} (k : Nat) : rls (l :: Li.sp 10 r) k = match stl l with
    | none => .error (k, false)
    | some s => if Sp.fm s = true then (rls (Li.sp 10 r) (k + 1)).map (s :: ·) else .error (k, true) := by
  obtain ⟨u, us, h⟩ := sp_ne 10 r
  rw [h, rls]
/-- what Read tells -/
def RdE (al : List Addr) (t : List UInt8) (w : World) (e : Ending) (w' : World) : Prop :=
  Below w.heap.size w w' ∧ ((∃ (k : Nat) (b : Bool), rdt t = .error (k, b) ∧ e = .returned (.tuple #[zp, .int .i64 (k : Int), ek al (bif b then 8 else 5)])) ∨
    ∃ (p : Sp.Pg) (v : Value), rdt t = .ok p ∧ e = .returned (.tuple #[pv p v, .int .i64 0, .nilIface]) ∧ OwS w' w.heap.size v p.steps)
structure RM (w wr : World) (b0 b1 : Nat) (hd : Sp.Pg) (B : Nat) (v : Value) (ss : List Sp.St) : Prop where
  x : Bpf wr b0 ⟨0, 0, 0, 0, []⟩ (.slice none 0 0)
  y : Bpf wr b1 hd v
  ow : OwS wr B v ss
  be : Below w.heap.size w wr
  bb : w.heap.size ≤ b0 ∧ b0 < b1 ∧ b1 < B ∧ B ≤ wr.heap.size
section
variable {w wr wx : World} {b0 b1 B : Nat} {hd : Sp.Pg} {v : Value} {ss : List Sp.St}
theorem RM.row (h : RM w wr b0 b1 hd B v ss) : ∀ b, v.ownBlock = some b → B ≤ b ∧ b < wr.heap.size := fun b hb => World.ownsRow.lt h.ow b hb
theorem RM.call (h : RM w wr b0 b1 hd B v ss) (hb : Below wr.heap.size wr wx) : RM w wx b0 b1 hd B v ss :=
  ⟨h.x.fr (Fr.bel hb) id, h.y.fr (Fr.bel hb) id, h.ow.fr (Fr.bel hb) (fun _ _ h => h), h.be.trans (hb.mono h.be.size), ⟨h.bb.1, h.bb.2.1, h.bb.2.2.1, Nat.le_trans h.bb.2.2.2 hb.size⟩⟩
theorem RM.push (h : RM w wr b0 b1 hd B v ss) {v' : Value} {ss' : List Sp.St} (ho : OwS wx B v' ss') (hg : wr.grownBy wx v.ownBlock) (hn : ∀ b, v'.ownBlock = some b → v.ownBlock = some b ∨ wr.heap.size ≤ b) :
    Bpf wx b1 hd v ∧ RM w (wx.setCell ⟨b1, 4, none⟩ v') b0 b1 hd B v' ss' := by
  have f1 : Fr (fun k => v.ownBlock = some k) wr wx := (Fr.refl _ wr).grown hg fun _ hk => hk
  have hbb := h.bb
  have nb : ∀ k, k < B → ¬ v.ownBlock = some k := fun k hk e => by have := (h.row _ e).1; omega
  have y1 := h.y.fr f1 (nb _ (by omega))
  have f2 := set_fr wx b1 4 v'
  refine ⟨y1, ⟨(h.x.fr f1 (nb _ (by omega))).fr f2 (by omega), y1.set4 v', ?_, ?_, ⟨hbb.1, hbb.2.1, hbb.2.2.1, ?_⟩⟩⟩
  · refine OwS.fr ho f2 fun b hb => ?_
    rcases hn b hb with a1 | a1
    · have := (h.row _ a1).1; omega
    · omega
  · exact f2.below (f1.below h.be h.be.size fun k _ hk => by have := (h.row _ hk).1; omega) (Nat.le_trans h.be.size f1.size) fun k _ hk => by omega
  · have := hg.size
    have h3 := f2.size
    omega
end
/-- how far the lines are read -/
def RS (t : List UInt8) (k : Nat) (r : List UInt8) (xs : List Int) (ss : List Sp.St) : Prop :=
  2 ≤ k ∧ ss.length ≤ k ∧ k + r.length ≤ t.length + 2 ∧ rdt t = (rls (Li.sp 10 r) k).map fun zs => pgw xs (ss ++ zs)
set_option maxHeartbeats 16000000 in
set_option maxRecDepth 100000 in
theorem lread_c (t : List UInt8) (hl : t.length ≤ 2000000) (w : World) (al : List Addr) (h : Lf w al) :
    Calls Tryd.prog 5 #[.string (txb t)] w fun e w' => RdE al t w e w' := by
  obtain ⟨b0, hb0⟩ := hid_ex3 w.heap.size
  obtain ⟨w1, ew1⟩ := hid_ex3 (w.alloc (.cells #[.int .i64 0, .int .i64 0, .int .i64 0, .int .i64 0, .slice none 0 0] 25))
  have B1 : Hid (Below w.heap.size w w1) := by rw [← ew1.out]; exact (Below.refl _ _).alloc (Nat.le_refl _) _
  have X1 : Hid (Bpf w1 b0 ⟨0, 0, 0, 0, []⟩ (.slice none 0 0)) := by rw [← ew1.out, ← hb0.out]; exact Bpf.new w ⟨0, 0, 0, 0, []⟩ _
  have LH : Hid (Lf w al) := h
  have lH : Hid (t.length ≤ 2000000) := hl
  have hgt : Hid (0 < w.heap.size) := cell_lt h.te
  have hne : Hid (¬ 0 = b0) := by have := hgt.out; show ¬ _; rw [← hb0.out]; omega
  have hcut : Hid (∀ (W : World) (r : List UInt8), r.length ≤ 140737488355328 → Calls Tryd.prog 10 #[.string (txb r), .string ⟨#[10]⟩] W fun e w' => e = .returned (cutv r) ∧ Below W.heap.size W w') := fun W r hr => scut_c r hr W
  have hrh : Hid (∀ (W : World) (r : List UInt8), Below w.heap.size w W → r.length ≤ 140737488355328 → Calls Tryd.prog 11 #[.string (txb r)] W fun e w' => HdE r W e w') := fun W r hW hr => lreadHead_c r hr W al (LH.out.below hW)
  have hrst : Hid (∀ (W : World) (r : List UInt8), Below w.heap.size w W → r.length ≤ 140737488355328 → Calls Tryd.prog 12 #[.string (txb r)] W fun e w' => StE al r W e w') := fun W r hW hr => lreadStep_c r hr W al (LH.out.below hW)
  clear h hl
  go_enter Tryd.func5, Tryd.ntmps5
  go_upto_region 1 with fail
  rw [ew1.out, hb0.out]
  go_wp2_with fail
  refine (hcut.out w1 t (by have := lH.out; omega)).mono ?_
  rintro e w2 ⟨rfl, B2⟩
  have R2 : Hid (Below w.heap.size w w2) := B1.out.trans (B2.mono B1.out.size)
  have X2 : Hid (Bpf w2 b0 ⟨0, 0, 0, 0, []⟩ (.slice none 0 0)) := X1.out.fr (Fr.bel B2) id
  have hwl : Hid ((Li.wd 10 t).length ≤ 2000000) := Nat.le_trans (wd_len 10 t) lH.out
  have hrdt : Hid (rdt t = match hdl (Li.wd 10 t) with
      | none => .error (1, false)
      | some xs => if Li.rs 10 t = [] then .error (1, false) else (rls (Li.sp 10 ((Li.rs 10 t).drop 1)) 2).map (pgw xs)) := (rfl : _ = _)
  have hrsl : Hid (((Li.rs 10 t).drop 1).length ≤ t.length) := by show _ ≤ _; rw [List.length_drop]; have := rs_len 10 t; omega
  clear B2 B1 X1
  unfold cutv
  generalize Li.wd 10 t = l0 at *
  obtain ⟨rr, hrr⟩ := hid_ex3 (Li.rs 10 t)
  rw [hrr.out] at hrdt hrsl ⊢
  obtain ⟨r1, hr1⟩ := hid_ex3 (rr.drop 1)
  rw [hr1.out] at hrdt hrsl ⊢
  obtain ⟨en, hen⟩ := hid_ex3 (!rr.isEmpty)
  rw [hen.out]
  go_wp2_with fail
  refine (hrh.out w2 l0 R2.out (by have := hwl.out; omega)).mono ?_
  rintro e w3 ⟨B3, hcs⟩
  have R3 : Hid (Below w.heap.size w w3) := R2.out.trans (B3.mono R2.out.size)
  have X3 : Hid (Bpf w3 b0 ⟨0, 0, 0, 0, []⟩ (.slice none 0 0)) := X2.out.fr (Fr.bel B3) id
  obtain ⟨b1, hb1⟩ := hid_ex3 w3.heap.size
  have hb01 : Hid (b0 < b1) := by rw [← hb1.out]; exact cell_lt (a := ⟨b0, 0, none⟩) X3.out.bx.c0
  clear B3 X2 hrh
  rcases hcs with ⟨hno, q, rfl⟩ | ⟨xs, hso, rfl⟩
  · have hres : Hid (rdt t = .error (1, false)) := by have h9 := hrdt.out; rw [hno] at h9; exact h9
    obtain ⟨w4, ew4⟩ := hid_ex3 (w3.alloc (.cells #[.int .i64 q.len, .int .i64 q.cells, .int .i64 q.inn, .int .i64 q.out, .slice none 0 0] 25))
    have L4 : Below w3.heap.size w3 w4 := by rw [← ew4.out]; exact (Below.refl _ _).alloc (Nat.le_refl _) _
    have R4 : Hid (Below w.heap.size w w4) := R3.out.trans (L4.mono R3.out.size)
    have X4 : Hid (Bpf w4 b0 ⟨0, 0, 0, 0, []⟩ (.slice none 0 0)) := X3.out.fr (Fr.bel L4) id
    clear hno hrdt L4
    unfold pv
    go_upto_region 3 with fail
    rw [ew4.out, hb1.out]
    obtain ⟨x0, x1, x2, x3, x4⟩ := X4.out.bx
    have Zx := X4.out.fz
    have p5 : w4.cell? ⟨0, 0, none⟩ = some (ek al 5) := (LH.out.below R4.out).te
    have p6 := (set5_fr w4 b0 (.int .i64 0) (.int .i64 0) (.int .i64 0) (.int .i64 0) (.slice none 0 0)).cell p5 hne.out
    go_wp2
    go_region
    all_goals (
      go_wp2
      obtain ⟨z0, z1, z2, z3, z4⟩ := X4.out.bx.set ⟨0, 0, 0, 0, []⟩ (.slice none 0 0)
      refine bodyPost_ret (v := .tuple #[zp, .int .i64 1, ek al 5]) (by unfold zp; simp [results, Tryd.results5, go_sem, z0, z1, z2, z3, z4]) rfl ⟨?_, .inl ⟨_, _, hres.out, rfl⟩⟩
      exact ((set5_fr w4 b0 _ _ _ _ _).below R4.out R4.out.size fun k _ hk => by rw [hb0.out]; omega).drew)
  · have hrd2 : Hid (rdt t = if rr = [] then .error (1, false) else (rls (Li.sp 10 r1) 2).map (pgw xs)) := by have h9 := hrdt.out; rw [hso] at h9; exact h9
    obtain ⟨w4, ew4⟩ := hid_ex3 (w3.alloc (.cells #[.int .i64 (hdZ xs).len, .int .i64 (hdZ xs).cells, .int .i64 (hdZ xs).inn, .int .i64 (hdZ xs).out, .slice none 0 0] 25))
    have L4 : Below w3.heap.size w3 w4 := by rw [← ew4.out]; exact (Below.refl _ _).alloc (Nat.le_refl _) _
    have R4 : Hid (Below w.heap.size w w4) := R3.out.trans (L4.mono R3.out.size)
    have X4 : Hid (Bpf w4 b0 ⟨0, 0, 0, 0, []⟩ (.slice none 0 0)) := X3.out.fr (Fr.bel L4) id
    have Y4 : Hid (Bpf w4 b1 (hdZ xs) (.slice none 0 0)) := by rw [← ew4.out, ← hb1.out]; exact Bpf.new w3 (hdZ xs) _
    clear hso hrdt L4
    unfold pv
    go_upto_region 3 with fail
    rw [ew4.out, hb1.out]
    by_cases hre : rr = []
    · have hres : Hid (rdt t = .error (1, false)) := by have h9 := hrd2.out; rw [if_pos hre] at h9; exact h9
      have e1 : en = false := by rw [← hen.out, hre]; rfl
      clear hre hrd2
      subst e1
      obtain ⟨x0, x1, x2, x3, x4⟩ := X4.out.bx
      have Zx := X4.out.fz
      have p5 : w4.cell? ⟨0, 0, none⟩ = some (ek al 5) := (LH.out.below R4.out).te
      have p6 := (set5_fr w4 b0 (.int .i64 0) (.int .i64 0) (.int .i64 0) (.int .i64 0) (.slice none 0 0)).cell p5 hne.out
      go_wp2
      go_region
      all_goals (
        go_wp2
        obtain ⟨z0, z1, z2, z3, z4⟩ := X4.out.bx.set ⟨0, 0, 0, 0, []⟩ (.slice none 0 0)
        refine bodyPost_ret (v := .tuple #[zp, .int .i64 1, ek al 5]) (by unfold zp; simp [results, Tryd.results5, go_sem, z0, z1, z2, z3, z4]) rfl ⟨?_, .inl ⟨_, _, hres.out, rfl⟩⟩
        exact ((set5_fr w4 b0 _ _ _ _ _).below R4.out R4.out.size fun k _ hk => by rw [hb0.out]; omega).drew)
    · have e1 : en = true := by
        rw [← hen.out]
        cases hx : rr with
        | nil => exact absurd hx hre
        | cons a b => rfl
      have S4 : Hid (RS t 2 r1 xs []) := ⟨Nat.le_refl _, by simp, by have := hrsl.out; omega, by have h9 := hrd2.out; rw [if_neg hre] at h9; exact h9⟩
      have M4 : Hid (RM w w4 b0 b1 (hdZ xs) w4.heap.size (.slice none 0 0) []) := ⟨X4.out, Y4.out, World.ownsRow_nil _ _ _ _, R4.out, ⟨by rw [hb0.out]; exact Nat.le_refl _, hb01.out, cell_lt (a := ⟨b1, 0, none⟩) Y4.out.bx.c0, Nat.le_refl _⟩⟩
      subst e1
      clear hre hrd2 hen hr1 hrr
      go_wp2
      go_loopw [10, 6] (fun i u wr => ∃ (k B : Nat) (r : List UInt8) (v : Value) (ss : List Sp.St), i = .int .i64 k ∧ u = .string (txb r) ∧ Hid (RS t k r xs ss) ∧ Hid (RM w wr b0 b1 (hdZ xs) B v ss)) (fun i _ _ => t.length + 3 - (intOf i).toNat)
      case atStart => exact ⟨2, _, r1, _, [], rfl, rfl, S4, M4⟩
      case round =>
        obtain ⟨k, B, r, v, ss, rfl, rfl, Sk, Mk⟩ := hrel
        have hkb : k ≤ 2000002 := by have h1 := Sk.out.2.2.1; have h2 := lH.out; omega
        have hrl : Hid (r.length ≤ 2000000) := by have h1 := Sk.out.2.2.1; have h0 := Sk.out.1; have h2 := lH.out; show _ ≤ _; omega
        have hqe : ((txb r).toList == ([] : List UInt8)) = decide (r = []) := by
          have h9 := txb_eq r []
          rw [show (txb []).toList = [] by rw [Lib.toList_data]; rfl] at h9
          exact h9
        by_cases hr : r = []
        · rw [decide_eq_true hr] at hqe
          have hres : Hid (rdt t = .ok (pgw xs ss)) := by
            have h9 := Sk.out.2.2.2
            rw [hr] at h9
            show _ = _
            rw [h9]
            simp [Li.sp, rls, Except.map]
          obtain ⟨x0, x1, x2, x3, x4⟩ := Mk.out.x.bx
          obtain ⟨y0, y1, y2, y3, y4⟩ := Mk.out.y.bx
          have Zx := Mk.out.x.fz
          obtain ⟨ao', cap', hv'⟩ := owns_slice Mk.out.ow
          subst hv'
          obtain ⟨m, hm⟩ := hid_ex3 ss.length
          rw [hm.out] at Mk y4
          clear hr Sk
          go_wp2
          obtain ⟨z0, z1, z2, z3, z4⟩ := Mk.out.x.bx.set (hdZ xs) (.slice ao' m cap')
          refine bodyPost_ret (v := .tuple #[pv (pgw xs ss) (.slice ao' m cap'), .int .i64 0, .nilIface]) (by show _ = Result.ok (Value.tuple #[pv (hdZ xs) (.slice ao' m cap'), _, _]) _; unfold pv; simp [results, Tryd.results5, go_sem, z0, z1, z2, z3, z4]) rfl ⟨?_, .inr ⟨pgw xs ss, _, hres.out, rfl, ?_⟩⟩
          · exact (set5_fr wr b0 _ _ _ _ _).below Mk.out.be Mk.out.be.size fun k _ hk => by rw [hb0.out]; omega
          · have h9 : OwS wr w.heap.size (.slice ao' m cap') ss := Mk.out.ow.base (C := w.heap.size) (by have h1 := Mk.out.bb; omega)
            exact h9.fr (set5_fr wr b0 _ _ _ _ _) fun b hb h1 => by have h2 := (Mk.out.row b hb).1; have h3 := Mk.out.bb; omega
        · rw [decide_eq_false hr] at hqe
          have hsp : Hid (rdt t = (rls (Li.wd 10 r :: (if Li.rs 10 r = [] then [] else Li.sp 10 ((Li.rs 10 r).drop 1))) k).map fun zs => pgw xs (ss ++ zs)) := by show _ = _; rw [← sp_cut]; exact Sk.out.2.2.2
          go_wp2_with fail
          refine (hcut.out wr r (by have := hrl.out; omega)).mono ?_
          rintro e w5 ⟨rfl, B5⟩
          have M5 : Hid (RM w w5 b0 b1 (hdZ xs) B v ss) := Mk.out.call B5
          have hwl2 : Hid ((Li.wd 10 r).length ≤ 2000000) := Nat.le_trans (wd_len 10 r) hrl.out
          have hrs3 : Hid (Li.rs 10 r ≠ [] → k + 1 + ((Li.rs 10 r).drop 1).length ≤ t.length + 2) := fun hne' => by
            have h1 := Sk.out.2.2.1
            have h2 := rs_len 10 r
            have h3 : 0 < (Li.rs 10 r).length := List.length_pos_iff.2 hne'
            rw [List.length_drop]; omega
          have hwdr : Hid (Li.rs 10 r = [] → Li.wd 10 r ≠ []) := fun e1 e2 => by
            have h9 := Li.wd_rs 10 r
            rw [e1, e2] at h9
            exact hr h9.symm
          clear B5 Mk hr
          unfold cutv
          generalize Li.wd 10 r = l1 at *
          obtain ⟨rq, hrq⟩ := hid_ex3 (Li.rs 10 r)
          rw [hrq.out] at hsp hrs3 hwdr ⊢
          obtain ⟨r3, hr3⟩ := hid_ex3 (rq.drop 1)
          rw [hr3.out] at hsp hrs3 ⊢
          obtain ⟨en2, hen2⟩ := hid_ex3 (!rq.isEmpty)
          rw [hen2.out]
          by_cases hre : rq = []
          · have hres : Hid (rdt t = .error (k, false)) := by
              have h9 := hsp.out
              rw [if_pos hre] at h9
              show _ = _
              rw [h9]
              simp [rls, hwdr.out hre, Except.map]
            have e1 : en2 = false := by rw [← hen2.out, hre]; rfl
            subst e1
            clear hre hsp Sk hen2
            obtain ⟨x0, x1, x2, x3, x4⟩ := M5.out.x.bx
            have Zx := M5.out.x.fz
            have p5 : w5.cell? ⟨0, 0, none⟩ = some (ek al 5) := (LH.out.below M5.out.be).te
            have p6 := (set5_fr w5 b0 (.int .i64 0) (.int .i64 0) (.int .i64 0) (.int .i64 0) (.slice none 0 0)).cell p5 hne.out
            go_wp2
            go_region
            all_goals (
              go_wp2
              obtain ⟨z0, z1, z2, z3, z4⟩ := M5.out.x.bx.set ⟨0, 0, 0, 0, []⟩ (.slice none 0 0)
              refine bodyPost_ret (v := .tuple #[zp, .int .i64 (k : Int), ek al 5]) (by unfold zp; simp [results, Tryd.results5, go_sem, z0, z1, z2, z3, z4]) rfl ⟨?_, .inl ⟨_, _, hres.out, rfl⟩⟩
              exact ((set5_fr w5 b0 _ _ _ _ _).below M5.out.be M5.out.be.size fun k _ hk => by rw [hb0.out]; omega).drew)
          · have e1 : en2 = true := by
              rw [← hen2.out]
              cases hx : rq with
              | nil => exact absurd hx hre
              | cons a b => rfl
            have hsp2 : Hid (rdt t = (match stl l1 with
                | none => .error (k, false)
                | some s => if Sp.fm s = true then (rls (Li.sp 10 r3) (k + 1)).map (s :: ·) else .error (k, true) : Except (Nat × Bool) (List Sp.St)).map fun zs => pgw xs (ss ++ zs)) := by
              have h9 := hsp.out
              rw [if_neg hre, rls_more] at h9
              exact h9
            have hr3b := hrs3.out hre
            subst e1
            clear hre hsp hen2
            go_wp2_with fail
            refine (hrst.out w5 l1 M5.out.be (by have := hwl2.out; omega)).mono ?_
            rintro e w6 ⟨B6, hcs⟩
            have M6 : Hid (RM w w6 b0 b1 (hdZ xs) B v ss) := M5.out.call B6
            clear B6
            obtain ⟨b2, hb2⟩ := hid_ex3 w6.heap.size
            rcases hcs with ⟨hno, rfl⟩ | ⟨s, hso, rfl⟩
            · have hres : Hid (rdt t = .error (k, false)) := by have h9 := hsp2.out; rw [hno] at h9; exact h9
              obtain ⟨w7, ew7⟩ := hid_ex3 (w6.alloc (.cells #[.int .i64 0, .int .i64 0, .int .i64 0, .int .i64 0, .int .i64 0, .int .i64 0, .int .i64 0] 38))
              have M7 : Hid (RM w w7 b0 b1 (hdZ xs) B v ss) := by rw [← ew7.out]; exact M6.out.call ((Below.refl _ _).alloc (Nat.le_refl _) _)
              have hq := nnil_c al 5
              have hgd := guard_c al 5
              clear hno hsp2 Sk
              unfold sv sva zst
              go_upto_region 12 with fail
              rw [ew7.out, hb2.out]
              obtain ⟨x0, x1, x2, x3, x4⟩ := M7.out.x.bx
              have Zx := M7.out.x.fz
              go_wp2
              obtain ⟨z0, z1, z2, z3, z4⟩ := M7.out.x.bx.set ⟨0, 0, 0, 0, []⟩ (.slice none 0 0)
              refine bodyPost_ret (v := .tuple #[zp, .int .i64 (k : Int), ek al 5]) (by unfold zp; simp [results, Tryd.results5, go_sem, z0, z1, z2, z3, z4]) rfl ⟨?_, .inl ⟨_, _, hres.out, rfl⟩⟩
              exact (set5_fr w7 b0 _ _ _ _ _).below M7.out.be M7.out.be.size fun k _ hk => by rw [hb0.out]; omega
            · obtain ⟨w7, ew7⟩ := hid_ex3 (w6.alloc (.cells #[.int .i64 s.op, .int .i64 s.dst, .int .i64 s.src, .int .i64 s.jump, .int .i64 s.count, .int .i64 s.n, .int .i64 s.k] 38))
              have M7 : Hid (RM w w7 b0 b1 (hdZ xs) B v ss) := by rw [← ew7.out]; exact M6.out.call ((Below.refl _ _).alloc (Nat.le_refl _) _)
              have Y7 : Hid (Bst w7 b2 s.op s.dst s.src s.jump s.count s.n s.k) := by show Bst _ _ _ _ _ _ _ _ _; rw [← ew7.out, ← hb2.out]; exact Bst.new w6 _ _ _ _ _ _ _
              cases hfm : Sp.fm s with
              | false =>
                have hres : Hid (rdt t = .error (k, true)) := by have h9 := hsp2.out; rw [hso] at h9; simp only at h9; rw [if_neg (by rw [hfm]; decide)] at h9; exact h9
                have hq := nnil_c al 8
                have hgd := guard_c al 8
                have e8 : fev al false = ek al 8 := rfl
                clear hso hsp2 Sk hfm
                unfold sv sva
                go_upto_region 12 with fail
                rw [ew7.out, hb2.out]
                obtain ⟨x0, x1, x2, x3, x4⟩ := M7.out.x.bx
                have Zx := M7.out.x.fz
                go_wp2
                obtain ⟨z0, z1, z2, z3, z4⟩ := M7.out.x.bx.set ⟨0, 0, 0, 0, []⟩ (.slice none 0 0)
                refine bodyPost_ret (v := .tuple #[zp, .int .i64 (k : Int), ek al 8]) (by unfold zp; simp [results, Tryd.results5, go_sem, z0, z1, z2, z3, z4]) rfl ⟨?_, .inl ⟨_, _, hres.out, rfl⟩⟩
                exact (set5_fr w7 b0 _ _ _ _ _).below M7.out.be M7.out.be.size fun k _ hk => by rw [hb0.out]; omega
              | true =>
                have e8 : fev al true = .nilIface := rfl
                have hl2 : Hid ((ss ++ [s]).length = ss.length + 1) := by simp [Hid]
                have S8 : Hid (RS t (k + 1) r3 xs (ss ++ [s])) := by
                  refine ⟨by have := Sk.out.1; omega, by have := Sk.out.2.1; simp; omega, by omega, ?_⟩
                  have h9 := hsp2.out
                  rw [hso] at h9
                  simp only at h9
                  rw [if_pos hfm] at h9
                  rw [h9]
                  cases rls (Li.sp 10 r3) (k + 1) with
                  | error e => rfl
                  | ok zs => simp [Except.map]
                have Q7 : Hid (∀ o, RM w (w7.alloc o) b0 b1 (hdZ xs) B v ss) := fun o => M7.out.call ((Below.refl _ _).alloc (Nat.le_refl _) o)
                have C7 : Hid (SAt (w7.alloc (.cells #[.int .i64 s.op, .int .i64 s.dst, .int .i64 s.src, .int .i64 s.jump, .int .i64 s.count, .int .i64 s.n, .int .i64 s.k] 38)) w7.heap.size 0 s) := ⟨by simp, by simp, by simp, by simp, by simp, by simp, by simp⟩
                have hkb2 : Hid ((ss.length + 1) * 56 ≤ 140737488355328) := by show _ ≤ _; have := Sk.out.2.1; omega
                clear hso hsp2 Sk hfm
                unfold sv sva
                go_upto_region 12 with fail
                rw [ew7.out, hb2.out]
                obtain ⟨y0, y1, y2, y3, y4, y5, y6⟩ := Y7.out
                have v4 := M7.out.y.bx.c4
                go_wp2_with (first | (at_builtin; refine appSt _ rfl _ _ rfl B ss s w7.heap.size v rfl rfl (Q7.out _).ow C7.out hkb2.out (Q7.out _).bb.2.2.2 ?_) | fail)
                intro v' w8 ho hgr hn
                obtain ⟨yb, hS8⟩ := (Q7.out _).push ho hgr (by simpa using hn)
                have hS8H : Hid (RM w (w8.setCell ⟨b1, 4, none⟩ v') b0 b1 (hdZ xs) B v' (ss ++ [s])) := hS8
                have v8 := yb.bx.c4
                have f8 := yb.fz 4
                obtain ⟨ao', cap', hv'⟩ := owns_slice ho
                rw [hl2.out] at hv'
                subst hv'
                clear ho hgr hn hS8 yb y0 y1 y2 y3 y4 y5 y6
                go_wp2
                go_roundw
                case rel => exact ⟨k + 1, B, r3, _, ss ++ [s], by go_num, rfl, S8, hS8H⟩
                case measure => simp [intOf]; omega
end Go.Proofs.YtlbnldbelfgokaaDoor
/-
  timbreref16: Read.
-/
namespace Go.Proofs.YtlbnldbelfgokaaDoor
open Flo Go.RowKit
/-- what the document's Read tells -/
def DqE (t : List UInt8) (w : World) (e : Ending) (w' : World) : Prop :=
  Below w.heap.size w w' ∧ ((∃ (k : Nat) (b : Bool), rdt t = .error (k, b) ∧ e = .returned (.tuple #[zp, .int .i64 (k : Int), .int .i64 (bif b then 9 else 6)])) ∨
    ∃ (p : Sp.Pg) (v : Value), rdt t = .ok p ∧ e = .returned (.tuple #[pv p v, .int .i64 0, .int .i64 0]) ∧ OwS w' w.heap.size v p.steps)
/-- memory while the lines are read -/
structure QM (w wr : World) (b0 b1 bw : Nat) (us : List (List UInt8)) (hd : Sp.Pg) (B : Nat) (v : Value) (ss : List Sp.St) : Prop where
  m : RM w wr b0 b1 hd B v ss
  t : ∀ (i : Nat) (u : List UInt8), us[i]? = some u → wr.cell? ⟨bw, i, none⟩ = some (.string (txb u))
  bb : bw < b1 ∧ bw ≠ b0
section
variable {w wr wx : World} {b0 b1 bw B : Nat} {us : List (List UInt8)} {hd : Sp.Pg} {v : Value} {ss : List Sp.St}
theorem QM.call (h : QM w wr b0 b1 bw us hd B v ss) (hb : Below wr.heap.size wr wx) : QM w wx b0 b1 bw us hd B v ss :=
  ⟨h.m.call hb, fun i u hi => (hb.cell (p := ⟨bw, i, none⟩) (cell_lt (h.t i u hi))).trans (h.t i u hi), h.bb⟩
theorem QM.push (h : QM w wr b0 b1 bw us hd B v ss) {v' : Value} {ss' : List Sp.St} (ho : OwS wx B v' ss') (hg : wr.grownBy wx v.ownBlock) (hn : ∀ b, v'.ownBlock = some b → v.ownBlock = some b ∨ wr.heap.size ≤ b) :
    Bpf wx b1 hd v ∧ QM w (wx.setCell ⟨b1, 4, none⟩ v') b0 b1 bw us hd B v' ss' := by
  obtain ⟨h1, h2⟩ := h.m.push ho hg hn
  have hbb := h.m.bb
  have f1 : Fr (fun k => v.ownBlock = some k) wr wx := (Fr.refl _ wr).grown hg fun _ hk => hk
  refine ⟨h1, ⟨h2, fun i u hi => ?_, h.bb⟩⟩
  have c1 := f1.cell (h.t i u hi) (by intro e; have := (h.m.row _ e).1; have := h.bb; simp only at *; omega)
  exact (set_fr wx b1 4 v').cell c1 (by have := h.bb; show ¬ bw = b1; omega)
theorem Bpf.set5 {b : Nat} {p : Sp.Pg} (h : Bpf w b p v) (p' : Sp.Pg) (v' : Value) : Bpf (((((w.setCell ⟨b, 0, none⟩ (.int .i64 p'.len)).setCell ⟨b, 1, none⟩ (.int .i64 p'.cells)).setCell ⟨b, 2, none⟩ (.int .i64 p'.inn)).setCell ⟨b, 3, none⟩ (.int .i64 p'.out)).setCell ⟨b, 4, none⟩ (v')) b p' v' :=
  ⟨h.bx.set p' v', fun i => by rw [World.frozen?_setCell, World.frozen?_setCell, World.frozen?_setCell, World.frozen?_setCell, World.frozen?_setCell]; exact h.fz i⟩
theorem QM.set5 (h : QM w wr b0 b1 bw us hd B v ss) (p' : Sp.Pg) : QM w (((((wr.setCell ⟨b1, 0, none⟩ (.int .i64 p'.len)).setCell ⟨b1, 1, none⟩ (.int .i64 p'.cells)).setCell ⟨b1, 2, none⟩ (.int .i64 p'.inn)).setCell ⟨b1, 3, none⟩ (.int .i64 p'.out)).setCell ⟨b1, 4, none⟩ (.slice none 0 0)) b0 b1 bw us p' B (.slice none 0 0) [] := by
  have hbb := h.m.bb
  have f := set5_fr wr b1 (.int .i64 p'.len) (.int .i64 p'.cells) (.int .i64 p'.inn) (.int .i64 p'.out) (.slice none 0 0)
  exact ⟨⟨h.m.x.fr f (by omega), h.m.y.set5 p' _, World.ownsRow_nil _ _ _ _, f.below h.m.be h.m.be.size fun k _ hk => by omega, ⟨hbb.1, hbb.2.1, hbb.2.2.1, Nat.le_trans hbb.2.2.2 f.size⟩⟩, fun i u hi => f.cell (h.t i u hi) (by have := h.bb; show ¬ bw = b1; omega), h.bb⟩
end
/-- how far the lines are read: i of them, the first one among them -/
def QS (t : List UInt8) (ws : List (List UInt8)) (i : Nat) (xs : List Int) (ss : List Sp.St) : Prop :=
  1 ≤ i ∧ i ≤ ws.length ∧ ss.length + 1 = i ∧ rdt t = (rls (ws.drop (i - 1)) (i + 1)).map fun zs => pgw xs (ss ++ zs)
theorem text_lines (t : List UInt8) : ∃ w0 ws, Li.sp 10 t = w0 :: ws ∧ w0.length ≤ t.length ∧ (∀ v ∈ ws, v.length ≤ t.length) ∧ ws.length ≤ t.length ∧
    rdt t = match hdl w0 with | none => .error (1, false) | some xs => if ws = [] then .error (1, false) else (rls ws 2).map (pgw xs) := by
  obtain ⟨w0, ws, h1, h2, h3, h4⟩ := Li.sp_parts 10 t
  have h9 := congrArg List.length h2
  rw [List.length_append] at h9
  have hs := sp_cut 10 t
  rw [h1] at hs
  injection hs with e1 e2
  refine ⟨w0, ws, h1, by omega, ?_, ?_, ?_⟩
  · intro v hv
    have : ∀ us : List (List UInt8), v ∈ us → v.length ≤ (Li.jn 10 us).length := fun us => by
      induction us with
      | nil => intro h; cases h
      | cons u us ih =>
        intro h
        rw [Li.jn_cons]; simp only [List.length_cons, List.length_append]
        rcases List.mem_cons.1 h with rfl | h
        · omega
        · have := ih h; omega
    have := this ws hv; omega
  · have : ∀ us : List (List UInt8), us.length ≤ (Li.jn 10 us).length := fun us => by
      induction us with
      | nil => exact Nat.zero_le _
      | cons u us ih => rw [Li.jn_cons]; simp only [List.length_cons, List.length_append]; omega
    have := this ws; omega
  · unfold rdt
    rw [← e1]
    cases hdl w0 with
    | none => rfl
    | some xs =>
      simp only
      by_cases hr : Li.rs 10 t = []
      · rw [if_pos hr]
        rw [if_pos hr] at e2
        rw [if_pos e2]
      · rw [if_neg hr] at e2 ⊢
        obtain ⟨u, us, hu⟩ := sp_ne 10 ((Li.rs 10 t).drop 1)
        rw [if_neg (by rw [e2, hu]; simp), e2]
section
variable {t : List UInt8} {ws : List (List UInt8)} {i : Nat} {xs : List Int} {ss : List Sp.St} {u : List UInt8}
theorem QS.last (h : QS t ws i xs ss) (hi : i = ws.length) (hu : ws[i - 1]? = some u) : rdt t = if u = [] then .ok (pgw xs ss) else .error (i + 1, false) := by
  obtain ⟨h1, h2, h3, h4⟩ := h
  have e : ws.drop (i - 1) = [u] := by
    rw [us_at hu, List.drop_of_length_le (by omega)]
  rw [h4, e, rls]
  split <;> simp [Except.map]
theorem QS.more (h : QS t ws i xs ss) (hi : i < ws.length) (hu : ws[i - 1]? = some u) :
    (stl u = none → rdt t = .error (i + 1, false)) ∧ ∀ s, stl u = some s → (Sp.fm s = false → rdt t = .error (i + 1, true)) ∧ (Sp.fm s = true → QS t ws (i + 1) xs (ss ++ [s])) := by
  obtain ⟨h1, h2, h3, h4⟩ := h
  have e : ws.drop (i - 1) = u :: ws.drop i := by
    rw [us_at hu, show i - 1 + 1 = i by omega]
  obtain ⟨u', hu'⟩ : ∃ u', ws[i]? = some u' := ⟨_, List.getElem?_eq_getElem hi⟩
  have e' := us_at hu'
  rw [e, e', rls] at h4
  refine ⟨fun hn => by rw [h4, hn]; rfl, fun s hs => ⟨fun hf => by rw [h4, hs]; simp [hf, Except.map], fun hf => ⟨by omega, by omega, by simp; omega, ?_⟩⟩⟩
  rw [h4, hs, show i + 1 - 1 = i by omega, e']
  simp only [hf, if_true]
  cases rls (u' :: ws.drop (i + 1)) (i + 1 + 1) with
  | error e => rfl
  | ok zs => simp [Except.map]
end
set_option maxHeartbeats 16000000 in
set_option maxRecDepth 100000 in
theorem dRead_c (t : List UInt8) (hl : t.length ≤ 2000000) (w : World) :
    Calls Tryd.prog 6 #[.string (txb t)] w fun e w' => DqE t w e w' := by
  obtain ⟨w0, ws, hsp, hw0l, hvl, hwl, hrdt⟩ := text_lines t
  obtain ⟨b0, hb0⟩ := hid_ex3 w.heap.size
  obtain ⟨w1, ew1⟩ := hid_ex3 (w.alloc (.cells #[.int .i64 0, .int .i64 0, .int .i64 0, .int .i64 0, .slice none 0 0] 25))
  have B1 : Hid (Below w.heap.size w w1) := by rw [← ew1.out]; exact (Below.refl _ _).alloc (Nat.le_refl _) _
  have X1 : Hid (Bpf w1 b0 ⟨0, 0, 0, 0, []⟩ (.slice none 0 0)) := by rw [← ew1.out, ← hb0.out]; exact Bpf.new w ⟨0, 0, 0, 0, []⟩ _
  have hcut : Hid (Calls Tryd.prog 13 #[.string (txb t), .int .u8 10] w1 fun e w' => ∃ v, e = .returned v ∧ OwT w' w1.heap.size v (w0 :: ws) ∧ Below w1.heap.size w1 w') := by rw [← hsp]; exact dcut_c t 10 hl w1
  have hhd : Hid (∀ W : World, Calls Tryd.prog 14 #[.string (txb w0)] W fun e w' => DhE w0 W e w') := fun W => dhead_c w0 (by omega) W
  have hstp : Hid (∀ (u : List UInt8) (W : World), u ∈ ws → Calls Tryd.prog 15 #[.string (txb u)] W fun e w' => DsE u W e w') := fun u W hu => dstepl_c u (by have := hvl u hu; omega) W
  have hfo : Hid (∀ (s : Sp.St) (W : World), Calls Tryd.prog 16 #[sv s] W fun e w' => e = .returned (.int .i64 (fnn (Sp.fm s))) ∧ Below W.heap.size W w') := fun s W => dform_c s W
  have hrH : Hid (rdt t = match hdl w0 with | none => .error (1, false) | some xs => if ws = [] then .error (1, false) else (rls ws 2).map (pgw xs)) := hrdt
  have hwlH : Hid (ws.length ≤ 2000000) := by show _ ≤ _; omega
  clear hl hsp hw0l hvl hwl hrdt
  go_enter Tryd.func6, Tryd.ntmps6
  go_upto_region 1 with fail
  rw [ew1.out, hb0.out]
  go_wp2_with fail
  refine hcut.out.mono ?_
  rintro e w2 ⟨v, rfl, ho, B2⟩
  have R2 : Hid (Below w.heap.size w w2) := B1.out.trans (B2.mono B1.out.size)
  have X2 : Hid (Bpf w2 b0 ⟨0, 0, 0, 0, []⟩ (.slice none 0 0)) := X1.out.fr (Fr.bel B2) id
  obtain ⟨bw, cap, rfl, hcap, hbw1, hbw2, hcl⟩ := OwT.blk ho
  obtain ⟨m, hm⟩ := hid_ex3 ws.length
  have hmb : m ≤ 2000000 := by have h1 := hm.out; have h2 := hwlH.out; omega
  rw [hm.out] at hcap ⊢
  obtain ⟨b1, hb1⟩ := hid_ex3 w2.heap.size
  obtain ⟨w3, ew3⟩ := hid_ex3 (w2.alloc (.cells #[.int .i64 0, .int .i64 0, .int .i64 0, .int .i64 0, .slice none 0 0] 25))
  have L3 : Below w2.heap.size w2 w3 := by rw [← ew3.out]; exact (Below.refl _ _).alloc (Nat.le_refl _) _
  have Y3 : Bpf w3 b1 ⟨0, 0, 0, 0, []⟩ (.slice none 0 0) := by rw [← ew3.out, ← hb1.out]; exact Bpf.new w2 ⟨0, 0, 0, 0, []⟩ _
  have hb01 : b0 < w1.heap.size := cell_lt (a := ⟨b0, 0, none⟩) X1.out.bx.c0
  have Q3 : Hid (QM w w3 b0 b1 bw (w0 :: ws) ⟨0, 0, 0, 0, []⟩ w3.heap.size (.slice none 0 0) []) :=
    ⟨⟨X2.out.fr (Fr.bel L3) id, Y3, World.ownsRow_nil _ _ _ _, R2.out.trans (L3.mono R2.out.size), ⟨by rw [hb0.out]; exact Nat.le_refl _, by have := hb1.out; omega, cell_lt (a := ⟨b1, 0, none⟩) Y3.bx.c0, Nat.le_refl _⟩⟩, fun i u hi => (L3.cell (p := ⟨bw, i, none⟩) hbw2).trans (hcl i u hi), by have := hb1.out; constructor <;> omega⟩
  obtain ⟨N5, hN5⟩ := hid_ex3 (m + 1)
  rw [hN5.out]
  have hN5b : N5 ≤ 2000001 := by have := hN5.out; omega
  have hN1 : IntKind.i64.wrap ((N5 : Int) - 1) = (m : Int) := by rw [IntKind.wrap_i64]; have := hN5.out; omega
  clear B2 hcut ho B1 X1 hbw1 hbw2 hcl L3 Y3 hb01 hcap X2
  go_upto_region 4 with fail
  rw [ew3.out, hb1.out]
  go_wp2_with fail
  go_loopw [23] (fun x wr => ∃ (i B : Nat) (hd : Sp.Pg) (v : Value) (ss : List Sp.St), x = .int .i64 i ∧ i ≤ m ∧ Hid (QM w wr b0 b1 bw (w0 :: ws) hd B v ss) ∧ Hid (i = 0 ∨ ∃ xs, hd = hdZ xs ∧ QS t ws i xs ss)) (fun x _ => N5 - (intOf x).toNat)
  case atStart => exact ⟨0, _, _, _, _, rfl, Nat.zero_le _, Q3, .inl rfl⟩
  case round =>
    obtain ⟨i, B, hd, v, ss, rfl, him, Qk, hcs⟩ := hrel
    have hlt' : (i : Int) < (N5 : Int) := by have := hN5.out; omega
    have hi1 : IntKind.i64.wrap ((i : Int) + 1) = (i : Int) + 1 := by rw [IntKind.wrap_i64]; omega
    rcases hcs.out with h0 | ⟨xs, rfl, hqs⟩
    · subst h0
      have hc1 : wr.cell? ⟨bw, 0, none⟩ = some (.string (txb w0)) := Qk.out.t 0 w0 rfl
      clear hcs
      go_upto_region 7 with fail
      go_cut [38] (fun sb wx => sb = .bool false ∧ wx = wr)
      case first =>
        by_cases hm0 : m = 0
        · have q1 : ((m : Int) == 0) = true := by rw [hm0]; rfl
          have q1' : ((0 : Int) == (m : Int)) = true := by rw [hm0]; rfl
          have hqe : ((txb w0).toList == ([] : List UInt8)) = decide (w0 = []) := by
            have h9 := txb_eq w0 []
            rw [show (txb []).toList = [] by rw [Lib.toList_data]; rfl] at h9
            exact h9
          by_cases hw0 : w0 = []
          · rw [decide_eq_true hw0] at hqe
            clear hw0 hm0
            go_wp2_with fail
            go_meet
            case rel => exact ⟨rfl, rfl⟩
          · rw [decide_eq_false hw0] at hqe
            clear hw0 hm0
            go_wp2_with fail
            go_meet
            case rel => exact ⟨rfl, rfl⟩
        · have q1' : ((0 : Int) == (m : Int)) = false := beq_eq_false_iff_ne.2 (by omega)
          clear hm0
          go_wp2_with fail
          go_meet
          case rel => exact ⟨rfl, rfl⟩
      case rest =>
        obtain ⟨rfl, rfl⟩ := hcut
        rename World => wr
        go_wp2_with fail
        refine (hhd.out wr).mono ?_
        rintro e w4 ⟨B4, hds⟩
        have Q4 : Hid (QM w w4 b0 b1 bw (w0 :: ws) hd B v ss) := Qk.out.call B4
        obtain ⟨b4, hb4⟩ := hid_ex3 w4.heap.size
        clear B4 hc1
        rcases hds with ⟨hno, rfl⟩ | ⟨xs, hso, rfl⟩
        · have hres : Hid (rdt t = .error (1, false)) := by have h9 := hrH.out; rw [hno] at h9; exact h9
          obtain ⟨w5, ew5⟩ := hid_ex3 (w4.alloc (.cells #[.int .i64 0, .int .i64 0, .int .i64 0, .int .i64 0, .slice none 0 0] 25))
          have Q5 : Hid (QM w w5 b0 b1 bw (w0 :: ws) hd B v ss) := by rw [← ew5.out]; exact Q4.out.call ((Below.refl _ _).alloc (Nat.le_refl _) _)
          clear hno
          unfold pv
          go_upto_region 11 with fail
          rw [ew5.out, hb4.out]
          obtain ⟨x0, x1, x2, x3, x4⟩ := Q5.out.m.x.bx
          have Zx := Q5.out.m.x.fz
          go_wp2_with fail
          obtain ⟨z0, z1, z2, z3, z4⟩ := Q5.out.m.x.bx.set ⟨0, 0, 0, 0, []⟩ (.slice none 0 0)
          refine bodyPost_ret (v := .tuple #[zp, .int .i64 1, .int .i64 6]) (by unfold zp; simp [results, Tryd.results6, go_sem, z0, z1, z2, z3, z4]) rfl ⟨?_, .inl ⟨_, _, hres.out, rfl⟩⟩
          exact (set5_fr _ b0 _ _ _ _ _).below Q5.out.m.be Q5.out.m.be.size fun k _ hk => by rw [hb0.out]; omega
        · have hr2 : Hid (rdt t = if ws = [] then .error (1, false) else (rls ws 2).map (pgw xs)) := by have h9 := hrH.out; rw [hso] at h9; exact h9
          obtain ⟨w5, ew5⟩ := hid_ex3 (w4.alloc (.cells #[.int .i64 (hdZ xs).len, .int .i64 (hdZ xs).cells, .int .i64 (hdZ xs).inn, .int .i64 (hdZ xs).out, .slice none 0 0] 25))
          have Q5 : Hid (QM w w5 b0 b1 bw (w0 :: ws) hd B v ss) := by rw [← ew5.out]; exact Q4.out.call ((Below.refl _ _).alloc (Nat.le_refl _) _)
          have Y5 : Hid (Bpg w5 b4 (hdZ xs) (.slice none 0 0)) := by rw [← ew5.out, ← hb4.out]; exact Bpg.new w4 (hdZ xs) _
          clear hso
          unfold pv
          go_upto_region 11 with fail
          rw [ew5.out, hb4.out]
          by_cases hm0 : m = 0
          · have q1' : ((0 : Int) == (m : Int)) = true := by rw [hm0]; rfl
            have hres : Hid (rdt t = .error (1, false)) := by
              have h9 := hr2.out
              rw [if_pos (List.eq_nil_of_length_eq_zero (by rw [hm.out, hm0]))] at h9; exact h9
            clear hm0 hr2
            obtain ⟨x0, x1, x2, x3, x4⟩ := Q5.out.m.x.bx
            have Zx := Q5.out.m.x.fz
            go_wp2_with fail
            obtain ⟨z0, z1, z2, z3, z4⟩ := Q5.out.m.x.bx.set ⟨0, 0, 0, 0, []⟩ (.slice none 0 0)
            refine bodyPost_ret (v := .tuple #[zp, .int .i64 1, .int .i64 6]) (by unfold zp; simp [results, Tryd.results6, go_sem, z0, z1, z2, z3, z4]) rfl ⟨?_, .inl ⟨_, _, hres.out, rfl⟩⟩
            exact (set5_fr _ b0 _ _ _ _ _).below Q5.out.m.be Q5.out.m.be.size fun k _ hk => by rw [hb0.out]; omega
          · have q1' : ((0 : Int) == (m : Int)) = false := beq_eq_false_iff_ne.2 (by omega)
            have S6 : Hid (QS t ws 1 xs []) := by
              refine ⟨Nat.le_refl _, by rw [hm.out]; omega, rfl, ?_⟩
              have h9 := hr2.out
              rw [if_neg (fun e => hm0 (by rw [← hm.out, e]; rfl))] at h9
              rw [h9]; simp
            have Q6 : Hid (QM w (((((w5.setCell ⟨b1, 0, none⟩ (.int .i64 (hdZ xs).len)).setCell ⟨b1, 1, none⟩ (.int .i64 (hdZ xs).cells)).setCell ⟨b1, 2, none⟩ (.int .i64 (hdZ xs).inn)).setCell ⟨b1, 3, none⟩ (.int .i64 (hdZ xs).out)).setCell ⟨b1, 4, none⟩ (.slice none 0 0)) b0 b1 bw (w0 :: ws) (hdZ xs) B (.slice none 0 0) []) := Q5.out.set5 (hdZ xs)
            have hm1 : Hid (1 ≤ m) := by show _ ≤ _; omega
            clear hm0 hr2
            obtain ⟨x0, x1, x2, x3, x4⟩ := Y5.out
            obtain ⟨y0, y1, y2, y3, y4⟩ := Q5.out.m.y.bx
            have Zy := Q5.out.m.y.fz
            go_wp2_with fail
            go_roundw
            case rel => exact ⟨1, B, _, _, _, rfl, hm1.out, Q6, .inr ⟨xs, rfl, S6⟩⟩
            case measure => simp [intOf]; have := hN5.out; omega
    · have hi0 : 1 ≤ i := hqs.1
      have SkH : Hid (QS t ws i xs ss) := hqs
      obtain ⟨u, hu⟩ : ∃ u, ws[i - 1]? = some u := ⟨_, List.getElem?_eq_getElem (by rw [hm.out]; omega)⟩
      have huH : Hid (ws[i - 1]? = some u) := hu
      have hmem : Hid (u ∈ ws) := List.mem_of_getElem? hu
      have hc1 : wr.cell? ⟨bw, i, none⟩ = some (.string (txb u)) := Qk.out.t i u (by rw [show i = (i - 1) + 1 by omega, List.getElem?_cons_succ]; exact hu)
      have q0 : ((i : Int) == 0) = false := beq_eq_false_iff_ne.2 (by omega)
      have q9 : (i : Int) > 0 := by omega
      have hiH : Hid (1 ≤ i ∧ i ≤ m) := ⟨hi0, him⟩
      have hlast : Hid (i = m → rdt t = if u = [] then .ok (pgw xs ss) else .error (i + 1, false)) := fun h => hqs.last (by rw [hm.out]; exact h) hu
      have hmore : Hid (i < m → (stl u = none → rdt t = .error (i + 1, false)) ∧ ∀ s, stl u = some s → (Sp.fm s = false → rdt t = .error (i + 1, true)) ∧ (Sp.fm s = true → QS t ws (i + 1) xs (ss ++ [s]))) := fun h => hqs.more (by rw [hm.out]; exact h) hu
      clear hcs hqs hu
      obtain ⟨la, hla⟩ := hid_ex3 (decide (i = m))
      obtain ⟨ue, hue⟩ := hid_ex3 (decide (u = []))
      have q1 : ((i : Int) == (m : Int)) = la := by
        rw [← hla.out]
        by_cases h : i = m
        · rw [decide_eq_true h, h]; exact beq_self_eq_true _
        · rw [decide_eq_false h]; exact beq_eq_false_iff_ne.2 (by omega)
      have hqe : ((txb u).toList == ([] : List UInt8)) = ue := by
        have h9 := txb_eq u []
        rw [show (txb []).toList = [] by rw [Lib.toList_data]; rfl] at h9
        rw [← hue.out]; exact h9
      by_cases hfin : la = true ∧ ue = true
      · obtain ⟨rfl, rfl⟩ := hfin
        have hres : Hid (rdt t = .ok (pgw xs ss)) := by
          have h9 := hlast.out (of_decide_eq_true hla.out)
          rw [if_pos (of_decide_eq_true hue.out)] at h9; exact h9
        obtain ⟨x0, x1, x2, x3, x4⟩ := Qk.out.m.x.bx
        obtain ⟨y0, y1, y2, y3, y4⟩ := Qk.out.m.y.bx
        have Zx := Qk.out.m.x.fz
        obtain ⟨ao', cap', hv'⟩ := owns_slice Qk.out.m.ow
        obtain ⟨m9, hm9⟩ := hid_ex3 ss.length
        rw [hm9.out] at hv'
        subst hv'
        go_wp2_with fail
        obtain ⟨z0, z1, z2, z3, z4⟩ := Qk.out.m.x.bx.set (hdZ xs) (.slice ao' m9 cap')
        refine bodyPost_ret (v := .tuple #[pv (pgw xs ss) (.slice ao' m9 cap'), .int .i64 0, .int .i64 0]) (by show _ = Result.ok (Value.tuple #[pv (hdZ xs) (.slice ao' m9 cap'), _, _]) _; unfold pv; simp [results, Tryd.results6, go_sem, z0, z1, z2, z3, z4]) rfl ⟨?_, .inr ⟨pgw xs ss, _, hres.out, rfl, ?_⟩⟩
        · exact (set5_fr wr b0 _ _ _ _ _).below Qk.out.m.be Qk.out.m.be.size fun k _ hk => by rw [hb0.out]; omega
        · have h9 : OwS wr w.heap.size (.slice ao' m9 cap') ss := Qk.out.m.ow.base (C := w.heap.size) (by have h1 := Qk.out.m.bb; omega)
          exact h9.fr (set5_fr wr b0 _ _ _ _ _) fun b hb h1 => by have h2 := (Qk.out.m.row b hb).1; have h3 := Qk.out.m.bb; omega
      · have hfH : Hid (¬ (la = true ∧ ue = true)) := hfin
        go_upto_region 7 with fail
        go_cut [38] (fun sb wx => sb = .bool false ∧ wx = wr)
        case first =>
          cases la
          · clear hfin
            go_wp2_with fail
            go_meet
            case rel => exact ⟨rfl, rfl⟩
          · cases ue
            · clear hfin
              go_wp2_with fail
              go_meet
              case rel => exact ⟨rfl, rfl⟩
            · exact absurd ⟨rfl, rfl⟩ hfin
        case rest =>
          obtain ⟨rfl, rfl⟩ := hcut
          rename World => wr
          have hst : Hid (Calls Tryd.prog 15 #[.string (txb u)] wr fun e w' => DsE u wr e w') := hstp.out u wr hmem.out
          clear hfin hqe hc1
          go_wp2_with fail
          refine hst.out.mono ?_
          rintro e w4 ⟨B4, hds⟩
          have Q4 : Hid (QM w w4 b0 b1 bw (w0 :: ws) (hdZ xs) B v ss) := Qk.out.call B4
          obtain ⟨b4, hb4⟩ := hid_ex3 w4.heap.size
          have hbad : Hid (la = true → rdt t = .error (i + 1, false)) := fun h => by
            have h9 := hlast.out (of_decide_eq_true (by rw [hla.out, h]))
            rw [if_neg (fun e => hfH.out ⟨h, by rw [← hue.out]; exact decide_eq_true e⟩)] at h9; exact h9
          have hlt2 : Hid (la = false → i < m) := fun h => by
            have h8 := of_decide_eq_false (show decide (i = m) = false by rw [hla.out, h])
            have h9 := hiH.out; omega
          have kc : Hid ((i : Int) + 1 = ((i + 1 : Nat) : Int)) := by show _ = _; omega
          clear B4
          rcases hds with ⟨hno, rfl⟩ | ⟨s, hso, rfl⟩
          · have hres : Hid (rdt t = .error (i + 1, false)) := by
              cases la
              · exact (hmore.out (hlt2.out rfl)).1 hno
              · exact hbad.out rfl
            obtain ⟨w5, ew5⟩ := hid_ex3 (w4.alloc (.cells #[.int .i64 0, .int .i64 0, .int .i64 0, .int .i64 0, .int .i64 0, .int .i64 0, .int .i64 0] 38))
            have Q5 : Hid (QM w w5 b0 b1 bw (w0 :: ws) (hdZ xs) B v ss) := by rw [← ew5.out]; exact Q4.out.call ((Below.refl _ _).alloc (Nat.le_refl _) _)
            clear hno
            unfold sv sva zst
            go_upto_region 15 with fail
            rw [ew5.out, hb4.out]
            obtain ⟨x0, x1, x2, x3, x4⟩ := Q5.out.m.x.bx
            have Zx := Q5.out.m.x.fz
            go_wp2_with fail
            obtain ⟨z0, z1, z2, z3, z4⟩ := Q5.out.m.x.bx.set ⟨0, 0, 0, 0, []⟩ (.slice none 0 0)
            refine bodyPost_ret (v := .tuple #[zp, .int .i64 ((i : Int) + 1), .int .i64 6]) (by unfold zp; simp [results, Tryd.results6, go_sem, z0, z1, z2, z3, z4]) rfl ⟨?_, .inl ⟨_, _, hres.out, by rw [kc.out]; rfl⟩⟩
            exact (set5_fr _ b0 _ _ _ _ _).below Q5.out.m.be Q5.out.m.be.size fun k _ hk => by rw [hb0.out]; omega
          · obtain ⟨w5, ew5⟩ := hid_ex3 (w4.alloc (.cells #[.int .i64 s.op, .int .i64 s.dst, .int .i64 s.src, .int .i64 s.jump, .int .i64 s.count, .int .i64 s.n, .int .i64 s.k] 38))
            have Q5 : Hid (QM w w5 b0 b1 bw (w0 :: ws) (hdZ xs) B v ss) := by rw [← ew5.out]; exact Q4.out.call ((Below.refl _ _).alloc (Nat.le_refl _) _)
            have Y5 : Hid (Bst w5 b4 s.op s.dst s.src s.jump s.count s.n s.k) := by show Bst _ _ _ _ _ _ _ _ _; rw [← ew5.out, ← hb4.out]; exact Bst.new w4 _ _ _ _ _ _ _
            cases la
            · have hmo : Hid ((Sp.fm s = false → rdt t = .error (i + 1, true)) ∧ (Sp.fm s = true → QS t ws (i + 1) xs (ss ++ [s]))) := (hmore.out (hlt2.out rfl)).2 s hso
              have him2 : Hid (i + 1 ≤ m) := by have h9 := hlt2.out rfl; show _ ≤ _; omega
              obtain ⟨fb, hfb⟩ := hid_ex3 (Sp.fm s)
              obtain ⟨FX, hFX⟩ := hid_ex3 (fnn fb)
              have hfoW : Hid (Calls Tryd.prog 16 #[.agg #[.int .i64 s.op, .int .i64 s.dst, .int .i64 s.src, .int .i64 s.jump, .int .i64 s.count, .int .i64 s.n, .int .i64 s.k]] w5 fun e w' => e = .returned (.int .i64 FX) ∧ Below w5.heap.size w5 w') := by
                have h9 := hfo.out s w5
                rw [hfb.out, hFX.out] at h9; exact h9
              rw [hfb.out] at hmo
              clear hso
              unfold sv sva
              go_upto_region 15 with fail
              rw [ew5.out, hb4.out]
              obtain ⟨y0, y1, y2, y3, y4, y5, y6⟩ := Y5.out
              go_wp2_with fail
              refine hfoW.out.mono ?_
              rintro e w6 ⟨rfl, B6⟩
              have Q6 : Hid (QM w w6 b0 b1 bw (w0 :: ws) (hdZ xs) B v ss) := Q5.out.call B6
              have Y6 : Hid (Bst w6 b4 s.op s.dst s.src s.jump s.count s.n s.k) := Bst.below Y5.out B6
              clear B6 y0 y1 y2 y3 y4 y5 y6
              cases fb
              · have hres : Hid (rdt t = .error (i + 1, true)) := hmo.out.1 rfl
                have hF9 : FX = 9 := hFX.out.symm
                subst hF9
                clear hmo
                obtain ⟨x0, x1, x2, x3, x4⟩ := Q6.out.m.x.bx
                have Zx := Q6.out.m.x.fz
                go_wp2_with fail
                obtain ⟨z0, z1, z2, z3, z4⟩ := Q6.out.m.x.bx.set ⟨0, 0, 0, 0, []⟩ (.slice none 0 0)
                refine bodyPost_ret (v := .tuple #[zp, .int .i64 ((i : Int) + 1), .int .i64 9]) (by unfold zp; simp [results, Tryd.results6, go_sem, z0, z1, z2, z3, z4]) rfl ⟨?_, .inl ⟨_, _, hres.out, by rw [kc.out]; rfl⟩⟩
                exact (set5_fr _ b0 _ _ _ _ _).below Q6.out.m.be Q6.out.m.be.size fun k _ hk => by rw [hb0.out]; omega
              · have S7 : Hid (QS t ws (i + 1) xs (ss ++ [s])) := hmo.out.2 rfl
                have hF9 : FX = 0 := hFX.out.symm
                subst hF9
                have hl2 : Hid ((ss ++ [s]).length = ss.length + 1) := by simp [Hid]
                have Q7 : Hid (∀ o, QM w (w6.alloc o) b0 b1 bw (w0 :: ws) (hdZ xs) B v ss) := fun o => Q6.out.call ((Below.refl _ _).alloc (Nat.le_refl _) o)
                have C7 : Hid (SAt (w6.alloc (.cells #[.int .i64 s.op, .int .i64 s.dst, .int .i64 s.src, .int .i64 s.jump, .int .i64 s.count, .int .i64 s.n, .int .i64 s.k] 38)) w6.heap.size 0 s) := ⟨by simp, by simp, by simp, by simp, by simp, by simp, by simp⟩
                have hkb2 : Hid ((ss.length + 1) * 56 ≤ 140737488355328) := by show _ ≤ _; have h9 := SkH.out.2.2.1; omega
                clear hmo
                obtain ⟨y0, y1, y2, y3, y4, y5, y6⟩ := Y6.out
                have v4 := Q6.out.m.y.bx.c4
                go_wp2_with (first | (at_builtin; refine appSt _ rfl _ _ rfl B ss s w6.heap.size v rfl rfl (Q7.out _).m.ow C7.out hkb2.out (Q7.out _).m.bb.2.2.2 ?_) | fail)
                intro v' w8 ho hgr hn
                obtain ⟨yb, hS8⟩ := (Q7.out _).push ho hgr (by simpa using hn)
                have hS8H : Hid (QM w (w8.setCell ⟨b1, 4, none⟩ v') b0 b1 bw (w0 :: ws) (hdZ xs) B v' (ss ++ [s])) := hS8
                have v8 := yb.bx.c4
                have f8 := yb.fz 4
                obtain ⟨ao', cap', hv'⟩ := owns_slice ho
                rw [hl2.out] at hv'
                subst hv'
                clear ho hgr hn hS8 yb y0 y1 y2 y3 y4 y5 y6
                go_wp2
                go_roundw
                case rel => exact ⟨i + 1, B, _, _, _, by go_num, him2.out, hS8H, .inr ⟨xs, rfl, S7⟩⟩
                case measure => simp [intOf]; have := hN5.out; omega
            · have hres : Hid (rdt t = .error (i + 1, false)) := hbad.out rfl
              clear hso
              unfold sv sva
              go_upto_region 15 with fail
              rw [ew5.out, hb4.out]
              obtain ⟨x0, x1, x2, x3, x4⟩ := Q5.out.m.x.bx
              have Zx := Q5.out.m.x.fz
              go_wp2_with fail
              obtain ⟨z0, z1, z2, z3, z4⟩ := Q5.out.m.x.bx.set ⟨0, 0, 0, 0, []⟩ (.slice none 0 0)
              refine bodyPost_ret (v := .tuple #[zp, .int .i64 ((i : Int) + 1), .int .i64 6]) (by unfold zp; simp [results, Tryd.results6, go_sem, z0, z1, z2, z3, z4]) rfl ⟨?_, .inl ⟨_, _, hres.out, by rw [kc.out]; rfl⟩⟩
              exact (set5_fr _ b0 _ _ _ _ _).below Q5.out.m.be Q5.out.m.be.size fun k _ hk => by rw [hb0.out]; omega
end Go.Proofs.YtlbnldbelfgokaaDoor
