/-
  timbreref16: step.
-/
import Derived.Test.YtlbnldbelfgokaaDoorLj3
namespace Go.Proofs.YtlbnldbelfgokaaDoor
open Flo Go.RowKit
/-- what step tells -/
def DsE (l : List UInt8) (w : World) (e : Ending) (w' : World) : Prop :=
  Below w.heap.size w w' ∧ ((stl l = none ∧ e = .returned (.tuple #[sv zst, .bool false])) ∨ ∃ s, stl l = some s ∧ e = .returned (.tuple #[sv s, .bool true]))
structure TW (w wr : World) (b0 b7 bw : Nat) (us : List (List UInt8)) (xs : List Int) : Prop where
  x : Bsz wr b0 zst
  y : Arz wr b7 6 xs
  t : ∀ (i : Nat) (u : List UInt8), us[i]? = some u → wr.cell? ⟨bw, i, none⟩ = some (.string (txb u))
  be : Below w.heap.size w wr
section
variable {w wr wx : World} {b0 b7 bw : Nat} {us : List (List UInt8)} {xs : List Int}
theorem TW.call (h : TW w wr b0 b7 bw us xs) (hb : Below wr.heap.size wr wx) : TW w wx b0 b7 bw us xs :=
  ⟨h.x.fr (Fr.bel hb) id, h.y.fr (by decide) (Fr.bel hb) id, fun i u hi => (hb.cell (p := ⟨bw, i, none⟩) (cell_lt (h.t i u hi))).trans (h.t i u hi), h.be.trans (hb.mono h.be.size)⟩
theorem TW.set (h : TW w wr b0 b7 bw us xs) (x : Int) (h0 : b0 ≠ b7) (hw : w.heap.size ≤ b7) (ht : bw ≠ b7) : TW w (wr.setCell ⟨b7, xs.length, none⟩ (.int .i64 x)) b0 b7 bw us (xs ++ [x]) :=
  ⟨h.x.fr (set_fr wr b7 _ _) h0, h.y.set x, fun i u hi => (set_fr wr b7 _ _).cell (h.t i u hi) ht, (set_fr wr b7 _ _).below h.be h.be.size fun k _ hk => by omega⟩
theorem TW.zero (h : TW w wr b0 b7 bw us xs) : TW w wr b0 b7 bw us (xs ++ [0]) := ⟨h.x, h.y.zero, h.t, h.be⟩
end
/-- how far the words of a step's line are read -/
def PK (l : List UInt8) (r : Nat) (us : List (List UInt8)) (k : Nat) (xs : List Int) : Prop :=
  xs.length ≤ 6 ∧ stl l = ((Li.dw (ltr.drop xs.length) (us.drop k)).map (xs ++ ·)).map (stZ r)
theorem dw_nil : ∀ ls : List UInt8, Li.dw ls [] = some (List.replicate ls.length 0)
  | [] => rfl
  | c :: ls => by rw [Li.dw, dw_nil ls]; rfl
theorem stZ_zeros (r : Nat) (xs : List Int) : ∀ n : Nat, stZ r (xs ++ List.replicate n 0) = stZ r xs
  | 0 => by simp
  | n + 1 => by
    rw [List.replicate_succ', ← List.append_assoc, stZ_zero, stZ_zeros r xs n]
theorem ltr_at {a : Nat} (h : a < 6) : ltr.drop a = ltr.getD a 0 :: ltr.drop (a + 1) := by
  match a, h with
  | 0, _ => rfl
  | 1, _ => rfl
  | 2, _ => rfl
  | 3, _ => rfl
  | 4, _ => rfl
  | 5, _ => rfl
section
variable {l : List UInt8} {r k : Nat} {us : List (List UInt8)} {xs : List Int} {u : List UInt8}
theorem us_at (hu : us[k]? = some u) : us.drop k = u :: us.drop (k + 1) := by
  have hlt : k < us.length := (List.getElem?_eq_some_iff.1 hu).1
  rw [List.drop_eq_getElem_cons hlt]
  congr 1
  exact (List.getElem?_eq_some_iff.1 hu).2
theorem PK.next (h : PK l r us k xs) (hu : us[k]? = some u) (ha : xs.length < 6) (hn : u.head? ≠ some (ltr.getD xs.length 0)) : PK l r us k (xs ++ [0]) := by
  obtain ⟨h1, h2⟩ := h
  rw [us_at hu, ltr_at ha, Li.dw, if_neg hn] at h2
  refine ⟨by simp; omega, ?_⟩
  rw [h2, us_at hu, List.length_append, List.length_singleton]
  cases Li.dw (ltr.drop (xs.length + 1)) (u :: us.drop (k + 1)) <;> simp
theorem PK.six (h : PK l r us k xs) (hu : us[k]? = some u) (ha : xs.length = 6) : stl l = none := by
  obtain ⟨h1, h2⟩ := h
  rw [us_at hu, ha] at h2
  rw [h2]; rfl
theorem PK.read {m : List UInt8} (h : PK l r us k xs) (hu : us[k]? = some u) (ha : xs.length < 6) (hm : u = ltr.getD xs.length 0 :: m) :
    (Li.rdn m = none → stl l = none) ∧ (Li.rdn m = some 0 → stl l = none) ∧ ∀ x, Li.rdn m = some x → x ≠ 0 → PK l r us (k + 1) (xs ++ [x]) := by
  obtain ⟨h1, h2⟩ := h
  rw [us_at hu, ltr_at ha, Li.dw, if_pos (by rw [hm]; rfl), hm] at h2
  simp only [List.drop_succ_cons, List.drop_zero] at h2
  refine ⟨fun hn => by rw [h2, hn]; rfl, fun hn => by rw [h2, hn]; rfl, fun x hx h0 => ⟨by simp; omega, ?_⟩⟩
  rw [h2, hx, List.length_append, List.length_singleton]
  simp only [if_neg h0, Option.map_map]
  congr 1
  funext p; simp
theorem PK.done (h : PK l r us k xs) (hk : us.length ≤ k) : stl l = some (stZ r xs) := by
  obtain ⟨h1, h2⟩ := h
  rw [List.drop_of_length_le hk, dw_nil] at h2
  rw [h2]
  simp [stZ_zeros]
end
theorem tx_ltr (a : Nat) (h : a < 6) (W : World) : (Instr.index 9 (.string ⟨#[100, 115, 106, 99, 110, 107]⟩) (.int .i64 (a : Int))).run Tryd.prog W = .ok (.int .u8 ((ltr.getD a 0).toNat : Int)) W := txi ltr a h W
set_option maxHeartbeats 16000000 in
set_option maxRecDepth 100000 in
theorem dstepl_c (l : List UInt8) (hl : l.length ≤ 2000000) (w : World) :
    Calls Tryd.prog 15 #[.string (txb l)] w fun e w' => DsE l w e w' := by
  obtain ⟨w0, ws, hsp, hwd, hrs, hfree, hwl, hvl, hw0l⟩ := line_words l
  obtain ⟨b0, hb0⟩ := hid_ex3 w.heap.size
  obtain ⟨w1, ew1⟩ := hid_ex3 (w.alloc (.cells #[.int .i64 0, .int .i64 0, .int .i64 0, .int .i64 0, .int .i64 0, .int .i64 0, .int .i64 0] 38))
  have B1 : Hid (Below w.heap.size w w1) := by rw [← ew1.out]; exact (Below.refl _ _).alloc (Nat.le_refl _) _
  have X1 : Hid (Bsz w1 b0 zst) := by rw [← ew1.out, ← hb0.out]; exact Bsz.new w zst
  have hcut : Hid (Calls Tryd.prog 13 #[.string (txb l), .int .u8 32] w1 fun e w' => ∃ v, e = .returned v ∧ OwT w' w1.heap.size v (w0 :: ws) ∧ Below w1.heap.size w1 w') := by rw [← hsp]; exact dcut_c l 32 hl w1
  have hrd : Hid (∀ (u m : List UInt8) (W : World), u ∈ ws → m.length ≤ u.length → Calls Tryd.prog 32 #[.string (txb m)] W fun e w' => DrE m W e w') := fun u m W hu hm => dread_c m (by have := hvl u hu; omega) W
  have hop : Hid (∀ W : World, Calls Tryd.prog 33 #[.string (txb w0)] W fun e w' => OpE (txb w0) e ∧ Below W.heap.size W w') := fun W => dop_c _ W
  have hst : Hid (stl l = (opn w0).bind fun o => (Li.dw ltr ws).map (stZ o)) := by
    show _ = _
    unfold stl
    rw [hwd, hrs, ← Li.dw_pf ltr ws (by decide) hfree]
  have hul : Hid (∀ u ∈ ws, u.length ≤ 2000000) := fun u hu => by have := hvl u hu; omega
  have hwlH : Hid (ws.length ≤ 2000000) := by show _ ≤ _; omega
  clear hl hsp hwd hrs hfree hwl hvl hw0l
  go_enter Tryd.func15, Tryd.ntmps15
  go_upto_region 1 with fail
  rw [ew1.out, hb0.out]
  go_wp2_with fail
  refine hcut.out.mono ?_
  rintro e w2 ⟨v, rfl, ho, B2⟩
  have R2 : Hid (Below w.heap.size w w2) := B1.out.trans (B2.mono B1.out.size)
  have X2 : Hid (Bsz w2 b0 zst) := X1.out.fr (Fr.bel B2) id
  obtain ⟨bw, cap, rfl, hcap, hbw1, hbw2, hcl⟩ := OwT.blk ho
  obtain ⟨m, hm⟩ := hid_ex3 ws.length
  have hmb : m ≤ 2000000 := by have h1 := hm.out; have h2 := hwlH.out; omega
  rw [hm.out] at hcap ⊢
  have hclH : Hid (∀ (i : Nat) (u : List UInt8), (w0 :: ws)[i]? = some u → w2.cell? ⟨bw, i, none⟩ = some (.string (txb u))) := hcl
  have hbwH : Hid (b0 < bw ∧ bw < w2.heap.size) := ⟨by have h1 := cell_lt (a := ⟨b0, 0, none⟩) X1.out.bx.c0; simp only at h1; omega, hbw2⟩
  have c0 : w2.cell? ⟨bw, 0, none⟩ = some (.string (txb w0)) := hcl 0 w0 rfl
  obtain ⟨ao, c', hao, hsr⟩ := tx_rest bw m cap hcap
  have haoH : Hid (0 < m → ao = some ⟨bw, 1, none⟩) := hao
  obtain ⟨N5, hN5⟩ := hid_ex3 (m + 1)
  rw [hN5.out] at hsr ⊢
  have hN1 : (0 : Int) < (N5 : Int) := by have := hN5.out; omega
  have hsrH : Hid (∀ W : World, (Instr.slice 45 (.slice (some ⟨bw, 0, none⟩) N5 cap) (some (.int .i64 1)) none none).run Tryd.prog W = .ok (.slice ao m c') W) := hsr
  have hzr : Hid (stl l = none → ∀ (W : World), Below w.heap.size w W → ∀ a0 a1 a2 a3 a4 a5 a6 : Value, DsE l w (.returned (.tuple #[sv zst, .bool false])) (((((((W.setCell ⟨b0, 0, none⟩ a0).setCell ⟨b0, 1, none⟩ a1).setCell ⟨b0, 2, none⟩ a2).setCell ⟨b0, 3, none⟩ a3).setCell ⟨b0, 4, none⟩ a4).setCell ⟨b0, 5, none⟩ a5).setCell ⟨b0, 6, none⟩ a6)) := fun h W hW a0 a1 a2 a3 a4 a5 a6 =>
    ⟨(set7_fr W b0 a0 a1 a2 a3 a4 a5 a6).below hW hW.size fun k _ hk => by rw [hb0.out]; omega, .inl ⟨h, rfl⟩⟩
  clear B2 hcut ho B1 X1 hbw1 hbw2 hcl hao hsr hcap
  go_wp2_with fail
  refine (hop.out w2).mono ?_
  rintro e w3 ⟨⟨r, bo, rfl, hor⟩, B3⟩
  have R3 : Hid (Below w.heap.size w w3) := R2.out.trans (B3.mono R2.out.size)
  have X3 : Hid (Bsz w3 b0 zst) := X2.out.fr (Fr.bel B3) id
  have hcl3 : Hid (∀ (i : Nat) (u : List UInt8), (w0 :: ws)[i]? = some u → w3.cell? ⟨bw, i, none⟩ = some (.string (txb u))) := fun i u hi => (B3.cell (p := ⟨bw, i, none⟩) hbwH.out.2).trans (hclH.out i u hi)
  have hbw3 : Hid (b0 < bw ∧ bw < w3.heap.size) := ⟨hbwH.out.1, Nat.lt_of_lt_of_le hbwH.out.2 B3.size⟩
  have hob := opn_of hor
  clear hor hop B3 c0 hclH hbwH X2 R2 hN1
  rcases hob with ⟨rfl, hop, hr1, hr2⟩ | ⟨rfl, hop⟩
  · have P0 : Hid (PK l r ws 0 []) := ⟨by simp, by
      have h9 := hst.out
      rw [hop, Option.bind_some] at h9
      rw [h9, List.drop_zero]
      show _ = ((Li.dw (ltr.drop 0) ws).map _).map _
      rw [List.drop_zero]
      cases Li.dw ltr ws <;> simp⟩
    obtain ⟨b7, hb7⟩ := hid_ex3 w3.heap.size
    obtain ⟨w4, ew4⟩ := hid_ex3 (w3.alloc (.cells #[.int .i64 0, .int .i64 0, .int .i64 0, .int .i64 0, .int .i64 0, .int .i64 0] 80))
    have L4 : Below w3.heap.size w3 w4 := by rw [← ew4.out]; exact (Below.refl _ _).alloc (Nat.le_refl _) _
    have A4 : Arz w4 b7 6 [] := by
      rw [← ew4.out, ← hb7.out]
      refine ⟨fun j hj => ?_, fun j => by simp⟩
      match j, hj with
      | 0, _ => simp
      | 1, _ => simp
      | 2, _ => simp
      | 3, _ => simp
      | 4, _ => simp
      | 5, _ => simp
    have M4 : Hid (TW w w4 b0 b7 bw (w0 :: ws) []) := ⟨X3.out.fr (Fr.bel L4) id, A4, fun i u hi => (L4.cell (p := ⟨bw, i, none⟩) hbw3.out.2).trans (hcl3.out i u hi), R3.out.trans (L4.mono R3.out.size)⟩
    have hnb : Hid (b0 ≠ b7 ∧ bw ≠ b7 ∧ w.heap.size ≤ b7) := by
      have h1 := hbw3.out; have h2 := hb7.out; have h3 := R3.out.size
      exact ⟨by omega, by omega, by omega⟩
    clear hop hr1 hr2 L4 A4 hst
    go_upto_region 7 with fail
    rw [ew4.out, hb7.out]
    have hsr := hsrH.out
    go_wp2_with fail
    clear hsr
    go_loopw [29, 8] (fun i a wr => ∃ (k : Nat) (xs : List Int), i = .int .i64 k ∧ a = .int .i64 (xs.length : Nat) ∧ k ≤ m ∧ Hid (PK l r ws k xs) ∧ Hid (TW w wr b0 b7 bw (w0 :: ws) xs)) (fun i _ _ => m - (intOf i).toNat)
    case atStart => exact ⟨0, [], rfl, rfl, Nat.zero_le _, P0, M4⟩
    case round =>
      obtain ⟨k, xs, rfl, rfl, hkm, Pk, Mk⟩ := hrel
      obtain ⟨A, hA⟩ := hid_ex3 xs.length
      rw [hA.out]
      by_cases hlt : k < m
      · have hlt' : (k : Int) < (m : Int) := by omega
        obtain rfl := haoH.out (by omega)
        obtain ⟨u, hu⟩ : ∃ u, ws[k]? = some u := ⟨_, List.getElem?_eq_getElem (by rw [hm.out]; exact hlt)⟩
        have huH : Hid (ws[k]? = some u) := hu
        have hc1 : wr.cell? ⟨bw, 1 + k, none⟩ = some (.string (txb u)) := Mk.out.t (1 + k) u (by rw [Nat.add_comm, List.getElem?_cons_succ]; exact hu)
        clear hu
        go_wp2_with fail
        clear hc1
        rename World => wo
        have hlen : Hid (u.length ≤ 2000000 ∧ u ∈ ws) := ⟨hul.out u (List.mem_of_getElem? huH.out), List.mem_of_getElem? huH.out⟩
        have hltH : Hid (k < m) := hlt
        clear hlt' hlt
        go_loopw [8] (fun a wx => ∃ (ys : List Int), a = .int .i64 (ys.length : Nat) ∧ Hid (PK l r ws k ys) ∧ Hid (TW w wx b0 b7 bw (w0 :: ws) ys)) (fun a _ => 6 - (intOf a).toNat)
        case atStart => exact ⟨xs, by rw [hA.out], Pk, Mk⟩
        case round =>
          obtain ⟨ys, rfl, Py, My⟩ := hrel
          have hy6 : Hid (ys.length ≤ 6) := Py.out.1
          obtain ⟨a, ha⟩ := hid_ex3 ys.length
          rw [ha.out] at hy6 ⊢
          by_cases ha6 : a < 6
          · have t1 : (a : Int) < 6 := by omega
            have haw : IntKind.i64.wrap ((a : Int) + 1) = (a : Int) + 1 := by rw [IntKind.wrap_i64]; omega
            have hqe : ((txb u).toList == ([] : List UInt8)) = decide (u = []) := by
              have h9 := txb_eq u []
              rw [show (txb []).toList = [] by rw [Lib.toList_data]; rfl] at h9
              exact h9
            by_cases hu0 : u = []
            · rw [decide_eq_true hu0] at hqe
              have Pn : Hid (PK l r ws k (ys ++ [0])) := Py.out.next huH.out (by rw [ha.out]; exact ha6) (by rw [hu0]; simp)
              have Mn : Hid (TW w wr.drew b0 b7 bw (w0 :: ws) (ys ++ [0])) := (My.out.call (Below.refl _ _).drew).zero
              have hln : Hid (((ys ++ [0]).length : Int) = (a : Int) + 1) := by show _ = _; simp [ha.out]
              clear hu0
              go_wp2
              go_region
              go_wp2
              go_roundw
              case rel => exact ⟨_, by rw [hln.out], Pn, Mn⟩
              case measure => simp [intOf]; omega
            · rw [decide_eq_false hu0] at hqe
              obtain ⟨c, mm, hcm⟩ : ∃ c mm, u = c :: mm := by
                cases hu9 : u with
                | nil => exact absurd hu9 hu0
                | cons c mm => exact ⟨c, mm, rfl⟩
              have hcmH : Hid (u = c :: mm) := hcm
              obtain ⟨C, hC⟩ := hid_ex3 c.toNat
              obtain ⟨D, hD⟩ := hid_ex3 (ltr.getD a 0).toNat
              have hx0 : ∀ W : World, (Instr.index 9 (.string (txb u)) (.int .i64 0)).run Tryd.prog W = .ok (.int .u8 (C : Int)) W := fun W => by
                have h9 := txi u 0 (by rw [hcm]; simp) W
                rw [← hC.out]
                rw [hcm] at h9 ⊢
                exact h9
              have hxa : ∀ W : World, (Instr.index 9 (.string ⟨#[100, 115, 106, 99, 110, 107]⟩) (.int .i64 (a : Int))).run Tryd.prog W = .ok (.int .u8 (D : Int)) W := fun W => by rw [← hD.out]; exact tx_ltr a ha6 W
              by_cases hcd : c = ltr.getD a 0
              · have q1 : ((C : Int) != (D : Int)) = false := by rw [← hC.out, ← hD.out, hcd]; simp
                have hrp := Py.out.read (m := mm) huH.out (by rw [ha.out]; exact ha6) (by rw [ha.out, ← hcd]; exact hcm)
                have hrpH : Hid ((Li.rdn mm = none → stl l = none) ∧ (Li.rdn mm = some 0 → stl l = none) ∧ ∀ x, Li.rdn mm = some x → x ≠ 0 → PK l r ws (k + 1) (ys ++ [x])) := hrp
                have hsl : ∀ W : World, (Instr.slice 9 (.string (txb u)) (some (.int .i64 1)) none none).run Tryd.prog W = .ok (.string (txb mm)) W := fun W => by
                  rw [run_slice_string_l W 9 (txb u) Tryd.underlying9 .i64 1 (by omega) (by rw [txb_size, hcm, List.length_cons]; omega), txb_cut, hcm, show (1 : Int).toNat = 1 from rfl]
                  simp [txb_size]
                have hrdu : Hid (∀ W, Calls Tryd.prog 32 #[.string (txb mm)] W fun e w' => DrE mm W e w') := fun W => hrd.out u mm W hlen.out.2 (by rw [hcm]; simp)
                have t2 : ((a : Int) == 6) = false := beq_eq_false_iff_ne.2 (by omega)
                have My2 : Hid (TW w wr.drew b0 b7 bw (w0 :: ws) ys) := My.out.call (Below.refl _ _).drew
                clear hcd hcm hu0 hrp
                go_wp2
                go_region
                go_wp2_with fail
                refine (hrdu.out _).mono ?_
                rintro e w5 ⟨B5, n, hn, rfl⟩
                have M5 : Hid (TW w w5 b0 b7 bw (w0 :: ws) ys) := My2.out.call B5
                have hnH : Hid (∀ x, Li.rdn mm = some x → n = x) := hn
                clear B5 hn hsl hx0 hxa q1
                obtain ⟨q, hq⟩ := hid_ex3 (Li.rdn mm)
                rw [hq.out] at hrpH hnH ⊢
                cases q with
                | none =>
                  have hno : Hid (stl l = none) := hrpH.out.1 rfl
                  obtain ⟨x0, x1, x2, x3, x4, x5, x6⟩ := M5.out.x.bx
                  simp only [zst] at x0 x1 x2 x3 x4 x5 x6
                  have Zx := M5.out.x.fz
                  clear hrpH hnH
                  go_wp2_with fail
                  obtain ⟨z0, z1, z2, z3, z4, z5, z6⟩ := M5.out.x.bx.set zst
                  simp only [zst] at z0 z1 z2 z3 z4 z5 z6
                  refine bodyPost_ret (v := .tuple #[sv zst, .bool false]) (by unfold sv sva zst; simp [results, Tryd.results15, go_sem, z0, z1, z2, z3, z4, z5, z6]) rfl ?_
                  exact hzr.out hno.out _ M5.out.be _ _ _ _ _ _ _
                | some x =>
                  obtain rfl : n = x := hnH.out x rfl
                  by_cases hn0 : n = 0
                  · have hno : Hid (stl l = none) := hrpH.out.2.1 (by rw [hn0])
                    have e0 : (n == 0) = true := by rw [hn0]; rfl
                    obtain ⟨x0, x1, x2, x3, x4, x5, x6⟩ := M5.out.x.bx
                    simp only [zst] at x0 x1 x2 x3 x4 x5 x6
                    have Zx := M5.out.x.fz
                    clear hrpH hnH hn0
                    go_wp2_with fail
                    obtain ⟨z0, z1, z2, z3, z4, z5, z6⟩ := M5.out.x.bx.set zst
                    simp only [zst] at z0 z1 z2 z3 z4 z5 z6
                    refine bodyPost_ret (v := .tuple #[sv zst, .bool false]) (by unfold sv sva zst; simp [results, Tryd.results15, go_sem, z0, z1, z2, z3, z4, z5, z6]) rfl ?_
                    exact hzr.out hno.out _ M5.out.be _ _ _ _ _ _ _
                  · have Pn : Hid (PK l r ws (k + 1) (ys ++ [n])) := hrpH.out.2.2 n rfl hn0
                    have e0 : (n == 0) = false := beq_eq_false_iff_ne.2 hn0
                    have M6 : Hid (TW w (w5.setCell ⟨b7, a, none⟩ (.int .i64 n)) b0 b7 bw (w0 :: ws) (ys ++ [n])) := by
                      have h9 := M5.out.set n hnb.out.1 hnb.out.2.2 hnb.out.2.1
                      rw [ha.out] at h9; exact h9
                    have hln : Hid (((ys ++ [n]).length : Int) = (a : Int) + 1) := by show _ = _; simp [ha.out]
                    have y4 := M5.out.y.c a ha6
                    have y5 := M5.out.y.fz a
                    have hk6 : (a : Int) + 1 ≤ 6 := by omega
                    clear hrpH hnH hn0
                    go_wp2_with fail
                    go_roundw
                    case rel => exact ⟨k + 1, _, by go_num, by rw [hln.out], hltH.out, Pn, M6⟩
                    case measure => simp [intOf]; have := hltH.out; omega
              · have q1 : ((C : Int) != (D : Int)) = true := by
                  rw [← hC.out, ← hD.out]
                  exact bne_iff_ne.2 fun e => hcd (UInt8.toNat_inj.1 (by omega))
                have Pn : Hid (PK l r ws k (ys ++ [0])) := Py.out.next huH.out (by rw [ha.out]; exact ha6) (by rw [hcm, ha.out]; simpa using hcd)
                have Mn : Hid (TW w wr.drew b0 b7 bw (w0 :: ws) (ys ++ [0])) := (My.out.call (Below.refl _ _).drew).zero
                have hln : Hid (((ys ++ [0]).length : Int) = (a : Int) + 1) := by show _ = _; simp [ha.out]
                clear hu0 hcm hcd
                go_wp2
                go_region
                go_wp2
                go_roundw
                case rel => exact ⟨_, by rw [hln.out], Pn, Mn⟩
                case measure => simp [intOf]; omega
          · have t1 : decide ((a : Int) < 6) = false := decide_eq_false (by omega)
            have t2 : ((a : Int) == 6) = true := by rw [show a = 6 by have := hy6.out; omega]; rfl
            have hno : Hid (stl l = none) := Py.out.six huH.out (by rw [ha.out]; have := hy6.out; omega)
            have My2 : Hid (TW w wr.drew b0 b7 bw (w0 :: ws) ys) := My.out.call (Below.refl _ _).drew
            go_wp2
            go_region
            obtain ⟨wq, hwq⟩ := hid_ex3 wr.drew
            rw [hwq.out] at My2 ⊢
            clear hwq
            obtain ⟨x0, x1, x2, x3, x4, x5, x6⟩ := My2.out.x.bx
            simp only [zst] at x0 x1 x2 x3 x4 x5 x6
            have Zx := My2.out.x.fz
            go_wp2
            obtain ⟨z0, z1, z2, z3, z4, z5, z6⟩ := My2.out.x.bx.set zst
            simp only [zst] at z0 z1 z2 z3 z4 z5 z6
            refine bodyPost_ret (v := .tuple #[sv zst, .bool false]) (by unfold sv sva zst; simp [results, Tryd.results15, go_sem, z0, z1, z2, z3, z4, z5, z6]) rfl ?_
            exact hzr.out hno.out _ My2.out.be _ _ _ _ _ _ _
      · have hlt' : decide ((k : Int) < (m : Int)) = false := decide_eq_false (by omega)
        have hres : Hid (stl l = some (stZ r xs)) := Pk.out.done (by rw [hm.out]; omega)
        obtain ⟨x0, x1, x2, x3, x4, x5, x6⟩ := Mk.out.x.bx
        have Zx := Mk.out.x.fz
        have y0 := Mk.out.y.c 0 (by decide)
        have y1 := Mk.out.y.c 1 (by decide)
        have y2 := Mk.out.y.c 2 (by decide)
        have y3 := Mk.out.y.c 3 (by decide)
        have y4 := Mk.out.y.c 4 (by decide)
        have y5 := Mk.out.y.c 5 (by decide)
        obtain ⟨a0, ha0⟩ := hid_ex3 (xs.getD 0 0)
        obtain ⟨a1, ha1⟩ := hid_ex3 (xs.getD 1 0)
        obtain ⟨a2, ha2⟩ := hid_ex3 (xs.getD 2 0)
        obtain ⟨a3, ha3⟩ := hid_ex3 (xs.getD 3 0)
        obtain ⟨a4, ha4⟩ := hid_ex3 (xs.getD 4 0)
        obtain ⟨a5, ha5⟩ := hid_ex3 (xs.getD 5 0)
        rw [ha0.out] at y0
        rw [ha1.out] at y1
        rw [ha2.out] at y2
        rw [ha3.out] at y3
        rw [ha4.out] at y4
        rw [ha5.out] at y5
        have hpv : Hid (sv ⟨r, a0, a1, a2, a3, a4, a5⟩ = sv (stZ r xs)) := by
          rw [← ha0.out, ← ha1.out, ← ha2.out, ← ha3.out, ← ha4.out, ← ha5.out]; exact (rfl : _ = _)
        clear Pk
        go_wp2_with fail
        obtain ⟨z0, z1, z2, z3, z4, z5, z6⟩ := Mk.out.x.bx.set ⟨r, a0, a1, a2, a3, a4, a5⟩
        refine bodyPost_ret (v := .tuple #[sv ⟨r, a0, a1, a2, a3, a4, a5⟩, .bool true]) (by unfold sv sva; simp [results, Tryd.results15, go_sem, z0, z1, z2, z3, z4, z5, z6]) rfl ?_
        exact ⟨(set7_fr wr b0 _ _ _ _ _ _ _).below Mk.out.be Mk.out.be.size fun k _ hk => by rw [hb0.out]; omega, .inr ⟨_, hres.out, by rw [hpv.out]⟩⟩
  · have hno : Hid (stl l = none) := by rw [hst.out, hop]; exact (rfl : _ = _)
    obtain ⟨x0, x1, x2, x3, x4, x5, x6⟩ := X3.out.bx
    simp only [zst] at x0 x1 x2 x3 x4 x5 x6
    have Zx := X3.out.fz
    clear hop hst
    go_wp2_with fail
    obtain ⟨z0, z1, z2, z3, z4, z5, z6⟩ := X3.out.bx.set zst
    simp only [zst] at z0 z1 z2 z3 z4 z5 z6
    refine bodyPost_ret (v := .tuple #[sv zst, .bool false]) (by unfold sv sva zst; simp [results, Tryd.results15, go_sem, z0, z1, z2, z3, z4, z5, z6]) rfl ?_
    exact hzr.out hno.out _ R3.out _ _ _ _ _ _ _
end Go.Proofs.YtlbnldbelfgokaaDoor
