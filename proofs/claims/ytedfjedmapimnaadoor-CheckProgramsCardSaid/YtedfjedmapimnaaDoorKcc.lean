/-
  The document's last of layer 18: the greatest cell that a step reads or writes.
-/
import Derived.Test.YtedfjedmapimnaaDoorKbb
namespace Go.Proofs.YtedfjedmapimnaaDoor
open Flo Go.RowKit
def mx (l : List Nat) : Nat := l.foldl max 0
theorem mx_snoc (l : List Nat) (x : Nat) : mx (l ++ [x]) = max (mx l) x := by unfold mx; rw [List.foldl_append]; rfl
theorem take_snoc18 (l : List Nat) (q : Nat) (h : q < l.length) : l.take (q + 1) = l.take q ++ [l.getD q 0] := by
  rw [List.take_add_one, List.getElem?_eq_getElem h]
  simp [List.getD, h]
theorem mx_step (L l : List Nat) (q : Nat) (h : q < l.length) : mx (L ++ l.take (q + 1)) = max (mx (L ++ l.take q)) (l.getD q 0) := by
  rw [take_snoc18 l q h, ← List.append_assoc, mx_snoc]
def lap (o d s j c n : Nat) : Nat → List Nat
  | 0 => []
  | 1 => Kc.rds o d s j n 0 ++ Kc.wrs o d j n 0
  | _ => Kc.lasl o d s j c n
def iap (c : Nat) : Nat → Nat
  | 0 => 0
  | _ => c - 1
theorem lap_succ (o d s j c n k : Nat) (h : k < 2) : lap o d s j c n (k + 1) = lap o d s j c n k ++ (Kc.rds o d s j n (iap c k) ++ Kc.wrs o d j n (iap c k)) := by
  match k, h with
  | 0, _ => rfl
  | 1, _ => rfl
theorem rds_len {o d s j c n : Nat} (h : Kc.Fo o d s j c n) (i : Nat) : (Kc.rds o d s j n i).length ≤ 64 ∧ (Kc.wrs o d j n i).length ≤ 64 := by
  have h5 := h.n5
  have h6 := h.n6
  unfold Kc.rds Kc.wrs
  refine ⟨?_, ?_⟩
  · split
    · simp
    split
    · simp
    split
    · simp
    split
    · rename_i e; have := h5 e; simp; omega
    split
    · rename_i e; have := h6 e; simp; omega
    split
    · simp
    · simp
  · split
    · simp
    split
    · rename_i e; have := h5 e; simp; omega
    · simp
set_option maxHeartbeats 4000000 in
set_option maxRecDepth 100000 in
theorem klast_d {o d s j c n : Nat} (h : Kc.Fo o d s j c n) (k : Int) (w : World) :
    Calls Tryd.prog 34 #[sv ⟨o, d, s, j, c, n, k⟩] w fun e w' => e = .returned (.int .i64 (Kc.las o d s j c n : Nat)) ∧ Below w.heap.size w w' := by
  obtain ⟨g, hg⟩ : ∃ g, Hid (w.heap.size = g) := ⟨_, (rfl : _ = _)⟩
  obtain ⟨wa, ewa⟩ : ∃ wa, Hid (w.alloc (.cells #[.int .i64 o, .int .i64 d, .int .i64 s, .int .i64 j, .int .i64 c, .int .i64 n, .int .i64 k] 39) = wa) := ⟨_, (rfl : _ = _)⟩
  have Ba : Hid (Below w.heap.size w wa) := by rw [← ewa.out]; exact (Below.refl _ _).alloc (Nat.le_refl _) _
  have X1 : Hid (Bst wa g o d s j c n k) := by show Bst _ _ _ _ _ _ _ _ _; rw [← ewa.out, ← hg.out]; exact Bst.new w _ _ _ _ _ _ _
  obtain ⟨C, hC⟩ : ∃ C : Nat, Hid (c - 1 = C) := ⟨_, (rfl : _ = _)⟩
  have hc1 := h.c1
  have hc2 := h.c2
  have e1 : wrap64 ((c : Int) - 1) = (C : Int) := by have := hC.out; unfold wrap64; omega
  obtain ⟨G, hG⟩ : ∃ g, Hid (wa.heap.size = g) := ⟨_, (rfl : _ = _)⟩
  obtain ⟨wb, ewb⟩ : ∃ wb, Hid (wa.alloc (.cells #[.int .i64 0, .int .i64 (C : Int)] 3) = wb) := ⟨_, (rfl : _ = _)⟩
  have Bb : Hid (Below w.heap.size w wb) := by rw [← ewb.out]; exact Ba.out.alloc Ba.out.size _
  have X2 : Hid (∀ W, Below wb.heap.size wb W → Bst W g o d s j c n k) := fun W hW => by
    have h1 : Bst wb g o d s j c n k := by rw [← ewb.out]; exact X1.out.below ((Below.refl _ _).alloc (Nat.le_refl _) _)
    exact h1.below hW
  have L2 : Hid (∀ W, Below wb.heap.size wb W → ∀ i, i < 2 → W.cell? ⟨G, i, none⟩ = some (.int .i64 (iap c i : Nat))) := fun W hW i hi => by
    have h1 : wb.cell? ⟨G, i, none⟩ = some (.int .i64 (iap c i : Nat)) := by
      rw [← ewb.out, ← hG.out]
      match i, hi with
      | 0, _ => simp [go_sem, iap]
      | 1, _ => simp [go_sem, iap, hC.out]
    exact (hW.cell (cell_lt h1)).trans h1
  have hact : Hid (∀ i, i < 2 → ∀ W, Calls Tryd.prog 16 #[sv ⟨o, d, s, j, c, n, k⟩, .int .i64 (iap c i : Nat)] W fun e w' => AcE (Kc.rds o d s j n (iap c i)) (Kc.wrs o d j n (iap c i)) W e w') := fun i hi W => kact_c h _ (by match i, hi with | 0, _ => exact Nat.zero_le _ | 1, _ => show c - 1 ≤ _; omega) k W
  have hlen : Hid (∀ i, (Kc.rds o d s j n i).length ≤ 64 ∧ (Kc.wrs o d j n i).length ≤ 64) := fun i => rds_len h i
  have hfin : Hid (Kc.las o d s j c n = mx (lap o d s j c n 2)) := (rfl : _ = _)
  rw [hfin.out]
  have hsuc : Hid (∀ i, i < 2 → lap o d s j c n (i + 1) = lap o d s j c n i ++ (Kc.rds o d s j n (iap c i) ++ Kc.wrs o d j n (iap c i))) := fun i hi => lap_succ o d s j c n i hi
  have h0 : Hid (mx (lap o d s j c n 0) = 0) := (rfl : _ = _)
  generalize lap o d s j c n = LP at *
  clear h hc1 hc2 hfin
  unfold sv sva at *
  go_enter Tryd.func34, Tryd.ntmps34
  go_upto_region 1 with fail
  rw [ewa.out, hg.out]
  obtain ⟨y0, y1, y2, y3, y4, y5, y6⟩ := X1.out
  go_wp2
  rw [ewb.out, hG.out]
  clear y0 y1 y2 y3 y4 y5 y6 e1
  go_loopw [3, 17] (fun a i wr => ∃ (q M : Nat), q ≤ 2 ∧ i = .int .i64 q ∧ a = .int .i64 M ∧ Hid (Below wb.heap.size wb wr) ∧ Hid (M = mx (LP q))) (fun _ i _ => 2 - (intOf i).toNat)
  case atStart => exact ⟨0, 0, Nat.zero_le _, rfl, rfl, Below.refl _ _, h0.out.symm⟩
  case round =>
    obtain ⟨q, M, hq, rfl, rfl, Bk, hM⟩ := hrel
    by_cases hlt : q < 2
    · have hlt' : (q : Int) < 2 := by omega
      have z1 := L2.out wr Bk.out q hlt
      obtain ⟨y0, y1, y2, y3, y4, y5, y6⟩ := X2.out wr Bk.out
      have ha := hact.out q hlt wr
      have hs := hsuc.out q hlt
      have hl := hlen.out (iap c q)
      generalize iap c q = I at *
      generalize Kc.rds o d s j n I = rd at *
      generalize Kc.wrs o d j n I = wl at *
      have hsH : Hid (LP (q + 1) = LP q ++ (rd ++ wl)) := hs
      have haH : Hid (Calls Tryd.prog 16 #[.agg #[.int .i64 o, .int .i64 d, .int .i64 s, .int .i64 j, .int .i64 c, .int .i64 n, .int .i64 k], .int .i64 (I : Nat)] wr fun e w' => AcE rd wl wr e w') := ha
      clear ha hs
      go_wp2_with fail
      refine haH.out.mono ?_
      rintro e w1 ⟨v1, v2, rfl, ⟨ao1, cp1, rfl, hr1⟩, ⟨ao2, cp2, rfl, hr2⟩, B1⟩
      have hr1H : Hid (rd ≠ [] → ∃ b off, ao1 = some ⟨b, off, none⟩ ∧ b < w1.heap.size ∧ ∀ i, i < rd.length → w1.cell? ⟨b, off + i, none⟩ = some (.int .i64 ((rd.getD i 0 : Nat) : Int))) := hr1
      have hr2H : Hid (wl ≠ [] → ∃ b off, ao2 = some ⟨b, off, none⟩ ∧ b < w1.heap.size ∧ ∀ i, i < wl.length → w1.cell? ⟨b, off + i, none⟩ = some (.int .i64 ((wl.getD i 0 : Nat) : Int))) := hr2
      have Bk1 : Hid (Below wb.heap.size wb w1) := Bk.out.trans (B1.mono Bk.out.size)
      obtain ⟨n1, hn1⟩ : ∃ n, Hid (rd.length = n) := ⟨_, (rfl : _ = _)⟩
      obtain ⟨n2, hn2⟩ : ∃ n, Hid (wl.length = n) := ⟨_, (rfl : _ = _)⟩
      rw [hn1.out, hn2.out] at hl ⊢
      obtain ⟨hl1, hl2⟩ := hl
      clear y0 y1 y2 y3 y4 y5 y6 z1 haH hr1 hr2 B1
      go_wp2
      go_loopw [3, 29] (fun a i wr => ∃ (p P : Nat), p ≤ n1 ∧ i = .int .i64 p ∧ a = .int .i64 P ∧ w1 = wr ∧ Hid (P = mx (LP q ++ rd.take p))) (fun _ i _ => n1 - (intOf i).toNat)
      case atStart => exact ⟨0, M, Nat.zero_le _, rfl, rfl, rfl, by show _ = _; rw [List.take_zero, List.append_nil]; exact hM.out⟩
      case round =>
        obtain ⟨p, P, hp, rfl, rfl, rfl, hP⟩ := hrel
        by_cases hlt2 : p < n1
        · have hlt2' : (p : Int) < (n1 : Int) := by omega
          obtain ⟨b, off, rfl, -, hc⟩ := hr1H.out (fun e => by have := hn1.out; rw [e] at this; simp at this; omega)
          have z1 := hc p (by rw [hn1.out]; exact hlt2)
          have hst := mx_step (LP q) rd p (by rw [hn1.out]; exact hlt2)
          rw [← hP.out] at hst
          generalize rd.getD p 0 = X at *
          obtain ⟨Y, hY⟩ : ∃ Y, Hid (mx (LP q ++ rd.take (p + 1)) = Y) := ⟨_, (rfl : _ = _)⟩
          have hYm : Hid (Y = max P X) := hY.out.symm.trans hst
          clear hc hst
          by_cases hm : P < X
          · have hm' : (P : Int) < (X : Int) := by omega
            obtain rfl : Y = X := by rw [hYm.out]; omega
            go_wp2
            go_roundw
            case rel => exact ⟨p + 1, Y, by omega, by go_num, by first | rfl | (rw [if_pos hm]), by first | rfl | trivial, hY.out.symm⟩
            case measure => simp [intOf]; omega
          · have hm' : decide ((P : Int) < (X : Int)) = false := decide_eq_false (by omega)
            obtain rfl : Y = P := by rw [hYm.out]; omega
            go_wp2
            go_roundw
            case rel => exact ⟨p + 1, Y, by omega, by go_num, by first | rfl | (rw [if_neg hm]), by first | rfl | trivial, hY.out.symm⟩
            case measure => simp [intOf]; omega
        · have hlt2' : decide ((p : Int) < (n1 : Int)) = false := decide_eq_false (by omega)
          obtain rfl : p = n1 := by omega
          have hP2 : Hid (P = mx (LP q ++ rd)) := by show _ = _; rw [hP.out, List.take_of_length_le (by rw [hn1.out]; exact Nat.le_refl _)]
          clear hP hr1H
          go_wp2
          go_loopw [3, 39] (fun a i wr => ∃ (p2 P2 : Nat), p2 ≤ n2 ∧ i = .int .i64 p2 ∧ a = .int .i64 P2 ∧ w1 = wr ∧ Hid (P2 = mx (LP q ++ rd ++ wl.take p2))) (fun _ i _ => n2 - (intOf i).toNat)
          case atStart => exact ⟨0, P, Nat.zero_le _, rfl, rfl, rfl, by show _ = _; rw [List.take_zero, List.append_nil]; exact hP2.out⟩
          case round =>
            obtain ⟨p2, P2, hp2, rfl, rfl, rfl, hPP⟩ := hrel
            by_cases hlt3 : p2 < n2
            · have hlt3' : (p2 : Int) < (n2 : Int) := by omega
              obtain ⟨b, off, rfl, -, hc⟩ := hr2H.out (fun e => by have := hn2.out; rw [e] at this; simp at this; omega)
              have z1 := hc p2 (by rw [hn2.out]; exact hlt3)
              have hst := mx_step (LP q ++ rd) wl p2 (by rw [hn2.out]; exact hlt3)
              rw [← hPP.out] at hst
              generalize wl.getD p2 0 = X at *
              obtain ⟨Y, hY⟩ : ∃ Y, Hid (mx (LP q ++ rd ++ wl.take (p2 + 1)) = Y) := ⟨_, (rfl : _ = _)⟩
              have hYm : Hid (Y = max P2 X) := hY.out.symm.trans hst
              clear hc hst
              by_cases hm : P2 < X
              · have hm' : (P2 : Int) < (X : Int) := by omega
                obtain rfl : Y = X := by rw [hYm.out]; omega
                go_wp2
                go_roundw
                case rel => exact ⟨p2 + 1, Y, by omega, by go_num, by first | rfl | (rw [if_pos hm]), by first | rfl | trivial, hY.out.symm⟩
                case measure => simp [intOf]; omega
              · have hm' : decide ((P2 : Int) < (X : Int)) = false := decide_eq_false (by omega)
                obtain rfl : Y = P2 := by rw [hYm.out]; omega
                go_wp2
                go_roundw
                case rel => exact ⟨p2 + 1, Y, by omega, by go_num, by first | rfl | (rw [if_neg hm]), by first | rfl | trivial, hY.out.symm⟩
                case measure => simp [intOf]; omega
            · have hlt3' : decide ((p2 : Int) < (n2 : Int)) = false := decide_eq_false (by omega)
              obtain rfl : p2 = n2 := by omega
              have hP3 : Hid (P2 = mx (LP (q + 1))) := by show _ = _; rw [hPP.out, List.take_of_length_le (by rw [hn2.out]; exact Nat.le_refl _), hsH.out, List.append_assoc]
              clear hPP hr2H
              go_wp2
              go_roundw
              case rel => exact ⟨q + 1, P2, by omega, by go_num, rfl, Bk1, hP3.out⟩
              case measure => simp [intOf]; omega
    · have hlt' : decide ((q : Int) < 2) = false := decide_eq_false (by omega)
      have hq2 : Hid (q = 2) := by show q = 2; omega
      have hres : Hid ((.returned (.int .i64 (M : Int)) : Ending) = .returned (.int .i64 ((mx (LP 2) : Nat) : Int))) := by show _ = _; rw [hM.out, hq2.out]
      clear hM hq2
      go_wp2
      go_ret
      exact ⟨hres.out, Bb.out.trans (Bk.out.mono Bb.out.size)⟩
end Go.Proofs.YtedfjedmapimnaaDoor
/-
  The document's apart and Good of layer 18.
-/
namespace Go.Proofs.YtedfjedmapimnaaDoor
open Flo Go.RowKit
theorem rds_bd {o d s j c n : Nat} (h : Kc.Fo o d s j c n) (i : Nat) (hi : i ≤ 262144) : ∀ x ∈ Kc.rds o d s j n i, x ≤ 1099511627776 := by
  intro x hx
  have h1 := h.d2
  have h2 := h.s2
  have h3 := h.j2
  have hm : i * j ≤ 262144 * 262144 := Nat.mul_le_mul hi h3
  unfold Kc.rds at hx
  split at hx
  · simp at hx; subst hx; generalize i * j = z at hm; omega
  split at hx
  · simp at hx; omega
  split at hx
  · simp at hx
  split at hx
  · rename_i e
    have h5 := h.n5 e
    simp at hx
    obtain ⟨q, hq, rfl⟩ := hx
    have : q * j ≤ 5 * 262144 := Nat.mul_le_mul (by omega) h3
    generalize q * j = z at this
    omega
  split at hx
  · rename_i e
    have h5 := h.n6 e
    simp at hx
    obtain ⟨q, hq, rfl⟩ := hx
    have : q * j ≤ 64 * 262144 := Nat.mul_le_mul (by omega) h3
    generalize q * j = z at this
    omega
  split at hx
  · simp at hx; omega
  · simp at hx; omega
/-- the first acts are apart -/
def apk (o d s j c n m : Nat) : Bool := (List.range m).all fun i => (Kc.rds o d s j n i).all fun x => Kc.hit1 o d j c n i x
theorem apk_succ (o d s j c n m : Nat) : apk o d s j c n (m + 1) = (apk o d s j c n m && (Kc.rds o d s j n m).all fun x => Kc.hit1 o d j c n m x) := by
  unfold apk; rw [List.range_succ, List.all_append]; simp
theorem apk_bad {o d s j c n m : Nat} {x : Nat} (hm : m < c) (hx : x ∈ Kc.rds o d s j n m) (hh : Kc.hit1 o d j c n m x = false) : Kc.apa o d s j c n = false := by
  rw [← Bool.not_eq_true]
  intro h
  unfold Kc.apa at h
  rw [List.all_eq_true] at h
  have h2 := h m (by simpa using hm)
  rw [List.all_eq_true] at h2
  rw [h2 x hx] at hh
  cases hh
theorem all_step {l : List Nat} {f : Nat → Bool} (q : Nat) (h : q < l.length) (h1 : (l.take q).all f = true) (h2 : f (l.getD q 0) = true) : (l.take (q + 1)).all f = true := by
  rw [take_snoc18 l q h, List.all_append, h1]; simp at h2 ⊢; exact h2
set_option maxHeartbeats 4000000 in
set_option maxRecDepth 100000 in
theorem kapart_d {o d s j c n : Nat} (h : Kc.Fo o d s j c n) (k : Int) (w : World) :
    Calls Tryd.prog 35 #[sv ⟨o, d, s, j, c, n, k⟩] w fun e w' => e = .returned (.bool (Kc.apa o d s j c n)) ∧ Below w.heap.size w w' := by
  obtain ⟨g, hg⟩ : ∃ g, Hid (w.heap.size = g) := ⟨_, (rfl : _ = _)⟩
  obtain ⟨wa, ewa⟩ : ∃ wa, Hid (w.alloc (.cells #[.int .i64 o, .int .i64 d, .int .i64 s, .int .i64 j, .int .i64 c, .int .i64 n, .int .i64 k] 39) = wa) := ⟨_, (rfl : _ = _)⟩
  have Ba : Hid (Below w.heap.size w wa) := by rw [← ewa.out]; exact (Below.refl _ _).alloc (Nat.le_refl _) _
  have X1 : Hid (Bst wa g o d s j c n k) := by show Bst _ _ _ _ _ _ _ _ _; rw [← ewa.out, ← hg.out]; exact Bst.new w _ _ _ _ _ _ _
  have hc2 := h.c2
  have X2 : Hid (∀ W, Below wa.heap.size wa W → Bst W g o d s j c n k) := fun W hW => X1.out.below hW
  have hact : Hid (∀ i, i < c → ∀ W, Calls Tryd.prog 16 #[sv ⟨o, d, s, j, c, n, k⟩, .int .i64 (i : Nat)] W fun e w' => AcE (Kc.rds o d s j n i) (Kc.wrs o d j n i) W e w') := fun i hi W => kact_c h i (by omega) k W
  have hwr : Hid (∀ i, i < c → ∀ x ∈ Kc.rds o d s j n i, ∀ W, Calls Tryd.prog 46 #[sv ⟨o, d, s, j, c, n, k⟩, .int .i64 (x : Int)] W fun e w' => e = .returned (.int .i64 (wrI (Kc.wri o d j c n x))) ∧ Below W.heap.size W w') := fun i hi x hx W => kwr_c h x (rds_bd h i (by omega) x hx) k W
  have hlen : Hid (∀ i, (Kc.rds o d s j n i).length ≤ 64 ∧ (Kc.wrs o d j n i).length ≤ 64) := fun i => rds_len h i
  obtain ⟨R, hR⟩ : ∃ b, Hid (Kc.apa o d s j c n = b) := ⟨_, (rfl : _ = _)⟩
  have hbad : Hid (∀ m x, m < c → x ∈ Kc.rds o d s j n m → Kc.hit1 o d j c n m x = false → R = false) := fun m x h1 h2 h3 => hR.out.symm.trans (apk_bad h1 h2 h3)
  have hgood : Hid (apk o d s j c n c = true → R = true) := fun h1 => hR.out.symm.trans h1
  rw [hR.out]
  clear h hR
  unfold sv sva at *
  go_enter Tryd.func35, Tryd.ntmps35
  go_upto_region 1 with fail
  rw [ewa.out, hg.out]
  go_wp2
  go_loopw [3] (fun i wr => ∃ (q : Nat), q ≤ c ∧ i = .int .i64 q ∧ Hid (Below wa.heap.size wa wr) ∧ Hid (apk o d s j c n q = true)) (fun i _ => c - (intOf i).toNat)
  case atStart => exact ⟨0, Nat.zero_le _, rfl, Below.refl _ _, (rfl : _ = _)⟩
  case round =>
    obtain ⟨q, hq, rfl, Bk, hM⟩ := hrel
    obtain ⟨y0, y1, y2, y3, y4, y5, y6⟩ := X2.out wr Bk.out
    by_cases hlt : q < c
    · have hlt' : (q : Int) < (c : Int) := by omega
      have ha := hact.out q hlt wr
      have hl := (hlen.out q).1
      have hw := hwr.out q hlt
      have hb := hbad.out q
      have hs := apk_succ o d s j c n q
      rw [hM.out, Bool.true_and] at hs
      obtain ⟨rd, hrd⟩ : ∃ z, Hid (Kc.rds o d s j n q = z) := ⟨_, (rfl : _ = _)⟩
      rw [hrd.out] at ha hl hw hb hs
      have hsH : Hid (apk o d s j c n (q + 1) = rd.all fun x => Kc.hit1 o d j c n q x) := hs
      have hwH : Hid (∀ x ∈ rd, ∀ W, Calls Tryd.prog 46 #[.agg #[.int .i64 o, .int .i64 d, .int .i64 s, .int .i64 j, .int .i64 c, .int .i64 n, .int .i64 k], .int .i64 (x : Int)] W fun e w' => e = .returned (.int .i64 (wrI (Kc.wri o d j c n x))) ∧ Below W.heap.size W w') := hw
      have hbH : Hid (∀ x, x ∈ rd → Kc.hit1 o d j c n q x = false → R = false) := fun x h1 h2 => hb x hlt h1 h2
      have haH : Hid (Calls Tryd.prog 16 #[.agg #[.int .i64 o, .int .i64 d, .int .i64 s, .int .i64 j, .int .i64 c, .int .i64 n, .int .i64 k], .int .i64 (q : Nat)] wr fun e w' => AcE rd (Kc.wrs o d j n q) wr e w') := ha
      clear ha hs hw hb hM
      go_wp2_with fail
      refine haH.out.mono ?_
      rintro e w1 ⟨v1, v2, rfl, ⟨ao1, cp1, rfl, hr1⟩, -, B1⟩
      have hr1H : Hid (rd ≠ [] → ∃ b off, ao1 = some ⟨b, off, none⟩ ∧ b < w1.heap.size ∧ ∀ i, i < rd.length → w1.cell? ⟨b, off + i, none⟩ = some (.int .i64 ((rd.getD i 0 : Nat) : Int))) := hr1
      have Bk1 : Hid (Below wa.heap.size wa w1) := Bk.out.trans (B1.mono Bk.out.size)
      obtain ⟨n1, hn1⟩ : ∃ n, Hid (rd.length = n) := ⟨_, (rfl : _ = _)⟩
      rw [hn1.out] at hl ⊢
      clear y0 y1 y2 y3 y4 y5 y6 haH hr1 B1
      go_wp2
      go_loopw [23] (fun i wr => ∃ (p : Nat), p ≤ n1 ∧ i = .int .i64 p ∧ Hid (Below w1.heap.size w1 wr) ∧ Hid (((rd.take p).all fun x => Kc.hit1 o d j c n q x) = true)) (fun i _ => n1 - (intOf i).toNat)
      case atStart => exact ⟨0, Nat.zero_le _, rfl, Below.refl _ _, by rw [List.take_zero]; exact (rfl : _ = _)⟩
      case round =>
        obtain ⟨p, hp, rfl, Bp, hP⟩ := hrel
        have Bp1 : Hid (Below wa.heap.size wa wr) := Bk1.out.trans (Bp.out.mono Bk1.out.size)
        by_cases hlt2 : p < n1
        · have hlt2' : (p : Int) < (n1 : Int) := by omega
          obtain ⟨y0, y1, y2, y3, y4, y5, y6⟩ := X2.out wr Bp1.out
          obtain ⟨b, off, rfl, hbl, hc⟩ := hr1H.out (fun e => by have := hn1.out; rw [e] at this; simp at this; omega)
          have z1 := (Bp.out.cell (p := ⟨b, off + p, none⟩) hbl).trans (hc p (by rw [hn1.out]; exact hlt2))
          have hmem : rd.getD p 0 ∈ rd := by
            rw [List.getD_eq_getElem?_getD, List.getElem?_eq_getElem (by rw [hn1.out]; exact hlt2)]
            exact List.getElem_mem _
          have hst := all_step (f := fun x => Kc.hit1 o d j c n q x) p (by rw [hn1.out]; exact hlt2) hP.out
          generalize rd.getD p 0 = X at *
          have hstH : Hid (Kc.hit1 o d j c n q X = true → ((rd.take (p + 1)).all fun x => Kc.hit1 o d j c n q x) = true) := hst
          have hbX : Hid (Kc.hit1 o d j c n q X = false → R = false) := hbH.out X hmem
          have hwX := hwH.out X hmem wr
          have hhit : Hid (Kc.hit1 o d j c n q X = match Kc.wri o d j c n X with | none => true | some b => b == q) := (rfl : _ = _)
          generalize Kc.hit1 o d j c n q X = T at *
          generalize Kc.wri o d j c n X = V at *
          have hwXH : Hid (Calls Tryd.prog 46 #[.agg #[.int .i64 o, .int .i64 d, .int .i64 s, .int .i64 j, .int .i64 c, .int .i64 n, .int .i64 k], .int .i64 (X : Int)] wr fun e w' => e = .returned (.int .i64 (wrI V)) ∧ Below wr.heap.size wr w') := hwX
          clear hc hst hmem hwX
          go_wp2_with fail
          refine hwXH.out.mono ?_
          rintro e w5 ⟨rfl, B5⟩
          have Bp5 : Hid (Below w1.heap.size w1 w5) := Bp.out.trans (B5.mono Bp.out.size)
          have Bw5 : Hid (Below w.heap.size w w5) := Ba.out.trans ((Bp1.out.trans (B5.mono Bp1.out.size)).mono Ba.out.size)
          clear y0 y1 y2 y3 y4 y5 y6 z1 hwXH B5
          cases V with
          | none =>
            have e1 : wrI none = -1 := rfl
            have hT : Hid (((rd.take (p + 1)).all fun x => Kc.hit1 o d j c n q x) = true) := hstH.out hhit.out
            clear hhit hstH hbX
            rw [e1]
            go_wp2
            go_roundw
            case rel => exact ⟨p + 1, by omega, by go_num, Bp5, hT⟩
            case measure => simp [intOf]; omega
          | some v =>
            have e1 : wrI (some v) = (v : Int) := rfl
            have e2 : (0 : Int) ≤ (v : Int) := Int.natCast_nonneg v
            rw [e1]
            by_cases hvq : v = q
            · have e3 : ((v : Int) != (q : Int)) = false := by rw [hvq]; simp
              have hT : Hid (((rd.take (p + 1)).all fun x => Kc.hit1 o d j c n q x) = true) := hstH.out (hhit.out.trans (beq_iff_eq.2 hvq))
              clear hhit hstH hbX hvq
              go_wp2
              go_roundw
              case rel => exact ⟨p + 1, by omega, by go_num, Bp5, hT⟩
              case measure => simp [intOf]; omega
            · have e3 : ((v : Int) != (q : Int)) = true := by rw [bne_iff_ne]; omega
              obtain rfl : R = false := hbX.out (hhit.out.trans (beq_eq_false_iff_ne.2 hvq))
              clear hhit hstH hbX hvq
              go_wp2
              go_ret
              exact ⟨rfl, Bw5.out⟩
        · have hlt2' : decide ((p : Int) < (n1 : Int)) = false := decide_eq_false (by omega)
          obtain rfl : p = n1 := by omega
          have hP2 : Hid (apk o d s j c n (q + 1) = true) := by show _ = _; rw [hsH.out]; have := hP.out; rw [List.take_of_length_le (by rw [hn1.out]; exact Nat.le_refl _)] at this; exact this
          clear hP hr1H
          go_wp2
          go_roundw
          case rel => exact ⟨q + 1, by omega, by go_num, Bp1, hP2⟩
          case measure => simp [intOf]; omega
    · have hlt' : decide ((q : Int) < (c : Int)) = false := decide_eq_false (by omega)
      obtain rfl : q = c := by omega
      obtain rfl : R = true := hgood.out hM.out
      go_wp2
      go_ret
      exact ⟨rfl, Ba.out.trans (Bk.out.mono Ba.out.size)⟩
end Go.Proofs.YtedfjedmapimnaaDoor
