/-
  Package check: what a step touches: the two great cases (times, fly), and all together.
-/
import Derived.Test.YtedfjedmapimnaaDoorKc2
import Derived.Lib.SmallJoins
namespace Go.Proofs.YtedfjedmapimnaaDoor
open Flo Go.RowKit
theorem RdR.two {w : World} {g c : Nat} {r v : Kc.Rw} (h : RAt w g 0 r) (h2 : RAt w g 3 v) : RdR w (.slice (some ⟨g, 0, none⟩) 2 c) [r, v] := ⟨_, _, rfl, fun i x hi => by
  match i, hi with
  | 0, hi => cases hi; exact ⟨g, 0, rfl, h⟩
  | 1, hi => cases hi; exact ⟨g, 0, rfl, h2⟩
  | n + 2, hi => simp at hi⟩
set_option maxHeartbeats 2000000 in
theorem ktouch9_c (d s j c n : Nat) (k : Int) (w : World) :
    Calls Tryd.prog 25 #[sv ⟨9, d, s, j, c, n, k⟩] w fun e w' => TcE (Kc.tou 9 d s j c n) w e w' := by
  unfold sv sva
  go_enter Tryd.func25, Tryd.ntmps25
  go_upto_region 21 with fail
  go_region
  all_goals (
    go_wp2
    refine bodyPost_ret (v := .agg #[.slice (some ⟨w.heap.size + 1 + 1 + 1, 0, none⟩) 2 2, .slice (some ⟨w.heap.size + 1 + 1, 0, none⟩) 1 1, .bool false]) (by simp [results, Tryd.results25, go_sem]) rfl ?_
    refine ⟨_, _, rfl, RdR.two ⟨by simp [go_sem], by simp [go_sem], by simp [go_sem]⟩ ⟨by simp [go_sem], by simp [go_sem], by simp [go_sem]⟩, RdR.one ⟨by simp [go_sem], by simp [go_sem], by simp [go_sem]⟩, ?_⟩
    exact al4.drew)
/-- a list of rows that is being filled -/
structure Flw (w : World) (G d j c n k : Nat) : Prop where
  a : ∀ i, i < n * 3 → (w.cell? ⟨G, i, none⟩).isSome = true
  z : ∀ i, w.frozen? ⟨G, i, none⟩ = false
  r : ∀ q, q < k → RAt w G (q * 3) ⟨d + q * j, 1, c⟩
theorem Flw.step {w : World} {G d j c n k : Nat} (h : Flw w G d j c n k) (hk : k < n) :
    Flw (((w.setCell ⟨G, k * 3, none⟩ (.int .i64 ((d + k * j : Nat) : Int))).setCell ⟨G, k * 3 + 1, none⟩ (.int .i64 1)).setCell ⟨G, k * 3 + 2, none⟩ (.int .i64 (c : Int))) G d j c n (k + 1) := by
  have s0 := h.a (k * 3) (by omega)
  have s1 := h.a (k * 3 + 1) (by omega)
  have s2 := h.a (k * 3 + 2) (by omega)
  have ne : ∀ {a b : Nat}, a ≠ b → (⟨G, a, none⟩ : Addr) ≠ ⟨G, b, none⟩ := fun h e => h (by injection e)
  refine ⟨fun i hi => ?_, fun i => by simpa [go_sem] using h.z i, fun q hq => ?_⟩
  · obtain ⟨u, hu⟩ := Option.isSome_iff_exists.1 (h.a i hi)
    obtain ⟨u1, h1⟩ := cell?_setCell_some (p := ⟨G, k * 3, none⟩) (x := .int .i64 ((d + k * j : Nat) : Int)) hu
    obtain ⟨u2, h2⟩ := cell?_setCell_some (p := ⟨G, k * 3 + 1, none⟩) (x := .int .i64 1) h1
    obtain ⟨u3, h3⟩ := cell?_setCell_some (p := ⟨G, k * 3 + 2, none⟩) (x := .int .i64 (c : Int)) h2
    rw [h3]; rfl
  · by_cases e : q = k
    · subst e
      constructor
      · rw [World.cell?_setCell_other _ _ _ _ (ne (by omega)), World.cell?_setCell_other _ _ _ _ (ne (by omega)), World.cell?_setCell_same' _ _ _ s0]
      · rw [World.cell?_setCell_other _ _ _ _ (ne (by omega)), World.cell?_setCell_same' _ _ _ (by rw [World.cell?_setCell_other _ _ _ _ (ne (by omega))]; exact s1)]; rfl
      · rw [World.cell?_setCell_same' _ _ _ (by rw [World.cell?_setCell_other _ _ _ _ (ne (by omega)), World.cell?_setCell_other _ _ _ _ (ne (by omega))]; exact s2)]
    · obtain ⟨c0, c1, c2⟩ := h.r q (by omega)
      constructor
      · rw [World.cell?_setCell_other _ _ _ _ (ne (by omega)), World.cell?_setCell_other _ _ _ _ (ne (by omega)), World.cell?_setCell_other _ _ _ _ (ne (by omega))]; exact c0
      · rw [World.cell?_setCell_other _ _ _ _ (ne (by omega)), World.cell?_setCell_other _ _ _ _ (ne (by omega)), World.cell?_setCell_other _ _ _ _ (ne (by omega))]; exact c1
      · rw [World.cell?_setCell_other _ _ _ _ (ne (by omega)), World.cell?_setCell_other _ _ _ _ (ne (by omega)), World.cell?_setCell_other _ _ _ _ (ne (by omega))]; exact c2
theorem Flw.far {w : World} {G d j c n k : Nat} (h : Flw w G d j c n k) (p : Addr) (hp : p.block ≠ G) (v : Value) : Flw (w.setCell p v) G d j c n k :=
  ⟨fun i hi => by rw [World.cell?_setCell_far w p ⟨G, i, none⟩ v hp]; exact h.a i hi, fun i => by simpa [go_sem] using h.z i,
    fun q hq => ⟨by rw [World.cell?_setCell_far w p _ v hp]; exact (h.r q hq).c0, by rw [World.cell?_setCell_far w p _ v hp]; exact (h.r q hq).c1, by rw [World.cell?_setCell_far w p _ v hp]; exact (h.r q hq).c2⟩⟩
theorem Flw.rs {w : World} {G d j c n cap : Nat} (h : Flw w G d j c n n) : RdR w (.slice (some ⟨G, 0, none⟩) n cap) (Kc.flr d j c n) := by
  refine ⟨_, cap, by rw [show (Kc.flr d j c n).length = n by simp [Kc.flr]], fun i r hi => ⟨G, 0, rfl, ?_⟩⟩
  have hlt : i < n := by have := (List.getElem?_eq_some_iff.1 hi).1; simpa [Kc.flr] using this
  have e : r = ⟨d + i * j, 1, c⟩ := by simp [Kc.flr, hlt] at hi; exact hi.symm
  rw [Nat.zero_add, e]
  exact h.r i hlt
theorem infoR : (Tryd.prog.info? 72).map (fun i => (i.zero, i.size, i.bytes)) = some (some (.agg #[.int .i64 0, .int .i64 0, .int .i64 0]), 3, 24) := by kernel_rfl
theorem makeR (w : World) (d j c n : Nat) (h1 : 1 ≤ n) (hn : n ≤ 16384) :
    ∃ w', (Instr.makeSlice 53 (.int .i64 (n : Int)) (.int .i64 (n : Int))).run Tryd.prog w = .ok (.slice (some ⟨w.heap.size, 0, none⟩) n n) w' ∧
      Hid (Flw w' w.heap.size d j c n 0) ∧ Hid (Below w.heap.size w w') := by
  obtain ⟨i0, hi0, hz0, hz1, hz2⟩ := info_parts infoR
  have h := run_make (P := Tryd.prog) w 53 72 i0 _ Tryd.underlying53 hi0 hz0 .i64 .i64 (n : Int) (n : Int) (by omega) (by omega) (by rw [hz2]; omega) (by omega)
  rw [hz1, Int.toNat_natCast] at h
  have hb := heap_alloc_new w (.cells (madeCells (Value.cells (.agg #[.int .i64 0, .int .i64 0, .int .i64 0])) (n * 3)) 72)
  refine ⟨_, h, ⟨fun i hi => ?_, fun i => frozen_of_row _ _ i _ _ hb, fun q hq => absurd hq (by omega)⟩, (Below.refl _ w).alloc (Nat.le_refl _) _⟩
  have e := Joins.cell_of_block hb i
  rw [e]
  simp [madeCells, hi]
theorem meas_step {n q : Nat} (hq : q < n) (hn : n ≤ 140737488355328) : n - (intOf (.int .i64 (wrap64 ((q : Int) + 1)))).toNat < n - (intOf (.int .i64 (q : Int))).toNat := by
  have e : wrap64 ((q : Int) + 1) = ((q + 1 : Nat) : Int) := by unfold wrap64; omega
  rw [e]
  simp only [intOf, Int.toNat_natCast]
  omega
theorem w64 (M : Nat) (h : M ≤ 5 * 262144) : wrap64 (M : Int) = (M : Int) := by unfold wrap64; omega
theorem w64' (M : Nat) (h : M ≤ 262143 + 5 * 262144) : wrap64 (M : Int) = (M : Int) := by unfold wrap64; omega
structure Btc (w : World) (g : Nat) : Prop where
  c0 : w.cell? ⟨g, 0, none⟩ = some (.slice none 0 0)
  c1 : w.cell? ⟨g, 1, none⟩ = some (.slice none 0 0)
  c2 : w.cell? ⟨g, 2, none⟩ = some (.bool false)
  f0 : w.frozen? ⟨g, 0, none⟩ = false
  f1 : w.frozen? ⟨g, 1, none⟩ = false
  f2 : w.frozen? ⟨g, 2, none⟩ = false
theorem Btc.below {w w' : World} {g : Nat} (h : Btc w g) (hb : Below w.heap.size w w') : Btc w' g :=
  ⟨(hb.cell (p := ⟨g, 0, none⟩) (cell_lt h.c0)).trans h.c0, (hb.cell (p := ⟨g, 1, none⟩) (cell_lt h.c1)).trans h.c1, (hb.cell (p := ⟨g, 2, none⟩) (cell_lt h.c2)).trans h.c2,
    (World.frozen?_of_block (a := ⟨g, 0, none⟩) (hb.block g (cell_lt (a := ⟨g, 0, none⟩) h.c0))).trans h.f0, (World.frozen?_of_block (a := ⟨g, 1, none⟩) (hb.block g (cell_lt (a := ⟨g, 0, none⟩) h.c0))).trans h.f1, (World.frozen?_of_block (a := ⟨g, 2, none⟩) (hb.block g (cell_lt (a := ⟨g, 0, none⟩) h.c0))).trans h.f2⟩
set_option maxHeartbeats 2000000 in
theorem ktouch5_c (d s j c n : Nat) (k : Int) (w : World) (hn : 2 ≤ n ∧ n ≤ 5) (hd : d ≤ 262143) (hj : j ≤ 262144) :
    Calls Tryd.prog 25 #[sv ⟨5, d, s, j, c, n, k⟩] w fun e w' => TcE (Kc.tou 5 d s j c n) w e w' := by
  obtain ⟨wa, ewa⟩ : ∃ wa, Hid (((w.alloc (.cells #[.int .i64 5, .int .i64 d, .int .i64 s, .int .i64 j, .int .i64 c, .int .i64 n, .int .i64 k] 39)).alloc (.cells #[.slice none 0 0, .slice none 0 0, .bool false] 55)).alloc (.cells #[.int .i64 d, .int .i64 1, .int .i64 c] 72) = wa) := ⟨_, (rfl : _ = _)⟩
  obtain ⟨g, hg⟩ : ∃ g, Hid (w.heap.size = g) := ⟨_, (rfl : _ = _)⟩
  have Ba : Hid (Below w.heap.size w wa) := by rw [← ewa.out]; exact al3
  have X1 : Hid (Bst wa g 5 d s j c n k) := by show Bst _ _ _ _ _ _ _ _ _; rw [← ewa.out, ← hg.out]; constructor <;> simp [go_sem]
  have hT : Hid (Btc wa (g + 1)) := by
    show Btc _ _
    rw [← ewa.out, ← hg.out]; constructor <;> simp [go_sem]
  obtain ⟨wm, hmk, hF, hBm⟩ := makeR wa d j c n (by omega) (by omega)
  have hsz : Hid (wa.heap.size = g + 3) := by show _ = _; rw [← ewa.out, ← hg.out]; simp
  rw [hsz.out] at hmk hF
  have hnH : Hid (2 ≤ n ∧ n ≤ 5) := hn
  unfold sv sva
  go_enter Tryd.func25, Tryd.ntmps25
  go_upto_region 11 with fail
  rw [ewa.out, hg.out]
  obtain ⟨x0, x1, x2, x3, x4, x5, x6⟩ := X1.out
  go_wp2
  go_loopw [55] (fun i wr => ∃ q : Nat, q ≤ n ∧ i = .int .i64 q ∧ Hid (Below wa.heap.size wa wr ∧ Flw wr (g + 3) d j c n q)) (fun i _ => n - (intOf i).toNat)
  case atStart => exact ⟨0, Nat.zero_le _, rfl, hBm.out, hF.out⟩
  case round =>
    obtain ⟨q, hq, rfl, hr⟩ := hrel
    have hrH : Hid (Below wa.heap.size wa wr ∧ Flw wr (g + 3) d j c n q) := hr
    obtain ⟨y0, y1, y2, y3, y4, y5, y6⟩ := X1.out.below hrH.out.1
    by_cases hlt : q < n
    · have hlt' : (q : Int) < (n : Int) := by omega
      have hq1 : Hid (wrap64 ((q : Int) + 1) = ((q + 1 : Nat) : Int)) := by show _ = _; unfold wrap64; omega
      obtain ⟨M, hM⟩ : ∃ M : Nat, Hid (q * j = M) := ⟨_, (rfl : _ = _)⟩
      obtain ⟨Z, hZ⟩ : ∃ M : Nat, Hid (d + q * j = M) := ⟨_, (rfl : _ = _)⟩
      have hMb : M ≤ 5 * 262144 := by rw [← hM.out]; exact Nat.mul_le_mul (by omega) hj
      have e1 : wrap64 ((q : Int) * (j : Int)) = (M : Int) := by rw [← Int.natCast_mul, hM.out]; exact w64 M hMb
      have e2 : wrap64 ((d : Int) + (M : Int)) = (Z : Int) := by rw [← hZ.out, hM.out, ← Int.natCast_add]; exact w64' _ (Nat.add_le_add hd hMb)
      obtain ⟨u0, z0⟩ := Option.isSome_iff_exists.1 (hrH.out.2.a (q * 3) (by omega))
      obtain ⟨u1, z1⟩ := Option.isSome_iff_exists.1 (hrH.out.2.a (q * 3 + 1) (by omega))
      obtain ⟨u2, z2⟩ := Option.isSome_iff_exists.1 (hrH.out.2.a (q * 3 + 2) (by omega))
      have fz0 := hrH.out.2.z (q * 3)
      have fz1 := hrH.out.2.z (q * 3 + 1)
      have fz2 := hrH.out.2.z (q * 3 + 2)
      have hst := hrH.out.2.step hlt
      rw [hZ.out] at hst
      have hstH : Hid _ := hst
      clear hM hZ hMb hst hn hd hj hr
      go_upto_region 16 with fail
      rw [e2, e1]
      clear e1 e2 z0 z1 z2 fz0 fz1 fz2 y0 y1 y2 y3 y4 y5 y6
      go_wp2
      go_roundw
      case rel =>
        refine ⟨q + 1, hlt, congrArg (Value.int .i64) hq1.out, ?_, hstH.out⟩
        have hle := hsz.out
        exact ((hrH.out.1.setCell (p := ⟨g + 3, q * 3, none⟩) (Nat.le_of_eq hle) _).setCell (p := ⟨g + 3, q * 3 + 1, none⟩) (Nat.le_of_eq hle) _).setCell (p := ⟨g + 3, q * 3 + 2, none⟩) (Nat.le_of_eq hle) _
      case measure => exact meas_step hlt (Nat.le_trans hnH.out.2 (by decide))
    · have hlt' : decide ((q : Int) < (n : Int)) = false := decide_eq_false (by omega)
      obtain rfl : q = n := by omega
      have hFr : Hid (Flw wr (g + 3) d j c q q) := hrH.out.2
      obtain ⟨t0, t1, t2, t3, t4, t5⟩ := hT.out.below hrH.out.1
      have hBr : Hid (Below wa.heap.size wa wr) := hrH.out.1
      clear hr hrH hn hd hj ewa hmk hF hBm
      clear y0 y1 y2 y3 y4 y5 y6 x0 x1 x2 x3 x4 x5 x6
      go_wp2
      refine bodyPost_ret (v := .agg #[.slice (some ⟨g + 3, 0, none⟩) q q, .slice (some ⟨g + 3, 0, none⟩) q q, .bool false]) (by simp [results, Tryd.results25, go_sem, t0, t1, t2]) rfl ?_
      have hF3 := ((hFr.out.far ⟨g + 1, 0, none⟩ (by simp) (.slice (some ⟨g + 3, 0, none⟩) q q)).far ⟨g + 1, 1, none⟩ (by simp) (.slice (some ⟨g + 3, 0, none⟩) q q)).far ⟨g + 1, 2, none⟩ (by simp) (.bool false)
      have hle : w.heap.size ≤ g + 1 := by have := hg.out; omega
      exact ⟨_, _, rfl, hF3.rs, hF3.rs, (((Ba.out.trans (hBr.out.mono Ba.out.size)).setCell (p := ⟨g + 1, 0, none⟩) hle _).setCell (p := ⟨g + 1, 1, none⟩) hle _).setCell (p := ⟨g + 1, 2, none⟩) hle _⟩
/-- touchOf of a step that is in form -/
theorem ktouch_c {o d s j c n : Nat} (h : Kc.Fo o d s j c n) (k : Int) (w : World) :
    Calls Tryd.prog 25 #[sv ⟨o, d, s, j, c, n, k⟩] w fun e w' => TcE (Kc.tou o d s j c n) w e w' := by
  rcases Kc.ops h.o1 h.o2 with rfl | rfl | (rfl | rfl) | rfl | rfl | rfl | (rfl | rfl | rfl | rfl)
  · exact ktouch1_c d s j c n k w
  · exact ktouch2_c d s j c n k w
  · exact ktouch3_c d s j c n k w
  · exact ktouch8_c d s j c n k w
  · obtain ⟨h1, h2, h3⟩ := h.n5 rfl
    exact ktouch5_c d s j c n k w ⟨h1, h2⟩ h.d2 h.j2
  · exact ktouch6_c d s j c n k w
  · exact ktouch9_c d s j c n k w
  · exact ktouch4_c d s j c n k w
  · exact ktouch7_c d s j c n k w
  · exact ktouch10_c d s j c n k w
  · exact ktouch11_c d s j c n k w
theorem rok_of {o d s j c n : Nat} (h : Kc.Fo o d s j c n) : (∀ r ∈ (Kc.tou o d s j c n).rd, Rok r) ∧ ∀ r ∈ (Kc.tou o d s j c n).wr, Rok r := by
  obtain ⟨h1, h2, h3, h4, h5, h6, h7, h8, h9, h10⟩ := h
  have own : Rok ⟨d, 1, c⟩ := ⟨by simp only; omega, Nat.le_refl 1, (by decide : 1 ≤ 262144), h5, h6⟩
  have src : Rok ⟨s, 1, c⟩ := ⟨by simp only; omega, Nat.le_refl 1, (by decide : 1 ≤ 262144), h5, h6⟩
  rcases Kc.ops h1 h2 with rfl | rfl | ho | rfl | rfl | rfl | ho
  · have hj := h8 (by decide)
    exact ⟨by simp [Kc.tou]; exact ⟨by simp only; omega, hj, h7, h5, h6⟩, by simp [Kc.tou]; exact own⟩
  · have hj := h8 (by decide)
    exact ⟨by simp [Kc.tou]; exact src, by simp [Kc.tou]; exact ⟨by simp only; omega, hj, h7, h5, h6⟩⟩
  · have e : Kc.tou o d s j c n = ⟨[], [⟨d, 1, c⟩], false⟩ := by unfold Kc.tou; rcases ho with rfl | rfl <;> rfl
    rw [e]; exact ⟨by simp, by simp; exact own⟩
  · obtain ⟨n1, n2, n3⟩ := h9 rfl
    have e : Kc.tou 5 d s j c n = ⟨Kc.flr d j c n, Kc.flr d j c n, false⟩ := rfl
    have hh : ∀ r ∈ Kc.flr d j c n, Rok r := fun r hr => by
      obtain ⟨q, hq, rfl⟩ := Kc.mem_flr.1 hr
      have : q * j ≤ 5 * 262144 := Nat.mul_le_mul (by omega) h7
      exact ⟨by simp only; omega, Nat.le_refl 1, (by decide : 1 ≤ 262144), h5, h6⟩
    rw [e]; exact ⟨hh, hh⟩
  · obtain ⟨n1, n2, n3⟩ := h10 rfl
    have hj := h8 (by decide)
    exact ⟨by simp [Kc.tou]; exact ⟨by simp only; omega, hj, h7, n1, by simp only; omega⟩, by simp [Kc.tou]; exact own⟩
  · have e : Kc.tou 9 d s j c n = ⟨[⟨d, 1, c⟩, ⟨s, 1, c⟩], [⟨d, 1, c⟩], false⟩ := rfl
    rw [e]; exact ⟨by simp; exact ⟨own, src⟩, by simp; exact own⟩
  · have e : Kc.tou o d s j c n = ⟨[⟨d, 1, c⟩], [⟨d, 1, c⟩], false⟩ := by unfold Kc.tou; rcases ho with rfl | rfl | rfl | rfl <;> rfl
    rw [e]; exact ⟨by simp; exact own, by simp; exact own⟩
/-- what the form of a step says -/
theorem fo_of {s : Sp.St} (h : Sp.fm s = true) : ∃ o d a j c n : Nat, s.op = o ∧ s.dst = d ∧ s.src = a ∧ s.jump = j ∧ s.count = c ∧ s.n = n ∧ Kc.Fo o d a j c n ∧ n ≤ 16384 := by
  obtain ⟨op, dst, src, jump, count, n, k⟩ := s
  rw [← Sp.dfm_eq] at h
  unfold Sp.dfm at h
  simp only [Bool.and_eq_true, Sp.wi_iff] at h
  obtain ⟨⟨⟨⟨hk, hd⟩, hc⟩, hg⟩, hn⟩ := h
  have hkk := Sp.kn_iff.1 hk
  obtain ⟨o, rfl⟩ : ∃ o : Nat, op = (o : Int) := ⟨op.toNat, by omega⟩
  unfold Sp.dgood at hg
  simp only [Bool.and_eq_true, Sp.wi_iff, Int.toNat_natCast] at hg
  obtain ⟨⟨⟨⟨hs1, hs2⟩, hj⟩, hn2⟩, -⟩ := hg
  obtain ⟨d, rfl⟩ : ∃ o : Nat, dst = (o : Int) := ⟨dst.toNat, by omega⟩
  obtain ⟨a, rfl⟩ : ∃ o : Nat, src = (o : Int) := ⟨src.toNat, by omega⟩
  obtain ⟨c, rfl⟩ : ∃ o : Nat, count = (o : Int) := ⟨count.toNat, by omega⟩
  have hj0 : 0 ≤ jump ∧ jump ≤ 262144 ∧ (Sp.hj o = true → 1 ≤ jump) := by
    cases e : Sp.hj o with
    | true => rw [e, cond_true, Sp.wi_iff] at hj; exact ⟨by omega, hj.2, fun _ => hj.1⟩
    | false => rw [e, cond_false, beq_iff_eq] at hj; exact ⟨by omega, by omega, fun h => by cases h⟩
  obtain ⟨j, rfl⟩ : ∃ o : Nat, jump = (o : Int) := ⟨jump.toNat, by omega⟩
  have hnum : (0 ≤ n ∧ n ≤ 16384) ∧ (o = 5 → 2 ≤ n ∧ n ≤ 5 ∧ (c : Int) ≤ j) ∧ (o = 6 → 1 ≤ n ∧ n ≤ 64 ∧ (c : Int) ≤ n) := by
    unfold Sp.num at hn
    rcases Sp.kn_cases hk with e | e | e | e | e | e | e | e | e | e | e
    all_goals (
      obtain rfl : o = _ := Int.ofNat.inj e
      simp [Sp.wi, Sp.hn] at hn hn2
      refine ⟨by omega, fun h => ?_, fun h => ?_⟩ <;> first | omega | (exfalso; revert h; decide))
  obtain ⟨m, rfl⟩ : ∃ o : Nat, n = (o : Int) := ⟨n.toNat, by omega⟩
  refine ⟨o, d, a, j, c, m, rfl, rfl, rfl, rfl, rfl, rfl, ⟨by omega, by omega, by omega, by omega, by omega, by omega, by omega, fun h => ?_, fun h => ?_, fun h => ?_⟩, by omega⟩
  · have : Sp.hj o = true := by rcases h with rfl | rfl | rfl | rfl <;> rfl
    have := hj0.2.2 this
    omega
  · have := hnum.2.1 h; omega
  · have := hnum.2.2 h; omega
end Go.Proofs.YtedfjedmapimnaaDoor
