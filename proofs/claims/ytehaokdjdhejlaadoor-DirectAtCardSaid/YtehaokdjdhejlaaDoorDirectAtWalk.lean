/-
  DirectAt: the whole walk.
-/
import Derived.Test.YtehaokdjdhejlaaDoorLa3
import Derived.Test.YtehaokdjdhejlaaDoorLb1
import Derived.Test.YtehaokdjdhejlaaDoorDd4
import Derived.Test.YtehaokdjdhejlaaDoorDp6
import Derived.Test.YtehaokdjdhejlaaDoorLaid
namespace Go.Proofs.YtehaokdjdhejlaaDoor
open Flo Go.RowKit
/-- the error's number of At -/
def atNum (L : Nat) (p j n : Int) : Nat := if n < 1 ∨ 1024 < n then 7 else if ins L p j n.toNat = true then 0 else 5
def atZ (zs : List (Nat × Nat)) (p j n k : Int) : Nat × Nat := if atNum zs.length p j n = 0 then dsm n.toNat (Rp.md n.toNat k) (fun i => zs.getD (p.toNat + i * j.toNat) (0, 0)) else (0, 0)
theorem atAll_c (v : Value) (zs : List (Nat × Nat)) (p j n k : Int) (w : World) (al : List Addr) (he : Errs w al) (hx : RdC w v zs) (hl : Lim zs) (hL : zs.length ≤ 140737488355328) :
    Calls Tryd.prog 21 #[v, .int .i64 p, .int .i64 j, .int .i64 n, .int .i64 k] w fun e w' => ∃ x y er, e = .returned (.tuple #[.complex .f64 x y, er]) ∧ Er al er (atNum zs.length p j n) ∧ x < 18446744073709551616 ∧ y < 18446744073709551616 ∧ Lk (x, y) (atZ zs p j n k) ∧ Below w.heap.size w w' := by
  by_cases h1 : n < 1 ∨ 1024 < n
  · have e1 : atNum zs.length p j n = 7 := by unfold atNum; rw [if_pos h1]
    refine (atNoL_c v p j n k w al he h1).mono ?_
    rintro e w' ⟨rfl, B⟩
    refine ⟨0, 0, _, rfl, by rw [e1]; exact Er.mk al 6 (by decide), by decide, by decide, ?_, B⟩
    unfold atZ; rw [e1, if_neg (by decide)]; exact Lk.refl _
  · obtain ⟨N, rfl⟩ : ∃ N : Nat, n = (N : Int) := ⟨n.toNat, by omega⟩
    by_cases h2 : ins zs.length p j N = true
    · have e1 : atNum zs.length p j (N : Int) = 0 := by unfold atNum; rw [if_neg h1, Int.toNat_natCast, if_pos h2]
      refine (atOk_c v zs p j k N w hx hl hL h2 (by omega) (by omega)).mono ?_
      rintro e w' ⟨x, y, rfl, B, lx, ly, lk⟩
      refine ⟨x, y, _, rfl, by rw [e1]; exact Er.nil al, lx, ly, ?_, B⟩
      unfold atZ; rw [e1, if_pos rfl, Int.toNat_natCast]; exact lk
    · have e1 : atNum zs.length p j (N : Int) = 5 := by unfold atNum; rw [if_neg h1, Int.toNat_natCast, if_neg h2]
      obtain ⟨ao, cap, rfl⟩ := hx.slice rfl
      refine (atNoR_c ao zs.length cap N p j k w al he hL (by omega) (by omega) (by simpa using h2)).mono ?_
      rintro e w' ⟨rfl, B⟩
      refine ⟨0, 0, _, rfl, by rw [e1]; exact Er.mk al 4 (by decide), by decide, by decide, ?_, B⟩
      unfold atZ; rw [e1, if_neg (by decide)]; exact Lk.refl _
theorem oneAll_c (v : Value) (zs : List (Nat × Nat)) (p j n k : Int) (w : World) (hx : RdC w v zs) (hl : Lim zs) (hL : zs.length ≤ 140737488355328) :
    Calls Tryd.prog 22 #[v, .int .i64 p, .int .i64 j, .int .i64 n, .int .i64 k] w (RZi w (atZ zs p j n k) (atNum zs.length p j n : Nat)) := by
  by_cases h1 : n < 1 ∨ 1024 < n
  · have e1 : atNum zs.length p j n = 7 := by unfold atNum; rw [if_pos h1]
    have e2 : atZ zs p j n k = (0, 0) := by unfold atZ; rw [e1, if_neg (by decide)]
    rw [e1, e2]
    exact oneL_c v p j n k w h1
  · obtain ⟨N, rfl⟩ : ∃ N : Nat, n = (N : Int) := ⟨n.toNat, by omega⟩
    by_cases h2 : ins zs.length p j N = true
    · have e1 : atNum zs.length p j (N : Int) = 0 := by unfold atNum; rw [if_neg h1, Int.toNat_natCast, if_pos h2]
      have e2 : atZ zs p j (N : Int) k = dsm N (Rp.md N k) (fun i => zs.getD (p.toNat + i * j.toNat) (0, 0)) := by unfold atZ; rw [e1, if_pos rfl, Int.toNat_natCast]
      rw [e1, e2]
      exact oneOk_c v zs N p j k w hx hl hL (by omega) (by omega) h2
    · have e1 : atNum zs.length p j (N : Int) = 5 := by unfold atNum; rw [if_neg h1, Int.toNat_natCast, if_neg h2]
      have e2 : atZ zs p j (N : Int) k = (0, 0) := by unfold atZ; rw [e1, if_neg (by decide)]
      obtain ⟨ao, cap, rfl⟩ := hx.slice rfl
      rw [e1, e2]
      exact oneR_c ao zs.length cap N p j k w hL (by omega) (by omega) (by simpa using h2)
theorem InP.each {w : World} {ao : Option Addr} {len : Nat} (h : InP w ao len) {i : Nat} (hi : i < len) : ∃ q o k s n m, ao = some ⟨q, o, none⟩ ∧ q < w.heap.size ∧ PlAt w q (o + i * 4) k s n m := h i hi
set_option maxRecDepth 100000 in
set_option maxHeartbeats 4000000 in
theorem directAt.walk (v : Value) (zs : List Nat) (a1 : Option Addr) (n1 c1 : Nat) (w : World) (al : List Addr) (he : Errs w al) (hin : InU w v zs) (hr : zs.length * 8 ≤ 140737488351232) (hp : InP w a1 n1) (hn1 : n1 ≤ 4398046510976) :
    Calls Tryd.prog 4 #[v, .slice a1 n1 c1] w fun e w' => e = .returned (.bool true) ∧ Below w.heap.size w w' := by
  have hinH : Hid (InU w v zs) := hin
  have heH : Hid (Errs w al) := he
  have hpH : Hid (InP w a1 n1) := hp
  clear hin he hp
  go_enter Tryd.func4, Tryd.ntmps4
  go_wp2_with fail
  refine (lives10_c w).mono ?_
  rintro e w1 ⟨rfl, B1⟩
  have hB1 : Hid (Below w.heap.size w w1) := B1
  clear B1
  go_wp2_with fail
  refine (listOg_c v zs w1 (hinH.out.below hB1.out) hr).mono ?_
  rintro e w2 ⟨vx, rfl, hvx, hx, B2⟩
  have hB2 : Hid (Below w.heap.size w w2) := below_tr hB1.out B2
  obtain ⟨n, hn⟩ : ∃ n, Hid (zs.length / 2 = n) := ⟨_, (rfl : _ = _)⟩
  obtain ⟨xs, hxs⟩ : ∃ xs, Hid (prs zs = xs) := ⟨_, (rfl : _ = _)⟩
  have hxl : Hid (xs.length = n) := by show _ = _; rw [← hxs.out, prs_len, hn.out]
  have hlim : Hid (Lim xs) := by
    show Lim _
    rw [← hxs.out]
    obtain ⟨_, _, _, _, h3⟩ := hinH.out
    exact prs_lim h3
  have hOx : Hid (w2.ownsRow 0 37 1 vx n (cz xs)) := by
    have h := hx
    rw [hn.out, hxs.out] at h
    exact own_base h (Nat.zero_le _)
  have hX : Hid (RdC w2 vx xs) := RdC.of_own (by rw [hxl.out]; exact hOx.out)
  have hvH : Hid (vx ≠ .slice none 0 0) := hvx
  have hnb : n ≤ 8796093022000 := by have := hn.out; omega
  clear hx B2 hB1 hvx
  go_wp2_with fail
  refine (room_c vx n xs w2 hOx.out hvH.out hnb).mono ?_
  rintro e w3 ⟨g, cap, rfl, hO3, B3⟩
  have hRm : Hid (Rm w3 g n xs) := Rm.own hO3 hxl.out
  have hcap : n + 2 ≤ cap := by
    rcases hO3.2 with ⟨h, _⟩ | ⟨g', c', cu, h, _, _, h5, _⟩
    · cases h
    · cases h; exact h5
  have hB3 : Hid (Below w.heap.size w w3) := below_tr hB2.out B3
  have hX3 : Hid (RdC w3 vx xs) := hX.out.below B3
  clear hO3 B3 hX hB2 hOx
  go_wp2_with fail
  go_loopw [9, 10, 11, 12, 13, 25] (fun _ _ _ _ _ si wx => ∃ (i : Nat), i ≤ n1 ∧ si = .int .i64 (i : Int) ∧ Hid (Below w3.heap.size w3 wx)) (fun _ _ _ _ _ si _ => n1 - (intOf si).toNat)
  case atStart => exact ⟨0, Nat.zero_le _, rfl, Below.refl _ _⟩
  case round =>
    obtain ⟨i, hi, rfl, hb⟩ := hrel
    by_cases hlt : i < n1
    · have hlt' : (i : Int) < (n1 : Int) := by omega
      obtain ⟨q, o, P, J, N, K, rfl, hq, hpl⟩ := hpH.out.each hlt
      have hBw : Hid (Below w.heap.size w wr) := below_tr hB3.out hb.out
      have d0 := (hBw.out.cell (p := ⟨q, o + i * 4, none⟩) hq).trans hpl.c0
      have d1 := (hBw.out.cell (p := ⟨q, o + i * 4 + 1, none⟩) hq).trans hpl.c1
      have d2 := (hBw.out.cell (p := ⟨q, o + i * 4 + 2, none⟩) hq).trans hpl.c2
      have d3 := (hBw.out.cell (p := ⟨q, o + i * 4 + 3, none⟩) hq).trans hpl.c3
      clear hpl
      go_wp2_with fail
      obtain ⟨W0, hW0⟩ : ∃ W0, Hid (wr.alloc (.cells #[.int .i64 P, .int .i64 J, .int .i64 N, .int .i64 K] 43) = W0) := ⟨_, (rfl : _ = _)⟩
      rw [hW0.out]
      have hbx : Hid (W0.cell? ⟨wr.heap.size, 0, none⟩ = some (.int .i64 P) ∧ W0.cell? ⟨wr.heap.size, 1, none⟩ = some (.int .i64 J) ∧ W0.cell? ⟨wr.heap.size, 2, none⟩ = some (.int .i64 N) ∧ W0.cell? ⟨wr.heap.size, 3, none⟩ = some (.int .i64 K)) := by
        rw [← hW0.out]
        refine ⟨?_, ?_, ?_, ?_⟩
        all_goals
          rw [cell_of_row _ _ _ _ _ _ (heap_alloc_new wr _)]
          rfl
      have hb0 : Hid (Below w3.heap.size w3 W0) := below_tr hb.out (by rw [← hW0.out]; exact (Below.refl _ _).alloc (Nat.le_refl _) _)
      have hg0 : Hid (wr.heap.size < W0.heap.size) := World.block_lt_of_cell? W0 _ hbx.out.1
      have hlen : Hid (xs.length ≤ 140737488355328) := (by rw [hxl.out]; omega : xs.length ≤ 140737488355328)
      refine (atAll_c _ xs P J N K W0 al (heH.out.below (below_tr hB3.out hb0.out)) ((hRm.out.below hb0.out).rd cap) hlim.out hlen.out).mono ?_
      rintro e w4 ⟨x1, y1, er, rfl, hEr, lx1, ly1, lk1, B4⟩
      have hErH : Hid (Er al er (atNum xs.length P J N)) := hEr
      have hlk1 : Hid (Lk (x1, y1) (atZ xs P J N K)) := lk1
      have hb4 : Hid (Below w3.heap.size w3 w4) := below_tr hb0.out B4
      have e0 := (B4.cell (p := ⟨wr.heap.size, 0, none⟩) hg0.out).trans hbx.out.1
      have e1 := (B4.cell (p := ⟨wr.heap.size, 1, none⟩) hg0.out).trans hbx.out.2.1
      have e2 := (B4.cell (p := ⟨wr.heap.size, 2, none⟩) hg0.out).trans hbx.out.2.2.1
      have e3 := (B4.cell (p := ⟨wr.heap.size, 3, none⟩) hg0.out).trans hbx.out.2.2.2
      clear hEr lk1 B4 hb0 hbx d0 d1 d2 d3 hW0
      go_wp2_with fail
      refine (oneAll_c vx xs P J N K w4 (hX3.out.below hb4.out) hlim.out hlen.out).mono ?_
      rintro e w5 ⟨x2, y2, d5, rfl, rfl, lx2, ly2, lk2⟩
      have hlk2 : Hid (Lk (x1, y1) (x2, y2)) := hlk1.out.trans lk2.symm
      have hb5 : Hid (Below w3.heap.size w3 (w4.drewN d5)) := below_drewN hb4.out d5
      obtain ⟨M, hM⟩ : ∃ M, Hid (atNum xs.length P J N = M) := ⟨_, (rfl : _ = _)⟩
      rw [hM.out] at hErH
      rw [hM.out]
      generalize w4.drewN d5 = wv at *
      clear lk2 e0 e1 e2 e3 hb4
      go_wp2_with fail
      refine (numE_c hErH.out wv (heH.out.below (below_tr hB3.out hb5.out))).mono ?_
      rintro e w6 ⟨rfl, B6⟩
      have hb6 : Hid (Below w3.heap.size w3 w6) := below_tr hb5.out B6
      have hMM : ((M : Int) == (M : Int)) = true := beq_self_eq_true _
      clear B6 hb5
      go_wp2_with fail
      refine (same10_c x1 y1 x2 y2 w6 lx1 ly1 lx2 ly2 hlk2.out).mono ?_
      rintro e w7 ⟨rfl, rfl⟩
      go_wp2_with fail
      refine (kept_c g n cap vx xs w6 (hRm.out.below hb6.out) (hX3.out.below hb6.out) hlim.out hnb hcap).mono ?_
      rintro e w8 ⟨rfl, d8, rfl⟩
      have hb8 : Hid (Below w3.heap.size w3 (w6.drewN d8)) := below_drewN hb6.out d8
      generalize w6.drewN d8 = wz at *
      clear hb6 hlk1 hlk2 hErH
      go_wp2_with fail
      exact ⟨⟨i + 1, by omega, by go_num, hb8⟩, by simp [intOf]; omega⟩
    · have hlt' : decide ((i : Int) < (n1 : Int)) = false := decide_eq_false (by omega)
      have hE : Hid (Below w.heap.size w wr) := below_tr hB3.out hb.out
      go_wp2_with fail
      go_ret
      exact ⟨rfl, hE.out⟩
end Go.Proofs.YtehaokdjdhejlaaDoor
