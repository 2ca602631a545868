/-
  Package steps, reading: readStep.
-/
import Derived.Test.YtmlfichdfeblpaaDoorSr1
import Derived.Deep.RegionWith
namespace Go.Proofs.YtmlfichdfeblpaaDoor
open Flo Go.RowKit
/-- which fields there are, as a value -/
def hv (o : Nat) : Value := .agg #[.bool true, .bool (Sp.hs o), .bool (Sp.hj o), .bool true, .bool (Sp.hn o), .bool (Sp.hk o)]
theorem hv_index (o k : Nat) (hk : k < 6) (w : World) : (Instr.index 92 (hv o) (.int .i64 (k : Nat))).run Tryd.prog w = .ok (.bool ((Sp.hl o).getD k false)) w :=
  match k, hk with
  | 0, _ => by kernel_rfl
  | 1, _ => by kernel_rfl
  | 2, _ => by kernel_rfl
  | 3, _ => by kernel_rfl
  | 4, _ => by kernel_rfl
  | 5, _ => by kernel_rfl
  | n + 6, h => absurd h (by omega)
/-- what readStep tells -/
def RsE (al : List Addr) (bs : List Nat) (k : Nat) (R : Nat → Prop) (g : Nat) (w : World) (e : Ending) (w' : World) : Prop :=
  Fr (fun k => k = g) w w' ∧ ((Sp.rst bs k = none ∧ ∃ (s : Sp.St) (c : Nat), e = .returned (.tuple #[sv s, ek al c])) ∨
    ∃ (s : Sp.St) (j : Nat), Sp.rst bs k = some (s, j) ∧ e = .returned (.tuple #[sv s, .nilIface]) ∧ Rr R w' g bs j)
theorem rst_n1 {bs : List Nat} {k : Nat} (h : Sp.rn bs 11 k = none) : Sp.rst bs k = none := by unfold Sp.rst; rw [h]; rfl
theorem rst_n2 {bs : List Nat} {k o j : Nat} (h : Sp.rn bs 11 k = some (o, j)) (h2 : Sp.rf bs (Sp.hl o) j = none) : Sp.rst bs k = none := by unfold Sp.rst; rw [h, Option.bind_some]; simp only; rw [h2]; rfl
theorem rst_n3 {bs : List Nat} {k o j i : Nat} {xs : List Nat} (h : Sp.rn bs 11 k = some (o, j)) (h2 : Sp.rf bs (Sp.hl o) j = some (xs, i)) (hf : Sp.fm (Sp.sto o xs) = false) : Sp.rst bs k = none := by
  unfold Sp.rst; rw [h, Option.bind_some]; simp only; rw [h2, Option.bind_some]; simp only; rw [if_neg (by rw [hf]; decide)]
theorem rst_s {bs : List Nat} {k o j i : Nat} {xs : List Nat} (h : Sp.rn bs 11 k = some (o, j)) (h2 : Sp.rf bs (Sp.hl o) j = some (xs, i)) (hf : Sp.fm (Sp.sto o xs) = true) : Sp.rst bs k = some (Sp.sto o xs, i) := by
  unfold Sp.rst; rw [h, Option.bind_some]; simp only; rw [h2, Option.bind_some]; simp only; rw [if_pos hf]
def st0 : Sp.St := ⟨0, 0, 0, 0, 0, 0, 0⟩
set_option maxHeartbeats 8000000 in
set_option maxRecDepth 100000 in
theorem sreadStep_c (R : Nat → Prop) (g K : Nat) (bs : List Nat) (al : List Addr) (w : World) (h : Rr R w g bs K) (he : E4 w al) (hO : Ops w) (hg : Ng g) (hR : ∀ k, R k → k < w.heap.size) :
    Calls Tryd.prog 34 #[.pointer (some ⟨g, 0, none⟩)] w fun e w' => RsE al bs K R g w e w' := by
  have hgl := h.lt
  obtain ⟨b0, hb0⟩ : ∃ b, Hid (w.heap.size = b) := ⟨_, (rfl : _ = _)⟩
  obtain ⟨w1, ew1⟩ : ∃ wa, Hid (w.alloc (.cells #[.int .i64 0, .int .i64 0, .int .i64 0, .int .i64 0, .int .i64 0, .int .i64 0, .int .i64 0] 36) = wa) := ⟨_, (rfl : _ = _)⟩
  have B1 : Hid (Below w.heap.size w w1) := by rw [← ew1.out]; exact (Below.refl _ _).alloc (Nat.le_refl _) _
  have X1 : Hid (Bst w1 b0 0 0 0 0 0 0 0) := by rw [← ew1.out, ← hb0.out]; exact Bst.new w 0 0 0 0 0 0 0
  have Z1 : Hid (∀ i, w1.frozen? ⟨b0, i, none⟩ = false) := fun i => by rw [← ew1.out, ← hb0.out]; simp
  have R1 : Hid (Rr R w1 g bs K) := h.under (S := fun _ => False) (Fr.of_below B1.out fun k h1 h2 => by omega) fun k _ h => h.elim
  have F1 : Hid (Fr (fun k => k = g) w w1) := Fr.of_below B1.out fun k h1 h2 => by omega
  have heH : Hid (E4 w al) := he
  have hOH : Hid (Ops w) := hO
  have hgH : Hid (Ng g) := hg
  have hRH : Hid (∀ k, R k → k < b0) := by rw [← hb0.out]; exact hR
  have hgb : Hid (g < b0) := by show _ < _; rw [← hb0.out]; exact hgl
  have hup : Hid (Calls Tryd.prog 32 #[.pointer (some ⟨g, 0, none⟩), .int .i64 11] w1 fun e w' => UpE al bs 11 K R g w1 e w') := srn_c R g K 11 bs al w1 R1.out (he.below B1.out) hg.2.2.2.2.1 (by decide)
  clear h he hg hR hgl hO
  go_enter Tryd.func34, Tryd.ntmps34
  go_upto_region 1 with fail
  rw [ew1.out, hb0.out]
  go_wp2_with fail
  refine hup.out.mono ?_
  rintro e w2 ⟨F2, hcs⟩
  have F2H : Hid (Fr (fun k => k = g) w w2) := F1.out.then F2
  have X2H : Hid (Bst w2 b0 0 0 0 0 0 0 0) := X1.out.fr F2 (by have := hgb.out; simp; omega)
  have Z2H : Hid (∀ i, w2.frozen? ⟨b0, i, none⟩ = false) := fun i => (F2.frozen (p := ⟨b0, i, none⟩) (cell_lt (a := ⟨b0, 0, none⟩) X1.out.c0) (by have := hgb.out; simp; omega)).trans (Z1.out i)
  clear F2 hup X1 Z1 R1 F1
  rcases hcs with ⟨hnone, c, rfl⟩ | ⟨o, J, hsome, rfl, R2⟩
  · have hres : Hid (Sp.rst bs K = none) := rst_n1 hnone
    have hq := nnil_c al c
    have hgd := guard_c al c
    obtain ⟨x0, x1, x2, x3, x4, x5, x6⟩ := X2H.out
    have Z2 := Z2H.out
    clear hnone
    go_wp2
    obtain ⟨z0, z1, z2, z3, z4, z5, z6⟩ := X2H.out.set st0
    refine bodyPost_ret (v := .tuple #[.agg #[.int .i64 0, .int .i64 0, .int .i64 0, .int .i64 0, .int .i64 0, .int .i64 0, .int .i64 0], ek al c]) (by simp only [st0] at z0 z1 z2 z3 z4 z5 z6; simp [results, Tryd.results34, go_sem, z0, z1, z2, z3, z4, z5, z6]) rfl ⟨?_, .inl ⟨hres.out, st0, c, rfl⟩⟩
    exact F2H.out.trans (set7_fr w2 b0 _ _ _ _ _ _ _) fun k hk => .inr (by rw [hb0.out, hk]; exact Nat.le_refl _)
  · have hsH : Hid (Sp.rn bs 11 K = some (o, J)) := hsome
    have ho11 : o ≤ 11 := rn_lt hsome
    have q3 : (o : Int) < 12 := by omega
    obtain ⟨b1, hb1⟩ : ∃ b, Hid (w2.heap.size = b) := ⟨_, (rfl : _ = _)⟩
    have hb01 : Hid (b0 < b1) := by show _ < _; rw [← hb1.out]; exact cell_lt (a := ⟨b0, 0, none⟩) X2H.out.c0
    obtain ⟨w3, ew3⟩ : ∃ wa, Hid (w2.alloc (.cells #[.int .i64 0, .int .i64 0, .int .i64 0, .int .i64 0, .int .i64 0, .int .i64 0] 95) = wa) := ⟨_, (rfl : _ = _)⟩
    have B3 : Hid (Below w2.heap.size w2 w3) := by rw [← ew3.out]; exact (Below.refl _ _).alloc (Nat.le_refl _) _
    have A3 : Hid (Ar w3 b1 6 []) := fun i hi => by
      rw [← ew3.out, ← hb1.out]
      match i, hi with
      | 0, _ => simp
      | 1, _ => simp
      | 2, _ => simp
      | 3, _ => simp
      | 4, _ => simp
      | 5, _ => simp
      | n + 6, h => exact absurd h (by omega)
    have O3 : Hid (Ops w3) := (hOH.out.fr F2H.out hgH.out.1).below B3.out
    have hha : Hid (Calls Tryd.prog 39 #[opv o] w3 fun e w' => e = .returned (hv o) ∧ Below w3.heap.size w3 w') := shas_c o w3
    have hixH : Hid (∀ k, k < 6 → ∀ W : World, (Instr.index 92 (hv o) (.int .i64 (k : Nat))).run Tryd.prog W = .ok (.bool ((Sp.hl o).getD k false)) W) := fun k hk W => hv_index o k hk W
    generalize hv o = hvv at hha hixH
    unfold opv opa at hha
    have R2H : Hid (Rr R w2 g bs J) := R2
    clear R2 hsome
    go_upto_region 5 with fail
    rw [ew3.out, hb1.out]
    obtain ⟨z0, z1, z2, z3, z4, z5, z6, z7⟩ := O3.out o (by omega)
    go_wp2_with fail
    refine hha.out.mono ?_
    rintro e w4 ⟨rfl, B4⟩
    have B24 : Below w2.heap.size w2 w4 := B3.out.trans (B4.mono B3.out.size)
    have A4 : Hid (Ar w4 b1 6 []) := A3.out.fr (S := fun _ => False) (Fr.of_below B4 fun k h1 h2 => by omega) id
    have R4 : Hid (Rr R w4 g bs J) := R2H.out.under (S := fun _ => False) (Fr.of_below B24 fun k h1 h2 => by omega) fun k _ h => h.elim
    have F4 : Hid (Fr (fun k => k = g) w w4) := F2H.out.trans (T := fun _ => False) (Fr.of_below B24 fun k h1 h2 => by omega) fun k h => h.elim
    have X4 : Hid (Bst w4 b0 0 0 0 0 0 0 0) := X2H.out.below B24
    have Z4 : Hid (∀ i, w4.frozen? ⟨b0, i, none⟩ = false) := fun i => (World.frozen?_of_block (a := ⟨b0, i, none⟩) (B24.block b0 (cell_lt (a := ⟨b0, 0, none⟩) X2H.out.c0))).trans (Z2H.out i)
    clear z0 z1 z2 z3 z4 z5 z6 z7 hha A3 O3 B3 B4 B24 X2H Z2H R2H F2H
    go_wp2
    go_loopw [25] (fun i wr => ∃ (k : Nat) (xs : List Nat) (j : Nat), k ≤ 6 ∧ xs.length = k ∧ i = .int .i64 k ∧ Hid (Sp.rf bs ((Sp.hl o).take k) J = some (xs, j)) ∧ Hid (Rr R wr g bs j) ∧ Hid (Ar wr b1 6 xs) ∧ Hid (Fr (fun k => k = g) w wr) ∧ Hid (Fr (fun k => k = g ∨ k = b1) w4 wr)) (fun i _ => 6 - (intOf i).toNat)
    case atStart => exact ⟨0, [], J, Nat.zero_le _, rfl, rfl, (rfl : _ = _), R4, A4, F4, Fr.refl _ _⟩
    case round =>
      obtain ⟨k, xs, j, hk, hxl, rfl, hrf, Rk, Ak, Fk, Gk⟩ := hrel
      have Ek : Hid (E4 wr al) := heH.out.fr Fk.out hgH.out
      have hnb : Hid (¬ (b0 = g ∨ b0 = b1)) := by have h1 := hgb.out; have h2 := hb01.out; show ¬ _; omega
      have Xk : Hid (Bst wr b0 0 0 0 0 0 0 0) := X4.out.fr Gk.out hnb.out
      have Zk : Hid (∀ i, wr.frozen? ⟨b0, i, none⟩ = false) := fun i => (Gk.out.frozen (p := ⟨b0, i, none⟩) (cell_lt (a := ⟨b0, 0, none⟩) X4.out.c0) hnb.out).trans (Z4.out i)
      by_cases hlt : k < 6
      · have hlt' : (k : Int) < 6 := by omega
        have hi := hixH.out k hlt
        have htk : Hid ((Sp.hl o).take (k + 1) = (Sp.hl o).take k ++ [(Sp.hl o).getD k false]) := take_snoc (by exact hlt)
        obtain ⟨b, hb⟩ : ∃ b, (Sp.hl o).getD k false = b := ⟨_, rfl⟩
        rw [hb] at hi htk
        clear hb
        cases b with
        | false =>
          have hr2 : Hid (Sp.rf bs ((Sp.hl o).take (k + 1)) J = some (xs ++ [0], j)) := by show _ = _; rw [htk.out]; exact rf_f hrf.out
          have A5 : Hid (Ar wr b1 6 (xs ++ [0])) := Ak.out.zero
          have hl2 : Hid ((xs ++ [0]).length = k + 1) := by simp [Hid, hxl]
          clear hrf Ak htk
          go_wp2
          go_roundw
          case rel => exact ⟨k + 1, xs ++ [0], j, by omega, hl2.out, by go_num, hr2, Rk, A5, Fk, Gk⟩
          case measure => simp [intOf]; omega
        | true =>
          have hup : Hid (Calls Tryd.prog 32 #[.pointer (some ⟨g, 0, none⟩), .int .i64 262144] wr fun e w' => UpE al bs 262144 j R g wr e w') := srn_c R g j 262144 bs al wr Rk.out Ek.out hgH.out.2.2.2.2.1 (by decide)
          go_wp2_with fail
          refine hup.out.mono ?_
          rintro e w5 ⟨F5, hcs⟩
          have F5H : Hid (Fr (fun k => k = g) wr w5) := F5
          have X5H : Hid (Bst w5 b0 0 0 0 0 0 0 0) := Xk.out.fr F5 (by have := hgb.out; simp; omega)
          have Z5H : Hid (∀ i, w5.frozen? ⟨b0, i, none⟩ = false) := fun i => (F5.frozen (p := ⟨b0, i, none⟩) (cell_lt (a := ⟨b0, 0, none⟩) Xk.out.c0) (by have := hgb.out; simp; omega)).trans (Zk.out i)
          clear F5 hup
          rcases hcs with ⟨hnone, c, rfl⟩ | ⟨x, i, hsome, rfl, R5⟩
          · have hres : Hid (Sp.rst bs K = none) := rst_n2 hsH.out (rf_cut (k := k + 1) (by rw [htk.out]; exact rf_t_none hrf.out hnone))
            have hq := nnil_c al c
            have hgd := guard_c al c
            obtain ⟨x0, x1, x2, x3, x4, x5, x6⟩ := X5H.out
            have Z2 := Z5H.out
            clear hnone
            go_wp2
            obtain ⟨z0, z1, z2, z3, z4, z5, z6⟩ := X5H.out.set st0
            refine bodyPost_ret (v := .tuple #[.agg #[.int .i64 0, .int .i64 0, .int .i64 0, .int .i64 0, .int .i64 0, .int .i64 0, .int .i64 0], ek al c]) (by simp only [st0] at z0 z1 z2 z3 z4 z5 z6; simp [results, Tryd.results34, go_sem, z0, z1, z2, z3, z4, z5, z6]) rfl ⟨?_, .inl ⟨hres.out, st0, c, rfl⟩⟩
            exact (Fk.out.then F5H.out).trans (set7_fr w5 b0 _ _ _ _ _ _ _) fun k hk => .inr (by rw [hb0.out, hk]; exact Nat.le_refl _)
          · have hr2 : Hid (Sp.rf bs ((Sp.hl o).take (k + 1)) J = some (xs ++ [x], i)) := by show _ = _; rw [htk.out]; exact rf_t_some hrf.out hsome
            have hb1g : Hid (¬ b1 = g) := by have h1 := hgb.out; have h2 := hb01.out; show ¬ _; omega
            have A5 : Hid (Ar w5 b1 6 xs) := Ak.out.fr F5H.out hb1g.out
            have a2 := (A5.out k hlt).1
            have f2 := (A5.out k hlt).2
            have A6 : Hid (Ar (w5.setCell ⟨b1, k, none⟩ (.int .i64 (x : Int))) b1 6 (xs ++ [x])) := by rw [← hxl]; exact A5.out.set x
            have R6 : Hid (Rr R (w5.setCell ⟨b1, k, none⟩ (.int .i64 (x : Int))) g bs i) := R5.under (set_fr w5 b1 k _) fun k _ h1 h2 => by have := hRH.out k h2; have := hb01.out; omega
            have F6 : Hid (Fr (fun k => k = g) w (w5.setCell ⟨b1, k, none⟩ (.int .i64 (x : Int)))) := (Fk.out.then F5H.out).trans (set_fr w5 b1 k _) fun k hk => .inr (by have := hb01.out; rw [hb0.out, hk]; omega)
            have G6 : Hid (Fr (fun k => k = g ∨ k = b1) w4 (w5.setCell ⟨b1, k, none⟩ (.int .i64 (x : Int)))) := (Gk.out.trans F5H.out fun k hk => .inl (.inl hk)).trans (set_fr w5 b1 k _) fun k hk => .inl (.inr hk)
            have hl2 : Hid ((xs ++ [x]).length = k + 1) := by simp [Hid, hxl]
            clear hsome R5 A5 X5H Z5H
            go_wp2
            go_roundw
            case rel => exact ⟨k + 1, xs ++ [x], i, by omega, hl2.out, by go_num, hr2, R6, A6, F6, G6⟩
            case measure => simp [intOf]; omega
      · have hlt' : decide ((k : Int) < 6) = false := decide_eq_false (by omega)
        have hk6 : k = 6 := by omega
        rw [hk6] at hrf
        have hrf6 : Hid (Sp.rf bs (Sp.hl o) J = some (xs, j)) := hrf
        obtain ⟨a0, f0⟩ := Ak.out 0 (by decide)
        obtain ⟨a1, f1⟩ := Ak.out 1 (by decide)
        obtain ⟨a2, f2⟩ := Ak.out 2 (by decide)
        obtain ⟨a3, f3⟩ := Ak.out 3 (by decide)
        obtain ⟨a4, f4⟩ := Ak.out 4 (by decide)
        obtain ⟨a5, f5⟩ := Ak.out 5 (by decide)
        have hst : Hid (∀ W, Calls Tryd.prog 44 #[.int .i64 (o : Int), .agg #[.int .i64 (xs.getD 0 0 : Nat), .int .i64 (xs.getD 1 0 : Nat), .int .i64 (xs.getD 2 0 : Nat), .int .i64 (xs.getD 3 0 : Nat), .int .i64 (xs.getD 4 0 : Nat), .int .i64 (xs.getD 5 0 : Nat)]] W fun e w' => e = .returned (sv (Sp.sto o xs)) ∧ Below W.heap.size W w') := fun W => sstepOf_c o _ _ _ _ _ _ W
        generalize xs.getD 0 0 = X0 at a0 hst
        generalize xs.getD 1 0 = X1 at a1 hst
        generalize xs.getD 2 0 = X2 at a2 hst
        generalize xs.getD 3 0 = X3 at a3 hst
        generalize xs.getD 4 0 = X4' at a4 hst
        generalize xs.getD 5 0 = X5 at a5 hst
        obtain ⟨s, hs⟩ : ∃ s, Hid (Sp.sto o xs = s) := ⟨_, (rfl : _ = _)⟩
        rw [hs.out] at hst
        unfold sv sva at hst
        clear hrf hk6 hk hlt hxl
        go_wp2_with fail
        refine (hst.out wr).mono ?_
        rintro e w5 ⟨rfl, B5⟩
        obtain ⟨w6, ew6⟩ : ∃ wa, Hid (w5.alloc (.cells #[.int .i64 s.op, .int .i64 s.dst, .int .i64 s.src, .int .i64 s.jump, .int .i64 s.count, .int .i64 s.n, .int .i64 s.k] 36) = wa) := ⟨_, (rfl : _ = _)⟩
        obtain ⟨b2, hb2⟩ : ∃ b, Hid (w5.heap.size = b) := ⟨_, (rfl : _ = _)⟩
        have B56 : Below w5.heap.size w5 w6 := by rw [← ew6.out]; exact (Below.refl _ _).alloc (Nat.le_refl _) _
        have B6 : Hid (Below wr.heap.size wr w6) := B5.trans (B56.mono B5.size)
        have Y6 : Hid (Bst w6 b2 s.op s.dst s.src s.jump s.count s.n s.k) := by show Bst _ _ _ _ _ _ _ _ _; rw [← ew6.out, ← hb2.out]; exact Bst.new w5 _ _ _ _ _ _ _
        have X6 : Hid (Bst w6 b0 0 0 0 0 0 0 0) := Xk.out.below B6.out
        have Z6 : Hid (∀ W, Below w6.heap.size w6 W → ∀ i, W.frozen? ⟨b0, i, none⟩ = false) := fun W hW i => (World.frozen?_of_block (a := ⟨b0, i, none⟩) (hW.block b0 (cell_lt (a := ⟨b0, 0, none⟩) X6.out.c0))).trans ((World.frozen?_of_block (a := ⟨b0, i, none⟩) (B6.out.block b0 (cell_lt (a := ⟨b0, 0, none⟩) Xk.out.c0))).trans (Zk.out i))
        have F6 : Hid (Fr (fun k => k = g) w w6) := Fk.out.trans (T := fun _ => False) (Fr.of_below B6.out fun k h1 h2 => by omega) fun k h => h.elim
        have R6 : Hid (Rr R w6 g bs j) := Rk.out.under (S := fun _ => False) (Fr.of_below B6.out fun k h1 h2 => by omega) fun k _ h => h.elim
        have hfo : Hid (∀ W, Below w6.heap.size w6 W → Calls Tryd.prog 13 #[sv s] W fun e w' => e = .returned (fev al (Sp.fm s)) ∧ Below w6.heap.size w6 w') := fun W hW =>
          (sform_c s al W ((hOH.out.fr F6.out hgH.out.1).below hW) ((heH.out.fr F6.out hgH.out).below hW).prog).mono fun e w' h => ⟨h.1, hW.trans (h.2.mono hW.size)⟩
        obtain ⟨fb, hfb⟩ : ∃ b, Hid (Sp.fm s = b) := ⟨_, (rfl : _ = _)⟩
        rw [hfb.out] at hfo
        obtain ⟨fe, hfe⟩ : ∃ v, Hid (fev al fb = v) := ⟨_, (rfl : _ = _)⟩
        rw [hfe.out] at hfo
        have hfin : Hid (∀ W, Fr (fun k => k = g) w W → Rr R W g bs j → RsE al bs K R g w (.returned (.tuple #[sv s, fe])) W) := fun W hW hr => by
          refine ⟨hW, ?_⟩
          cases fb with
          | true => exact .inr ⟨s, j, by rw [← hs.out]; exact rst_s hsH.out hrf6.out (by rw [hs.out]; exact hfb.out), by rw [← hfe.out]; rfl, hr⟩
          | false => exact .inl ⟨rst_n3 hsH.out hrf6.out (by rw [hs.out]; exact hfb.out), s, 8, by rw [← hfe.out]; rfl⟩
        unfold sv sva at hfo
        clear a0 a1 a2 a3 a4 a5 f0 f1 f2 f3 f4 f5 B5 B56 hst
        go_upto_region 15 with fail
        rw [ew6.out, hb2.out]
        obtain ⟨y0, y1, y2, y3, y4, y5, y6⟩ := Y6.out
        obtain ⟨x0, x1, x2, x3, x4, x5, x6⟩ := X6.out
        first
        | (go_region_with (go_at_call 13; refine (hfo.out _ (by first | exact (Below.refl _ _).drew | exact Below.refl _ _)).mono ?_; rintro e w7 ⟨rfl, B7⟩; obtain ⟨y0, y1, y2, y3, y4, y5, y6⟩ := Y6.out.below B7; obtain ⟨x0, x1, x2, x3, x4, x5, x6⟩ := X6.out.below B7; have Z7 := Z6.out w7 B7; have B7H : Hid (Below w6.heap.size w6 w7) := B7; clear B7))
        | fail
        all_goals (
          go_wp2
          obtain ⟨z0, z1, z2, z3, z4, z5, z6⟩ := (X6.out.below B7H.out).set s
          refine bodyPost_ret (v := .tuple #[sv s, fe]) (by unfold sv sva; simp [results, Tryd.results34, go_sem, z0, z1, z2, z3, z4, z5, z6]) rfl (hfin.out _ ?_ ?_)
          · exact (F6.out.trans (T := fun _ => False) (Fr.of_below B7H.out fun k h1 h2 => by omega) fun k h => h.elim).trans (set7_fr w7 b0 _ _ _ _ _ _ _) fun k hk => .inr (by rw [hb0.out, hk]; exact Nat.le_refl _)
          · exact (R6.out.under (S := fun _ => False) (Fr.of_below B7H.out fun k h1 h2 => by omega) fun k _ h => h.elim).under (set7_fr w7 b0 _ _ _ _ _ _ _) fun k _ h1 h2 => by have := hRH.out k h2; omega)
end Go.Proofs.YtmlfichdfeblpaaDoor
