/-
  Package steps: writeStep.
-/
import Derived.Test.YtmlfichdfeblpaaDoorSp6
import Derived.Test.YtmlfichdfeblpaaDoorPk4
namespace Go.Proofs.YtmlfichdfeblpaaDoor
open Flo Go.RowKit
/-- a set less some boxes -/
def Ex (F B : Nat → Prop) (k : Nat) : Prop := F k ∧ ¬ B k
theorem Ops.fr {S : Nat → Prop} {w w' : World} (h : Ops w) (hf : Fr S w w') (hS : ¬ S 19) : Ops w' := fun o ho => by
  obtain ⟨h0, h1, h2, h3, h4, h5, h6, h7⟩ := h o ho
  exact ⟨hf.cell h0 hS, hf.cell h1 hS, hf.cell h2 hS, hf.cell h3 hS, hf.cell h4 hS, hf.cell h5 hS, hf.cell h6 hS, hf.cell h7 hS⟩
theorem Bst.fr {S : Nat → Prop} {w w' : World} {g : Nat} {op dst src jump count n k : Int} (h : Bst w g op dst src jump count n k) (hf : Fr S w w') (hS : ¬ S g) : Bst w' g op dst src jump count n k :=
  ⟨hf.cell h.c0 hS, hf.cell h.c1 hS, hf.cell h.c2 hS, hf.cell h.c3 hS, hf.cell h.c4 hS, hf.cell h.c5 hS, hf.cell h.c6 hS⟩
/-- which fields there are, in memory -/
def Bha (w : World) (g o : Nat) : Prop := ∀ i, i < 6 → w.cell? ⟨g, i, none⟩ = some (.bool ((Sp.hl o).getD i false))
theorem Bha.fr {S : Nat → Prop} {w w' : World} {g o : Nat} (h : Bha w g o) (hf : Fr S w w') (hS : ¬ S g) : Bha w' g o := fun i hi => hf.cell (h i hi) hS
theorem Bha.new (w : World) (o : Nat) : Bha (w.alloc (.cells #[.bool true, .bool (Sp.hs o), .bool (Sp.hj o), .bool true, .bool (Sp.hn o), .bool (Sp.hk o)] 92)) w.heap.size o := fun i hi =>
  match i, hi with
  | 0, _ => by simp [Sp.hl]
  | 1, _ => by simp [Sp.hl]
  | 2, _ => by simp [Sp.hl]
  | 3, _ => by simp [Sp.hl]
  | 4, _ => by simp [Sp.hl]
  | 5, _ => by simp [Sp.hl]
  | n + 6, h => absurd h (by omega)
/-- the fields that are written, as far as i -/
def prk (s : Sp.St) (o i : Nat) : List Nat := Sp.pr ((Sp.hl o).take i) ((Sp.nl s).take i)
theorem prk_succ (s : Sp.St) (o i : Nat) (hi : i < 6) : prk s o (i + 1) = prk s o i ++ (bif (Sp.hl o).getD i false then [((Sp.nl s).getD i 0).toNat] else []) :=
  match i, hi with
  | 0, _ => by simp [prk, Sp.hl, Sp.nl, Sp.pr]
  | 1, _ => by simp [prk, Sp.hl, Sp.nl, Sp.pr]
  | 2, _ => by simp [prk, Sp.hl, Sp.nl, Sp.pr]
  | 3, _ => by simp [prk, Sp.hl, Sp.nl, Sp.pr]
  | 4, _ => by simp [prk, Sp.hl, Sp.nl, Sp.pr]
  | 5, _ => by simp [prk, Sp.hl, Sp.nl, Sp.pr]
  | n + 6, h => absurd h (by omega)
theorem prk_six (s : Sp.St) (o : Nat) : prk s o 6 = Sp.pr (Sp.hl o) (Sp.nl s) := rfl
theorem prk_len (s : Sp.St) (o : Nat) : ∀ i, i ≤ 6 → (prk s o i).length ≤ i
  | 0, _ => by simp [prk, Sp.pr]
  | i + 1, hi => by
    rw [prk_succ s o i (by omega), List.length_append]
    have := prk_len s o i (by omega)
    cases (Sp.hl o).getD i false <;> simp <;> omega
theorem nl_bd {s : Sp.St} (h : Sp.fm s = true) (i : Nat) : 0 ≤ (Sp.nl s).getD i 0 ∧ (Sp.nl s).getD i 0 ≤ 262144 := by
  obtain ⟨h1, h2, h3, h4, h5, h6, h7⟩ := Sp.fm_fields h
  match i with
  | 0 => simp [Sp.nl]; omega
  | 1 => simp [Sp.nl]; omega
  | 2 => simp [Sp.nl]; omega
  | 3 => simp [Sp.nl]; omega
  | 4 => simp [Sp.nl]; omega
  | 5 => simp [Sp.nl]; omega
  | n + 6 => simp [Sp.nl]
theorem vs_len : ∀ (l : List Nat), (∀ x ∈ l, x < 18446744073709551616) → (Sp.vs l).length ≤ 10 * l.length
  | [], _ => by simp [Sp.vs]
  | x :: l, h => by
    rw [Sp.vs_cons, List.length_append, List.length_cons]
    have h1 := Pk.vi_len (h x (by simp))
    have h2 := vs_len l fun y hy => h y (by simp [hy])
    omega
set_option maxHeartbeats 4000000 in
set_option maxRecDepth 100000 in
theorem swriteStep_c (F : Nat → Prop) (g : Nat) (ys : List Nat) (s : Sp.St) (w : World) (h : Wr F w g ys) (hF : ∀ k, w.heap.size ≤ k → F k) (hO : Ops w) (hFo : ¬ F 19) (hf : Sp.fm s = true) (hl : ys.length ≤ 140737488340000) :
    Calls Tryd.prog 25 #[.pointer (some ⟨g, 0, none⟩), sv s] w fun e w' => e = .returned (.tuple #[]) ∧ Wr F w' g (ys ++ Sp.enc s) ∧ Fr F w w' := by
  obtain ⟨o, ho⟩ : ∃ o : Nat, s.op = (o : Int) := ⟨s.op.toNat, by have := (Sp.fm_fields hf).1; omega⟩
  have ho12 : o < 12 := by have := (Sp.fm_fields hf).1; omega
  have hog : g < w.heap.size := by obtain ⟨v, hv⟩ := h; exact hv.lt
  obtain ⟨w1, ew1⟩ : ∃ wa, Hid (w.alloc (.cells #[.int .i64 (o : Int), .int .i64 s.dst, .int .i64 s.src, .int .i64 s.jump, .int .i64 s.count, .int .i64 s.n, .int .i64 s.k] 36) = wa) := ⟨_, (rfl : _ = _)⟩
  have B1 : Hid (Below w.heap.size w w1) := by rw [← ew1.out]; exact (Below.refl _ _).alloc (Nat.le_refl _) _
  have X1 : Hid (Bst w1 w.heap.size o s.dst s.src s.jump s.count s.n s.k) := by show Bst _ _ _ _ _ _ _ _ _; rw [← ew1.out]; exact Bst.new w _ _ _ _ _ _ _
  have sz1 : Hid (w1.heap.size = w.heap.size + 1) := by show _ = _; rw [← ew1.out]; simp
  have hB : Hid (∀ k, Ex F (fun k => k = w.heap.size) k → F k) := fun k hk => hk.1
  have W1 : Hid (Wr (Ex F fun k => k = w.heap.size) w1 g ys) := by
    have h2 : Wr (Ex F fun k => k = w.heap.size) w g ys := h.to fun k hk hF => ⟨hF, by omega⟩
    refine h2.under (S := fun _ => False) (Fr.of_below B1.out fun k h1 h2 => by omega) fun k _ h => h.elim
  have hu1 : Hid (Calls Tryd.prog 24 #[.pointer (some ⟨g, 0, none⟩), .int .u64 (o : Nat)] w1 fun e w' => e = .returned (.tuple #[]) ∧ Wr (Ex F fun k => k = w.heap.size) w' g (ys ++ Pk.vi o) ∧ Fr (Ex F fun k => k = w.heap.size) w1 w') :=
    wuint_c _ g ys o w1 W1.out (fun k hk => ⟨hF k (by have := sz1.out; omega), by have := sz1.out; omega⟩) (by omega) (by omega)
  have hOH : Hid (Ops w1) := hO.below B1.out
  have hFH : Hid (∀ k, w.heap.size ≤ k → F k) := hF
  have hfH : Hid (Sp.fm s = true) := hf
  have hFoH : Hid (¬ F 19) := hFo
  have hwo : IntKind.u64.wrap (o : Int) = (o : Int) := wrapId _ (by omega)
  have henc : Hid (Sp.enc s = Pk.vi o ++ Sp.vs (prk s o 6)) := by
    show _ = _
    unfold Sp.enc Sp.fl
    rw [Sp.vs_cons, prk_six, ho, Int.toNat_natCast]
  have hnum : Hid (∀ W, Calls Tryd.prog 40 #[sva o s.dst s.src s.jump s.count s.n s.k] W fun e w' => e = .returned (na (Sp.nl s)) ∧ Below W.heap.size W w') := fun W => by
    have := snumbers_c s W
    unfold sv at this
    rw [ho] at this
    exact this
  have hha : Hid (∀ W, Calls Tryd.prog 39 #[opv o] W fun e w' => e = .returned (.agg #[.bool true, .bool (Sp.hs o), .bool (Sp.hj o), .bool true, .bool (Sp.hn o), .bool (Sp.hk o)]) ∧ Below W.heap.size W w') := fun W => shas_c o W
  unfold sv
  rw [ho]
  have hixH : Hid (∀ k, k < 6 → ∀ W : World, (Instr.index 95 (na (Sp.nl s)) (.int .i64 (k : Nat))).run Tryd.prog W = .ok (.int .i64 ((Sp.nl s).getD k 0)) W) := fun k hk W => na6_index s k hk W
  generalize na (Sp.nl s) = nv at hnum hixH
  clear h hF hO hFo hf ho
  unfold opv opa at hha
  unfold sva at *
  go_enter Tryd.func25, Tryd.ntmps25
  go_upto_region 1 with fail
  rw [ew1.out]
  obtain ⟨y0, y1, y2, y3, y4, y5, y6⟩ := X1.out
  go_wp2_with fail
  refine hu1.out.mono ?_
  rintro e w2 ⟨rfl, W2, F2⟩
  have X2 : Hid (Bst w2 w.heap.size o s.dst s.src s.jump s.count s.n s.k) := X1.out.fr F2 fun hh => hh.2 rfl
  have O2 := hOH.out.fr F2 fun hh => hFoH.out hh.1
  have W2H : Hid (Wr (Ex F fun k => k = w.heap.size) w2 g (ys ++ Pk.vi o)) := W2
  have F2H : Hid (Fr (Ex F fun k => k = w.heap.size) w1 w2) := F2
  clear y0 y1 y2 y3 y4 y5 y6 hu1 W1 X1 W2 F2
  obtain ⟨y0, y1, y2, y3, y4, y5, y6⟩ := X2.out
  obtain ⟨z0, z1, z2, z3, z4, z5, z6, z7⟩ := O2 o ho12
  have q3 : (o : Int) < 12 := by omega
  clear O2
  go_wp2_with fail
  refine (hha.out w2).mono ?_
  rintro e w3 ⟨rfl, B3⟩
  obtain ⟨b2, hb2⟩ : ∃ b, Hid (w3.heap.size = b) := ⟨_, (rfl : _ = _)⟩
  obtain ⟨b1, hb1⟩ : ∃ b, Hid (w.heap.size = b) := ⟨_, (rfl : _ = _)⟩
  obtain ⟨w4, ew4⟩ : ∃ wa, Hid (w3.alloc (.cells #[.bool true, .bool (Sp.hs o), .bool (Sp.hj o), .bool true, .bool (Sp.hn o), .bool (Sp.hk o)] 92) = wa) := ⟨_, (rfl : _ = _)⟩
  have B4 : Below w3.heap.size w3 w4 := by rw [← ew4.out]; exact (Below.refl _ _).alloc (Nat.le_refl _) _
  have H4 : Hid (Bha w4 b2 o) := by show Bha _ _ _; rw [← ew4.out, ← hb2.out]; exact Bha.new w3 o
  have B24 : Hid (Below w2.heap.size w2 w4) := B3.trans (B4.mono B3.size)
  have s4 : Hid (b2 < w4.heap.size) := by show _ < _; rw [← ew4.out, ← hb2.out]; simp
  have s24 : Hid (w2.heap.size ≤ b2) := by show _ ≤ _; rw [← hb2.out]; exact B3.size
  have s12 : Hid (b1 < w2.heap.size) := by
    have := F2H.out.size
    have h1 := sz1.out
    show _ < _
    rw [← hb1.out]; omega
  have W4 : Hid (Wr (Ex F fun k => k = b1 ∨ k = b2) w4 g (ys ++ Pk.vi o)) := by
    have h2 : Wr (Ex F fun k => k = b1 ∨ k = b2) w2 g (ys ++ Pk.vi o) := W2H.out.to fun k hk hF => ⟨hF.1, by
      have h1 := hF.2
      have h3 := s24.out
      rw [hb1.out] at h1
      omega⟩
    exact h2.under (S := fun _ => False) (Fr.of_below B24.out fun k h1 h2 => by omega) fun k _ h => h.elim
  have F4 : Hid (Fr F w w4) := by
    have f1 : Fr F w w1 := Fr.of_below B1.out fun k h1 h2 => by omega
    have f2 : Fr F w w2 := f1.trans F2H.out fun k hk => .inl hk.1
    exact f2.trans (T := fun _ => False) (Fr.of_below B24.out fun k h1 h2 => by omega) fun k h => h.elim
  have X4 : Hid (Bst w4 b1 o s.dst s.src s.jump s.count s.n s.k) := by show Bst _ _ _ _ _ _ _ _ _; rw [← hb1.out]; exact X2.out.below B24.out
  have hFb : Hid (∀ k, b1 ≤ k → F k) := fun k hk => hFH.out k (by rw [hb1.out]; exact hk)
  clear y0 y1 y2 y3 y4 y5 y6 z0 z1 z2 z3 z4 z5 z6 z7 B3 B4 hha X2 W2H
  go_upto_region 3 with fail
  rw [ew4.out, hb1.out, hb2.out]
  obtain ⟨y0, y1, y2, y3, y4, y5, y6⟩ := X4.out
  go_wp2_with fail
  refine (hnum.out w4).mono ?_
  rintro e w5 ⟨rfl, B5⟩
  have W5 : Hid (Wr (Ex F fun k => k = b1 ∨ k = b2) w5 g (ys ++ Pk.vi o)) := W4.out.under (S := fun _ => False) (Fr.of_below B5 fun k h1 h2 => by omega) fun k _ h => h.elim
  have H5 : Hid (Bha w5 b2 o) := H4.out.fr (S := fun _ => False) (Fr.of_below B5 fun k h1 h2 => by omega) id
  have F5 : Hid (Fr F w w5) := F4.out.trans (T := fun _ => False) (Fr.of_below B5 fun k h1 h2 => by omega) fun k h => h.elim
  have s5 : Hid (b2 < w5.heap.size) := Nat.lt_of_lt_of_le s4.out B5.size
  have h0 : Hid (ys ++ Pk.vi o = ys ++ Pk.vi o ++ Sp.vs (prk s o 0)) := by simp [Hid, prk, Sp.pr, Sp.vs]
  rw [h0.out] at W5
  have hol : Hid ((Pk.vi o).length ≤ 10) := Pk.vi_len (by omega)
  clear y0 y1 y2 y3 y4 y5 y6 X4 B5 W4 H4 F4 s4 h0 hnum
  go_wp2
  go_loopw [19] (fun i wr => ∃ k : Nat, k ≤ 6 ∧ i = .int .i64 k ∧ Hid (Wr (Ex F fun k => k = b1 ∨ k = b2) wr g (ys ++ Pk.vi o ++ Sp.vs (prk s o k))) ∧ Hid (Bha wr b2 o) ∧ Hid (Fr F w wr) ∧ Hid (b2 < wr.heap.size)) (fun i _ => 6 - (intOf i).toNat)
  case atStart => exact ⟨0, Nat.zero_le _, rfl, W5, H5, F5, s5⟩
  case round =>
    obtain ⟨k, hk, rfl, W6, H6, F6, s6⟩ := hrel
    by_cases hlt : k < 6
    · have hlt' : (k : Int) < 6 := by omega
      have hi := hixH.out k hlt
      have hc := H6.out k hlt
      obtain ⟨X, hX⟩ : ∃ X : Nat, (Sp.nl s).getD k 0 = (X : Int) := ⟨((Sp.nl s).getD k 0).toNat, by have := (nl_bd hfH.out k).1; omega⟩
      have hXb : X ≤ 262144 := by have := (nl_bd hfH.out k).2; omega
      rw [hX] at hi
      have hnext : Hid (prk s o (k + 1) = prk s o k ++ (bif (Sp.hl o).getD k false then [X] else [])) := by show _ = _; rw [prk_succ s o k hlt, hX, Int.toNat_natCast]
      obtain ⟨b, hb⟩ : ∃ b, (Sp.hl o).getD k false = b := ⟨_, rfl⟩
      rw [hb] at hc hnext
      have hwX : IntKind.u64.wrap (X : Int) = (X : Int) := wrapId _ (by omega)
      clear hX hb
      cases b with
      | false =>
        have hn2 : Hid (ys ++ Pk.vi o ++ Sp.vs (prk s o k) = ys ++ Pk.vi o ++ Sp.vs (prk s o (k + 1))) := by show _ = _; rw [hnext.out]; simp
        rw [hn2.out] at W6
        go_wp2_with fail
        go_roundw
        case rel => exact ⟨k + 1, by omega, by go_num, W6, H6, F6, s6⟩
        case measure => simp [intOf]; omega
      | true =>
        have hlen : Hid ((ys ++ Pk.vi o ++ Sp.vs (prk s o k)).length ≤ 140737488350000) := by
          have h1 := prk_len s o k hk
          have h2 : (Sp.vs (prk s o k)).length ≤ 10 * (prk s o k).length := vs_len _ (fun x hx => by
            have : ∀ i, i ≤ 6 → ∀ x ∈ prk s o i, x < 18446744073709551616 := by
              intro i
              induction i with
              | zero => intro _ x hx; simp [prk, Sp.pr] at hx
              | succ i ih =>
                intro hi x hx
                rw [prk_succ s o i (by omega), List.mem_append] at hx
                rcases hx with hx | hx
                · exact ih (by omega) x hx
                · have b2 := nl_bd hfH.out i
                  cases hc : (Sp.hl o).getD i false with
                  | false => rw [hc] at hx; simp at hx
                  | true => rw [hc] at hx; simp only [cond_true, List.mem_singleton] at hx; omega
            exact this k hk x hx)
          have h3 := hol.out
          show _ ≤ _
          rw [List.length_append, List.length_append]
          omega
        have hu := wuint_c (Ex F fun k => k = b1 ∨ k = b2) g (ys ++ Pk.vi o ++ Sp.vs (prk s o k)) X wr W6.out (fun k hk => ⟨hFb.out k (by have := s6.out; have := s12.out; have := s24.out; omega), by have := s6.out; have := s12.out; have := s24.out; omega⟩) (by omega) hlen.out
        have huH : Hid (Calls Tryd.prog 24 #[.pointer (some ⟨g, 0, none⟩), .int .u64 (X : Nat)] wr fun e w' => e = .returned (.tuple #[]) ∧ Wr (Ex F fun k => k = b1 ∨ k = b2) w' g (ys ++ Pk.vi o ++ Sp.vs (prk s o k) ++ Pk.vi X) ∧ Fr (Ex F fun k => k = b1 ∨ k = b2) wr w') := hu
        clear hu hlen
        go_wp2_with fail
        refine huH.out.mono ?_
        rintro e w7 ⟨rfl, W7, F7⟩
        have hn2 : Hid (ys ++ Pk.vi o ++ Sp.vs (prk s o k) ++ Pk.vi X = ys ++ Pk.vi o ++ Sp.vs (prk s o (k + 1))) := by show _ = _; rw [hnext.out]; simp [Sp.vs_app, Sp.vs_one]
        rw [hn2.out] at W7
        have W7H : Hid (Wr (Ex F fun k => k = b1 ∨ k = b2) w7 g (ys ++ Pk.vi o ++ Sp.vs (prk s o (k + 1)))) := W7
        have H7 : Hid (Bha w7 b2 o) := H6.out.fr F7 fun hh => hh.2 (.inr rfl)
        have F7H : Hid (Fr F w w7) := F6.out.trans F7 fun k hk => .inl hk.1
        have s7 : Hid (b2 < w7.heap.size) := Nat.lt_of_lt_of_le s6.out F7.size
        clear W7 F7 huH W6 H6 F6 s6
        go_wp2_with fail
        go_roundw
        case rel => exact ⟨k + 1, by omega, by go_num, W7H, H7, F7H, s7⟩
        case measure => simp [intOf]; omega
    · have hlt' : decide ((k : Int) < 6) = false := decide_eq_false (by omega)
      have hk6 : Hid (k = 6) := by show _ = _; omega
      go_wp2_with fail
      go_end0
      refine ⟨rfl, ?_, F6.out⟩
      have := W6.out
      rw [hk6.out, List.append_assoc, ← henc.out] at this
      exact this.to fun k _ hk => hk.1
end Go.Proofs.YtmlfichdfeblpaaDoor
