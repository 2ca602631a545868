/-
  Package steps, reading: Decode.
-/
import Derived.Test.YtmlfichdfeblpaaDoorSr3
namespace Go.Proofs.YtmlfichdfeblpaaDoor
open Flo Go.RowKit
/-- what Decode tells -/
def DcE (al : List Addr) (bs : List Nat) (w : World) (e : Ending) (w' : World) : Prop :=
  Below w.heap.size w w' ∧ ((Sp.rw_ bs = none ∧ e = .returned (.tuple #[zp, ek al 8])) ∨
    ∃ (p : Sp.Pg) (v : Value), Sp.rw_ bs = some p ∧ e = .returned (.tuple #[pv p v, .nilIface]) ∧ OwS w' w.heap.size v p.steps)
theorem rw_n1 {bs : List Nat} (h : Sp.rp bs = none) : Sp.rw_ bs = none := by unfold Sp.rw_; rw [h]; rfl
theorem rw_n2 {bs : List Nat} {p : Sp.Pg} {j : Nat} (h : Sp.rp bs = some (p, j)) (hj : ¬ j = bs.length) : Sp.rw_ bs = none := by unfold Sp.rw_; rw [h, Option.bind_some]; simp only; rw [if_neg hj]
theorem rw_s {bs : List Nat} {p : Sp.Pg} {j : Nat} (h : Sp.rp bs = some (p, j)) (hj : j = bs.length) : Sp.rw_ bs = some p := by unfold Sp.rw_; rw [h, Option.bind_some]; simp only; rw [if_pos hj]
theorem ng_new {w : World} {al : List Addr} {g : Nat} (he : E4 w al) (hO : Ops w) (hg : w.heap.size ≤ g) : Ng g := by
  have h0 := cell_lt (hO 0 (by decide)).1
  have h1 := cell_lt he.prog
  have h2 := cell_lt he.short
  have h3 := cell_lt he.varint
  have h4 := cell_lt he.limit
  have h5 := cell_lt he.tail
  simp only at h0 h1 h2 h3 h4 h5
  refine ⟨?_, ?_, ?_, ?_, ?_, ?_⟩ <;> omega
set_option maxHeartbeats 8000000 in
set_option maxRecDepth 100000 in
theorem sdecode_c (v : Value) (bs : List Nat) (al : List Addr) (w : World) (hv : SrcB w v bs) (hl : bs.length ≤ 140737488355328) (hb : ∀ b ∈ bs, b < 256) (he : E4 w al) (hO : Ops w) :
    Calls Tryd.prog 5 #[v] w fun e w' => DcE al bs w e w' := by
  obtain ⟨b0, hb0⟩ : ∃ b, Hid (w.heap.size = b) := ⟨_, (rfl : _ = _)⟩
  obtain ⟨w1, ew1⟩ : ∃ wa, Hid (w.alloc (.cells #[.int .i64 0, .int .i64 0, .int .i64 0, .int .i64 0, .slice none 0 0] 26) = wa) := ⟨_, (rfl : _ = _)⟩
  have B1 : Hid (Below w.heap.size w w1) := by rw [← ew1.out]; exact (Below.refl _ _).alloc (Nat.le_refl _) _
  have X1 : Hid (Bpf w1 b0 ⟨0, 0, 0, 0, []⟩ (.slice none 0 0)) := by rw [← ew1.out, ← hb0.out]; exact Bpf.new w ⟨0, 0, 0, 0, []⟩ _
  have s1 : Hid (w1.heap.size = b0 + 1) := by show _ = _; rw [← ew1.out, ← hb0.out]; simp
  have e1 : Hid (E4 w1 al) := he.below B1.out
  have o1 : Hid (Ops w1) := hO.below B1.out
  have v1 : SrcB w1 v bs := by
    rcases hv with ⟨h1, h2⟩ | ⟨ad, c, h1, hc⟩
    · exact .inl ⟨h1, h2⟩
    · exact .inr ⟨ad, c, h1, fun j u hj => (B1.out.cell (cell_lt (hc j u hj))).trans (hc j u hj)⟩
  have hrd : Hid (Calls Tryd.prog 14 #[v] w1 fun e w' => ∃ g, e = .returned (.pointer (some ⟨g, 0, none⟩)) ∧ w1.heap.size ≤ g ∧ Rr (fun k => w1.heap.size ≤ k ∧ k < w'.heap.size) w' g bs 0 ∧ Below w1.heap.size w1 w') := rread_c v bs w1 v1 hl hb
  have hne : Hid (¬ 0 = b0) := by have := cell_lt he.prog; simp only at this; show ¬ _; rw [← hb0.out]; omega
  clear hv hl hb he hO v1
  go_enter Tryd.func5, Tryd.ntmps5
  go_upto_region 1 with fail
  rw [ew1.out, hb0.out]
  go_wp2_with fail
  refine hrd.out.mono ?_
  rintro e w2 ⟨g, rfl, hg, R2, B2⟩
  have X2 : Hid (Bpf w2 b0 ⟨0, 0, 0, 0, []⟩ (.slice none 0 0)) := X1.out.fr (Fr.bel B2) id
  have B2H : Hid (Below w.heap.size w w2) := B1.out.trans (B2.mono B1.out.size)
  have e2 : Hid (E4 w2 al) := e1.out.below B2
  have o2 : Hid (Ops w2) := o1.out.below B2
  have ngH : Hid (Ng g) := ng_new e1.out o1.out hg
  have hgH : Hid (b0 < g) := by have := s1.out; show _ < _; omega
  have hrp : Hid (Calls Tryd.prog 15 #[.pointer (some ⟨g, 0, none⟩)] w2 fun e w' => RpE al bs (fun k => w1.heap.size ≤ k ∧ k < w2.heap.size) g w2 e w') := sreadProgram_c _ g bs al w2 R2 e2.out o2.out ngH.out fun k hk => hk.2
  have s12 : Hid (w1.heap.size ≤ w2.heap.size) := B2.size
  clear R2 B2 hg hrd X1 e1 o1
  go_wp2_with fail
  refine hrp.out.mono ?_
  rintro e w3 ⟨F3, hcs⟩
  have F3H : Hid (Fr (fun k => k = g) w2 w3) := F3
  have X3 : Hid (Bpf w3 b0 ⟨0, 0, 0, 0, []⟩ (.slice none 0 0)) := X2.out.fr F3 (by have := hgH.out; omega)
  have B3 : Hid (Below w.heap.size w w3) := F3.below B2H.out B2H.out.size fun k _ hk => by have := hgH.out; rw [hb0.out]; omega
  have e3 : Hid (E4 w3 al) := e2.out.fr F3 ngH.out
  clear F3 hrp X2 e2
  obtain ⟨b1, hb1⟩ : ∃ b, Hid (w3.heap.size = b) := ⟨_, (rfl : _ = _)⟩
  rcases hcs with ⟨hnone, c, rfl⟩ | ⟨p, j, v', hsome, rfl, R3, O3⟩
  · have hres : Hid (Sp.rw_ bs = none) := rw_n1 hnone
    have hq := nnil_c al c
    have hgd := guard_c al c
    obtain ⟨w4, ew4⟩ : ∃ wa, Hid (w3.alloc (.cells #[.int .i64 0, .int .i64 0, .int .i64 0, .int .i64 0, .slice none 0 0] 26) = wa) := ⟨_, (rfl : _ = _)⟩
    have B34 : Below w3.heap.size w3 w4 := by rw [← ew4.out]; exact (Below.refl _ _).alloc (Nat.le_refl _) _
    have B4 : Hid (Below w.heap.size w w4) := B3.out.trans (B34.mono B3.out.size)
    have X4 : Hid (Bpf w4 b0 ⟨0, 0, 0, 0, []⟩ (.slice none 0 0)) := X3.out.fr (Fr.bel B34) id
    have p4 : w4.cell? ⟨0, 0, none⟩ = some (ek al 8) := (e3.out.below B34).prog
    clear hnone X3 B34
    unfold zp
    go_upto_region 3 with fail
    rw [ew4.out, hb1.out]
    obtain ⟨x0, x1, x2, x3, x4⟩ := X4.out.bx
    have Z4 := X4.out.fz
    have p6 := (set5_fr w4 b0 (.int .i64 0) (.int .i64 0) (.int .i64 0) (.int .i64 0) (.slice none 0 0)).cell p4 hne.out
    go_wp2
    go_region
    all_goals (
      go_wp2
      obtain ⟨z0, z1, z2, z3, z4⟩ := X4.out.bx.set ⟨0, 0, 0, 0, []⟩ (.slice none 0 0)
      refine bodyPost_ret (v := .tuple #[zp, ek al 8]) (by unfold zp; simp [results, Tryd.results5, go_sem, z0, z1, z2, z3, z4]) rfl ⟨?_, .inl ⟨hres.out, rfl⟩⟩
      exact ((set5_fr w4 b0 _ _ _ _ _).below B4.out B4.out.size fun k _ hk => by rw [hb0.out]; omega).drew)
  · obtain ⟨ao, cap, rfl⟩ := owns_slice O3
    obtain ⟨N, hN⟩ : ∃ N, Hid (p.steps.length = N) := ⟨_, (rfl : _ = _)⟩
    rw [hN.out] at O3 ⊢
    obtain ⟨w4, ew4⟩ : ∃ wa, Hid (w3.alloc (.cells #[.int .i64 p.len, .int .i64 p.cells, .int .i64 p.inn, .int .i64 p.out, .slice ao N cap] 26) = wa) := ⟨_, (rfl : _ = _)⟩
    have B34 : Below w3.heap.size w3 w4 := by rw [← ew4.out]; exact (Below.refl _ _).alloc (Nat.le_refl _) _
    have X4 : Hid (Bpf w4 b0 ⟨0, 0, 0, 0, []⟩ (.slice none 0 0)) := X3.out.fr (Fr.bel B34) id
    have Y4 : Hid (Bpf w4 b1 p (.slice ao N cap)) := by rw [← ew4.out, ← hb1.out]; exact Bpf.new w3 p _
    have R4 : Hid (Rr (fun k => w1.heap.size ≤ k ∧ k < w2.heap.size) w4 g bs j) := R3.under (Fr.bel B34) fun k _ h => h.elim
    have O4 : Hid (OwS w4 w2.heap.size (.slice ao N cap) p.steps) := O3.fr (Fr.bel B34) fun _ _ h => h
    have B4 : Hid (Below w.heap.size w w4) := B3.out.trans (B34.mono B3.out.size)
    have e4 : Hid (E4 w4 al) := e3.out.below B34
    have hjl : Hid (j ≤ bs.length) := R3.le
    have hsH : Hid (Sp.rp bs = some (p, j)) := hsome
    have hdn : Hid (Calls Tryd.prog 16 #[.pointer (some ⟨g, 0, none⟩)] w4 fun e w' => e = .returned (dnv al j bs.length) ∧ Qt w4 w') := rdone_c _ g j bs al w4 R4.out e4.out
    clear R3 O3 B34 hsome X3
    unfold pv
    go_upto_region 3 with fail
    rw [ew4.out, hb1.out]
    go_wp2_with fail
    refine hdn.out.mono ?_
    rintro e w5 ⟨rfl, Q5⟩
    have B45 : Below w4.heap.size w4 w5 := Q5.below _
    have X5 : Hid (Bpf w5 b0 ⟨0, 0, 0, 0, []⟩ (.slice none 0 0)) := X4.out.fr (Fr.bel B45) id
    have Y5 : Hid (Bpf w5 b1 p (.slice ao N cap)) := Y4.out.fr (Fr.bel B45) id
    have B5 : Hid (Below w.heap.size w w5) := B4.out.trans (B45.mono B4.out.size)
    have O5 : Hid (OwS w5 w2.heap.size (.slice ao N cap) p.steps) := O4.out.fr (Fr.bel B45) fun _ _ h => h
    have p5 : w5.cell? ⟨0, 0, none⟩ = some (ek al 8) := (e4.out.below B45).prog
    clear Q5 B45 hdn O4
    obtain ⟨x0, x1, x2, x3, x4⟩ := X5.out.bx
    have Z5 := X5.out.fz
    by_cases hj : j = bs.length
    · have hd : dnv al j bs.length = .nilIface := if_neg (by omega)
      have hres : Hid (Sp.rw_ bs = some p) := rw_s hsH.out hj
      obtain ⟨y0, y1, y2, y3, y4⟩ := Y5.out.bx
      clear hj
      go_wp2
      obtain ⟨z0, z1, z2, z3, z4⟩ := X5.out.bx.set p (.slice ao N cap)
      refine bodyPost_ret (v := .tuple #[pv p (.slice ao N cap), .nilIface]) (by unfold pv; simp [results, Tryd.results5, go_sem, z0, z1, z2, z3, z4]) rfl ⟨?_, .inr ⟨p, _, hres.out, rfl, ?_⟩⟩
      · exact (set5_fr w5 b0 _ _ _ _ _).below B5.out B5.out.size fun k _ hk => by rw [hb0.out]; omega
      · exact (O5.out.base (by have h1 := B1.out.size; have h2 := s12.out; omega)).fr (set5_fr w5 b0 _ _ _ _ _) fun b hb h1 => by have := (World.ownsRow.lt O5.out b hb).1; have h2 := s12.out; have h3 := s1.out; omega
    · have hd : dnv al j bs.length = ek al 3 := if_pos (by have := hjl.out; omega)
      have hres : Hid (Sp.rw_ bs = none) := rw_n2 hsH.out hj
      have hq := nnil_c al 3
      have hgd := guard_c al 3
      have p6 := (set5_fr w5 b0 (.int .i64 0) (.int .i64 0) (.int .i64 0) (.int .i64 0) (.slice none 0 0)).cell p5 hne.out
      clear hj
      go_wp2
      go_region
      all_goals (
        go_wp2
        obtain ⟨z0, z1, z2, z3, z4⟩ := X5.out.bx.set ⟨0, 0, 0, 0, []⟩ (.slice none 0 0)
        refine bodyPost_ret (v := .tuple #[zp, ek al 8]) (by unfold zp; simp [results, Tryd.results5, go_sem, z0, z1, z2, z3, z4]) rfl ⟨?_, .inl ⟨hres.out, rfl⟩⟩
        exact ((set5_fr w5 b0 _ _ _ _ _).below B5.out B5.out.size fun k _ hk => by rw [hb0.out]; omega).drew)
end Go.Proofs.YtmlfichdfeblpaaDoor
